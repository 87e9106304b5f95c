import PyProof.Rows.All
import Wide.All
import OpenK.AllK
import Wide.FinOn
import PySem.Challenge.RW_dosehouse_k42_faults_of_caps
set_option Elab.async false
set_option linter.all false
set_option maxRecDepth 100000
set_option maxHeartbeats 1000000
def Gaa:=@List.getElem?_eq_getElem
def Gab:=@List.getElem?_set_ne
def Gac:=@PySem.wpAny_bind
def Gad:=@List.length_map
def Gae:=@List.getElem?_eq_some_iff
def Gaf:=@PySem.Heap.get?_push_of_some
def Gag:=@if_pos
def Gah:=@List.getElem?_map
def Gai:=@List.mem_cons_of_mem
def Gaj:=@if_neg
def Gak:=@PyProof.Rows.wpS_bind
def Gal:=@Option.map_eq_some_iff
def Gam:=@List.mem_cons_self
def Gan:=@List.size_toArray
def Gao:=@PySem.wpAny_pure
def Gap:=@PyProof.Rows.wpS_pure
def Gaq:=@Nat.le_refl
def Gar:=@List.map_cons
def Gas:=@List.all_eq_true
def Gat:=@PySem.Heap.lt_size
def Gau:=@Bool.and_eq_true
def Gav:=@List.mem_append
def Gaw:=@List.mem_cons
def Gax:=@List.length_append
def Gay:=@List.append_assoc
def Gaz:=@Bool.false_ne_true
def GaA:=@PySem.Heap.get?_push_size
def GaB:=@List.length_cons
def GaC:=@List.getElem_mem
def GaD:=@of_decide_eq_true
def GaE:=@List.mem_map
def GaF:=@Bool.false_eq_true
def GaG:=@Int.eq_ofNat_of_zero_le
def GaH:=@PySem.PassesOwn.never
def GaI:=@List.map_congr_left
def GaJ:=@List.getElem?_append_right
def GaK:=@Nat.ne_of_lt
def GaL:=@decide_eq_true
def GaM:=@List.map_map
def GaN:=@List.map_append
def GaO:=@decide_eq_false
def GaP:=@List.mem_of_getElem?
def GaQ:=@Nat.lt_of_lt_of_le
def GaR:=@List.set_cons_succ
def GaS:=@List.set_cons_zero
def GaT:=@List.getElem?_set_self
def GaU:=@List.getElem?_append_left
def GaV:=@List.getElem?_take_of_lt
def GaW:=@Bool.or_eq_true
def GaX:=@PySem.wpAny_newObj_type
def GaY:=@Int.toNat_natCast
def GaZ:=@Ne.symm
def Gba:=@List.mem_append_right
def Gbb:=@List.take_append_drop
def Gbc:=@List.lookup_cons
def Gbd:=@PyProof.Rows.wpS_forRange
def Gbe:=@if_false
def Gbf:=@List.getElem?_drop
def Gbg:=@List.append_nil
def Gbh:=@List.mem_of_mem_take
def Gbi:=@List.Perm.append_right
def Gbj:=@Nat.lt_irrefl
def Gbk:=@List.getElem?_eq_none
def Gbl:=@List.perm_append_comm
def Gbm:=@PySem.W.kia_one
def Gbn:=@List.filter_cons
def Gbo:=@PyProof.Rows.wpS_mono
def Gbp:=@List.mem_of_mem_drop
def Gbq:=@if_true
def Gbr:=@PySem.Heap.get?_update_other
def Gbs:=@List.take_of_length_le
def Gbt:=@List.find?_cons
def Gbu:=@List.drop_eq_getElem_cons
def Gbv:=@PySem.Heap.get?_update_self
def Gbw:=@Nat.le_trans
def Gbx:=@PySem.wpAny_call_entry
def Gby:=@List.pairwise_cons
def Gbz:=@List.all_map
def GbA:=@List.mem_singleton
def GbB:=@List.mem_flatMap
def GbC:=@PySem.sizeLine_eq
def GbD:=@Nat.zero_le
def GbE:=@List.all_cons
def GbF:=@List.drop_zero
def GbG:=@PySem.wpAny_truthy_bool
def GbH:=@List.foldl_cons
def GbI:=@Array.length_toList
def GbJ:=@PyProof.Rows.wpS_modify
def GbK:=@List.drop_length
def GbL:=@List.mem_reverse
def GbM:=@List.mem_range
def GbN:=@List.drop_drop
def GbO:=@Int.le_refl
def GbP:=@List.mem_filter
def GbQ:=@List.nodup_append
def GbR:=@List.flatMap_cons
def GbS:=@PySem.wpAny_callSpecial?_slot
def GbT:=@List.pairwise_singleton
def GbU:=@List.length_drop
def GbV:=@List.not_mem_nil
def GbW:=@List.getElem_map
def GbX:=@PySem.wpAny_mono
def GbY:=@PyProof.Rows.callWith_type1
def GbZ:=@Array.getD_eq_getD_getElem?
def Gca:=@PySem.wpAny_passesOwn
def Gcb:=@List.cons.injEq
def Gcc:=@Option.map_some
def Gce:=@List.mem_iff_getElem?
def Gcf:=@List.Perm.append_left
def Gcg:=@Array.getElem?_eq_some_iff
def Gch:=@Option.some.injEq
def Gci:=@List.mem_append_left
def Gcj:=@PySem.wpAny_rule
def Gck:=@List.pairwise_iff_getElem
def Gcl:=@Array.getElem?_eq_getElem
def Gcm:=@List.map_id
def Gcn:=@List.take_take
def Gco:=@Nat.ne_of_gt
def Gcp:=@Array.toList_inj
def Gcq:=@PyProof.Rows.slot_tuple_getitem
def Gcr:=@List.getElem?_replicate
def Gcs:=@PySem.F.plainAttrs_list
def Gct:=@PySem.Calls.spliced_cons
def Gcu:=@List.length_nil
def Gcv:=@PySem.wpAny_typeNameOfWhole_itemiter
def Gcw:=@Nat.min_eq_left
def Gcx:=@List.filter_append
def Gcy:=@PySem.Calls.callWith_builtin
def Gcz:=@PySem.wpAny_typeNameOfWhole_keyiter
def GcA:=@PySem.F.slot_dict_itemiterator_next
def GcB:=@Nat.zero_add
def GcC:=@PyProof.Rows.kmk_tree
def GcD:=@PySem.F.slot_dict_keyiterator_next
def GcE:=@PyProof.Rows.wpS_get
def GcF:=@List.drop_take
def GcG:=@List.length_filter_le
def GcH:=@List.length_take
def GcI:=@beq_iff_eq
def GcJ:=@PySem.wpAny_holding
def GcK:=@Function.comp_apply
def GcL:=@List.nodup_cons
def GcM:=@PySem.wpAny_Call_Name_kw
def GcN:=@PySem.tupleKind_room_in1
def GcO:=@Nat.lt_of_le_of_lt
def GcP:=@PySem.wpAny_pyIter_tuple
def GcQ:=@PySem.Heap.size_push
def GcR:=@PySem.F.slot_dict_itemiterator_iter
def GcS:=@Int.mul_nonneg
def GcT:=@PySem.F.plainAttrs_dict
def GcU:=@List.getElem?_cons_succ
def GcV:=@List.ext_getElem?
def GcW:=@Nat.lt_succ_of_lt
def GcX:=@PySem.wpAny_pyIter_enum
def GcY:=@List.pairwise_map
def GcZ:=@Nat.le_succ
def Gda:=@PySem.wpAny_letGo
def Gdb:=@List.findIdx?_eq_some_iff_getElem
def Gdc:=@List.any_cons
def Gdd:=@List.Perm.map
def Gde:=@Bool.not_true
def Gdf:=@List.take_succ_eq_append_getElem
def Gdg:=@List.length_replicate
def Gdh:=@PySem.F.slot_dict_get
def Gdi:=@PySem.wpAny_notOrdered_dict
def Gdj:=@Nat.le_of_lt
def Gdk:=@PySem.wpAny_execs_nil
def Gdl:=@List.length_set
def Gdm:=@PySem.Calls.evalArgs_plain
def Gdn:=@PySem.wpAny_updateSeq
def Gdo:=@PySem.codeAny_builtin
def Gdp:=@PySem.Around.under_plainId
def Gdq:=@List.filterMap_cons
def Gdr:=@List.getElem_of_mem
def Gds:=@Bool.and_false
def Gdt:=@or_false
def Gdu:=@Int.emod_lt_of_pos
def Gdv:=@List.map_drop
def Gdw:=@Nat.add_assoc
def Gdx:=@List.foldl_append
def Gdy:=@List.getElem?_set
def Gdz:=@Array.toList_push
def GdA:=@List.findIdx?_map
def GdB:=@List.map_nil
def GdC:=@Nat.min_self
def GdD:=@Nat.succ_mul
namespace L2
open PySem PySem.Spec PyProof.Rows
noncomputable abbrev Key:=Sum Int Str
noncomputable def tP:Key→Value→Bool
 | .inl k,v=>Value.isInt k v
 | .inr x,v=>Value.isStrOf x v
noncomputable def O3(w:World):Key→Int
 | .inl k=>hashInt k
 | .inr x=>hashStr w x
theorem cK:∀{k:Key} {v:Value},tP k v=true→(∃i t,k=Sum.inl i∧v=Value.int i t)∨(∃x t,k=Sum.inr x∧v=Value.str x t)
 | .inl i,v,h=>by
  obtain⟨t,e⟩:=Value.isInt_shape (k:=i) (v:=v) h
  exact .inl ⟨i,t,rfl,e⟩
 | .inr x,v,h=>by
  obtain⟨t,e⟩:=Value.isStrOf_shape (x:=x) (v:=v) h
  exact .inr ⟨x,t,rfl,e⟩
theorem CK(i:Int)(t:Tok):tP (.inl i) (.int i t)=true:=by simp[tP,Value.isInt]
theorem CL(x:Str)(t:Tok):tP (.inr x) (.str x t)=true:=by simp[tP,Value.isStrOf]
theorem Jt(a b:Int):decide ((Sum.inl a:Key)=Sum.inl b)=(a==b):=by
 by_cases e:a=b
 ·subst e;simp
 ·have h:¬(Sum.inl a:Key)=Sum.inl b:=λq=>e (Sum.inl.inj q)
  rw[GaO h]
  exact(beq_eq_false_iff_ne.mpr e).symm
theorem Ju(a b:Str):decide ((Sum.inr a:Key)=Sum.inr b)=decide (a=b):=by
 by_cases e:a=b
 ·subst e;simp
 ·have h:¬(Sum.inr a:Key)=Sum.inr b:=λq=>e (Sum.inr.inj q)
  rw[GaO h,GaO e]
theorem Jv(a:Int)(b:Str):decide ((Sum.inl a:Key)=Sum.inr b)=false:=GaO (λq=>nomatch q)
theorem Jw(a:Str)(b:Int):decide ((Sum.inr a:Key)=Sum.inl b)=false:=GaO (λq=>nomatch q)
noncomputable def cA(prog:Program)(w:World):PySem.KeyKind prog w Key where
 is:=tP
 hash:=O3 w
 inj:=λv a b ha hb=>by
  rcases cK ha with⟨i,t,rfl,rfl⟩| ⟨x,t,rfl,rfl⟩
  ·rcases cK hb with⟨j,u,rfl,e⟩| ⟨y,u,rfl,e⟩
   ·injection e with e1 _;rw[e1]
   ·exact nomatch e
  ·rcases cK hb with⟨j,u,rfl,e⟩| ⟨y,u,rfl,e⟩
   ·exact nomatch e
   ·injection e with e1 _;rw[e1]
 byValue:=λk v h=>by
  rcases cK h with⟨i,t,rfl,rfl⟩| ⟨x,t,rfl,rfl⟩<;>rfl
 pyHash:=λhv h=>by
  rcases cK hv with⟨i,t,rfl,rfl⟩| ⟨x,t,rfl,rfl⟩
  ·exact wpAny_pyHash_int h
  ·exact wpAny_pyHash_str h
 eqBool:=λhu hv h=>by
  rcases cK hu with⟨i,t,rfl,rfl⟩| ⟨x,t,rfl,rfl⟩
  ·rcases cK hv with⟨j,u,rfl,rfl⟩| ⟨y,u,rfl,rfl⟩
   ·rw[Jt] at h;exact wpAny_eqBool_int h
   ·rw[Jv] at h;exact SeqAt.EqAt.int_str i t y u _ _ _ _ h
  ·rcases cK hv with⟨j,u,rfl,rfl⟩| ⟨y,u,rfl,rfl⟩
   ·rw[Jw] at h;exact SeqAt.EqAt.str_int x t j u _ _ _ _ h
   ·rw[Ju] at h;exact wpAny_eqBool_str h
 «strs» :=λk x t v h=>by
  rcases cK h with⟨i,u,rfl,e⟩| ⟨y,u,rfl,e⟩
  ·exact nomatch e
  ·injection e with e1 _
   subst e1
   cases v<;>rfl
theorem w6(prog:Program)(w:World)(i:Int)(t:Tok):(cA prog w).is (.inl i) (.int i t)=true:=CK i t
theorem w9(prog:Program)(w:World)(x:Str)(t:Tok):(cA prog w).is (.inr x) (.str x t)=true:=CL x t
inductive V where
 |non|bl (b:Bool)|int (i:Int)|str (x:Str)|byt (b:Array UInt8)|flt (b:UInt64)|ref (a:Addr)|ty (n:String)
 deriving DecidableEq
noncomputable def RelV:V→Value→Prop
 | .non,u=>u=Value.none
 | .bl b,u=>u=Value.bool b
 | .int i,u=>∃t,u=Value.int i t
 | .str x,u=>∃t,u=Value.str x t
 | .byt b,u=>∃t,u=Value.bytes b t
 | .flt b,u=>∃t,u=Value.float b t
 | .ref a,u=>u=Value.ref a
 | .ty n,u=>u=Value.type n
noncomputable abbrev Vals:List V→List Value→Prop:=Paired RelV
theorem Vals.length{xs:List V}{us:List Value}(r:Vals xs us):xs.length=us.length:=Paired.length r
theorem Vals.get:∀{xs:List V} {us:List Value} {i:Nat} {x:V},Vals xs us→xs[i]? =some x→∃u,us[i]? =some u∧RelV x u
 |_,_,_,_,.nil,e=>by simp at e
 |_,_,0,_,.cons r _,e=>by simp at e;subst e;exact⟨_,rfl,r⟩
 |_,_,i+1,x,.cons _ t,e=>by
  obtain⟨u,h1,h2⟩:=Vals.get (i:=i) (x:=x) t (by simpa using e)
  exact⟨u,by simpa using h1,h2⟩
theorem Vals.set{x:V}{u:Value}(r:RelV x u):∀{xs:List V} {us:List Value} (i:Nat),Vals xs us→Vals (xs.set i x) (us.set i u)
 |_,_,_,.nil=> .nil
 |_,_,0,.cons _ t=> .cons r t
 |_,_,i+1,.cons q t=> .cons q (Vals.set r i t)
theorem Vals.append:∀{xs ys:List V} {us ws:List Value},Vals xs us→Vals ys ws→Vals (xs++ys) (us++ws)
 |_,_,_,_,.nil,s=>s
 |_,_,_,_,.cons r t,s=> .cons r (Vals.append t s)
theorem Vals.take:∀{xs:List V} {us:List Value} (n:Nat),Vals xs us→Vals (xs.take n) (us.take n)
 |_,_,0,_=> .nil
 |_,_,_+1,.nil=> .nil
 |_,_,n+1,.cons r t=> .cons r (Vals.take n t)
theorem Vals.drop:∀{xs:List V} {us:List Value} (n:Nat),Vals xs us→Vals (xs.drop n) (us.drop n)
 |_,_,0,r=>r
 |_,_,_+1,.nil=> .nil
 |_,_,n+1,.cons _ t=>Vals.drop n t
noncomputable def pk:Option V→Option Value→Prop
 |some v,some u=>RelV v u
 |none,none=>True
 |_,_=>False
noncomputable def KV{κ:Type}:List (κ×V)→List (κ×Value)→Prop:=Paired λ(p:κ×V) (q:κ×Value)=>p.1=q.1∧RelV p.2 q.2
noncomputable def kV:Key→V
 | .inl i=> .int i
 | .inr x=> .str x
inductive HO where
 |lst (xs:List V)
 |tup (xs:List V)
 |dK (kvs:List (Key×V))|dT (kvs:List (List Key×V))
 |set (S:Int→Bool) (n:Nat)
 |ins (C dx:Addr) (fs:List (Str×V))
 |own (x:Addr)
 |xd (fs:List (Str×V))
 |met (f x:Addr)
 |rng (lo hi:Int)
 |frz (o:Obj) (u:HO)
 |tbl (ps:Array Value)
 |ext (φ:Heap→Prop)
noncomputable abbrev Hp:=Addr→Option HO
noncomputable def upd(H:Hp)(a:Addr)(o:HO):Hp:=λb=>if b=a then some o else H b
theorem aM{H:Hp}{a:Addr}{o:HO}:upd H a o a=some o:=by unfold upd;rw[Gag rfl]
theorem az{H:Hp}{a b:Addr}{o:HO}(h:b≠a):upd H a o b=H b:=by unfold upd;rw[Gaj h]
theorem BF{H:Hp}{a b:Addr}{o u:HO}(h:H a=some o)(h' :H b=some u)(d:o≠u):a≠b:=by
 intro e;subst e;rw[h] at h';exact d (Option.some.inj h')
theorem dP{H:Hp}{a b:Addr}{o:HO}(h:H a=some o)(h' :H b=none):a≠b:=by
 intro e;subst e;rw[h] at h';cases h'
section
variable(P:Program)(w:World)
noncomputable def cx(H:Hp)(h:Heap)(a:Addr):HO→Prop
 | .lst xs=>xs.length≤sizeLine∧∃(its:List Value) (n:Nat),Vals xs its∧h.get? a=some {cls:= .type "list",data:= .seq its.toArray n}
 | .tup xs=>xs.length≤sizeLine∧∃its:List Value,Vals xs its∧IsTup h a its.toArray
 | .dK kvs=>kvs.length≤sizeLine∧(a==sysModules)=false∧∃vs,KV kvs vs∧h.DictOf (cA P w) a vs
 | .dT kvs=>kvs.length≤sizeLine∧(a==sysModules)=false∧∃xs:List (List Key×Addr×Value),
   Paired (λ(p:List Key×V) (q:List Key×Addr×Value)=>p.1=q.1∧H q.2.1=some (.tup (p.1.map kV))∧RelV p.2 q.2.2) kvs xs∧
   ∃o es ep,h.get? a=some o∧o.ExactDict∧o.data= .dict es ep∧es.toList=xs.map (entryOfKey (tupleKind (cA P w)))∧(xs.map (·.1)).Nodup
 | .set S n=>h.SetOf (intKind P w) a S n
 | .ins C dx fs=>H dx=some (.own a)∧fs.length≤1000∧dx≠a∧h.get? a=some (PySem.W.instObj C dx)∧
   ∃mA,h.Ns1 dx mA∧(∀f,pk (fs.lookup f) (mA f))∧PySem.Within mA (fs.map (·.1))
 | .own _=>∃o,h.get? a=some o
 | .xd fs=>∃mA,h.Ns1 a mA∧∀f,pk (fs.lookup f) (mA f)
 | .rng lo hi=>∃t u v,h.get? a=some {cls:= .type "range",data:= .fields #[.int lo t,.int hi u,.int 1 v]}
 | .frz o u=>h.get? a=some o∧cx H h a u
 | .tbl ps=>h.get? a=some {cls:= .none,data:= .fields ps}
 | .met f x=>h.get? a=some (PySem.W.methodObj (.ref f) (.ref x))
 | .ext φ=>φ h∧(∃o,h.get? a=some o)∧∀h1 h2:Heap,φ h1→(∀o,h1.get? a=some o→h2.get? a=some o)→φ h2
noncomputable def HOk(H:Hp)(h:Heap):Prop:=∀a o,H a=some o→cx P w H h a o
end
section
variable{P:Program}{w:World}{H H' :Hp}{h h' :Heap}{a:Addr}{o:HO}
theorem cx.lt(x:cx P w H h a o):a<h.objs.size:=by
 cases o with
 |lst xs=>obtain⟨_,_,_,_,e⟩:=x;exact Gat e
 |tup xs=>obtain⟨_,_,_,p⟩:=x;exact p.lt
 |dK kvs=>obtain⟨_,_,_,_,o,_,_,e,_⟩:=x;exact Gat e
 |dT kvs=>obtain⟨_,_,_,_,o,_,_,e,_⟩:=x;exact Gat e
 |set S n=>obtain⟨o,_,_,_,e,_⟩:=x;exact Gat e
 |ins C dx fs=>obtain⟨_,_,_,e,_⟩:=x;exact Gat e
 |own y=>obtain⟨_,e⟩:=x;exact Gat e
 |xd fs=>obtain⟨_,⟨_,_,_,e,_⟩,_⟩:=x;exact Gat e
 |rng lo hi=>obtain⟨_,_,_,e⟩:=x;exact Gat e
 |frz ob u=>obtain⟨e,_⟩:=x;exact Gat e
 |tbl ps=>exact Gat (show h.get? a=some _ from x)
 |met f y=>exact Gat (show h.get? a=some _ from x)
 |ext φ=>obtain⟨_,⟨_,e⟩,_⟩:=x;exact Gat e
theorem Paired.Jx{α β:Type}{F G:α→β→Prop}:∀{l₁:List α} {l₂:List β},Paired F l₁ l₂→(∀a b,F a b→G a b)→Paired G l₁ l₂
 |_,_,.nil,_=> .nil
 |_,_,.cons r t,f=> .cons (f _ _ r) (Paired.Jx t f)
theorem cx.fu(x:cx P w H h a o)(k:∀b u,(b=a∨H b=some (.own a))→h.get? b=some u→h'.get? b=some u)
  (ho:∀b,H b=some (.own a)→H' b=some (.own a))(ht:∀b xs,H b=some (.tup xs)→H' b=some (.tup xs)):cx P w H' h' a o:=by
 induction o with
 |lst xs=>obtain⟨z,its,n,r,e⟩:=x;exact⟨z,its,n,r,k _ _ (.inl rfl) e⟩
 |tup xs=>obtain⟨z,its,r,ob,e,c⟩:=x;exact⟨z,its,r,ob,k _ _ (.inl rfl) e,c⟩
 |dK kvs=>obtain⟨z,y,vs,r,ob,es,ep,e,c⟩:=x;exact⟨z,y,vs,r,ob,es,ep,k _ _ (.inl rfl) e,c⟩
 |dT kvs=>
  obtain⟨z,y,xs,r,ob,es,ep,e,c⟩:=x
  exact⟨z,y,xs,Paired.Jx r λp q z=> ⟨z.1,ht _ _ z.2.1,z.2.2⟩,ob,es,ep,k _ _ (.inl rfl) e,c⟩
 |set S n=>obtain⟨ob,es,ep,t,e,c⟩:=x;exact⟨ob,es,ep,t,k _ _ (.inl rfl) e,c⟩
 |ins C dx fs=>
  obtain⟨d,z,ne,e,mA,⟨od,es,ep,e2,c⟩,r⟩:=x
  exact⟨ho _ d,z,ne,k _ _ (.inl rfl) e,mA,⟨od,es,ep,k _ _ (.inr d) e2,c⟩,r⟩
 |own y=>obtain⟨ob,e⟩:=x;exact⟨ob,k _ _ (.inl rfl) e⟩
 |xd fs=>obtain⟨mA,⟨od,es,ep,e,c⟩,r⟩:=x;exact⟨mA,⟨od,es,ep,k _ _ (.inl rfl) e,c⟩,r⟩
 |rng lo hi=>obtain⟨t,u,v,e⟩:=x;exact⟨t,u,v,k _ _ (.inl rfl) e⟩
 |frz ob u ih=>obtain⟨e,q⟩:=x;exact⟨k _ _ (.inl rfl) e,ih q⟩
 |tbl ps=>
  have e:h.get? a=some {cls:= .none,data:= .fields ps}:=x
  show h'.get? a=some {cls:= .none,data:= .fields ps}
  exact k a _ (.inl rfl) e
 |met f y=>
  have e:h.get? a=some (PySem.W.methodObj (.ref f) (.ref y)):=x
  show h'.get? a=some (PySem.W.methodObj (.ref f) (.ref y))
  exact k a _ (.inl rfl) e
 |ext φ=>obtain⟨p,⟨o,e⟩,st⟩:=x;exact⟨st _ _ p λo q=>k _ _ (.inl rfl) q,⟨o,k _ _ (.inl rfl) e⟩,st⟩
theorem HOk.lt(x:HOk P w H h)(e:H a=some o):a<h.objs.size:=(x a o e).lt
theorem HOk.fresh(x:HOk P w H h)(e:h.objs.size≤a):H a=none:=by
 cases q:H a with
 |none=>rfl
 |some u=>exact absurd (GaQ (x.lt q) e) (Gbj _)
theorem HOk.kept(x:HOk P w H h)(k:∀b u,h.get? b=some u→h'.get? b=some u):HOk P w H h' :=λa o e=>
 (x a o e).fu (λb u _ q=>k b u q) (λ_ q=>q) λ_ _ q=>q
theorem HOk.laid(x:HOk P w H h)(k:∀b u,h.get? b=some u→h'.get? b=some u)(hp:h.objs.size≤a)(new:cx P w (upd H a o) h' a o):HOk P w (upd H a o) h' :=λb u e=>by
 have hn:=x.fresh hp
 by_cases hb:b=a
 ·subst hb;rw[aM] at e;cases e;exact new
 ·rw[az hb] at e
  exact(x b u e).fu (λc v _ q=>k c v q) (λc q=>by rw[az (dP q hn)];exact q) λc xs q=>by rw[az (dP q hn)];exact q
end
noncomputable def Rd(H:Hp)(a:Addr)(u:HO):Prop:=H a=some u∨∃o,H a=some (.frz o u)
theorem Rd.ok{P:Program}{w:World}{H:Hp}{h:Heap}{a:Addr}{u:HO}(r:Rd H a u)(x:HOk P w H h):cx P w H h a u:=by
 rcases r with r| ⟨o,r⟩
 ·exact x a u r
 ·obtain⟨_,q⟩:=x a _ r
  exact q
noncomputable def Mut:Option HO→Prop
 |some (.lst _)=>True
 |some (.dK _)=>True
 |some (.dT _)=>True
 |some (.set _ _)=>True
 |some (.ins _ _ _)=>True
 |some (.ext _)=>True
 |_=>False
section
variable{P:Program}{w:World}{H:Hp}{h h' :Heap}{x e:Addr}{o' :HO}
theorem HOk.write(ok:HOk P w H h)(mu:Mut (H x))(he:e=x∨H e=some (.own x))(k:∀b u,b≠e→h.get? b=some u→h'.get? b=some u)(heo:∃u,h'.get? e=some u)
  (new:cx P w (upd H x o') h' x o'):HOk P w (upd H x o') h' :=λb u q=>by
 have nown:∀c y,H c=some (.own y)→c≠x:=λc y r z=>by subst z;rw[r] at mu;exact mu
 have ntup:∀c xs,H c=some (.tup xs)→c≠x:=λc xs r z=>by subst z;rw[r] at mu;exact mu
 by_cases hb:b=x
 ·subst hb;rw[aM] at q;cases q;exact new
 ·rw[az hb] at q
  by_cases hbe:b=e
  ·have q' :H b=some (.own x):=by
    rcases he with z|z
    ·exact absurd (hbe.trans z) hb
    ·rw[hbe];exact z
   rw[q] at q';cases q'
   obtain⟨v,hv⟩:=heo
   exact⟨v,by rw[hbe];exact hv⟩
  ·refine(ok b u q).fu (λc v hc r=>k c v ?_ r) (λc r=>by rw[az (nown c b r)];exact r) λc xs r=>by rw[az (ntup c xs r)];exact r
   rcases hc with rfl|hc
   ·exact hbe
   ·rintro rfl
    rcases he with z|z
    ·exact nown c b hc z
    ·rw[hc] at z;cases z;exact hb rfl
end
structure Un(fs ex:List Addr)(H H' :Hp)(h h' :Heap):Prop where
 keep:∀b o,h.get? b=some o→H b=none→b∉fs→b∉ex→h'.get? b=some o
 slot:∀b o,h.get? b=some o→H b=none→b∈fs→b∉ex→∃sl,h'.get? b=some {o with slots:=sl}
 free:∀b o,h.get? b=some o→H b=none→b∉ex→H' b=none
 there:∀b o,h.get? b=some o→b∉ex→∃o',h'.get? b=some o'
 vU:∀b xs,H b=some (.tup xs)→H' b=some (.tup xs)
 t6:∀b o u,H b=some (.frz o u)→H' b=some (.frz o u)
 vV:∀b ps,H b=some (.tbl ps)→∃more,H' b=some (.tbl (ps++more))
section
variable{fs fs' ex ex' :List Addr}{H H1 H2:Hp}{h h1 h2 h' :Heap}{a x e:Addr}{o:HO}
theorem Un.any(u:Un fs ex H H1 h h1){b:Addr}{ob:Obj}(q:h.get? b=some ob)(n:H b=none)(hx:b∉ex):∃sl,h1.get? b=some {ob with slots:=sl}:=by
 by_cases hb:b∈fs
 ·exact u.slot b ob q n hb hx
 ·exact⟨ob.slots,u.keep b ob q n hb hx⟩
theorem Un.kept(k:∀b u,h.get? b=some u→h'.get? b=some u):Un fs ex H H h h' :=
 ⟨λb ob q _ _ _=>k b ob q,λb ob q _ _ _=> ⟨ob.slots,k b ob q⟩,λ_ _ _ n _=>n,λb ob q _=> ⟨ob,k b ob q⟩,λ_ _ q=>q,λ_ _ _ q=>q,λ_ ps q=> ⟨#[],by rw[q];simp⟩⟩
theorem Un.refl:Un fs ex H H h h:=Un.kept λ_ _ q=>q
theorem Un.laid(k:∀b u,h.get? b=some u→h'.get? b=some u)(hp:h.objs.size≤a)(hn:H a=none):Un fs ex H (upd H a o) h h' where
 keep:=λb u q _ _ _=>k b u q
 slot:=λb u q _ _ _=> ⟨u.slots,k b u q⟩
 free:=λb u q n _=>by rw[az (GaK (GaQ (Gat q) hp))];exact n
 there:=λb u q _=> ⟨u,k b u q⟩
 vU:=λb xs q=>by rw[az (dP q hn)];exact q
 t6:=λb u xs q=>by rw[az (dP q hn)];exact q
 vV:=λb ps q=> ⟨#[],by rw[az (dP q hn),q];simp⟩
theorem Un.write(mu:Mut (H x))(he:e=x∨H e=some (.own x))(k:∀b u,b≠e→h.get? b=some u→h'.get? b=some u)(heo:∃u,h'.get? e=some u):Un fs ex H (upd H x o) h h' :=by
 have hx:∀b,H b=none→b≠x:=λb n z=>by subst z;rw[n] at mu;exact mu
 have hb:∀b,H b=none→b≠e:=λb n z=>by
  subst z
  rcases he with r|r
  ·exact hx b n r
  ·rw[n] at r;cases r
 have hm:∀b u,H b=some u→¬Mut (some u)→b≠x:=λb u q nm z=>by subst z;rw[q] at mu;exact nm mu
 refine⟨λb u q n _ _=>k b u (hb b n) q,λb u q n _ _=> ⟨u.slots,k b u (hb b n) q⟩,λb u q n _=>by rw[az (hx b n)];exact n,λb u q _=> ?_,
  λb xs q=>by rw[az (hm b _ q λz=>z)];exact q,λb u xs q=>by rw[az (hm b _ q λz=>z)];exact q,λb ps q=> ⟨#[],by rw[az (hm b _ q λz=>z),q];simp⟩⟩
 by_cases hbe:b=e
 ·subst hbe;exact heo
 ·exact⟨u,k b u hbe q⟩
end
noncomputable def trk(h:Heap)(H:Hp):List Addr:=(List.range h.objs.size).filter λa=>(H a).isSome
noncomputable def uQ(h:Heap)(H:Hp):Heap:=PySem.W.hideAll h (trk h H)
theorem CM(h:Heap)(H:Hp):(uQ h H).objs.size=h.objs.size:=PySem.W.hideAll_size _ _
theorem Eo{h:Heap}{H:Hp}{b:Addr}{o:Obj}(e:h.get? b=some o)(n:H b=none):(uQ h H).get? b=some o:=
 PySem.W.hideAll_get _ e λhm=>by
  have q:(H b).isSome=true:=(GbP.mp hm).2
  rw[n] at q;simp at q
theorem H0{h:Heap}{H:Hp}{b:Addr}{o:Obj}(e:(uQ h H).get? b=some o):h.get? b=some o∧H b=none:=by
 have e' :h.get? b=some o:=PySem.W.of_hideAll (trk h H) e
 refine⟨e', ?_⟩
 cases q:H b with
 |none=>rfl
 |some x=>
  have hm:b∈trk h H:=GbP.mpr ⟨GbM.mpr (Gat e'),by simp[q]⟩
  have z:(uQ h H).get? b=none:=PySem.W.hideAll_none (trk h H) hm
  rw[z] at e;cases e
noncomputable def Ha(g h:Heap)(L:Addr):List (Addr×Obj):=(List.range h.objs.size).filterMap λa=>if a=L∨(g.get? a).isSome=true then none else(h.get? a).map λo=>(a,o)
noncomputable def rest(g h:Heap)(L d:Addr):List (Addr×Obj):=(Ha g h L).filter λp=>decide (p.1≠d)
structure Mod(K:PySem.W.Frag)(mg:Str→Option Value)(base:Heap):Prop where
 kin:K.In base
 glob:base.Ns mainGlobals mg
 blt:∃mb,base.Ns builtinsNs mb∧∀x:Str,x≠"__name__"→mb x=bootBuiltins x
 nolimit:base.NoLimit
structure Cx where
 prog:Program
 w:World
 K:PySem.W.Frag
 mg:Str→Option Value
 base:Heap
 A:Around
 N:List Str
 s₀:Shared
 H₀:Hp
 env:Env
 outer:List Env
 stack:List Env
 ex:List Addr
 fn:Str→Bool
 calm:Bool
 pn:List (Addr×Obj)
 xe:Value→Shared→Prop
noncomputable def frs(l:List Env):List Addr:=l.filterMap (·.frame)
noncomputable abbrev Cx.fs (X:Cx):List Addr:=frs X.outer
noncomputable def Vis(sc:Scope)(x:Str):Prop:=sc.names.lookup x=some .local∨sc.names.lookup x=some .cell∨sc.names.lookup x=some .free
noncomputable def Loc(sc:Scope)(x:Str):Prop:=sc.names.lookup x=some .local∨sc.names.lookup x=some .cell
noncomputable def Look(env:Env)(h:Heap)(m:Str→Option Value)(x:Str)(u:Value):Prop:=
 (env.kindOf x=some .local∧m x=some u)∨((env.kindOf x=some .cell∨env.kindOf x=some .free)∧∃c,env.cells.lookup x=some c∧h.IsCell c (some u))
structure Cx.Ok(X:Cx):Prop where
 mod:Mod X.K X.mg X.base
 kind:X.env.scope.kind= .function
 glob:X.env.globals=mainGlobals
 blt:X.env.builtins=builtinsNs
 above:X.s₀.heap.objs.size≤X.env.locals
 inj:∀x y c,X.env.cells.lookup x=some c→X.env.cells.lookup y=some c→x=y
 has:∀x,(X.env.kindOf x=some .cell∨X.env.kindOf x=some .free)→∃c,X.env.cells.lookup x=some c
 cab:∀x c,X.fn x=true→X.env.cells.lookup x=some c→X.s₀.heap.objs.size≤c
 hd:X.calm=true→X.A.handled=none
 frames:X.A.frames=some X.stack
 stk:X.stack=X.outer∨(X.stack=X.env::X.outer∧X.env.frame=some X.env.locals)
 exf:∀b∈X.ex,b≠X.env.locals∧∀x c,X.env.cells.lookup x=some c→c≠b
 bs:∀b o,X.base.get? b=some o→X.s₀.heap.get? b=some o∧X.H₀ b=none
 bsz:X.base.objs.size≤X.s₀.heap.objs.size
 GY:∀b o,X.base.get? b=some o→b∉X.ex
 GZ:∀b∈X.ex,b∉X.fs
 qZ:X.s₀.heap.FunFrames X.base X.outer
 frf:∀b∈X.fs,X.H₀ b=none
structure Inv(X:Cx)(pins:List (Addr×Obj))(σ:List (Option V))(H:Hp)(s:Shared):Prop where
 ok:X.Ok
 os:s.os=X.s₀.os
 bare:AllBare s.gens
 base:Un X.fs X.ex X.H₀ H X.s₀.heap s.heap
 loc:∃m,s.heap.Ns X.env.locals m∧∀(i:Nat) (x:Str) (v:V),X.N[i]? =some x→σ[i]? =some (some v)→Vis X.env.scope x→∃u,RelV v u∧Look X.env s.heap m x u
 cell:∀x c,X.env.cells.lookup x=some c→∃v,s.heap.IsCell c v
 free:H X.env.locals=none
 lC:∀x c,X.env.cells.lookup x=some c→H c=none
 pin:∀p∈X.pn++pins,s.heap.get? p.1=some p.2∧H p.1=none∧p.1≠X.env.locals∧p.1∉X.fs∧∀v,p.2.data≠ .cell v
 hok:HOk X.prog X.w H s.heap
 len:σ.length=X.N.length
section
variable{X:Cx}{pins:List (Addr×Obj)}{σ:List (Option V)}{H H' :Hp}{s:Shared}{h' :Heap}
theorem Cx.Ok.O4(ok:X.Ok){b:Addr}{o:Obj}(e:X.base.get? b=some o):b∉X.fs:=λhb=>by
 have:=(ok.qZ.mem hb).1
 rw[e] at this;cases this
theorem Inv.bs(I:Inv X pins σ H s):∀b o,X.base.get? b=some o→s.heap.get? b=some o∧H b=none:=λb o e=>
 ⟨I.base.keep b o (I.ok.bs b o e).1 (I.ok.bs b o e).2 (I.ok.O4 e) (I.ok.GY b o e),I.base.free b o (I.ok.bs b o e).1 (I.ok.bs b o e).2 (I.ok.GY b o e)⟩
theorem Inv.bk(I:Inv X pins σ H s):∀b o,X.base.get? b=some o→s.heap.get? b=some o:=λb o e=>(I.bs b o e).1
theorem Inv.mod(I:Inv X pins σ H s):Mod X.K X.mg X.base:=I.ok.mod
theorem Inv.kIn(I:Inv X pins σ H s):X.K.In s.heap:=I.ok.mod.kin.keeps I.bk
theorem Inv.lt(I:Inv X pins σ H s):X.env.locals<s.heap.objs.size:=let⟨_,hn,_⟩:=I.loc;hn.lt
theorem Inv.sz(I:Inv X pins σ H s):X.s₀.heap.objs.size≤s.heap.objs.size:=Gbw I.ok.above (Gdj I.lt)
theorem Inv.O5(I:Inv X pins σ H s){a:Addr}(h:s.heap.objs.size≤a):a∉X.fs:=λhb=>by
 obtain⟨_,o,ho,_⟩:=I.ok.qZ.mem hb
 exact absurd (GaQ (Gat ho) (Gbw I.sz h)) (Gbj _)
theorem Inv.cne(I:Inv X pins σ H s):∀x c,X.env.cells.lookup x=some c→c≠X.env.locals:=λx c e z=>by
 obtain⟨v,o,ho,hd⟩:=I.cell x c e
 obtain⟨m,⟨o',es,ep,ho',hd',_⟩,_⟩:=I.loc
 rw[z,ho'] at ho;cases ho;rw[hd'] at hd;cases hd
theorem Inv.qZ(I:Inv X pins σ H s):s.heap.FunFrames X.base X.outer:=by
 have all:∀(l:List Env),(∀b∈frs l,b∈X.fs)→X.s₀.heap.FunFrames X.base l→s.heap.FunFrames X.base l:=by
  intro l
  induction l with
  |nil=>intro _ _;trivial
  |cons env r ih=>
   intro hs hl
   obtain⟨hk,⟨L,o,hf,hn,ho,hd⟩,hr⟩:=hl
   have hL:L∈X.fs:=hs L (by unfold frs;rw[Gdq,hf];exact Gam)
   obtain⟨sl,e⟩:=I.base.slot L o ho (I.ok.frf L hL) hL λz=>I.ok.GZ L z hL
   exact⟨hk,⟨L,_,hf,hn,e,hd⟩,ih (λb hb=>hs b (by unfold frs;rw[Gdq,hf];exact Gai _ hb)) hr⟩
 exact all X.outer (λ_ hb=>hb) I.ok.qZ
theorem Inv.stack(I:Inv X pins σ H s):s.heap.FunFrames X.base X.stack:=by
 rcases I.ok.stk with e| ⟨e,hf⟩
 ·rw[e];exact I.qZ
 ·rw[e]
  obtain⟨m,hn,_⟩:=I.loc
  refine .cons (by rw[I.ok.kind];decide) hf hn ?_ I.qZ
  exact Heap.get?_none_of_le (Gbw I.ok.bsz I.ok.above)
theorem Inv.AO(I:Inv X pins σ H s):∀b∈frs X.stack,b∈X.env.locals::X.fs:=λb hb=>by
 rcases I.ok.stk with e| ⟨e,hf⟩
 ·rw[e] at hb;exact Gai _ hb
 ·rw[e] at hb
  unfold frs at hb
  rw[Gdq,hf] at hb
  exact hb
theorem Inv.BG(I:Inv X pins σ H s):∀b∈frs X.stack,H b=none:=λb hb=>by
 rcases Gaw.mp (I.AO b hb) with e|hb
 ·rw[e];exact I.free
 ·obtain⟨_,o,ho,_⟩:=I.ok.qZ.mem hb
  exact I.base.free b o ho (I.ok.frf b hb) λz=>I.ok.GZ b z hb
theorem Inv.step{g' :Array GenState}{t' :Nat}{d' :Drawn}{ch:List Addr}(I:Inv X pins σ H s)
  (hch:∀b∈ch,(b∈X.ex∨X.s₀.heap.objs.size≤b)∧b≠X.env.locals∧(∀x c,X.env.cells.lookup x=some c→c≠b)∧∀p∈X.pn++pins,p.1≠b)
  (keep:∀b o,b≠X.env.locals→b∉X.fs→b∉ch→s.heap.get? b=some o→H b=none→h'.get? b=some o)
  (slot:∀b o,b≠X.env.locals→b∈X.fs→b∉ch→s.heap.get? b=some o→H b=none→∃sl,h'.get? b=some {o with slots:=sl})(free:∀b o,b∉ch→s.heap.get? b=some o→H b=none→H' b=none)
  (there:∀b o,b∉ch→s.heap.get? b=some o→∃o',h'.get? b=some o')
  (vU:∀b xs,H b=some (.tup xs)→H' b=some (.tup xs))(t6:∀b o u,H b=some (.frz o u)→H' b=some (.frz o u))(vV:∀b ps,H b=some (.tbl ps)→∃more,H' b=some (.tbl (ps++more)))
  (ns:∀m,s.heap.Ns X.env.locals m→h'.Ns X.env.locals m)(hok:HOk X.prog X.w H' h')(hg:AllBare g'):
  Inv X pins σ H' {s with heap:=h',gens:=g',drawn:=d',toks:=t' }:=by
 have neL:∀b o,X.s₀.heap.get? b=some o→b≠X.env.locals:=λb o e=>GaK (GaQ (Gat e) I.ok.above)
 have neC:∀b o,X.s₀.heap.get? b=some o→b∉X.ex→b∉ch:=λb o e hx hb=>by
  rcases(hch b hb).1 with z|z
  ·exact hx z
  ·exact absurd (GaQ (Gat e) z) (Gbj _)
 have cellK:∀x c,X.env.cells.lookup x=some c→∀v,s.heap.IsCell c v→h'.IsCell c v:=λx c e v ⟨o,ho,hd⟩=>by
  have nch:c∉ch:=λz=>(hch c z).2.2.1 x c e rfl
  by_cases hc:c∈X.fs
  ·obtain⟨sl,q⟩:=slot c o (I.cne x c e) hc nch ho (I.lC x c e)
   exact⟨_,q,hd⟩
  ·exact⟨o,keep c o (I.cne x c e) hc nch ho (I.lC x c e),hd⟩
 refine⟨I.ok,I.os,hg,⟨λb o e n hb hx=> ?_,λb o e n hb hx=> ?_,λb o e n hx=> ?_,λb o e hx=> ?_,λb xs e=>vU b xs (I.base.vU b xs e),λb o xs e=>t6 b o xs (I.base.t6 b o xs e),λb ps e=> ?_⟩, ?_,λx c e=> ?_, ?_,λx c e=> ?_,λp hp=> ?_,hok,I.len⟩
 ·exact keep b o (neL b o e) hb (neC b o e hx) (I.base.keep b o e n hb hx) (I.base.free b o e n hx)
 ·obtain⟨sl,e1⟩:=I.base.slot b o e n hb hx
  obtain⟨sl',e2⟩:=slot b _ (neL b o e) hb (neC b o e hx) e1 (I.base.free b o e n hx)
  exact⟨sl',e2⟩
 ·obtain⟨o',e1⟩:=I.base.there b o e hx
  exact free b o' (neC b o e hx) e1 (I.base.free b o e n hx)
 ·obtain⟨o',e1⟩:=I.base.there b o e hx
  exact there b o' (neC b o e hx) e1
 ·obtain⟨m1,e1⟩:=I.base.vV b ps e
  obtain⟨m2,e2⟩:=vV b _ e1
  exact⟨m1++m2,by rw[e2,Array.append_assoc]⟩
 ·obtain⟨m,hn,hl⟩:=I.loc
  refine⟨m,ns m hn,λi x v e1 e2 e3=> ?_⟩
  obtain⟨u,r,l⟩:=hl i x v e1 e2 e3
  refine⟨u,r, ?_⟩
  rcases l with l| ⟨k,c,e,z⟩
  ·exact .inl l
  ·exact .inr ⟨k,c,e,cellK x c e _ z⟩
 ·obtain⟨v,z⟩:=I.cell x c e
  exact⟨v,cellK x c e v z⟩
 ·obtain⟨m,⟨o,_,_,ho,_⟩,_⟩:=I.loc
  exact free _ o (λz=>(hch _ z).2.1 rfl) ho I.free
 ·obtain⟨v,o,ho,hd⟩:=I.cell x c e
  exact free c o (λz=>(hch c z).2.2.1 x c e rfl) ho (I.lC x c e)
 ·obtain⟨e,n,ne,nf,d⟩:=I.pin p hp
  have nch:p.1∉ch:=λz=>(hch p.1 z).2.2.2 p hp rfl
  exact⟨keep p.1 p.2 ne nf nch e n,free p.1 p.2 nch e n,ne,nf,d⟩
theorem Inv.un{t' :Nat}(I:Inv X pins σ H s)(u:Un X.fs [] H H' s.heap h')(hok:HOk X.prog X.w H' h'):Inv X pins σ H' {s with heap:=h',toks:=t' }:=by
 obtain⟨m,⟨o,es,ep,ho,r⟩,_⟩:=id I.loc
 obtain⟨sl,hL⟩:=u.any ho I.free (by simp)
 exact I.step (g' :=s.gens) (d' :=s.drawn) (ch:=[]) (λ_ z=>nomatch z) (λb o _ hb _ e n=>u.keep b o e n hb (by simp)) (λb o _ hb _ e n=>u.slot b o e n hb (by simp)) (λb o _ e n=>u.free b o e n (by simp)) (λb o _ e=>u.there b o e (by simp)) u.vU u.t6 u.vV (λm' hm=>by
  obtain⟨o',es',ep',ho',r'⟩:=hm
  rw[ho] at ho';cases ho'
  exact⟨_,es',ep',hL,r'⟩) hok I.bare
theorem Inv.call{g' :Array GenState}{t' :Nat}{d' :Drawn}{ch:List Addr}(I:Inv X pins σ H s)(u:Un (frs X.stack) ch H H' s.heap h')(hok:HOk X.prog X.w H' h')(hg:AllBare g')
  (hch:∀b∈ch,(b∈X.ex∨X.s₀.heap.objs.size≤b)∧b≠X.env.locals∧(∀x c,X.env.cells.lookup x=some c→c≠b)∧∀p∈X.pn++pins,p.1≠b):
  Inv X pins σ H' {s with heap:=h',gens:=g',drawn:=d',toks:=t' }:=by
 obtain⟨m,⟨o,es,ep,ho,r⟩,_⟩:=id I.loc
 obtain⟨sl,hL⟩:=u.any ho I.free λz=>(hch _ z).2.1 rfl
 exact I.step (ch:=ch) hch (λb o hL hb hc e n=>u.keep b o e n (λz=>(Gaw.mp (I.AO b z)).elim hL hb) hc) (λb o _ _ hc e n=>u.any e n hc) (λb o hc e n=>u.free b o e n hc) (λb o hc e=>u.there b o e hc) u.vU u.t6 u.vV (λm' hm=>by
  obtain⟨o',es',ep',ho',r'⟩:=hm
  rw[ho] at ho';cases ho'
  exact⟨_,es',ep',hL,r'⟩) hok hg
theorem Inv.turned{t' :Nat}{it:Addr}(I:Inv X pins σ H s)(k:∀b o,b≠it→s.heap.get? b=some o→h'.get? b=some o)(hn:H it=none)(hL:it≠X.env.locals)
  (h1:it∈X.ex∨X.s₀.heap.objs.size≤it)(h2:∀x c,X.env.cells.lookup x=some c→c≠it)(h3:∀p∈X.pn++pins,p.1≠it):Inv X pins σ H {s with heap:=h',toks:=t' }:=by
 have nit:∀b u,H b=some u→b≠it:=λb u e z=>by rw[z,hn] at e;cases e
 refine I.step (g' :=s.gens) (d' :=s.drawn) (ch:=[it]) (λb hb=> ?_) (λb o _ _ hc e _=>k b o (λz=>hc (by simp[z])) e) (λb o _ _ hc e _=> ⟨o.slots,k b o (λz=>hc (by simp[z])) e⟩) (λ_ _ _ _ n=>n)
  (λb o hc e=> ⟨o,k b o (λz=>hc (by simp[z])) e⟩) (λ_ _ e=>e) (λ_ _ _ e=>e) (λb ps e=> ⟨#[],by rw[e];simp⟩) (λm hm=> ?_) (λb u e=> ?_) I.bare
 ·have e:b=it:=by simpa using hb
  subst e
  exact⟨h1,hL,h2,h3⟩
 ·obtain⟨o,es,ep,ho,r⟩:=hm
  exact⟨o,es,ep,k _ o (GaZ hL) ho,r⟩
 ·refine(I.hok b u e).fu (λc v hc q=>k c v ?_ q) (λ_ q=>q) λ_ _ q=>q
  rcases hc with z|z
  ·rw[z];exact nit b u e
  ·exact nit c _ z
theorem Inv.tok(I:Inv X pins σ H s)(t:Nat):Inv X pins σ H {s with toks:=t}:=I.un (h' :=s.heap) (t' :=t) Un.refl I.hok
theorem Inv.kept{t' :Nat}(I:Inv X pins σ H s)(k:∀b u,s.heap.get? b=some u→h'.get? b=some u):Inv X pins σ H {s with heap:=h',toks:=t' }:=I.un (Un.kept k) (I.hok.kept k)
theorem Inv.laid{a:Addr}{o:HO}{t' :Nat}(I:Inv X pins σ H s)(k:∀b u,s.heap.get? b=some u→h'.get? b=some u)(hp:s.heap.objs.size≤a)(new:cx X.prog X.w (upd H a o) h' a o):
  Inv X pins σ (upd H a o) {s with heap:=h',toks:=t' }:=I.un (Un.laid k hp (I.hok.fresh hp)) (I.hok.laid k hp new)
theorem Inv.write{x e:Addr}{o:HO}{t' :Nat}(I:Inv X pins σ H s)(mu:Mut (H x))(he:e=x∨H e=some (.own x))(k:∀b u,b≠e→s.heap.get? b=some u→h'.get? b=some u)(heo:∃u,h'.get? e=some u)
  (new:cx X.prog X.w (upd H x o) h' x o):Inv X pins σ (upd H x o) {s with heap:=h',toks:=t' }:=I.un (Un.write mu he k heo) (I.hok.write mu he k heo new)
theorem Inv.BH{pins' :List (Addr×Obj)}(I:Inv X pins σ H s)(h:∀p∈pins',s.heap.get? p.1=some p.2∧H p.1=none∧p.1≠X.env.locals∧p.1∉X.fs∧∀v,p.2.data≠ .cell v):Inv X pins' σ H s:=
 ⟨I.ok,I.os,I.bare,I.base,I.loc,I.cell,I.free,I.lC,λp hp=>(Gav.mp hp).elim (λz=>I.pin p (Gci _ z)) (h p),I.hok,I.len⟩
theorem wa{N:List Str}(hN:N.Nodup){i j:Nat}{x:Str}(a:N[i]? =some x)(b:N[j]? =some x):i=j:=by
 obtain⟨h1,e1⟩:=Gae.mp a
 obtain⟨h2,e2⟩:=Gae.mp b
 exact(List.getElem_inj hN).mp (e1.trans e2.symm)
theorem CN{M:Model}{A:Around}{E:Value→Shared→Prop}{i:Nat}{x:Str}{v:V}{u:Value}{Q:Unit→Shared→Prop}(I:Inv X pins σ H s)(hN:X.N.Nodup)(hi:X.N[i]? =some x)(hx:Loc X.env.scope x)(r:RelV v u)
  (h:∀s',Inv X pins (σ.set i (some v)) H s' →(∃a,Heap.SameBut a s.heap s'.heap∧(a=X.env.locals∨X.env.cells.lookup x=some a))→Q () s')(hf:X.fn x=true∨X.env.scope.names.lookup x=some .local:=by first|exact .inl rfl|exact .inr rfl|assumption):wpAny M A (storeName X.env x u) Q E s:=by
 obtain⟨m,hn,hl⟩:=id I.loc
 have hcls:(X.env.scope.kind== .class||(X.env.scope.kind== .module&&X.env.locals !=X.env.globals))=false:=by rw[I.ok.kind];rfl
 have hiσ:i<σ.length:=by rw[I.len];exact(Gae.mp hi).1
 have cne:=I.cne
 have tracked:∀{a:Addr} {h' :Heap},(∃o,s.heap.get? a=some o∧H a=none)→Heap.SameBut a s.heap h' →HOk X.prog X.w H h' :=λ{a h'} ha hs b ob e=>by
  obtain⟨_,_,hfree⟩:=ha
  refine(I.hok b ob e).fu (λc w' hc q=>(hs.2 c ?_).trans q) (λ_ q=>q) λ_ _ q=>q
  rintro rfl
  rcases hc with rfl|hc
  ·rw[hfree] at e;cases e
  ·rw[hfree] at hc;cases hc
 rcases hx with hk|hk
 ·refine wpAny_storeName_local hk hn (λh' hn' hs=> ?_) hcls
  obtain⟨oL,_,_,hoL,_⟩:=id hn
  refine h _ ⟨I.ok,I.os,I.bare,⟨λb o e n hb hx=> ?_,λb o e n hb hx=> ?_,I.base.free,λb o e hx=> ?_,I.base.vU,I.base.t6,I.base.vV⟩,⟨_,hn',λj y v' e1 e2 e3=> ?_⟩,λy c e=> ?_,I.free,I.lC,λp hp=> ?_,tracked ⟨oL,hoL,I.free⟩ hs,by simpa using I.len⟩ ⟨_,hs,.inl rfl⟩
  ·exact(hs.2 b (GaK (GaQ (Gat e) I.ok.above))).trans (I.base.keep b o e n hb hx)
  ·obtain⟨sl,e1⟩:=I.base.slot b o e n hb hx
   exact⟨sl,(hs.2 b (GaK (GaQ (Gat e) I.ok.above))).trans e1⟩
  ·obtain⟨o',e1⟩:=I.base.there b o e hx
   exact⟨o',(hs.2 b (GaK (GaQ (Gat e) I.ok.above))).trans e1⟩
  ·by_cases hj:j=i
   ·subst hj
    rw[hi] at e1;cases e1
    rw[GaT hiσ] at e2
    cases e2
    exact⟨u,r,.inl ⟨hk,by simp⟩⟩
   ·rw[Gab (GaZ hj)] at e2
    obtain⟨u',r',q⟩:=hl j y v' e1 e2 e3
    refine⟨u',r', ?_⟩
    rcases q with⟨k,e⟩| ⟨k,c,e,z⟩
    ·refine .inl ⟨k, ?_⟩
     have:y≠x:=λe=>hj (wa hN e1 (e▸hi))
     simp[this,e]
    ·exact .inr ⟨k,c,e,z.sameBut hs (cne y c e)⟩
  ·obtain⟨w',z⟩:=I.cell y c e
   exact⟨w',z.sameBut hs (cne y c e)⟩
  ·obtain⟨e,n,ne,nf,d⟩:=I.pin p hp
   exact⟨(hs.2 p.1 ne).trans e,n,ne,nf,d⟩
 ·have hfn:X.fn x=true:=by
   rcases hf with z|z
   ·exact z
   ·rw[z] at hk;cases hk
  obtain⟨c,hc⟩:=I.ok.has x (.inl hk)
  obtain⟨w',z⟩:=I.cell x c hc
  refine wpAny_storeName_cell I.ok.kind hk hc z (λh' hc' hs=> ?_)
  obtain⟨oc,hoc,hocd⟩:=id z
  refine h {s with heap:=h' } ⟨I.ok,I.os,I.bare,⟨λb o e n hb hx=> ?_,λb o e n hb hx=> ?_,I.base.free,λb o e hx=> ?_,I.base.vU,I.base.t6,I.base.vV⟩,⟨m,hn.sameBut hs (GaZ (cne x c hc)),λj y v' e1 e2 e3=> ?_⟩,λy c' e=> ?_,I.free,I.lC,λp hp=> ?_,tracked ⟨oc,hoc,I.lC x c hc⟩ hs,by simpa using I.len⟩ ⟨c,hs,.inr hc⟩
  ·exact(hs.2 b (GaK (GaQ (Gat e) (I.ok.cab x c hfn hc)))).trans (I.base.keep b o e n hb hx)
  ·obtain⟨sl,e1⟩:=I.base.slot b o e n hb hx
   exact⟨sl,(hs.2 b (GaK (GaQ (Gat e) (I.ok.cab x c hfn hc)))).trans e1⟩
  ·obtain⟨o',e1⟩:=I.base.there b o e hx
   exact⟨o',(hs.2 b (GaK (GaQ (Gat e) (I.ok.cab x c hfn hc)))).trans e1⟩
  ·by_cases hj:j=i
   ·subst hj
    rw[hi] at e1;cases e1
    rw[GaT hiσ] at e2
    cases e2
    exact⟨u,r,.inr ⟨.inl hk,c,hc,hc'⟩⟩
   ·rw[Gab (GaZ hj)] at e2
    obtain⟨u',r',q⟩:=hl j y v' e1 e2 e3
    refine⟨u',r', ?_⟩
    rcases q with q| ⟨k,c',e,z'⟩
    ·exact .inl q
    ·refine .inr ⟨k,c',e,z'.sameBut hs ?_⟩
     rintro rfl
     exact hj (wa hN e1 (I.ok.inj _ _ _ e hc▸hi))
  ·by_cases hcc:c' =c
   ·subst hcc;exact⟨_,hc'⟩
   ·obtain⟨w2,z2⟩:=I.cell y c' e
    exact⟨w2,z2.sameBut hs hcc⟩
  ·obtain⟨e,n,ne,nf,d⟩:=I.pin p hp
   refine⟨(hs.2 p.1 ?_).trans e,n,ne,nf,d⟩
   intro q
   rw[q,hoc] at e
   have q' :oc=p.2:=Option.some.inj e
   exact d w' (by rw[←q'];exact hocd)
theorem wc{M:Model}{A:Around}{E:Value→Shared→Prop}{i:Nat}{x:Str}{v:V}{u:Value}{Q:Unit→Shared→Prop}(I:Inv X pins σ H s)(hN:X.N.Nodup)(hi:X.N[i]? =some x)(hx:Loc X.env.scope x)(r:RelV v u)
  (h:∀s',Inv X pins (σ.set i (some v)) H s' →Q () s')(hf:X.fn x=true∨X.env.scope.names.lookup x=some .local:=by first|exact .inl rfl|exact .inr rfl|assumption):wpAny M A (storeName X.env x u) Q E s:=
 CN I hN hi hx r (λs' I' _=>h s' I') hf
theorem Inv.Jc{s' :Shared}{ch:List Addr}(I:Inv X pins σ H s)(ho:s'.os=s.os)(u:Un (frs X.stack) ch H H' s.heap s'.heap)(hok:HOk X.prog X.w H' s'.heap)(hg:AllBare s'.gens)
  (hch:∀b∈ch,(b∈X.ex∨X.s₀.heap.objs.size≤b)∧b≠X.env.locals∧(∀x c,X.env.cells.lookup x=some c→c≠b)∧∀p∈X.pn++pins,p.1≠b):Inv X pins σ H' s' :=by
 obtain⟨h',g',d',t',o'⟩:=s'
 have e:o' =s.os:=ho
 subst e
 exact I.call (g' :=g') (t' :=t') (d' :=d') u hok hg hch
end
noncomputable abbrev XK:=Value→Option Addr→Hp→Prop
noncomputable abbrev St:=List (Option V)
noncomputable abbrev VK:=V→Hp→Prop
noncomputable abbrev TE:=St→Hp→VK→Prop
noncomputable abbrev TT:=St→Hp→(Bool→Hp→Prop)→Prop
noncomputable abbrev TA:=St→Hp→(List V→Hp→Prop)→Prop
structure Ends where
 nx:St→Hp→Prop
 rt:VK
 bk:St→Hp→Prop:=λ_ _=>False
 ct:St→Hp→Prop:=λ_ _=>False
noncomputable abbrev TS:=Ends→St→Hp→Prop
noncomputable def EP(X:Cx)(pins:List (Addr×Obj))(σ:St)(Q:VK)(u:Value)(s' :Shared):Prop:=∃v H',Inv X pins σ H' s' ∧RelV v u∧Q v H'
noncomputable def TP(X:Cx)(pins:List (Addr×Obj))(σ:St)(Q:Bool→Hp→Prop)(b:Bool)(s' :Shared):Prop:=∃H',Inv X pins σ H' s' ∧Q b H'
noncomputable def AP(X:Cx)(pins:List (Addr×Obj))(σ:St)(Q:List V→Hp→Prop)(us:List Value)(s' :Shared):Prop:=∃vs H',Inv X pins σ H' s' ∧Vals vs us∧Q vs H'
noncomputable def SP(X:Cx)(pins:List (Addr×Obj))(D:Ends)(f:Flow)(s' :Shared):Prop:=
 match f with
 | .next=>∃σ' H',Inv X pins σ' H' s' ∧D.nx σ' H'
 | .brk=>∃σ' H',Inv X pins σ' H' s' ∧D.bk σ' H'
 | .cont=>∃σ' H',Inv X pins σ' H' s' ∧D.ct σ' H'
 | .ret u=>∃v σ' H',Inv X pins σ' H' s' ∧RelV v u∧D.rt v H'
noncomputable def PE(X:Cx)(e:Expr)(t:TE):Prop:=
 ∀(pins:List (Addr×Obj)) (s:Shared) (σ:St) (H:Hp) (Q:VK),Inv X pins σ H s→t σ H Q→wpAny (model X.prog X.w) X.A (eval e X.env) (EP X pins σ Q) X.xe s
noncomputable def PT(X:Cx)(e:Expr)(t:TT):Prop:=
 ∀(pins:List (Addr×Obj)) (s:Shared) (σ:St) (H:Hp) (Q:Bool→Hp→Prop),Inv X pins σ H s→t σ H Q→wpAny (model X.prog X.w) X.A (isTrue e X.env (eval e X.env)) (TP X pins σ Q) X.xe s
noncomputable def PW(X:Cx)(e:Expr)(t:TT):Prop:=
 ∀(whole:Sem Value) (pins:List (Addr×Obj)) (s:Shared) (σ:St) (H:Hp) (Q:Bool→Hp→Prop),Inv X pins σ H s→t σ H Q→wpAny (model X.prog X.w) X.A (isTrue e X.env whole) (TP X pins σ Q) X.xe s
theorem PW.pt{X:Cx}{e:Expr}{t:TT}(h:PW X e t):PT X e t:=h _
noncomputable def PA(X:Cx)(es:List Expr)(t:TA):Prop:=
 ∀(pos:Pos) (pins:List (Addr×Obj)) (s:Shared) (σ:St) (H:Hp) (Q:List V→Hp→Prop),Inv X pins σ H s→t σ H Q→wpAny (model X.prog X.w) X.A (spliced (backTo pos (starEach es X.env))) (AP X pins σ Q) X.xe s
noncomputable def PS(X:Cx)(st:Stmt)(t:TS):Prop:=
 ∀(pins:List (Addr×Obj)) (s:Shared) (σ:St) (H:Hp) (D:Ends),Inv X pins σ H s→t D σ H→wpAny (model X.prog X.w) X.A (exec st X.env) (SP X pins D) X.xe s
noncomputable def PSs(X:Cx)(st:List Stmt)(t:TS):Prop:=
 ∀(pins:List (Addr×Obj)) (s:Shared) (σ:St) (H:Hp) (D:Ends),Inv X pins σ H s→t D σ H→wpAny (model X.prog X.w) X.A (execs st X.env) (SP X pins D) X.xe s
theorem thn{α:Type}{t:Sem α}{Q Q' :α→Shared→Prop}{M:Model}{A:Around}{E:Value→Shared→Prop}{s:Shared}(h:wpAny M A t Q E s)(hQ:∀a s,Q a s→Q' a s):wpAny M A t Q' E s:=GbX h hQ λ_ _ x=>x
section
variable{X:Cx}
noncomputable def LL(i:Nat):TE:=λσ H Q=>∃v,σ[i]? =some (some v)∧Q v H
noncomputable def tC(v:V):TE:=λ_ H Q=>Q v H
theorem lF{i:Nat}{x:Str}{pos:Pos}(hN:X.N[i]? =some x)(hv:Vis X.env.scope x)(hd:(x==("__debug__":Str))=false:=by decide)(hcd:(x==("__classdict__":Str))=false:=by decide):PE X (.Name x pos) (LL i):=by
 intro pins s σ H Q I h
 obtain⟨v,e,h⟩:=h
 obtain⟨m,hn,hl⟩:=I.loc
 obtain⟨u,r,l⟩:=hl i x v hN e hv
 have fin:EP X pins σ Q u s:=⟨v,H,I,r,h⟩
 rcases l with⟨hk,hm⟩| ⟨hk,c,hc,hcell⟩
 ·exact wpAny_Name (wpAny_loadName_local I.ok.kind hk hn hm fin) hd
 ·rcases hk with hk|hk
  ·exact wpAny_Name (wpAny_loadName_cell I.ok.kind hk hc hcell fin) hd
  ·exact wpAny_Name (wpAny_loadName_free I.ok.kind hk hc hcell fin hcd) hd
theorem Ep{i j pos}:PE X (.Constant (.int i) j pos) (tC (.int i)):=λ_ _ _ H _ I h=>wpAny_Constant_int ⟨.int i,H,I.tok _,⟨_,rfl⟩,h⟩
theorem LM{b j pos}:PE X (.Constant (.bool b) j pos) (tC (.bl b)):=λ_ _ _ H _ I h=>Constant_bool ⟨.bl b,H,I,rfl,h⟩
theorem Jy{j pos}:PE X (.Constant .none j pos) (tC .non):=λ_ _ _ H _ I h=>Constant_none ⟨.non,H,I,rfl,h⟩
theorem Jz{x j pos}:PE X (.Constant (.str x) j pos) (tC (.str x)):=λ_ _ _ H _ I h=>Calls.Constant_str ⟨.str x,H,I.tok _,⟨_,rfl⟩,h⟩
noncomputable def Gl(X:Cx)(x:Str):Prop:=X.env.kindOf x=some .globalImplicit
theorem Hb{E:Value→Shared→Prop}{pins:List (Addr×Obj)}{s:Shared}{σ:St}{H:Hp}{x:Str}{u:Value}{pos:Pos}{Q:Value→Shared→Prop}(I:Inv X pins σ H s)(hg:Gl X x)(hm:X.mg x=some u)(h:Q u s)
  (hd:(x==("__debug__":Str))=false:=by decide):wpAny (model X.prog X.w) X.A (eval (.Name x pos) X.env) Q E s:=
 Calls.Name_function_global I.ok.kind hg (Calls.loadGlobal_global (by rw[I.ok.glob];exact I.mod.glob.keeps I.bk) hm h) hd
theorem nJ{E:Value→Shared→Prop}{pins:List (Addr×Obj)}{s:Shared}{σ:St}{H:Hp}{x:Str}{u:Value}{pos:Pos}{Q:Value→Shared→Prop}(I:Inv X pins σ H s)(hg:Gl X x)(hm:X.mg x=none)(hv:bootBuiltins x=some u)(h:Q u s)
  (hn:x≠"__name__":=by decide)(hd:(x==("__debug__":Str))=false:=by decide):wpAny (model X.prog X.w) X.A (eval (.Name x pos) X.env) Q E s:=by
 obtain⟨mb,h1,h2⟩:=I.mod.blt
 exact Calls.Name_function_global I.ok.kind hg (Calls.loadGlobal_builtin (by rw[I.ok.glob];exact I.mod.glob.keeps I.bk) hm (by rw[I.ok.blt];exact h1.keeps I.bk) ((h2 x hn).trans hv) h) hd
theorem Hc{x:Str}{v:V}{u:Value}{pos:Pos}(hg:Gl X x)(hm:X.mg x=none)(hv:bootBuiltins x=some u)(r:RelV v u)(hn:x≠"__name__":=by decide)(hd:(x==("__debug__":Str))=false:=by decide):PE X (.Name x pos) (tC v):=
 λ_ _ _ H _ I h=>nJ I hg hm hv ⟨v,H,I,r,h⟩ hn hd
variable{a b:Expr}{ta tb:TE}{pos:Pos}
noncomputable def tB(t:TE):TT:=λσ H Q=>t σ H λx H1=>∃c,x= .bl c∧Q c H1
theorem JA{e:Expr}{t:TE}(h:PE X e t)(he:∀whole,isTrue e X.env whole=(do let v←whole;standAt e.pos;holding [v] (truthy v)):=by intro _;rfl):PT X e (tB t):=by
 intro pins s σ H Q I hw
 refine isTrue_plain (thn (h pins s σ H _ I hw) λv s1 ⟨x,H1,I1,r1,q1⟩=> ?_) (he _)
 obtain⟨d,rfl,q⟩:=q1
 cases r1
 exact GbG ⟨H1,I1,q⟩
variable{tA tB' :TT}{rest:List Expr}
noncomputable def O6(t u:TT):TT:=λσ H Q=>t σ H λc H1=>if c=true then u σ H1 Q else Q false H1
noncomputable def tOr(t u:TT):TT:=λσ H Q=>t σ H λc H1=>if c=true then Q true H1 else u σ H1 Q
noncomputable def O7(t:TT):TT:=λσ H Q=>t σ H λc H1=>Q (!c) H1
theorem He(ha:PT X a tA):PW X (.BoolOp .And [a] pos) tA:=by
 intro wh pins s σ H Q I h
 refine isTrue_and (thn (ha pins s σ H Q I h) λc s1 e=> ?_)
 cases c with
 |true=>exact isTrue_and_nil e
 |false=>exact e
theorem JB(ha:PT X a tA):PW X (.BoolOp .Or [a] pos) tA:=by
 intro wh pins s σ H Q I h
 refine isTrue_or (thn (ha pins s σ H Q I h) λc s1 e=> ?_)
 cases c with
 |false=>exact isTrue_or_nil e
 |true=>exact e
theorem JC(ha:PT X a tA)(hb:PW X (.BoolOp .And (b::rest) pos) tB'):PW X (.BoolOp .And (a::b::rest) pos) (O6 tA tB'):=by
 intro wh pins s σ H Q I h
 refine isTrue_and (thn (ha pins s σ H _ I h) λc s1 ⟨H1,I1,q1⟩=> ?_)
 cases c with
 |true=>exact hb wh pins s1 σ H1 Q I1 q1
 |false=>exact⟨H1,I1,q1⟩
theorem LN(ha:PT X a tA)(hb:PW X (.BoolOp .Or (b::rest) pos) tB'):PW X (.BoolOp .Or (a::b::rest) pos) (tOr tA tB'):=by
 intro wh pins s σ H Q I h
 refine isTrue_or (thn (ha pins s σ H _ I h) λc s1 ⟨H1,I1,q1⟩=> ?_)
 cases c with
 |true=>exact⟨H1,I1,q1⟩
 |false=>exact hb wh pins s1 σ H1 Q I1 q1
theorem JD(ha:PT X a tA):PT X (.UnaryOp .Not a pos) (O7 tA):=by
 intro pins s σ H Q I h
 exact isTrue_not (ha pins s σ H (λc H1=>Q (!c) H1) I h)
noncomputable def LP(ta tb:TE):TE:=λσ H Q=>ta σ H λx H1=>∃c,x= .bl c∧if c=true then tb σ H1 Q else Q (.bl false) H1
noncomputable def LQ(ta:TE):TE:=λσ H Q=>ta σ H λx H1=>∃c,x= .bl c∧Q (.bl (!c)) H1
theorem JE{op}{t:TE}(h:PE X a t):PE X (.BoolOp op [a] pos) t:=λpins s σ H Q I hw=>BoolOp_one (h pins s σ H Q I hw)
theorem JF(ha:PE X a ta)(hb:PE X (.BoolOp .And (b::rest) pos) tb):PE X (.BoolOp .And (a::b::rest) pos) (LP ta tb):=by
 intro pins s σ H Q I h
 refine BoolOp_and (thn (ha pins s σ H _ I h) λv s1 ⟨x,H1,I1,r1,q1⟩=> ?_)
 obtain⟨c,rfl,q1⟩:=q1
 cases r1
 refine GbG ?_
 cases c with
 |true=>exact hb pins s1 σ H1 Q I1 q1
 |false=>exact⟨.bl false,H1,I1,rfl,q1⟩
theorem JG(ha:PE X a ta):PE X (.UnaryOp .Not a pos) (LQ ta):=by
 intro pins s σ H Q I h
 refine UnaryOp_ (thn (ha pins s σ H _ I h) λv s1 ⟨x,H1,I1,r1,q1⟩=> ?_)
 obtain⟨c,rfl,q1⟩:=q1
 cases r1
 exact not_of (GbG ⟨.bl (!c),H1,I1,rfl,q1⟩)
noncomputable def tIf(t:TT)(ta tb:TE):TE:=λσ H Q=>t σ H λc H1=>if c=true then ta σ H1 Q else tb σ H1 Q
theorem Er{c:Expr}(hc:PT X c tA)(ha:PE X a ta)(hb:PE X b tb):PE X (.IfExp c a b pos) (tIf tA ta tb):=by
 intro pins s σ H Q I h
 refine wpAny_IfExp (thn (hc pins s σ H _ I h) λd s1 ⟨H1,I1,q1⟩=> ?_)
 cases d with
 |true=>exact ha pins s1 σ H1 Q I1 q1
 |false=>exact hb pins s1 σ H1 Q I1 q1
end
noncomputable def SqL(K:PySem.W.Frag)(H:Hp)(a:Addr)(xs:List V):Prop:=
 Rd H a (.lst xs)∨
  ∃(o:Obj) (its:Array Value) (n:Nat),K.lookup a=some o∧o.cls= .type "list"∧o.dict=none∧o.data= .seq its n∧its.size≤sizeLine∧Vals xs its.toList
noncomputable def SqT(K:PySem.W.Frag)(H:Hp)(a:Addr)(xs:List V):Prop:=
 Rd H a (.tup xs)∨
  ∃(o:Obj) (its:Array Value) (n:Nat),K.lookup a=some o∧o.cls= .type "tuple"∧o.data= .seq its n∧its.size≤sizeLine∧Vals xs its.toList
noncomputable def O8:Value→Option V
 | .none=>some .non
 | .bool b=>some (.bl b)
 | .int i _=>some (.int i)
 | .str x _=>some (.str x)
 | .bytes b _=>some (.byt b)
 | .float b _=>some (.flt b)
 | .ref a=>some (.ref a)
 | .type n=>some (.ty n)
 |_=>none
theorem RelV.abs{x:V}{u:Value}(r:RelV x u):O8 u=some x:=by
 cases x with
 |non=>cases r;rfl
 |bl _=>cases r;rfl
 |int _=>obtain⟨t,rfl⟩:=r;rfl
 |str _=>obtain⟨t,rfl⟩:=r;rfl
 |byt _=>obtain⟨t,rfl⟩:=r;rfl
 |flt _=>obtain⟨t,rfl⟩:=r;rfl
 |ref _=>cases r;rfl
 |ty _=>cases r;rfl
theorem RelV.inj{x y:V}{u:Value}(r:RelV x u)(q:RelV y u):x=y:=Option.some.inj (r.abs.symm.trans q.abs)
theorem Vals.inj:∀{xs ys:List V} {us:List Value},Vals xs us→Vals ys us→xs=ys
 |_,_,_,.nil,.nil=>rfl
 |_,_,_,.cons r t,.cons r' t' =>by rw[r.inj r',Vals.inj t t']
section
variable{X:Cx}{pins:List (Addr×Obj)}{σ:St}{H:Hp}{s:Shared}{a:Addr}{xs ys:List V}
theorem SqT.of{K:PySem.W.Frag}(h:H a=some (.tup xs)):SqT K H a xs:= .inl (.inl h)
theorem Inv.list(I:Inv X pins σ H s)(h:SqL X.K H a xs):∃its:List Value,Vals xs its∧PlainL s.heap a its.toArray∧xs.length≤sizeLine:=by
 rcases h with h| ⟨o,its,n,hk,hc,hd,hs,hz,r⟩
 ·obtain⟨z,its,n,r,e⟩:=h.ok I.hok
  exact⟨its,r,⟨_,n,e,rfl,rfl,rfl⟩,z⟩
 ·refine⟨its.toList,r,⟨o,n,I.kIn a o hk,hc,hd,by simpa using hs⟩, ?_⟩
  have e:=r.length
  simp only[GbI] at e
  omega
theorem Inv.tuple(I:Inv X pins σ H s)(h:SqT X.K H a xs):∃its:List Value,Vals xs its∧IsTup s.heap a its.toArray∧xs.length≤sizeLine:=by
 rcases h with h| ⟨o,its,n,hk,hc,hs,hz,r⟩
 ·obtain⟨z,its,r,p⟩:=h.ok I.hok
  exact⟨its,r,p,z⟩
 ·refine⟨its.toList,r,⟨o,I.kIn a o hk,hc,n,by simpa using hs⟩, ?_⟩
  have e:=r.length
  simp only[GbI] at e
  omega
theorem Inv.we(I:Inv X pins σ H s)(h:SqL X.K H a xs)(h' :SqL X.K H a ys):xs=ys:=by
 obtain⟨its,r,⟨o,n,e,_,_,d⟩,_⟩:=I.list h
 obtain⟨its',r',⟨o',n',e',_,_,d'⟩,_⟩:=I.list h'
 rw[e] at e';cases e'
 rw[d] at d'
 injection d' with d1 _
 have:its=its' :=by simpa using congrArg Array.toList d1
 subst this
 exact r.inj r'
theorem Inv.tQ(I:Inv X pins σ H s)(h:SqT X.K H a xs)(h' :SqT X.K H a ys):xs=ys:=by
 obtain⟨its,r,⟨o,e,_,n,d⟩,_⟩:=I.tuple h
 obtain⟨its',r',⟨o',e',_,n',d'⟩,_⟩:=I.tuple h'
 rw[e] at e';cases e'
 rw[d] at d'
 injection d' with d1 _
 have:its=its' :=by simpa using congrArg Array.toList d1
 subst this
 exact r.inj r'
end
noncomputable abbrev Cx.t7 (X:Cx) (E:Value→Shared→Prop):Cx:={X with xe:=E}
noncomputable abbrev Cx.nox (X:Cx):Cx:=X.t7 λ_ _=>False
theorem Cx.Ok.t7{X:Cx}(ok:X.Ok)(E:Value→Shared→Prop):(X.t7 E).Ok:=
 ⟨ok.mod,ok.kind,ok.glob,ok.blt,ok.above,ok.inj,ok.has,ok.cab,ok.hd,ok.frames,ok.stk,ok.exf,ok.bs,ok.bsz,ok.GY,ok.GZ,ok.qZ,ok.frf⟩
theorem Cx.Ok.lG{X:Cx}{E:Value→Shared→Prop}(ok:(X.t7 E).Ok):X.Ok:=
 ⟨ok.mod,ok.kind,ok.glob,ok.blt,ok.above,ok.inj,ok.has,ok.cab,ok.hd,ok.frames,ok.stk,ok.exf,ok.bs,ok.bsz,ok.GY,ok.GZ,ok.qZ,ok.frf⟩
section
variable{X:Cx}{pins:List (Addr×Obj)}{σ:St}{H:Hp}{s:Shared}{E:Value→Shared→Prop}
theorem Inv.t7(I:Inv X pins σ H s)(E:Value→Shared→Prop):Inv (X.t7 E) pins σ H s:=⟨I.ok.t7 E,I.os,I.bare,I.base,I.loc,I.cell,I.free,I.lC,I.pin,I.hok,I.len⟩
theorem Inv.lG(I:Inv (X.t7 E) pins σ H s):Inv X pins σ H s:=⟨I.ok.lG,I.os,I.bare,I.base,I.loc,I.cell,I.free,I.lC,I.pin,I.hok,I.len⟩
theorem SP.lG{D:Ends}{f:Flow}{s' :Shared}(h:SP (X.t7 E) pins D f s'):SP X pins D f s' :=by
 cases f with
 |next=>obtain⟨σ',H',I,q⟩:=h;exact⟨σ',H',I.lG,q⟩
 |brk=>obtain⟨σ',H',I,q⟩:=h;exact⟨σ',H',I.lG,q⟩
 |cont=>obtain⟨σ',H',I,q⟩:=h;exact⟨σ',H',I.lG,q⟩
 |ret u=>obtain⟨v,σ',H',I,r,q⟩:=h;exact⟨v,σ',H',I.lG,r,q⟩
theorem PSs.nox{st:List Stmt}{t:TS}(h:PSs X.nox st t):PSs X st t:=λpins s σ H D I hw=>
 GbX (h pins s σ H D (I.t7 _) hw) (λ_ _ q=>q.lG) λ_ _ z=>False.elim z
end
section
variable{X:Cx}{st:Stmt}{rest:List Stmt}{t u:TS}{e:Expr}{te:TE}{pos:Pos}
noncomputable def LR:TS:=λD σ H=>D.nx σ H
noncomputable def O9(t u:TS):TS:=λD σ H=>t {D with nx:=u D} σ H
theorem Hg:PSs X [] LR:=λ_ _ σ H _ I h=>Gdk ⟨σ,H,I,h⟩
theorem nZ(h1:PS X st t)(h2:PSs X rest u):PSs X (st::rest) (O9 t u):=by
 intro pins s σ H D I h
 refine wpAny_execs_cons (thn (h1 pins s σ H {D with nx:=u D} I h) λf s1 q=> ?_)
 cases f with
 |next=>
  obtain⟨σ',H',I',q⟩:=q
  exact h2 pins s1 σ' H' D I' q
 |ret v=>exact q
 |brk=>exact q
 |cont=>exact q
theorem uR(h1:PS X st t):PSs X [st] t:=by
 intro pins s σ H D I h
 refine wpAny_execs_cons (thn (h1 pins s σ H D I h) λf s1 q=> ?_)
 cases f with
 |next=>exact Gdk q
 |ret v=>exact q
 |brk=>exact q
 |cont=>exact q
noncomputable def JH:TS:=λD σ H=>D.bk σ H
theorem Es:PS X (.Break pos) JH:=λ_ _ σ H _ I h=>wpAny_Break ⟨σ,H,I,h⟩
theorem Inv.quiet{pins:List (Addr×Obj)}{σ:St}{H:Hp}{s:Shared}(I:Inv X pins σ H s):interactive X.env=false:=by simp[interactive,I.ok.kind]
noncomputable def LU(te:TE):TS:=λD σ H=>te σ H λ_ H1=>D.nx σ H1
theorem qO(he:PE X e te)(hs:swapsWith e none pos.line X.env=pure false:=by rfl):PS X (.Expr e pos) (LU te):=by
 intro pins s σ H D I h
 exact wpAny_Expr_any (thn (he pins s σ H _ I h) λv s1 ⟨x,H1,I1,r1,q1⟩=> ⟨σ,H1,I1,q1⟩) I.quiet hs
noncomputable def Oa(te:TE):TS:=λD σ H=>te σ H D.rt
theorem Et(he:PE X e te):PS X (.Return (some e) pos) (Oa te):=by
 intro pins s σ H D I h
 exact wpAny_Return_some (thn (he pins s σ H _ I h) λv s1 ⟨x,H1,I1,r1,q1⟩=> ⟨x,σ,H1,I1,r1,q1⟩)
noncomputable def Ob(c:TT)(t u:TS):TS:=λD σ H=>c σ H λb H1=>if b=true then t D σ H1 else u D σ H1
theorem LV{c:Expr}{a b:List Stmt}{tc:TT}(hc:PT X c tc)(ha:PSs X a t)(hb:PSs X b u):PS X (.If c a b pos) (Ob tc t u):=by
 intro pins s σ H D I h
 refine wpAny_If (thn (hc pins s σ H _ I h) λd s1 ⟨H1,I1,q1⟩=> ?_)
 cases d with
 |true=>exact ha pins s1 σ H1 D I1 q1
 |false=>exact hb pins s1 σ H1 D I1 q1
end
noncomputable abbrev TG:=V→St→Hp→(St→Hp→Prop)→Prop
noncomputable abbrev TGs:=List V→St→Hp→(St→Hp→Prop)→Prop
noncomputable def PG(X:Cx)(target:Expr)(t:TG):Prop:=
 ∀(pins:List (Addr×Obj)) (s:Shared) (σ:St) (H:Hp) (v:V) (u:Value) (Q:St→Hp→Prop),Inv X pins σ H s→RelV v u→t v σ H Q→
  wpAny (model X.prog X.w) X.A (assign target X.env u) (λ_ s' =>∃σ' H',Inv X pins σ' H' s' ∧Q σ' H') X.xe s
noncomputable def PGs(X:Cx)(ts:List Expr)(t:TGs):Prop:=
 ∀(pins:List (Addr×Obj)) (s:Shared) (σ:St) (H:Hp) (vs:List V) (us:List Value) (Q:St→Hp→Prop),Inv X pins σ H s→Vals vs us→t vs σ H Q→
  wpAny (model X.prog X.w) X.A (assignInOrder ((assignEach ts X.env).map (·.2)) us) (λ_ s' =>∃σ' H',Inv X pins σ' H' s' ∧Q σ' H') X.xe s
noncomputable abbrev Oc:=V→V→V→Hp→(Hp→Prop)→Prop
noncomputable def LW(X:Cx)(t:Oc):Prop:=
 ∀(pins:List (Addr×Obj)) (s:Shared) (σ:St) (H:Hp) (o i v:V) (ov iv u:Value) (Q:Hp→Prop),Inv X pins σ H s→RelV o ov→RelV i iv→RelV v u→t o i v H Q→
  wpAny (model X.prog X.w) X.A (setItem ov iv u) (λ_ s' =>∃H',Inv X pins σ H' s' ∧Q H') X.xe s
section
variable{X:Cx}{pos:Pos}
noncomputable def Jd(i:Nat):TG:=λv σ H Q=>Q (σ.set i (some v)) H
theorem BI{i:Nat}{x:Str}(hN:X.N.Nodup)(hi:X.N[i]? =some x)(hx:Loc X.env.scope x)(hf:X.fn x=true∨X.env.scope.names.lookup x=some .local:=by first|exact .inl rfl|exact .inr rfl|assumption):PG X (.Name x pos) (Jd i):=by
 intro pins s σ H v u Q I r h
 exact wpAny_assign_Name (wc I hN hi hx r (λs' I' => ⟨_,H,I',h⟩) hf)
noncomputable def Od:TGs:=λvs σ H Q=>vs=[]∧Q σ H
noncomputable def LX(t:TG)(u:TGs):TGs:=λvs σ H Q=>∃v r,vs=v::r∧t v σ H λσ' H' =>u r σ' H' Q
theorem Hh:PGs X [] Od:=by
 intro pins s σ H vs us Q I r h
 obtain⟨e,h⟩:=h
 subst e
 cases r
 exact assignInOrder_nil ⟨σ,H,I,h⟩
theorem Eu{e:Expr}{es:List Expr}{t:TG}{u:TGs}(h1:PG X e t)(h2:PGs X es u)
  (hs:(assignEach (e::es) X.env).map (·.2)=assign e X.env::(assignEach es X.env).map (·.2):=by rfl):PGs X (e::es) (LX t u):=by
 intro pins s σ H vs us Q I r h
 obtain⟨v,vr,e1,h⟩:=h
 subst e1
 cases r with
 |cons r rr=>
  rw[hs]
  refine assignInOrder_cons (thn (h1 pins s σ H _ _ _ I r h) λ_ s1 ⟨σ1,H1,I1,q1⟩=> ?_)
  exact h2 pins s1 σ1 H1 _ _ Q I1 rr q1
noncomputable def Oe(K:PySem.W.Frag)(n:Nat)(t:TGs):TG:=λv σ H Q=>∃a xs,v= .ref a∧SqT K H a xs∧xs.length=n∧t xs σ H Q
theorem JI{es:List Expr}{k:Nat}{t:TGs}{n:Nat}(hc:X.calm=true)(h:PGs X es t)
  (hn:(assignEach es X.env).length=n:=by rfl)(hst:(assignEach es X.env).findIdx? (·.1)=none:=by rfl):PG X (.Tuple es k pos) (Oe X.K n t):=by
 intro pins s σ H v u Q I r hw
 obtain⟨a,xs,e1,hq,hl,hw⟩:=hw
 subst e1
 cases r
 obtain⟨its,rv,ht,hz⟩:=I.tuple hq
 refine assign_Tuple_tuple (I.ok.hd hc) ht (by simp[hn,←hl,rv.length]) hst λh' hx=> ?_
 have I1:Inv X pins σ H {s with heap:=h' }:=I.kept (t' :=s.toks) λb o e=>hx b o (GaK (Gat e)) e
 exact h pins _ σ H xs _ Q I1 (by simpa using rv) hw
noncomputable def Of(te:TE)(g:TG):TS:=λD σ H=>te σ H λx H1=>g x σ H1 D.nx
theorem AQ{i:Nat}{x:Str}{e:Expr}{te:TE}{pos' :Pos}(hN:X.N.Nodup)(hi:X.N[i]? =some x)(hx:Loc X.env.scope x)(he:PE X e te)(hs:swapsWith e (some (.Name x pos')) pos.line X.env=pure false:=by rfl)(hf:X.fn x=true∨X.env.scope.names.lookup x=some .local:=by first|exact .inl rfl|exact .inr rfl|assumption):
  PS X (.Assign [.Name x pos'] e pos) (Of te (Jd i)):=by
 intro pins s σ H D I h
 refine wpAny_Assign_Name (thn (he pins s σ H _ I h) λv s1 ⟨y,H1,I1,r1,q1⟩=> ?_) hs
 exact wc I1 hN hi hx r1 (λs2 I2=> ⟨_,H1,I2,q1⟩) hf
end
section
variable{X:Cx}{pos:Pos}
noncomputable def JJ(c:TT)(tb:TS):TS:=λD σ H=>∃W:Nat→St→Hp→Prop,(∃m,W m σ H)∧∀m σ H,W m σ H→
 c σ H λb H1=>if b=true then∃N:St→Hp→Prop,(∀σ' H',N σ' H' →∃m',m' <m∧W m' σ' H')∧tb {D with nx:=N,ct:=N,bk:=D.nx} σ H1 else D.nx σ H1
theorem Ew{c:Expr}{body:List Stmt}{tc:TT}{tb:TS}(hp:PassesOwn (model X.prog X.w) X.A X.env X.xe)(hc:PT X c tc)(hb:PSs X body tb):PS X (.While c body [] pos) (JJ tc tb):=by
 intro pins s σ H D I h
 obtain⟨W,⟨m0,w0⟩,turn⟩:=h
 refine wpAny_While (codeAny_whileLoop (λn s' =>∃σ' H',Inv X pins σ' H' s' ∧W n σ' H') ?_ m0 ⟨σ,H,I,w0⟩)
 rintro n s1 ⟨σ1,H1,I1,w1⟩
 refine Gca hp (thn (hc pins s1 σ1 H1 _ I1 (turn n σ1 H1 w1)) λb s2 ⟨H2,I2,q2⟩=> ?_)
 cases b with
 |true=>
  obtain⟨N,hN,q2⟩:=q2
  rw[Gag rfl]
  refine Gca hp (thn (hb pins s2 σ1 H2 _ I2 q2) λf s3 q3=> ?_)
  cases f with
  |next=>
   obtain⟨σ3,H3,I3,n3⟩:=q3
   obtain⟨m',hm,w3⟩:=hN σ3 H3 n3
   exact⟨m',hm,σ3,H3,I3,w3⟩
  |cont=>
   obtain⟨σ3,H3,I3,n3⟩:=q3
   obtain⟨m',hm,w3⟩:=hN σ3 H3 n3
   exact⟨m',hm,σ3,H3,I3,w3⟩
  |brk=>exact q3
  |ret v=>exact q3
 |false=>
  rw[Gaj Gaz]
  exact Gdk ⟨σ1,H2,I2,q2⟩
end
structure It where
 go:Nat→Hp→Prop
 yld:Nat→Hp→V→Hp→Prop
 stop:Nat→Hp→Prop
noncomputable def nK(X:Cx)(pins:List (Addr×Obj))(H:Hp)(b:Addr):Prop:=
 H b=none∧b≠X.env.locals∧b∉X.fs∧(b∈X.ex∨X.s₀.heap.objs.size≤b)∧(∀x c,X.env.cells.lookup x=some c→c≠b)∧∀p∈X.pn++pins,p.1≠b
theorem Inv.CO{X:Cx}{pins:List (Addr×Obj)}{σ:St}{H H' :Hp}{s:Shared}{b:Addr}(I:Inv X pins σ H s)(hb:s.heap.objs.size≤b)(hn:H' b=none):nK X pins H' b:=by
 refine⟨hn,Gco (GaQ I.lt hb),I.O5 hb,.inr (Gbw I.sz hb),λx c e z=> ?_,λp hp z=> ?_⟩
 ·obtain⟨v,q⟩:=I.cell x c e
  exact absurd (GaQ q.lt (by rw[z];exact hb)) (Gbj _)
 ·exact absurd (GaQ (Gat (I.pin p hp).1) (by rw[z];exact hb)) (Gbj _)
structure Turn(P:Program)(w:World)(K:PySem.W.Frag)(tg:Expr)(J:It)(fp:List Addr)(it:Addr)(tn:Nat→Heap→Prop):Prop where
 mem:it∈fp
 obj:∀i h,tn i h→∀b∈fp,∃o,h.get? b=some o∧∀v,o.data≠ .cell v
 keep:∀i h h',tn i h→(∀b∈fp,∀o,h.get? b=some o→h'.get? b=some o)→tn i h'
 item:∀(X:Cx),X.prog=P→X.w=w→X.K=K→X.calm=true→∀(i:Nat) (pins:List (Addr×Obj)) (s:Shared) (σ:St) (H:Hp) (E:Value→Shared→Prop),Inv X pins σ H s→(∀b∈fp,nK X pins H b)→tn i s.heap→J.go i H→
  wpAny (model P w) X.A (pyNext (.ref it)) (λr s1=>∃u,r=some u∧
   wpAny (model P w) X.A (letOwnedTupleGo tg (.ref it) u) (λ_ s2=>∃x H',Inv X pins σ H' s2∧RelV x u∧J.yld i H x H' ∧tn (i+1) s2.heap∧∀b∈fp,H' b=none) E s1) E s
 done:∀(X:Cx),X.prog=P→X.w=w→X.K=K→X.calm=true→∀(i:Nat) (pins:List (Addr×Obj)) (s:Shared) (σ:St) (H:Hp) (E:Value→Shared→Prop),Inv X pins σ H s→(∀b∈fp,nK X pins H b)→tn i s.heap→J.stop i H→
  wpAny (model P w) X.A (pyNext (.ref it)) (λr s1=>r=none∧Inv X pins σ H s1) E s
 self:∀(A:Around) (i:Nat) (s:Shared) (Q:Value→Shared→Prop) (E:Value→Shared→Prop),tn i s.heap→Q (.ref it) s→wpAny (model P w) A (pyIter (.ref it)) Q E s
noncomputable abbrev TI:=St→Hp→(It→Hp→Prop)→Prop
noncomputable def PIE(X:Cx)(pins:List (Addr×Obj))(σ:St)(tg:Expr)(R:It→Hp→Prop)(itv:Value)(s2:Shared):Prop:=
 ∃(it:Addr) (fp:List Addr) (tn:Nat→Heap→Prop) (J:It) (H' :Hp),itv= .ref it∧Inv X pins σ H' s2∧Turn X.prog X.w X.K tg J fp it tn∧tn 0 s2.heap∧(∀b∈fp,nK X pins H' b)∧R J H'
noncomputable def PI(X:Cx)(tg iter:Expr)(wi:TI):Prop:=
 ∀(pins:List (Addr×Obj)) (s:Shared) (σ:St) (H:Hp) (R:It→Hp→Prop),Inv X pins σ H s→wi σ H R→
  wpAny (model X.prog X.w) X.A (eval iter X.env) (λv s1=>wpAny (model X.prog X.w) X.A (pyIter v) (PIE X pins σ tg R) X.xe s1) X.xe s
theorem Ex{M:Model}{A:Around}{E:Value→Shared→Prop}{s:Shared}{tg:Expr}{it:Addr}{u:Value}{o:Obj}{n:String}{vs:Array Value}{Q:Unit→Shared→Prop}(ho:s.heap.get? it=some o)(hc:o.cls= .type n)(hd:o.data= .fields vs)
  (hn:["enumerate","zip","dict_itemiterator","dict_reverseitemiterator","odict_iterator","itertools.zip_longest","itertools.pairwise"].contains n=false)(hQ:Q () s):wpAny M A (letOwnedTupleGo tg (.ref it) u) Q E s:=by
 unfold letOwnedTupleGo
 cases tg<;>first
  |exact Gao hQ
  |(cases u<;>first
    |exact Gao hQ
    |(refine Gac (wpAny_load ho ?_)
      rw[hc,hd]
      show wpAny M A (if(["enumerate","zip","dict_itemiterator","dict_reverseitemiterator","odict_iterator","itertools.zip_longest","itertools.pairwise"].contains n&&vs[0]? ==some (rawInt _))=true then _ else _) Q E s
      rw[Gaj (by intro h;rw[hn,Bool.false_and] at h;cases h)]
      exact Gao hQ))
noncomputable def Itl(K:PySem.W.Frag)(a:Addr):It:=
 ⟨λi H=>∃xs x,SqL K H a xs∧xs[i]? =some x,λi H x H' =>H' =H∧∀xs,SqL K H a xs→xs[i]? =some x,λi H=>∃xs,SqL K H a xs∧xs.length≤i⟩
noncomputable def Itt(K:PySem.W.Frag)(a:Addr):It:=
 ⟨λi H=>∃xs x,SqT K H a xs∧xs[i]? =some x,λi H x H' =>H' =H∧∀xs,SqT K H a xs→xs[i]? =some x,λi H=>∃xs,SqT K H a xs∧xs.length≤i⟩
noncomputable def Itr(lo:Int)(n:Nat):It:=⟨λi _=>i<n,λi H x H' =>H' =H∧x= .int (lo+i),λi _=>n≤i⟩
theorem CP{P:Program}{w:World}{K:PySem.W.Frag}{tg:Expr}(a it:Addr):Turn P w K tg (Itl K a) [it] it (λi h=>h.IsListIter it a i) where
 mem:=by simp
 obj:=λi h st b hb=>by
  have e:b=it:=by simpa using hb
  subst e
  obtain⟨o,e,c,d⟩:=st
  exact⟨o,e,λv z=>by rw[d] at z;cases z⟩
 keep:=λi h h' st k=>st.at λo e=>k it (by simp) o e
 item:=by
  intro X hP hw hK hc i pins s σ H E I hf st hg
  subst hP hw hK
  obtain⟨xs,x,hq,hx⟩:=hg
  obtain⟨its,rv,p,hz⟩:=I.list hq
  obtain⟨u,hu,ru⟩:=rv.get hx
  obtain⟨f0,f1,f2,f3,f4,f5⟩:=hf it (by simp)
  refine wpAny_pyNext_list_item st p.isList (x:=u) (by simpa using hu) λh' st' sb=> ?_
  have I1:Inv X pins σ H {s with heap:=h' }:=I.turned (t' :=s.toks) (λb o hb e=>(sb.2 b hb).trans e) f0 f1 f3 f4 f5
  obtain⟨o,e,c,d⟩:=id st'
  exact⟨u,rfl,Ex (s:={s with heap:=h' }) e c d (by decide) ⟨x,H,I1,ru,⟨rfl,λys hy=>by rw[I.we hy hq];exact hx⟩,st',λb hb=>(hf b hb).1⟩⟩
 done:=by
  intro X hP hw hK hc i pins s σ H E I hf st hg
  subst hP hw hK
  obtain⟨xs,hq,hx⟩:=hg
  obtain⟨its,rv,p,hz⟩:=I.list hq
  obtain⟨f0,f1,f2,f3,f4,f5⟩:=hf it (by simp)
  have hl:=rv.length
  exact wpAny_pyNext_list_end (I.ok.hd hc) st p.isList (by simp;omega) λh' eb=> ⟨rfl,I.turned (t' :=s.toks) (λb o hb e=>eb b o hb e) f0 f1 f3 f4 f5⟩
 self:=λ_ _ _ _ _ st h=>wpAny_pyIter_listiter st h
theorem AR{P:Program}{w:World}{K:PySem.W.Frag}{tg:Expr}(a it:Addr):Turn P w K tg (Itt K a) [it] it (λi h=>h.IsTupleIter it a i) where
 mem:=by simp
 obj:=λi h st b hb=>by
  have e:b=it:=by simpa using hb
  subst e
  obtain⟨o,e,c,d⟩:=st
  exact⟨o,e,λv z=>by rw[d] at z;cases z⟩
 keep:=λi h h' st k=>st.at λo e=>k it (by simp) o e
 item:=by
  intro X hP hw hK hc i pins s σ H E I hf st hg
  subst hP hw hK
  obtain⟨xs,x,hq,hx⟩:=hg
  obtain⟨its,rv,p,hz⟩:=I.tuple hq
  obtain⟨u,hu,ru⟩:=rv.get hx
  obtain⟨f0,f1,f2,f3,f4,f5⟩:=hf it (by simp)
  refine wpAny_pyNext_tuple_item st (show s.heap.IsTuple a its.toArray from p) (x:=u) (by simpa using hu) λh' st' sb=> ?_
  have I1:Inv X pins σ H {s with heap:=h' }:=I.turned (t' :=s.toks) (λb o hb e=>(sb.2 b hb).trans e) f0 f1 f3 f4 f5
  obtain⟨o,e,c,d⟩:=id st'
  exact⟨u,rfl,Ex (s:={s with heap:=h' }) e c d (by decide) ⟨x,H,I1,ru,⟨rfl,λys hy=>by rw[I.tQ hy hq];exact hx⟩,st',λb hb=>(hf b hb).1⟩⟩
 done:=by
  intro X hP hw hK hc i pins s σ H E I hf st hg
  subst hP hw hK
  obtain⟨xs,hq,hx⟩:=hg
  obtain⟨its,rv,p,hz⟩:=I.tuple hq
  obtain⟨f0,f1,f2,f3,f4,f5⟩:=hf it (by simp)
  have hl:=rv.length
  exact wpAny_pyNext_tuple_end (I.ok.hd hc) st (show s.heap.IsTuple a its.toArray from p) (by simp;omega) λh' eb=> ⟨rfl,I.turned (t' :=s.toks) (λb o hb e=>eb b o hb e) f0 f1 f3 f4 f5⟩
 self:=λ_ _ _ _ _ st h=>wpAny_pyIter_tupleiter st h
theorem AS{P:Program}{w:World}{K:PySem.W.Frag}{tg:Expr}(it:Addr)(lo:Int)(n:Nat):Turn P w K tg (Itr lo n) [it] it (λi h=>IsRangeIter h it (lo+(i:Nat)*1) ((n:Int)-(i:Nat)) 1) where
 mem:=by simp
 obj:=λi h st b hb=>by
  have e:b=it:=by simpa using hb
  subst e
  exact⟨_,st,λv z=>by
   have z' :Data.fields _=Data.cell v:=z
   cases z'⟩
 keep:=λi h h' st k=>k it (by simp) _ st
 item:=by
  intro X hP hw hK hc i pins s σ H E I hf st hg
  subst hP hw hK
  obtain⟨f0,f1,f2,f3,f4,f5⟩:=hf it (by simp)
  have W:=Walks.range (prog:=X.prog) (w:=X.w) (I.ok.hd hc) it lo 1 n
  refine W.item i s _ _ hg st λv h' tk hv st' kk=> ?_
  obtain⟨t,rfl⟩:=hv
  have I1:Inv X pins σ H {s with heap:=h',toks:=tk}:=I.turned (λb o hb e=>kk b o (by simpa using hb) e) f0 f1 f3 f4 f5
  refine⟨_,rfl,Ex (s:={s with heap:=h',toks:=tk}) (n:="range_iterator") st' rfl rfl (by decide) ⟨.int (lo+i),H,I1,⟨t, ?_⟩,⟨rfl,rfl⟩,st',λb hb=>(hf b hb).1⟩⟩
  rw[Int.mul_one]
 done:=by
  intro X hP hw hK hc i pins s σ H E I hf st hg
  subst hP hw hK
  obtain⟨f0,f1,f2,f3,f4,f5⟩:=hf it (by simp)
  exact wpAny_pyNext_range_end (I.ok.hd hc) st (by have:n≤i:=hg;omega) λh' eb=> ⟨rfl,I.turned (t' :=s.toks) (λb o hb e=>eb b o hb e) f0 f1 f3 f4 f5⟩
 self:=λ_ _ _ _ _ st h=>wpAny_pyIter_rangeiter st h
section
variable{X:Cx}{tg:Expr}
theorem lH{pins:List (Addr×Obj)}{σ:St}{H:Hp}{s:Shared}{R:It→Hp→Prop}{E:Value→Shared→Prop}{lo hi:Int}{t u v:Tok}{tk:Nat}(I:Inv X pins σ H s)(h1: -(2^62)≤lo)(h2:lo<2^62)(h3: -(2^62)≤hi)(h4:hi<2^62)
  (q:R (Itr lo (hi -lo).toNat) H):wpAny (model X.prog X.w) X.A (pyIter (.ref s.heap.objs.size)) (PIE X pins σ tg R) E {s with heap:=s.heap.push {cls:= .type "range",data:= .fields #[.int lo t,.int hi u,.int 1 v]},toks:=tk}:=by
 refine wpAny_pyIter_range (IsRange.new ..) (small_one h1 h2 h3 h4) ?_
 have I1:Inv X pins σ H {s with heap:=s.heap.push {cls:= .type "range",data:= .fields #[.int lo t,.int hi u,.int 1 v]},toks:=tk}:=I.kept λb o e=>Gaf _ e
 refine⟨(s.heap.push {cls:= .type "range",data:= .fields #[.int lo t,.int hi u,.int 1 v]}).objs.size,[(s.heap.push {cls:= .type "range",data:= .fields #[.int lo t,.int hi u,.int 1 v]}).objs.size],_,_,H,rfl,
  I1.kept (t' :=tk) λb o e=>Gaf _ e,AS _ lo (hi -lo).toNat, ?_,λb hb=> ?_,q⟩
 ·have e1:lo+((0:Nat):Int)*1=lo:=by simp
  have e2:(((hi -lo).toNat:Nat):Int)-((0:Nat):Int)=Builtin.Range.rangeSize lo hi 1:=by rw[rangeSize_one];split<;>omega
  show IsRangeIter _ _ (lo+((0:Nat):Int)*1) ((((hi -lo).toNat:Nat):Int)-((0:Nat):Int)) 1
  rw[e1,e2]
  exact GaA _ rfl
 ·have e:b=(s.heap.push {cls:= .type "range",data:= .fields #[.int lo t,.int hi u,.int 1 v]}).objs.size:=by simpa using hb
  subst e
  exact I1.CO (Gaq _) (I1.hok.fresh (Gaq _))
noncomputable def LY(ta:TA):TI:=λσ H R=>ta σ H λvs H1=>∃j:Int,vs=[.int j]∧-(2^62)≤j∧j<2^62∧R (Itr 0 j.toNat) H1
noncomputable def LZ(ta:TA):TI:=λσ H R=>ta σ H λvs H1=>∃i j:Int,vs=[.int i,.int j]∧(-(2^62)≤i∧i<2^62∧-(2^62)≤j∧j<2^62)∧R (Itr i (j -i).toNat) H1
theorem CQ{a:Expr}{ta:TA}{p pos:Pos}(hg:Gl X "range")(hm:X.mg "range"=none)(ha:PA X [a] ta)(hs:starEach [a] X.env=[(false,eval a X.env)]:=by rfl):PI X tg (.Call (.Name "range" p) [a] [] pos) (LY ta):=by
 intro pins s σ H R I h
 refine Call_ (nJ I hg hm boot_range (GbY (thn (ha pos pins s σ H _ I h) λus s1 ⟨vs,H1,I1,r1,q1⟩=> ?_) hs rfl))
 obtain⟨j,e,q1,q2,q⟩:=q1
 subst e
 cases r1 with
 |cons r rr=>
  cases rr
  obtain⟨t,rfl⟩:=r
  exact call_range_1 (lH I1 (by omega) (by omega) q1 q2 (by simpa using q))
theorem CT{a b:Expr}{ta:TA}{p pos:Pos}(hg:Gl X "range")(hm:X.mg "range"=none)(ha:PA X [a,b] ta)(hs:starEach [a,b] X.env=[(false,eval a X.env),(false,eval b X.env)]:=by rfl)(hs2:starEach [b] X.env=[(false,eval b X.env)]:=by rfl):
  PI X tg (.Call (.Name "range" p) [a,b] [] pos) (LZ ta):=by
 intro pins s σ H R I h
 refine Call_ (nJ I hg hm boot_range (GbY (thn (ha pos pins s σ H _ I h) λus s1 ⟨vs,H1,I1,r1,q1⟩=> ?_) (by rw[hs,hs2]) (by rw[hs2];rfl)))
 obtain⟨i,j,e,⟨q1,q2,q3,q4⟩,q⟩:=q1
 subst e
 cases r1 with
 |cons r rr=>
  cases rr with
  |cons r' rr=>
   cases rr
   obtain⟨t,rfl⟩:=r
   obtain⟨t',rfl⟩:=r'
   exact call_range_2 (lH I1 q1 q2 q3 q4 q)
noncomputable def Og(wi:TI)(g:TG)(tb:TS):TS:=λD σ H=>wi σ H λJ H1=>∃W:Nat→Nat→St→Hp→Prop,(∃m,W 0 m σ H1)∧∀i m σ H,W i m σ H→
 (J.stop i H∧D.nx σ H)∨(J.go i H∧∃N:St→Hp→Prop,(∀σ' H',N σ' H' →∃m',m' <m∧W (i+1) m' σ' H')∧∀x H',J.yld i H x H' →g x σ H' λσ2 H2=>tb {D with nx:=N,ct:=N,bk:=D.nx} σ2 H2)
noncomputable def r6(fp:List Addr)(h:Heap):List (Addr×Obj):=fp.filterMap λb=>(h.get? b).map λo=>(b,o)
theorem kB{fp:List Addr}{h:Heap}{b:Addr}{o:Obj}(hb:b∈fp)(e:h.get? b=some o):(b,o)∈r6 fp h:=List.mem_filterMap.mpr ⟨b,hb,by rw[e];rfl⟩
theorem CU{fp:List Addr}{h:Heap}{p:Addr×Obj}(hp:p∈r6 fp h):p.1∈fp∧h.get? p.1=some p.2:=by
 obtain⟨b,hb,e⟩:=List.mem_filterMap.mp hp
 cases q:h.get? b with
 |none=>rw[q] at e;cases e
 |some o=>
  rw[q] at e
  have e' :(b,o)=p:=Option.some.inj e
  subst e'
  exact⟨hb,q⟩
theorem Inv.pinned{pins:List (Addr×Obj)}{σ:St}{H:Hp}{s:Shared}{fp:List Addr}(I:Inv X pins σ H s)(hf:∀b∈fp,nK X pins H b)(ho:∀b∈fp,∃o,s.heap.get? b=some o∧∀v,o.data≠ .cell v):Inv X (pins++r6 fp s.heap) σ H s:=
 I.BH λp hp=>(Gav.mp hp).elim (λz=>I.pin p (Gba _ z)) λz=>by
  obtain⟨hb,e⟩:=CU z
  obtain⟨f0,f1,f2,_⟩:=hf p.1 hb
  obtain⟨o,e',d⟩:=ho p.1 hb
  rw[e] at e';cases e'
  exact⟨e,f0,f1,f2,d⟩
theorem Inv.o4{pins pl:List (Addr×Obj)}{σ:St}{H:Hp}{s:Shared}(I:Inv X (pins++pl) σ H s):Inv X pins σ H s:=I.BH λp hp=>I.pin p (Gba _ (Gci _ hp))
theorem Ey{iter:Expr}{body:List Stmt}{wi:TI}{g:TG}{tb:TS}{pos:Pos}(hp:PassesOwn (model X.prog X.w) X.A X.env X.xe)(hc:X.calm=true)(hi:PI X tg iter wi)(hg:PG X tg g)(hb:PSs X body tb)
  (hs:∀x,foldedSetIterable iter X.env x=pure x:=by intro _;rfl):PS X (.For tg iter body [] pos) (Og wi g tb):=by
 intro pins s σ H D I h
 refine wpAny_For (thn (hi pins s σ H _ I h) λv s1 h1=>thn h1 λitv s2 h2=> ?_) hs
 obtain⟨it,fp,tn,J,H2,e,I2,T,st2,f2,W,⟨m0,w0⟩,turn⟩:=h2
 subst e
 have stat:∀{H' :Hp},(∀b∈fp,H' b=none)→∀b∈fp,nK X pins H' b:=λhn b hb=> ⟨hn b hb,(f2 b hb).2⟩
 refine codeAny_forLoop_any (λn s' =>∃i σ' H',Inv X pins σ' H' s' ∧tn i s'.heap∧(∀b∈fp,H' b=none)∧W i n σ' H') ?_ m0 ⟨0,σ,H2,I2,st2,λb hb=>(f2 b hb).1,w0⟩
 rintro n s3 ⟨i,σ3,H3,I3,st3,fr3,w3⟩
 rcases turn i n σ3 H3 w3 with⟨stop,qn⟩| ⟨go,N,hN,step⟩
 ·refine Gca hp (thn (T.done X rfl rfl rfl hc i pins s3 σ3 H3 X.xe I3 (stat fr3) st3 stop) λr s4 ⟨hr,I4⟩=> ?_)
  subst hr
  exact Gdk ⟨σ3,H3,I4,qn⟩
 ·refine Gca hp (thn (T.item X rfl rfl rfl hc i pins s3 σ3 H3 X.xe I3 (stat fr3) st3 go) λr s4 ⟨u,hr,h4⟩=> ?_)
  subst hr
  refine Gca hp (thn h4 λ_ s5 ⟨x,H5,I5,r5,y5,st5,fr5⟩=> ?_)
  have I5' :=I5.pinned (stat fr5) (T.obj _ _ st5)
  refine Gca hp (thn (hg _ s5 σ3 H5 x u _ I5' r5 (step x H5 y5)) λ_ s6 ⟨σ6,H6,I6,q6⟩=> ?_)
  refine Gca hp (thn (hb _ s6 σ6 H6 _ I6 q6) λf s7 q7=> ?_)
  have again:∀{σ7:St} {H7:Hp},Inv X (pins++r6 fp s5.heap) σ7 H7 s7→N σ7 H7→∃m,m<n∧∃i σ' H',Inv X pins σ' H' s7∧tn i s7.heap∧(∀b∈fp,H' b=none)∧W i m σ' H' :=λ{σ7 H7} I7 n7=>by
   obtain⟨m',hm,w7⟩:=hN σ7 H7 n7
   refine⟨m',hm,i+1,σ7,H7,I7.o4,T.keep _ _ _ st5 λb hb o e=>(I7.pin (b,o) (Gba _ (Gba _ (kB hb e)))).1,λb hb=> ?_,w7⟩
   obtain⟨o,e,d⟩:=T.obj _ _ st5 b hb
   exact(I7.pin (b,o) (Gba _ (Gba _ (kB hb e)))).2.1
  cases f with
  |next=>obtain⟨σ7,H7,I7,n7⟩:=q7;exact again I7 n7
  |cont=>obtain⟨σ7,H7,I7,n7⟩:=q7;exact again I7 n7
  |brk=>obtain⟨σ7,H7,I7,q7⟩:=q7;exact⟨σ7,H7,I7.o4,q7⟩
  |ret v=>obtain⟨x7,σ7,H7,I7,r7,q7⟩:=q7;exact⟨x7,σ7,H7,I7.o4,r7,q7⟩
end
noncomputable abbrev R2:=V→V→Hp→VK→Prop
noncomputable def OpR(X:Cx)(f:Value→Value→Sem Value)(r:R2):Prop:=
 ∀(pins:List (Addr×Obj)) (s:Shared) (σ:St) (H:Hp) (x y:V) (v u:Value) (Q:VK),Inv X pins σ H s→RelV x v→RelV y u→r x y H Q→
  wpAny (model X.prog X.w) X.A (f v u) (EP X pins σ Q) X.xe s
noncomputable def UnR(X:Cx)(f:Value→Sem Value)(r:V→Hp→VK→Prop):Prop:=
 ∀(pins:List (Addr×Obj)) (s:Shared) (σ:St) (H:Hp) (x:V) (v:Value) (Q:VK),Inv X pins σ H s→RelV x v→r x H Q→
  wpAny (model X.prog X.w) X.A (f v) (EP X pins σ Q) X.xe s
noncomputable def gY(X:Cx)(f:Value)(r:List V→Hp→VK→Prop):Prop:=
 ∀(pins:List (Addr×Obj)) (s:Shared) (σ:St) (H:Hp) (xs:List V) (us:List Value) (Q:VK),Inv X pins σ H s→Vals xs us→r xs H Q→
  wpAny (model X.prog X.w) X.A (call f us) (EP X pins σ Q) X.xe s
noncomputable def tOp(r:R2)(ta tb:TE):TE:=λσ H Q=>ta σ H λx H1=>tb σ H1 λy H2=>r x y H2 Q
noncomputable def tUn(r:V→Hp→VK→Prop)(ta:TE):TE:=λσ H Q=>ta σ H λx H1=>r x H1 Q
noncomputable def rI(C:Int→Int→Prop)(g:Int→Int→V):R2:=λx y H Q=>∃i j,x= .int i∧y= .int j∧C i j∧Q (g i j) H
noncomputable def rI0(g:Int→Int→V):R2:=λx y H Q=>∃i j,x= .int i∧y= .int j∧Q (g i j) H
noncomputable def rU(g:Int→V):V→Hp→VK→Prop:=λx H Q=>∃i,x= .int i∧Q (g i) H
section
variable{X:Cx}{a b c:Expr}{ta tb tc:TE}{pos:Pos}
theorem JK(ha:PE X a ta)(hb:PE X b tb){pins:List (Addr×Obj)}{s:Shared}{σ:St}{H:Hp}{R:V→V→Hp→Prop}(I:Inv X pins σ H s)
  (h:ta σ H λx H1=>tb σ H1 λy H2=>R x y H2){Q:Value→Shared→Prop}{f:Value→Value→Sem Value}
  (hf:∀v u s2 x y H2,Inv X pins σ H2 s2→RelV x v→RelV y u→R x y H2→wpAny (model X.prog X.w) X.A (f v u) Q X.xe s2):
  wpAny (model X.prog X.w) X.A (eval a X.env) (λv s₁=>wpAny (model X.prog X.w) X.A (eval b X.env) (λu s₂=>wpAny (model X.prog X.w) X.A (f v u) Q X.xe s₂) X.xe s₁) X.xe s:=by
 refine thn (ha pins s σ H _ I h) λv s1 ⟨x,H1,I1,r1,q1⟩=> ?_
 refine thn (hb pins s1 σ H1 _ I1 q1) λu s2 ⟨y,H2,I2,r2,q2⟩=> ?_
 exact hf v u s2 x y H2 I2 r1 r2 q2
theorem M0{op:Operator}{r:R2}(ho:OpR X (binaryOp op) r)(ha:PE X a ta)(hb:PE X b tb):PE X (.BinOp a op b pos) (tOp r ta tb):=by
 intro pins s σ H Q I h
 exact wpAny_BinOp (JK ha hb I h λv u s2 x y H2 I2 rx ry q=>ho pins s2 σ H2 x y v u Q I2 rx ry q)
theorem M1{op:UnaryOp}{r:V→Hp→VK→Prop}(ho:UnR X (unaryOp op) r)(ha:PE X a ta):PE X (.UnaryOp op a pos) (tUn r ta):=by
 intro pins s σ H Q I h
 exact UnaryOp_ (thn (ha pins s σ H _ I h) λv s1 ⟨x,H1,I1,r1,q1⟩=>ho pins s1 σ H1 x v Q I1 r1 q1)
theorem opI{f:Value→Value→Sem Value}{C:Int→Int→Prop}{g:Int→Int→Int}
  (rule:∀(i j:Int) (t u:Tok) (s:Shared) (Q:Value→Shared→Prop) (E:Value→Shared→Prop),C i j→Q (.int (g i j) s.toks) {s with toks:=s.toks+1}→wpAny (model X.prog X.w) X.A (f (.int i t) (.int j u)) Q E s):
  OpR X f (rI C λi j=> .int (g i j)):=by
 intro pins s σ H x y v u Q I rx ry h
 obtain⟨i,j,rfl,rfl,hc,q⟩:=h
 obtain⟨t,rfl⟩:=rx
 obtain⟨t',rfl⟩:=ry
 exact rule i j t t' s _ _ hc ⟨.int (g i j),H,I.tok _,⟨_,rfl⟩,q⟩
theorem M3{f:Value→Value→Sem Value}{g:Int→Int→Int}
  (rule:∀(i j:Int) (t u:Tok) (s:Shared) (Q:Value→Shared→Prop) (E:Value→Shared→Prop),Q (.int (g i j) s.toks) {s with toks:=s.toks+1}→wpAny (model X.prog X.w) X.A (f (.int i t) (.int j u)) Q E s):
  OpR X f (rI0 λi j=> .int (g i j)):=by
 intro pins s σ H x y v u Q I rx ry h
 obtain⟨i,j,rfl,rfl,q⟩:=h
 obtain⟨t,rfl⟩:=rx
 obtain⟨t',rfl⟩:=ry
 exact rule i j t t' s _ _ ⟨.int (g i j),H,I.tok _,⟨_,rfl⟩,q⟩
theorem Hj{f:Value→Value→Sem Value}{g:Int→Int→Bool}
  (rule:∀(i j:Int) (t u:Tok) (s:Shared) (Q:Value→Shared→Prop) (E:Value→Shared→Prop),Q (.bool (g i j)) s→wpAny (model X.prog X.w) X.A (f (.int i t) (.int j u)) Q E s):
  OpR X f (rI0 λi j=> .bl (g i j)):=by
 intro pins s σ H x y v u Q I rx ry h
 obtain⟨i,j,rfl,rfl,q⟩:=h
 obtain⟨t,rfl⟩:=rx
 obtain⟨t',rfl⟩:=ry
 exact rule i j t t' s _ _ ⟨.bl (g i j),H,I,rfl,q⟩
noncomputable def M4(i j:Int):Prop:=0<j∧j<1073741824
noncomputable def M5(i j:Int):Prop:=0≤j∧j≤1000000∧i.natAbs<2^64
noncomputable def Hk(i j:Int):Prop:=(-(2^64)<i∧i<2^64)∨(-(2^64)<j∧j<2^64)
theorem Hk.ok{i j:Int}(h:Hk i j):IntMulOk i j:=by
 rcases h with⟨h1,h2⟩| ⟨h1,h2⟩
 ·exact .of_left (intBits_le_64 h1 h2)
 ·exact .of_right (intBits_le_64 h1 h2)
theorem JL:OpR X (binaryOp .Add) (rI0 λi j=> .int (i+j)):=M3 λ_ _ _ _ _ _ _ q=>add_int q
theorem JM:OpR X (binaryOp .Sub) (rI0 λi j=> .int (i -j)):=M3 λ_ _ _ _ _ _ _ q=>sub_int q
theorem JN:OpR X (binaryOp .Mult) (rI Hk λi j=> .int (i*j)):=opI λ_ _ _ _ _ _ _ hc q=>mul_int q hc.ok
theorem Hl:OpR X (binaryOp .FloorDiv) (rI M4 λi j=> .int (i/j)):=opI λi j _ _ _ _ _ hc q=>by
 have h1:(0:Int)<j:=hc.1
 have h2:j<1073741824:=hc.2
 exact floordiv_int (by omega) (by rw[Int.fdiv_eq_ediv_of_nonneg i (by omega)];exact q) (.inl (PyProof.noPylong_small (by omega)))
theorem JO:OpR X (binaryOp .Mod) (rI (λ_ j=>0<j) λi j=> .int (i%j)):=opI λi j _ _ _ _ _ hc q=>by
 have h1:(0:Int)<j:=hc
 exact mod_int' (by omega) (by rw[Int.fmod_eq_emod_of_nonneg i (by omega)];exact q)
theorem JP:OpR X (binaryOp .Pow) (rI M5 λi j=> .int (i^j.toNat)):=opI λ_ _ _ _ _ _ _ hc q=>pow_int_small hc.1 hc.2.1 hc.2.2 q
theorem unI{f:Value→Sem Value}{g:Int→Int}
  (rule:∀(i:Int) (t:Tok) (s:Shared) (Q:Value→Shared→Prop) (E:Value→Shared→Prop),Q (.int (g i) s.toks) {s with toks:=s.toks+1}→wpAny (model X.prog X.w) X.A (f (.int i t)) Q E s):
  UnR X f (rU λi=> .int (g i)):=by
 intro pins s σ H x v Q I rx h
 obtain⟨i,rfl,q⟩:=h
 obtain⟨t,rfl⟩:=rx
 exact rule i t s _ _ ⟨.int (g i),H,I.tok _,⟨_,rfl⟩,q⟩
theorem JQ:UnR X (unaryOp .USub) (rU λi=> .int (-i)):=unI λ_ _ _ _ _ q=>neg_int q
end
section
variable{X:Cx}{a b c:Expr}{ta tb tc:TE}{pos:Pos}
theorem Ez{pins:List (Addr×Obj)}{σ:St}{H:Hp}{s:Shared}{Q:VK}{k k' :Bool}(I:Inv X pins σ H s)(q:Q (.bl k) H)(e:k=k'):EP X pins σ Q (.bool k') s:=by
 subst e
 exact⟨.bl k,H,I,rfl,q⟩
theorem pY:OpR X (compareOp .Lt) (rI0 λi j=> .bl (decide (i<j))):=Hj λ_ _ _ _ _ _ _ q=>lt_int q
theorem wg:OpR X (compareOp .LtE) (rI0 λi j=> .bl (decide (i≤j))):=Hj λ_ _ _ _ _ _ _ q=>le_int q
theorem mW:OpR X (compareOp .Gt) (rI0 λi j=> .bl (decide (j<i))):=Hj λ_ _ _ _ _ _ _ q=>gt_int q
theorem M6:OpR X (compareOp .GtE) (rI0 λi j=> .bl (decide (j≤i))):=Hj λ_ _ _ _ _ _ _ q=>ge_int q
theorem uS:OpR X (compareOp .Is) (λx y H Q=>y= .non∧Q (.bl (decide (x= .non))) H):=by
 intro pins s σ H x y v u Q I rx ry h
 obtain⟨rfl,q⟩:=h
 cases ry
 refine is_none_gen (Ez I q ?_)
 cases x<;>first
  |(cases rx;rfl)
  |(obtain⟨t,rfl⟩:=rx;rfl)
theorem qP:OpR X (compareOp .IsNot) (λx y H Q=>y= .non∧Q (.bl (!decide (x= .non))) H):=by
 intro pins s σ H x y v u Q I rx ry h
 obtain⟨rfl,q⟩:=h
 cases ry
 refine isnot_none_gen (Ez I q ?_)
 cases x<;>first
  |(cases rx;rfl)
  |(obtain⟨t,rfl⟩:=rx;rfl)
theorem OpR.or{f:Value→Value→Sem Value}{r r' :R2}(h:OpR X f r)(h' :OpR X f r'):OpR X f (λx y H Q=>r x y H Q∨r' x y H Q):=by
 intro pins s σ H x y v u Q I rx ry q
 rcases q with q|q
 ·exact h pins s σ H x y v u Q I rx ry q
 ·exact h' pins s σ H x y v u Q I rx ry q
theorem aK(b:Expr){op:CmpOp}(h:op≠ .In:=by decide)(h2:op≠ .NotIn:=by decide):behindInMarks op b=false:=by
 have e1:(op==CmpOp.In)=false:=by cases op<;>first|rfl|exact absurd rfl h
 have e2:(op==CmpOp.NotIn)=false:=by cases op<;>first|rfl|exact absurd rfl h2
 cases b<;>simp[behindInMarks,e1,e2]
theorem Hm{op:CmpOp}{r:R2}(ho:OpR X (compareOp op) r)(ha:PE X a ta)(hb:PE X b tb)(hm:behindInMarks op b=false):PE X (.Compare a [op] [b] pos) (tOp r ta tb):=by
 intro pins s σ H Q I h
 exact wpAny_Compare1 (JK ha hb I h λv u s2 x y H2 I2 rx ry q=>ho pins s2 σ H2 x y v u Q I2 rx ry q) hm
noncomputable def Je(t:TE):TT:=λσ H Q=>t σ H λx H' =>∃k,x= .bl k∧Q k H'
theorem Hn{op:CmpOp}{r:R2}(ho:OpR X (compareOp op) r)(ha:PE X a ta)(hb:PE X b tb)(hm:behindInMarks op b=false):PT X (.Compare a [op] [b] pos) (Je (tOp r ta tb)):=by
 intro pins s σ H Q I h
 refine wpAny_isTrue_Compare1 (thn (ha pins s σ H _ I h) λv s1 ⟨x,H1,I1,r1,q1⟩=>thn (hb pins s1 σ H1 _ I1 q1) λu s2 ⟨y,H2,I2,r2,q2⟩=>
  thn (ho pins s2 σ H2 x y v u _ I2 r1 r2 q2) λc s3 ⟨z,H3,I3,r3,k,e,q3⟩=> ?_) hm
 subst e
 cases r3
 exact GbG ⟨H3,I3,q3⟩
noncomputable def JR(r r' :R2)(ta tb tc:TE):TE:=λσ H Q=>ta σ H λx H1=>tb σ H1 λy H2=>r x y H2 λz H3=>∃k,z= .bl k∧
 (if k=true then tc σ H3 λw' H4=>r' y w' H4 Q else Q (.bl false) H3)
theorem EA{op op' :CmpOp}{r r' :R2}(ho:OpR X (compareOp op) r)(ho' :OpR X (compareOp op') r')(ha:PE X a ta)(hb:PE X b tb)(hc:PE X c tc)
  (hm:lastMarks [op,op'] [b,c]=false:=by with_unfolding_all rfl):PT X (.Compare a [op,op'] [b,c] pos) (Je (JR r r' ta tb tc)):=by
 intro pins s σ H Q I h
 refine isTrue_chain (thn (ha pins s σ H _ I h) λv s1 ⟨x,H1,I1,r1,q1⟩=>test_link (thn (hb pins s1 σ H1 _ I1 q1) λu s2 ⟨y,H2,I2,r2,q2⟩=>
  thn (ho pins s2 σ H2 x y v u _ I2 r1 r2 q2) λd s3 ⟨z,H3,I3,r3,k,e,q3⟩=> ?_)) hm
 subst e
 cases r3
 refine GbG ?_
 cases k with
 |false=>
  obtain⟨k',e',q'⟩:=q3
  cases e'
  exact ite_ff ⟨H3,I3,q'⟩
 |true=>
  refine ite_tt (test_last (thn (hc pins s3 σ H3 _ I3 q3) λw' s4 ⟨z',H4,I4,r4,q4⟩=>thn (ho' pins s4 σ H4 y z' u w' _ I4 r2 r4 q4) λd' s5 ⟨z2,H5,I5,r5,k2,e2,q5⟩=> ?_))
  subst e2
  cases r5
  exact GbG ⟨H5,I5,q5⟩
theorem r9:(sizeLine:Nat)<2^63:=by rw[GbC];decide
theorem AU:OpR X (binaryOp .Add) (λx y H Q=>∃i j,x= .str i∧y= .str j∧i.length+j.length≤sizeLine∧Q (.str (i++j)) H):=by
 intro pins s σ H x y v u Q I rx ry h
 obtain⟨i,j,rfl,rfl,hz,q⟩:=h
 obtain⟨t,rfl⟩:=rx
 obtain⟨t',rfl⟩:=ry
 exact add_str (λt' tk=> ⟨.str (i++j),H,I.tok _,⟨_,rfl⟩,q⟩) hz
theorem vals1{x:V}{us:List Value}(r:Vals [x] us):∃u,us=[u]∧RelV x u:=by
 cases r with
 |cons r1 r2=>cases r2;exact⟨_,rfl,r1⟩
theorem vals2{x y:V}{us:List Value}(r:Vals [x,y] us):∃u w',us=[u,w']∧RelV x u∧RelV y w' :=by
 cases r with
 |cons r1 r2=>
  cases r2 with
  |cons r3 r4=>cases r4;exact⟨_,_,rfl,r1,r3⟩
theorem CV(hc:X.calm=true):gY X (.builtin "max") (λxs H Q=>∃i j,xs=[.int i,.int j]∧Q (.int (if j>i then j else i)) H):=by
 intro pins s σ H xs us Q I r h
 obtain⟨i,j,rfl,q⟩:=h
 obtain⟨u,w',rfl,⟨t,rfl⟩,⟨t',rfl⟩⟩:=vals2 r
 refine max_two_ints (I.ok.hd hc) λh' tk k=> ⟨_,H,I.kept k, ?_,q⟩
 by_cases hj:j>i
 ·rw[Gag hj,Gag hj];exact⟨_,rfl⟩
 ·rw[Gaj hj,Gaj hj];exact⟨_,rfl⟩
theorem tR(hc:X.calm=true):gY X (.builtin "min") (λxs H Q=>∃i j,xs=[.int i,.int j]∧Q (.int (if j<i then j else i)) H):=by
 intro pins s σ H xs us Q I r h
 obtain⟨i,j,rfl,q⟩:=h
 obtain⟨u,w',rfl,⟨t,rfl⟩,⟨t',rfl⟩⟩:=vals2 r
 refine min_two_ints (I.ok.hd hc) λh' tk k=> ⟨_,H,I.kept k, ?_,q⟩
 by_cases hj:j<i
 ·rw[Gag hj,Gag hj];exact⟨_,rfl⟩
 ·rw[Gaj hj,Gaj hj];exact⟨_,rfl⟩
noncomputable def M7(K:PySem.W.Frag)(x:V)(H:Hp)(n:Nat):Prop:=
 match x with
 | .str y=>y.length≤sizeLine∧n=y.length
 | .byt y=>y.size≤sizeLine∧n=y.size
 | .ref p=>(∃xs,SqL K H p xs∧n=xs.length)∨∃xs,SqT K H p xs∧n=xs.length
 |_=>False
theorem cL:gY X (.builtin "len") (λxs H Q=>∃x n,xs=[x]∧M7 X.K x H n∧Q (.int n) H):=by
 intro pins s σ H xs us Q I r h
 obtain⟨x,n,rfl,e,q⟩:=h
 obtain⟨u,rfl,rx⟩:=vals1 r
 have hl:=r9
 have hs:sizeLine=16777216:=GbC
 cases x with
 |str y=>
  obtain⟨t,rfl⟩:=rx
  obtain⟨hy,e'⟩:y.length≤sizeLine∧n=y.length:=e
  subst e'
  exact len_str (by omega) ⟨.int _,H,I.tok _,⟨_,rfl⟩,q⟩
 |byt y=>
  obtain⟨t,rfl⟩:=rx
  obtain⟨hy,e'⟩:y.size≤sizeLine∧n=y.size:=e
  subst e'
  exact PySem.W.len_bytes (by omega) ⟨.int _,H,I.tok _,⟨_,rfl⟩,q⟩
 |ref p=>
  cases rx
  have e' :(∃xs,SqL X.K H p xs∧n=xs.length)∨∃xs,SqT X.K H p xs∧n=xs.length:=e
  rcases e' with⟨xs,hx,e'⟩| ⟨xs,hx,e'⟩
  ·subst e'
   obtain⟨its,r',pl,hz⟩:=I.list hx
   have hlen:=r'.length
   exact Calls.call_len_list pl.isList (by simp only[Gan];omega) ⟨.int xs.length,H,I.tok _,⟨_,by simp only[Gan];rw[hlen]⟩,q⟩
  ·subst e'
   obtain⟨its,r',pl,hz⟩:=I.tuple hx
   have hlen:=r'.length
   exact len_tuple pl (by simp only[Gan];omega) ⟨.int xs.length,H,I.tok _,⟨_,by simp only[Gan];rw[hlen]⟩,q⟩
 |_=>exact(show False from e).elim
end
structure JS(h:Heap)(x dx C:Addr)(mA:Str→Option Value):Prop where
 obj:h.get? x=some (PySem.W.instObj C dx)
 ns:h.Ns1 dx mA
 ne:dx≠x
theorem CW{h:Heap}{dx:Addr}{mA:Str→Option Value}(n:h.Ns1 dx mA):∃od,h.get? dx=some od∧∀name,PySem.W.lookIn name od=some (mA name):=by
 obtain⟨o,es,ep,ho,hd,hk,_,hm⟩:=n
 refine⟨o,ho,λname=> ?_⟩
 have e:=hm name
 unfold nsFind findBy at e
 rw[←Array.find?_toList] at e
 unfold PySem.W.lookIn
 rw[hd]
 dsimp only
 split
 ·rename_i y q
  rw[q] at e
  exact congrArg some e
 ·rename_i q
  rw[q] at e
  have a:es.toList.any (·.refKey)=false:=by
   rw[List.any_eq_false]
   intro y hy
   obtain⟨z,t,hkey⟩:=hk y (Array.mem_toList_iff.mp hy)
   simp[DictEntry.refKey,hkey]
  have a' :¬es.toList.any (·.refKey)=true:=by rw[a];exact Gaz
  rw[Gaj a']
  exact congrArg some e
theorem JS.look{h:Heap}{x dx C:Addr}{mA:Str→Option Value}(I:JS h x dx C mA):∃od,PySem.W.InstAt h x (PySem.W.instObj C dx) C (some od)∧∀name,PySem.W.lookIn name od=some (mA name):=
 let⟨od,ho,hl⟩:=CW I.ns
 ⟨od,⟨I.obj,rfl,rfl,ho⟩,hl⟩
theorem pk.some_of{v:V}{o:Option Value}(r:pk (some v) o):∃u,o=some u∧RelV v u:=by
 cases o with
 |none=>exact(show False from r).elim
 |some u=>exact⟨u,rfl,r⟩
section
variable{P:Program}{w:World}{H H' :Hp}{h h' :Heap}{a C dx:Addr}{fs fs' :List (Str×V)}
theorem Ho(hok:HOk P w H h)(e:H a=some (.ins C dx fs)):∃mA,JS h a dx C mA∧(∀f,pk (fs.lookup f) (mA f))∧PySem.Within mA (fs.map (·.1))∧fs.length≤1000∧H dx=some (.own a):=by
 obtain⟨d,z,ne,ob,mA,n,r,q⟩:=(show cx P w H h a (.ins C dx fs) from hok a _ e)
 exact⟨mA,⟨ob,n,ne⟩,r,q,z,d⟩
end
structure Cls(K:PySem.W.Frag)(C:Addr):Prop where
 pg:PySem.W.plainGet K C Str.empty=true
 hd:PySem.W.hasDictIn K C=true
 po:PySem.W.plainOver K C=true
 sa:PySem.W.findIn K (.ref C) "__setattr__"=some (some (.builtin "object.__setattr__"))
theorem Cls.get{K:PySem.W.Frag}{C:Addr}(c:Cls K C)(f:Str):PySem.W.plainGet K C f=true:=c.pg
section
variable{X:Cx}{pins:List (Addr×Obj)}{σ:St}{H:Hp}{s:Shared}{A:Around}{E:Value→Shared→Prop}{Q:Value→Shared→Prop}{c:Value}{b:Bool}
inductive nL(K:PySem.W.Frag)(H:Hp):V→Value→Prop where
 |non:nL K H .non (.type "NoneType")
 |bl (x:Bool):nL K H (.bl x) (.type "bool")
 |int (i:Int):nL K H (.int i) (.type "int")
 |str (x:Str):nL K H (.str x) (.type "str")
 |flt (x:UInt64):nL K H (.flt x) (.type "float")
 |lst {a:Addr} {xs:List V} (e:H a=some (.lst xs)):nL K H (.ref a) (.type "list")
 |frz {a:Addr} {o:Obj} {xs:List V} (e:H a=some (.frz o (.lst xs))):nL K H (.ref a) (.type "list")
 |tup {a:Addr} {xs:List V} (e:H a=some (.tup xs)):nL K H (.ref a) (.type "tuple")
 |dK {a:Addr} {kvs:List (Key×V)} (e:H a=some (.dK kvs)):nL K H (.ref a) (.type "dict")
 |dT {a:Addr} {kvs:List (List Key×V)} (e:H a=some (.dT kvs)):nL K H (.ref a) (.type "dict")
 |ins {a C dx:Addr} {fs:List (Str×V)} (e:H a=some (.ins C dx fs)) (cl:Cls K C) (ha:PySem.W.findIn K (.ref C) "__class__"=some (some (.builtin "object.__class__")))
   (hn:PySem.W.specialIn K (.builtin "object.__class__") "__get__"=some (some (.builtin "getset_descriptor.__get__"))) (htk:PySem.W.takesIn K (.builtin "object.__class__")=some true)
   (hm:PySem.W.mroIn K C (.type "object")=some true):nL K H (.ref a) (.ref C)
theorem CY{x:V}{u t:Value}(I:Inv X pins σ H s)(rx:RelV x u)(ty:nL X.K H x t)(e:PySem.W.kitOne X.K t c=some b)(h:∀tk,Q (.bool b) {s with toks:=tk}):
  wpAny (model X.prog X.w) A (call (.builtin "isinstance") [u,c]) Q E s:=by
 cases ty with
 |non=>cases(show u=Value.none from rx);exact Gbm PySem.W.kitx_none I.kIn True.intro e (λz=>nomatch z) h
 |bl y=>cases(show u=Value.bool y from rx);exact Gbm PySem.W.kitx_bool I.kIn True.intro e (λz=>nomatch z) h
 |int i=>obtain⟨t,q⟩:=(show∃t,u=Value.int i t from rx);cases q;exact Gbm PySem.W.kitx_int I.kIn True.intro e (λz=>nomatch z) h
 |str y=>obtain⟨t,q⟩:=(show∃t,u=Value.str y t from rx);cases q;exact Gbm PySem.W.kitx_str I.kIn True.intro e (λz=>nomatch z) h
 |flt y=>obtain⟨t,q⟩:=(show∃t,u=Value.float y t from rx);cases q;exact Gbm PySem.W.kitx_float I.kIn True.intro e (λz=>nomatch z) h
 | @lst a xs ea=>
  cases(show u=Value.ref a from rx)
  obtain⟨_,_,n,_,h1⟩:=(show cx X.prog X.w H s.heap a (.lst xs) from I.hok a _ ea)
  exact Gbm PySem.W.kitx_list I.kIn ⟨_,h1,rfl⟩ e (λz=>nomatch z) h
 | @frz a ob xs ea=>
  cases(show u=Value.ref a from rx)
  obtain⟨_,_,_,n,_,h1⟩:=(show cx X.prog X.w H s.heap a (.frz ob (.lst xs)) from I.hok a _ ea)
  exact Gbm PySem.W.kitx_list I.kIn ⟨_,h1,rfl⟩ e (λz=>nomatch z) h
 | @tup a xs ea=>
  cases(show u=Value.ref a from rx)
  obtain⟨_,_,_,p⟩:=(show cx X.prog X.w H s.heap a (.tup xs) from I.hok a _ ea)
  obtain⟨o,h1,h2,_⟩:=p
  exact Gbm PySem.W.kitx_tuple I.kIn ⟨o,h1,h2⟩ e (λz=>nomatch z) h
 | @dK a kvs ea=>
  cases(show u=Value.ref a from rx)
  obtain⟨_,_,vs,_,p⟩:=(show cx X.prog X.w H s.heap a (.dK kvs) from I.hok a _ ea)
  obtain⟨o,es,ep,h1,h2,_⟩:=p
  exact Gbm PySem.W.kitx_dict I.kIn ⟨o,h1,h2.1⟩ e (λz=>nomatch z) h
 | @dT a kvs ea=>
  cases(show u=Value.ref a from rx)
  obtain⟨_,_,xs,_,o,es,ep,h1,h2,_⟩:=(show cx X.prog X.w H s.heap a (.dT kvs) from I.hok a _ ea)
  exact Gbm PySem.W.kitx_dict I.kIn ⟨o,h1,h2.1⟩ e (λz=>nomatch z) h
 | @ins a C dx fs ea cl ha hn htk hm=>
  cases(show u=Value.ref a from rx)
  obtain⟨mA,O,_⟩:=Ho I.hok ea
  obtain⟨od,J,_⟩:=O.look
  exact Gbm (PySem.W.kitx_own (cl.get _) cl.hd ha hn htk hm) I.kIn J e (λz=>nomatch z) h
end
structure jy(k:Nat)(A:Around):Prop where
 hd:A.handled=none
 dp:A.depth+3*k+5<recursionLimit
 un:A.units+16*k+200<cLine
theorem jy.mono{j k:Nat}{A:Around}(r:jy k A)(h:j≤k):jy j A:=⟨r.hd,by have:=r.dp;omega,by have:=r.un;omega⟩
theorem jy.deeper{k:Nat}{A:Around}(r:jy (k+1) A)(env:Env):jy k (A.deeper env):=
 ⟨r.hd,by have:=r.dp;show A.depth+1+3*k+5<_;omega,by have:=r.un;show A.units+3+16*k+200<_;omega⟩
theorem JT{A:Around}{C:Addr}{us:List Value}{kw:List (Str×Value)}:(A.under (.builtin "type.__call__" ⟨.ref C::us,kw⟩)).depth=A.depth+1:=by
 first|rfl|simp[Around.under,Code.weight,Code.isCreation,Code.isGuard,Code.isCaller,Code.frames,Code.isFrame,guardIds]
theorem JU{A:Around}{C:Addr}{us:List Value}{kw:List (Str×Value)}:(A.under (.builtin "type.__call__" ⟨.ref C::us,kw⟩)).units=A.units+1:=by
 first|rfl|simp[Around.under,Code.cUnits,Code.frames,Code.isFrame]
theorem jy.depth{k:Nat}{A:Around}(r:jy k A):A.depth<recursionLimit:=by have:=r.dp;omega
theorem jy.units{k:Nat}{A:Around}(r:jy k A):A.units+64<cLine:=by have:=r.un;omega
noncomputable def Oh:TA:=λ_ H Q=>Q [] H
noncomputable def M8(ta:TE)(tr:TA):TA:=λσ H Q=>ta σ H λx H1=>tr σ H1 λxs H2=>Q (x::xs) H2
section
variable{X:Cx}{e:Expr}{es:List Expr}{te:TE}{t:TA}{pos:Pos}
theorem AV:PA X [] Oh:=λ_ _ _ _ H Q I h=>Calls.spliced_nil ⟨[],H,I,.nil,h⟩
theorem uT(ha:PE X e te)(hr:PA X es t)(hs:starEach (e::es) X.env=(false,eval e X.env)::starEach es X.env:=by rfl):PA X (e::es) (M8 te t):=by
 intro pos pins s σ H Q I h
 rw[hs]
 show wpAny _ _ (spliced ((false,eval e X.env)::backTo pos (starEach es X.env))) _ _ s
 refine Gct (thn (ha pins s σ H _ I h) λu s1 ⟨x,H1,I1,r1,q1⟩=> ?_)
 exact thn (hr pos pins s1 σ H1 _ I1 q1) λus s2 ⟨xs,H2,I2,r2,q2⟩=> ⟨x::xs,H2,I2,.cons r1 r2,q2⟩
noncomputable def Oi(t:TA):TE:=λσ H Q=>t σ H λxs H1=>xs.length≤sizeLine∧∀p,H1 p=none→Q (.ref p) (upd H1 p (.tup xs))
noncomputable def Oj(t:TA):TE:=λσ H Q=>t σ H λxs H1=>xs.length≤sizeLine∧∀p,H1 p=none→Q (.ref p) (upd H1 p (.lst xs))
theorem JV{x1}(h:PA X es t):PE X (.Tuple es x1 pos) (Oi t):=by
 intro pins s σ H Q I hq
 refine wpAny_Tuple_spliced (thn (h pos pins s σ H _ I hq) λus s1 ⟨xs,H1,I1,r,z,q⟩=> ⟨by rw[←r.length];exact z, ?_⟩)
 have hf:H1 s1.heap.objs.size=none:=I1.hok.fresh (Gaq _)
 refine⟨.ref s1.heap.objs.size,upd H1 s1.heap.objs.size (.tup xs),I1.laid (t' :=s1.toks) (λb u e=>Gaf _ e) (Gaq _) ?_,rfl,q _ hf⟩
 exact⟨z,us,r,⟨_,GaA _ rfl,rfl,_,rfl⟩⟩
theorem EB(h:PA X es t):PE X (.List es pos) (Oj t):=by
 intro pins s σ H Q I hq
 refine wpAny_List_spliced (thn (h pos pins s σ H _ I hq) λus s1 ⟨xs,H1,I1,r,z,q⟩=> ⟨by rw[←r.length];exact z, ?_⟩)
 have hf:H1 s1.heap.objs.size=none:=I1.hok.fresh (Gaq _)
 refine⟨.ref s1.heap.objs.size,upd H1 s1.heap.objs.size (.lst xs),I1.laid (t' :=s1.toks) (λb u e=>Gaf _ e) (Gaq _) ?_,rfl,q _ hf⟩
 exact⟨z,us,0,r,GaA _ rfl⟩
end
noncomputable abbrev Sp:=List V→Hp→VK→XK→Prop
noncomputable abbrev CXT:=List Env→Hp→Shared→XK→Value→Shared→Prop
structure Hq(P:Program)(w:World)(K:PySem.W.Frag)(mg:Str→Option Value)(base:Heap)(A:Around)(outer:List Env)(s:Shared)(H:Hp):Prop where
 frames:A.frames=some outer
 mod:Mod K mg base
 bs:∀b o,base.get? b=some o→s.heap.get? b=some o∧H b=none
 bsz:base.objs.size≤s.heap.objs.size
 qZ:s.heap.FunFrames base outer
 frf:∀b∈frs outer,H b=none
 hok:HOk P w H s.heap
 bare:AllBare s.gens
noncomputable def CE(outer:List Env)(P:Program)(w:World)(H:Hp)(s:Shared)(Q:VK)(u:Value)(s' :Shared):Prop:=
 ∃v H',s'.os=s.os∧AllBare s'.gens∧Un (frs outer) [] H H' s.heap s'.heap∧HOk P w H' s'.heap∧RelV v u∧Q v H'
noncomputable def CR(CX:CXT)(outer:List Env)(P:Program)(w:World)(H:Hp)(s:Shared)(Q:VK)(E:XK)(r:Result)(s' :Shared):Prop:=
 match r with
 | .ok (.ret u)=>CE outer P w H s Q u s'
 | .ok _=>False
 | .error e=>CX outer H s E e s'
structure cT(P:Program)(w:World)(K:PySem.W.Frag)(mg:Str→Option Value)(base:Heap)(CX:CXT)(k:Nat)(f:Addr)(fd:FuncData)(ps:List Str)(sp:Sp):Prop where
 len:∀vs H Q E,sp vs H Q E→vs.length=ps.length
 run:∀(A:Around) (outer:List Env) (s:Shared) (H:Hp) (args:Args) (us:List Value) (vs:List V) (Q:VK) (E:XK),jy k A→Hq P w K mg base A outer s H→BindsTo s fd args (ps.zip us)→Vals vs us→sp vs H Q E→
  codeAny (model P w) A (.call (.ref f) args) (CR CX outer P w H s Q E) s
section
variable{X:Cx}{pins:List (Addr×Obj)}{σ:St}{H:Hp}{s s' :Shared}
theorem Inv.Ol(I:Inv X pins σ H s):Hq X.prog X.w X.K X.mg X.base X.A X.stack s H:=
 ⟨I.ok.frames,I.ok.mod,I.bs,Gbw I.ok.bsz I.sz,I.stack,I.BG,I.hok,I.bare⟩
theorem Inv.after{Q:VK}{u:Value}(I:Inv X pins σ H s)(h:CE X.stack X.prog X.w H s Q u s'):EP X pins σ Q u s' :=by
 obtain⟨v,H',os,bare,un,hok,r,q⟩:=h
 obtain⟨hh,g,d,t,os'⟩:=s'
 obtain rfl:os' =s.os:=os
 exact⟨v,H',I.call (h' :=hh) (g' :=g) (d' :=d) (t' :=t) (ch:=[]) un hok bare (λb z=>absurd z (by simp)),r,q⟩
end
noncomputable def M9(sp:Sp)(dvs:List V)(E:XK)(t:TA):TE:=λσ H Q=>t σ H λvs H1=>sp (vs++dvs) H1 Q E
noncomputable def Binds(K:PySem.W.Frag)(fd:FuncData)(ps:List Str)(ds:List Value):Prop:=
 ∀(s:Shared) (us:List Value),K.In s.heap→(us++ds).length=ps.length→BindsTo s fd ⟨us,[]⟩ (ps.zip (us++ds))
theorem Binds.all{K:PySem.W.Frag}{fd:FuncData}{ps:List Str}(h:∀us:List Value,us.length=ps.length→bindArgs fd ⟨us,[]⟩=pure (ps.zip us)):Binds K fd ps []:=λs us _ hl=>by
 rw[Gbg] at hl⊢
 exact .of_eq (h us hl)
noncomputable def Passes(CX:CXT)(X:Cx)(E:XK):Prop:=∀(pins:List (Addr×Obj)) (σ:St) (H:Hp) (s:Shared) (e:Value) (s' :Shared),Inv X pins σ H s→CX X.stack H s E e s' →X.xe e s'
section
variable{X:Cx}{CX:CXT}{k:Nat}{f C:Addr}{fd:FuncData}{ps:List Str}{sp:Sp}{dvs:List V}{ds:List Value}{E:XK}{x m:Str}{p pos apos:Pos}{e o:Expr}{es:List Expr}{ta:TE}{t:TA}
theorem JW{pins:List (Addr×Obj)}{σ:St}{H:Hp}{s:Shared}{Q:VK}{us:List Value}{vs:List V}(F:cT X.prog X.w X.K X.mg X.base CX k f fd ps sp)(hr:jy k X.A)(hb:Binds X.K fd ps ds)(hd:Vals dvs ds)(hx:Passes CX X E)
  (I:Inv X pins σ H s)(r:Vals vs us)(h:sp (vs++dvs) H Q E):wpAny (model X.prog X.w) X.A (call (.ref f) us) (EP X pins σ Q) X.xe s:=by
 have r2:Vals (vs++dvs) (us++ds):=r.append hd
 have hl:(us++ds).length=ps.length:=by rw[←r2.length];exact F.len _ _ _ _ h
 refine wpAny_call (codeAny_mono (F.run X.A X.stack s H ⟨us,[]⟩ (us++ds) (vs++dvs) Q E hr I.Ol (hb s us I.kIn hl) r2 h) λr s' hq=> ?_)
 cases r with
 |error e=>exact hx pins σ H s e s' I hq
 |ok fl=>
  cases fl with
  |ret u=>exact I.after hq
  |next=>exact False.elim hq
  |brk=>exact False.elim hq
  |cont=>exact False.elim hq
theorem Hr(F:cT X.prog X.w X.K X.mg X.base CX k f fd ps sp)(hr:jy k X.A)(hg:Gl X x)(hm:X.mg x=some (.ref f))(hk:PySem.W.keepIn X.K (.ref f)=true)(hb:Binds X.K fd ps ds)(hd:Vals dvs ds)(hx:Passes CX X E)
  (ha:PA X (e::es) t)(hdb:(x==("__debug__":Str))=false:=by decide)(he:starEach (e::es) X.env=(false,eval e X.env)::starEach es X.env:=by rfl)(hpl:(backTo pos (starEach es X.env)).any (·.1)=false:=by rfl):
  PE X (.Call (.Name x p) (e::es) [] pos) (M9 sp dvs E t):=by
 intro pins s σ H Q I h
 refine GcM (Hb I hg hm ?_ hdb)
 refine PySem.W.callWith_K (h₀:=X.base) I.ok.mod.kin hk (thn (ha pos pins s σ H _ I h) λus s1 ⟨vs,H1,I1,r,q⟩=> ⟨I1.kIn, ?_⟩) he hpl
 exact JW F hr hb hd hx I1 r q
end
structure aW(N P:List Str)(sc:Scope):Prop where
 kind:sc.kind= .function
 co:sc.isCoroutine=false
 gen:sc.isGenerator=false
 nd:N.Nodup
 pre:N.take P.length=P
 par:∀x∈P,sc.names.lookup x=some .local∨sc.names.lookup x=some .cell
 Lo:∀y∈sc.names,y.2≠ .free
theorem tU{kindOf:Str→Option NameKind}{x:Str}:∀{binds:List (Str×Value)} {m:Str→Option Value},(∀v,(x,v)∉binds)→bindL kindOf binds m x=m x
 |[],_,_=>rfl
 |(n,v)::r,m,h=>by
  unfold bindL
  rw[tU λw hw=>h w (Gai _ hw)]
  split
  ·have:x≠n:=by rintro rfl;exact h v Gam
   simp[this]
  ·rfl
theorem tV{kindOf:Str→Option NameKind}{x:Str}:∀{binds:List (Str×Value)} {m:Str→Option Value},(∀v,(x,v)∉binds)→bindC kindOf binds m x=m x
 |[],_,_=>rfl
 |(n,v)::r,m,h=>by
  unfold bindC
  rw[tV λw hw=>h w (Gai _ hw)]
  split
  ·rfl
  ·have:x≠n:=by rintro rfl;exact h v Gam
   simp[this]
theorem tW{kindOf:Str→Option NameKind}{x:Str}{v:Value}:∀{P:List Str} {vs:List Value} {i:Nat} {m:Str→Option Value},P.Nodup→P[i]? =some x→vs[i]? =some v→kindOf x=some .local→
  bindL kindOf (P.zip vs) m x=some v
 |[],_,_,_,_,h,_,_=>by simp at h
 |_::_,[],_,_,_,_,h,_=>by simp at h
 |p::P,w::vs,0,m,nd,h1,h2,hk=>by
  simp at h1 h2;subst h1;subst h2
  show bindL kindOf ((p,w)::P.zip vs) m p=_
  unfold bindL
  rw[tU λv hv=>(GcL.mp nd).1 (List.of_mem_zip hv).1,Gag hk]
  simp
 |p::P,w::vs,i+1,m,nd,h1,h2,hk=>by
  show bindL kindOf ((p,w)::P.zip vs) m x=_
  unfold bindL
  exact tW (i:=i) (GcL.mp nd).2 (by simpa using h1) (by simpa using h2) hk
theorem tX{kindOf:Str→Option NameKind}{x:Str}{v:Value}:∀{P:List Str} {vs:List Value} {i:Nat} {m:Str→Option Value},P.Nodup→P[i]? =some x→vs[i]? =some v→kindOf x≠some .local→
  bindC kindOf (P.zip vs) m x=some v
 |[],_,_,_,_,h,_,_=>by simp at h
 |_::_,[],_,_,_,_,h,_=>by simp at h
 |p::P,w::vs,0,m,nd,h1,h2,hk=>by
  simp at h1 h2;subst h1;subst h2
  show bindC kindOf ((p,w)::P.zip vs) m p=_
  unfold bindC
  rw[tV λv hv=>(GcL.mp nd).1 (List.of_mem_zip hv).1,Gaj hk]
  simp
 |p::P,w::vs,i+1,m,nd,h1,h2,hk=>by
  show bindC kindOf ((p,w)::P.zip vs) m x=_
  unfold bindC
  exact tX (i:=i) (GcL.mp nd).2 (by simpa using h1) (by simpa using h2) hk
noncomputable def start(N:List Str)(vs:List V):St:=vs.map some++List.replicate (N.length -vs.length) none
noncomputable def AW(CX:CXT)(P:Program)(w:World)(K:PySem.W.Frag)(mg:Str→Option Value)(base:Heap)(N:List Str)(qual:Str)(scope:Scope)(f:Addr)(cd:Value)(A:Around)(outer:List Env)(s:Shared)(H:Hp)(E:XK):Cx where
 prog:=P
 w:=w
 K:=K
 mg:=mg
 base:=base
 A:=A.deeper (envOfC qual scope s.heap.objs.size f cd)
 N:=N
 s₀:=s
 H₀:=H
 env:=envOfC qual scope s.heap.objs.size f cd
 outer:=outer
 stack:=envOfC qual scope s.heap.objs.size f cd::outer
 ex:=[]
 calm:=true
 fn:=λ_=>true
 pn:=[]
 xe:=λe s' =>wpAny (model P w) (A.deeper (envOfC qual scope s.heap.objs.size f cd)) (leaving (envOfC qual scope s.heap.objs.size f cd) e) (λ_ s'' =>CX outer H s E e s'') (λe' s'' =>CX outer H s E e' s'') s'
theorem wj{sc:Scope}{n:Nat}{x:Str}(h:sc.names.lookup x=some .cell):∃c,(cellsFrom n sc.names []).lookup x=some c:=by
 have q:=PySem.W.cellsFrom_some sc.names n [] (.inl h)
 exact Option.isSome_iff_exists.mp q
theorem CZ{CX:CXT}{P:Program}{w:World}{K:PySem.W.Frag}{mg:Str→Option Value}{base:Heap}{N ps:List Str}{qual:Str}{scope:Scope}{f:Addr}{cd:Value}{A:Around}{outer:List Env}{s s1:Shared}{H:Hp}{E:XK}{us:List Value}{vs:List V}
  (S:aW N ps scope)(hd:A.handled=none)(e0:Hq P w K mg base A outer s H)(hl:vs.length=ps.length)(r:Vals vs us)
  (x:InCallC s s.heap.objs.size (bindL (envOfC qual scope s.heap.objs.size f cd).kindOf (ps.zip us) λ_=>none) (cellsFrom (s.heap.objs.size+1) scope.names []) (bindC (envOfC qual scope s.heap.objs.size f cd).kindOf (ps.zip us) λ_=>none) s1):
  Inv (AW CX P w K mg base N qual scope f cd A outer s H E) [] (start N vs) H s1:=by
 have hpl:ps.length≤N.length:=by have:=congrArg List.length S.pre;rw[GcH] at this;omega
 obtain⟨h1,tk,rfl,hk⟩:=x.done
 have noA:∀b:Addr,b∉(AW CX P w K mg base N qual scope f cd A outer s H E).ex:=λb z=>absurd (show b∈([]:List Addr) from z) (by simp)
 refine⟨⟨e0.mod,S.kind,rfl,rfl,Gaq _,λy z c h1 h2=> ?_,λy hy=> ?_,λy c _ h=> ?_,λ_=>hd,Around.frames_deeper e0.frames,.inr ⟨rfl,rfl⟩,λb z=>absurd z (noA b),e0.bs,e0.bsz,λb _ _=>noA b,λb z=>absurd z (noA b),e0.qZ,e0.frf⟩,
  rfl,e0.bare,Un.kept hk,⟨_,x.toInCall.ns,λi y v h1 h2 h3=> ?_⟩,λy c h=> ⟨_,x.cell y c h⟩,e0.hok.fresh (Gaq _),λy c h=> ?_,λp hp=>absurd (show p∈([]:List (Addr×Obj)) from hp) (by simp),e0.hok.kept hk, ?_⟩
 ·exact name_of_addr x.apart (PySem.mem_of_lookup h1) (PySem.mem_of_lookup h2)
 ·have hy:scope.names.lookup y=some .cell∨scope.names.lookup y=some .free:=hy
  rcases hy with hy|hy
  ·exact wj hy
  ·exact absurd rfl (S.Lo _ (PySem.mem_of_lookup hy))
 ·exact Gdj (x.above y c (PySem.mem_of_lookup h))
 ·have hi:i<vs.length:=by
   unfold start at h2
   by_cases hi:i<vs.length
   ·exact hi
   ·rw[GaJ (by simpa using hi)] at h2
    rw[Gcr] at h2
    split at h2<;>cases h2
  have ha:vs[i]? =some v:=by
   unfold start at h2
   rw[GaU (by simpa using hi),Gah] at h2
   cases e:vs[i]? with
   |none=>rw[e] at h2;cases h2
   |some a=>rw[e] at h2;cases h2;rfl
  obtain⟨u,hu,rv⟩:=r.get ha
  have hp:ps[i]? =some y:=by
   rw[←S.pre,GaV (by omega)];exact h1
  have ndP:ps.Nodup:=by rw[←S.pre];exact S.nd.sublist (List.take_sublist _ _)
  refine⟨u,rv, ?_⟩
  rcases S.par y (GaP hp) with k|k
  ·exact .inl ⟨k,tW ndP hp hu k⟩
  ·obtain⟨c,e⟩:=wj (n:=s.heap.objs.size+1) k
   refine .inr ⟨.inl k,c,e, ?_⟩
   have q:=x.cell y c e
   rw[tX ndP hp hu (by show scope.names.lookup y≠_;rw[k];decide)] at q
   exact q
 ·exact e0.hok.fresh (Gdj (x.above y c (PySem.mem_of_lookup h)))
 ·unfold start
  show _=N.length
  rw[Gax,Gad,Gdg]
  omega
theorem Ma{CX:CXT}{P:Program}{w:World}{K:PySem.W.Frag}{mg:Str→Option Value}{base:Heap}{k:Nat}{f:Addr}{name qual:Str}{params:Arguments}{body:List Stmt}{scope:Scope}{dV kV doc pm cdv ct oc:Value}{an od:Option Addr}
  {osl:Array (Option Value)}{N ps:List Str}{sp:Sp}(lk:K.lookup f=some ⟨oc,od,.func (PySem.W.fnOf name qual params body scope dV kV doc pm an cdv ct),osl⟩)(hcd:PySem.W.codeIn K cdv qual=true)(S:aW N ps scope)
  (len:∀vs H Q E,sp vs H Q E→vs.length=ps.length)
  (hbody:∀(A:Around) (outer:List Env) (s:Shared) (H:Hp) (vs:List V) (Q:VK) (E:XK),jy k (A.deeper (envOfC qual scope s.heap.objs.size f cdv))→sp vs H Q E→
   ∃t,PSs (AW CX P w K mg base N qual scope f cdv A outer s H E) body t∧t {nx:=λ_ H' =>Q .non H',rt:=Q} (start N vs) H):
  cT P w K mg base CX (k+1) f (PySem.W.fnOf name qual params body scope dV kV doc pm an cdv ct) ps sp:=by
 refine⟨len,λA outer s H args us vs Q E hr e0 hb r hsp=> ?_⟩
 have hl:=len _ _ _ _ hsp
 have KX:K.In s.heap:=e0.mod.kin.keeps λb o e=>(e0.bs b o e).1
 have lim:s.heap.NoLimit:=e0.mod.nolimit.keeps λb o e=>(e0.bs b o e).1
 have hkind:∀y∈ps.zip us,scope.names.lookup y.1=some .local∨(scope.names.lookup y.1=some .cell∧((cellsFrom (s.heap.objs.size+1) scope.names []).lookup y.1).isSome=true):=λ⟨n,v⟩ hy=>by
  rcases S.par n (List.of_mem_zip hy).1 with q|q
  ·exact .inl q
  ·exact .inr ⟨q,PySem.W.cellsFrom_some _ _ _ (.inl q)⟩
 refine codeAny_call_function hr.depth (KX _ _ lk) rfl S.co S.gen rfl (PySem.W.codeRec_of KX hcd) (hb _ _ _ _ ?_)
 refine wpAny_newFunctionEnv_cells S.kind hkind λenv he s1 x=> ?_
 subst he
 refine⟨lim.keeps x.toInCall.keep,codeAny_func ?_⟩
 obtain⟨t,ht,hq⟩:=hbody A outer s H vs Q E (hr.deeper _) hsp
 have I:Inv (AW CX P w K mg base N qual scope f cdv A outer s H E) [] (start N vs) H s1:=CZ S hr.hd e0 hl r x
 refine GbX (ht [] s1 (start N vs) H _ I hq) (λfl s' hs=> ?_) λe s' hs=>hs
 have fin:∀{σ' :St} {H' :Hp} {v:V} {u:Value},Inv (AW CX P w K mg base N qual scope f cdv A outer s H E) [] σ' H' s' →RelV v u→Q v H' →CE outer P w H s Q u s' :=
  λ{σ' H' v u} J rv q=> ⟨v,H',J.os,J.bare,J.base,J.hok,rv,q⟩
 cases fl with
 |ret u=>
  obtain⟨v,σ',H',J,rv,q⟩:=hs
  exact fin J rv q
 |next=>
  obtain⟨σ',H',J,q⟩:=hs
  exact fin (v:=V.non) (u:=Value.none) J rfl q
 |brk=>
  obtain⟨_,_,_,q⟩:=hs
  exact False.elim q
 |cont=>
  obtain⟨_,_,_,q⟩:=hs
  exact False.elim q
section
variable{X:Cx}{x:Str}{p pos:Pos}{e:Expr}{es:List Expr}{t:TA}{id T:String}{r:List V→Hp→VK→Prop}
noncomputable def tCB(r:List V→Hp→VK→Prop)(t:TA):TE:=λσ H Q=>t σ H λvs H1=>r vs H1 Q
theorem wk(hc:gY X (.builtin id) r)(hg:Gl X x)(hm:X.mg x=none)(hv:bootBuiltins x=some (.builtin id))(ha:PA X (e::es) t)(hn:x≠"__name__":=by decide)(hdb:(x==("__debug__":Str))=false:=by decide)
  (he:starEach (e::es) X.env=(false,eval e X.env)::starEach es X.env:=by rfl)(hpl:(backTo pos (starEach es X.env)).any (·.1)=false:=by rfl):PE X (.Call (.Name x p) (e::es) [] pos) (tCB r t):=by
 intro pins s σ H Q I h
 refine GcM (nJ I hg hm hv ?_ hn hdb)
 exact PyProof.Rows.callWith_builtin1 (thn (ha pos pins s σ H _ I h) λus s1 ⟨vs,H1,I1,r1,q1⟩=>hc pins s1 σ H1 vs us Q I1 r1 q1) he hpl
theorem D0(hc:gY X (.type T) r)(hg:Gl X x)(hm:X.mg x=none)(hv:bootBuiltins x=some (.type T))(ha:PA X (e::es) t)(hn:x≠"__name__":=by decide)(hdb:(x==("__debug__":Str))=false:=by decide)
  (he:starEach (e::es) X.env=(false,eval e X.env)::starEach es X.env:=by rfl)(hpl:(backTo pos (starEach es X.env)).any (·.1)=false:=by rfl):PE X (.Call (.Name x p) (e::es) [] pos) (tCB r t):=by
 intro pins s σ H Q I h
 refine GcM (nJ I hg hm hv ?_ hn hdb)
 exact GbY (thn (ha pos pins s σ H _ I h) λus s1 ⟨vs,H1,I1,r1,q1⟩=>hc pins s1 σ H1 vs us Q I1 r1 q1) he hpl
end
end L2
namespace HT
open PySem PyProof.Rows
section
open PySem.SeqAt
open PySem.AutoSeq1 (wpAny_loadPart')
open PySem.MeetsSeq PySem.MeetsSeq2 PySem.MeetsSeq3
end
section
variable{prog:Program}{w:World}{A:Around}{E:Value→Shared→Prop}{s:Shared}
theorem Hs{t b:Addr}{vs ws:List Value}{Q:Value→Shared→Prop}(ht:IsTup s.heap t vs.toArray)(hb:IsTup s.heap b ws.toArray)(hv:vs≠[])
  (h1:ws=[]→Q (.ref t) s)(h2:ws≠[]→Q (.ref s.heap.objs.size) {s with heap:=s.heap.push {cls:= .type "tuple",data:= .seq (vs++ws).toArray}})
  (hsz:vs.length+ws.length≤sizeLine):wpAny (model prog w) A (binaryOp .Add (.ref t) (.ref b)) Q E s:=by
 obtain⟨⟨cls,dd,data,sl⟩,ho,hc,n,hd⟩:=id ht
 obtain⟨⟨cls2,dd2,data2,sl2⟩,ho2,hc2,n2,hd2⟩:=id hb
 simp only at hc hd hc2 hd2
 subst hc hd hc2 hd2
 have e:vs.toArray++ws.toArray=(vs++ws).toArray:=by simp
 by_cases hw:ws=[]
 ·exact concat_meets ⟨_,ho,rfl⟩ ⟨_,ho2,rfl⟩ noFill_tuple_add seq_tuple_add PySem.F.slot_tuple_add PySem.F.entry_tuple_add (PySem.F.args_tuple_add_2 _ _)
   (tuple_addW1 t b vs.toArray ws.toArray n n2 dd dd2 sl sl2 (by simpa using hv) (by simp[hw])) ⟨ho,ho2,h1 hw⟩
 ·refine concat_meets ⟨_,ho,rfl⟩ ⟨_,ho2,rfl⟩ noFill_tuple_add seq_tuple_add PySem.F.slot_tuple_add PySem.F.entry_tuple_add (PySem.F.args_tuple_add_2 _ _)
   (tuple_addW2 t b vs.toArray ws.toArray n n2 dd dd2 sl sl2 (by simpa using hv) (by simpa using hw) (by rw[Gan,Gan];exact hsz)) ⟨ho,ho2, ?_⟩
  rw[e]
  exact h2 hw
noncomputable def sIx(n d:Nat):Option Int→Nat
 |none=>d
 |some v=>if v<0 then(v+(n:Int)).toNat else min v.toNat n
theorem JX(n d:Nat)(hd:d≤n)(o:Option Int):sIx n d o≤n:=by
 cases o with
 |none=>exact hd
 |some v=>
  show(if v<0 then(v+(n:Int)).toNat else min v.toNat n)≤n
  by_cases hv:v<0
  ·rw[Gag hv];omega
  ·rw[Gaj hv];exact Nat.min_le_right _ _
theorem BJ(v:Int)(n d:Nat):(if v<0 then max (v+(n:Int)) 0 else min v (n:Int))=((sIx n d (some v):Nat):Int):=by
 show(if v<0 then max (v+(n:Int)) 0 else min v (n:Int))=(((if v<0 then(v+(n:Int)).toNat else min v.toNat n):Nat):Int)
 by_cases hv:v<0
 ·simp only[Gag hv];omega
 ·simp only[Gaj hv];omega
theorem AX(lo hi:Option Int)(n:Nat):Builtin.Slice.sliceAdjust lo hi 1 (n:Int)=(((sIx n 0 lo:Nat):Int),((sIx n n hi:Nat):Int)):=by
 have h1:¬((1:Int)<0):=by omega
 unfold Builtin.Slice.sliceAdjust
 simp only[h1,Gbe]
 refine Prod.ext ?_ ?_
 ·cases lo with
  |none=>rfl
  |some v=>exact BJ v n 0
 ·cases hi with
  |none=>rfl
  |some v=>exact BJ v n n
theorem AY(i j:Nat):Builtin.Slice.slicePlaces (i:Int) (j:Int) 1=j -i:=by
 unfold Builtin.Slice.slicePlaces
 have h1:(1:Int)>0:=by omega
 simp only[h1,Gbq,Int.ediv_one]
 split<;>omega
theorem rf{v:Value}{o:Option Int}{Q:Option Int→Shared→Prop}(p:IsPart v o)(h:Q o s):wpAny (model prog w) A (Builtin.Slice.slicePartIndex v) Q E s:=by
 cases p with
 |none=>exact slicePart_none h
 |int i t=>exact slicePart_int h
theorem pq{sl:Addr}{vl vu:Value}{lo hi:Option Int}{n:Nat}{Q:Int×Int×Nat→Shared→Prop}(hs:s.heap.IsSliceOf sl vl vu .none)(pl:IsPart vl lo)(pu:IsPart vu hi)
  (h:Q (((sIx n 0 lo:Nat):Int),1,sIx n n hi -sIx n 0 lo) s):wpAny (model prog w) A (Builtin.Slice.sliceApplied (.ref sl) (pure (n:Int))) Q E s:=by
 obtain⟨os,hos,hcs,hds⟩:=id hs
 unfold Builtin.Slice.sliceApplied Builtin.Slice.sliceFields
 refine Gac (Gac (wpAny_field hos hds (x:=vl) rfl (Gac (wpAny_field hos hds (x:=vu) rfl (Gac (wpAny_field hos hds (x:= .none) rfl (Gao ?_)))))))
 refine Gac (slicePart_none ?_)
 show wpAny _ _ (if((1:Int)==0)=true then _ else _) _ _ s
 rw[Gaj (by decide)]
 refine Gac (rf pl (Gac (rf pu (Gac (Gao ?_)))))
 show wpAny _ _ (match Builtin.Slice.sliceAdjust lo hi 1 (n:Int) with|(lo,hi)=>pure (lo,(1:Int),Builtin.Slice.slicePlaces lo hi 1)) _ _ s
 rw[AX lo hi n]
 show wpAny _ _ (pure (((sIx n 0 lo:Nat):Int),(1:Int),Builtin.Slice.slicePlaces ((sIx n 0 lo:Nat):Int) ((sIx n n hi:Nat):Int) 1)) _ _ s
 rw[AY]
 exact Gao h
theorem EC(xs:Array Value)(i k:Nat):((List.range k).filterMap λ(m:Nat)=>xs[((i:Int)+(m:Int)*1).toNat]?).toArray=((xs.toList.drop i).take k).toArray:=by
 have e:(λ(m:Nat)=>xs[((i:Int)+(m:Int)*1).toNat]?)=λm=>xs[i+m]? :=by
  funext m
  have:((i:Int)+(m:Int)*1).toNat=i+m:=by omega
  rw[this]
 rw[e]
 have:=pick_run xs i k
 rw[List.filterMap_map] at this
 have e2:((λx=>xs[x]?)∘λx=>i+x)=λm=>xs[i+m]? :=rfl
 rw[e2] at this
 rw[this]
theorem o5{t sl:Addr}{items:Array Value}{vl vu:Value}{lo hi:Option Int}{Q:Value→Shared→Prop}(ht:IsTup s.heap t items)(hs:s.heap.IsSliceOf sl vl vu .none)(pl:IsPart vl lo)(pu:IsPart vu hi)
  (hw:¬(sIx items.size 0 lo=0∧sIx items.size items.size hi=items.size))
  (h:Q (.ref s.heap.objs.size) {s with heap:=s.heap.push {cls:= .type "tuple",data:= .seq ((items.toList.drop (sIx items.size 0 lo)).take (sIx items.size items.size hi -sIx items.size 0 lo)).toArray}})
  (hsz:items.size≤sizeLine):wpAny (model prog w) A (getItem (.ref t) (.ref sl)) Q E s:=by
 have htake:sizeOk (.seq ((items.toList.drop (sIx items.size 0 lo)).take (sIx items.size items.size hi -sIx items.size 0 lo)).toArray):=by
  show((items.toList.drop (sIx items.size 0 lo)).take (sIx items.size items.size hi -sIx items.size 0 lo)).toArray.size≤sizeLine
  rw[Gan,GcH,GbU,GbI]
  omega
 have hj:sIx items.size items.size hi≤items.size:=JX _ _ (Gaq _) hi
 obtain⟨os,hos,hcs,hds⟩:=id hs
 have hTs:s.TypeIs (.ref sl) "slice":=⟨os,hos,hcs⟩
 unfold getItem
 try with_reducible refine GcJ ?_
 first|refine Gac (Gao ?_)|skip
 refine Gac (wpAny_sequenceKey ht.typeIs (by decide) ?_)
 refine Gac (GbS (name:=Str.ofString "__getitem__") ht.typeIs Gcq
  (Gbx Gcq ht.typeIs entry_tuple_getitem ?_ (args_tuple_getitem _ _)))
 show wpAny _ _ (Builtin.Tuple.tupleItemsOf (.ref t)>>=_) _ _ s
 refine Gac (tupleItemsOf_ ht ?_)
 refine Gac (wpAny_typeOf hTs ?_)
 rw[Gag (by decide)]
 refine Gac (pq hs pl pu ?_)
 have hno:¬((((sIx items.size 0 lo:Nat):Int)==0&&(1:Int)==1&&(sIx items.size items.size hi -sIx items.size 0 lo)==items.size)=true):=by
  intro q
  rw[Gau,Gau] at q
  have q1:((sIx items.size 0 lo:Nat):Int)=0:=eq_of_beq q.1.1
  have q2:sIx items.size items.size hi -sIx items.size 0 lo=items.size:=eq_of_beq q.2
  exact hw ⟨by omega,by omega⟩
 show wpAny _ _ (if(((sIx items.size 0 lo:Nat):Int)==0&&(1:Int)==1&&(sIx items.size items.size hi -sIx items.size 0 lo)==items.size)=true then _ else _) _ _ s
 rw[Gaj hno,EC]
 first
  |exact Gac (m:=Builtin.Tuple.tupleExact _) (GaX (Gao ⟨_,rfl,Gao h⟩) htake)
  |exact Gac (m:=Builtin.Tuple.tupleExact _) (GaX (Gac (Gao (Gao ⟨_,rfl,Gao h⟩))) htake)
  |exact Gac (Gac (m:=Builtin.Tuple.tupleExact _) (GaX (Gao (Gao ⟨_,rfl,Gao h⟩)) htake))
  |exact Gac (Gac (m:=Builtin.Tuple.tupleExact _) (GaX (Gao ⟨_,rfl,Gao h⟩) htake))
end
end HT
namespace L2
open PySem PySem.Spec PyProof.Rows
noncomputable abbrev TO:=St→Hp→(Option Int→Hp→Prop)→Prop
noncomputable def PO(X:Cx)(e:Option Expr)(t:TO):Prop:=
 ∀(pins:List (Addr×Obj)) (s:Shared) (σ:St) (H:Hp) (Q:Option Int→Hp→Prop),Inv X pins σ H s→t σ H Q→
  wpAny (model X.prog X.w) X.A (evalPart e X.env) (λu s' =>∃o H',Inv X pins σ H' s' ∧IsPart u o∧Q o H') X.xe s
noncomputable def Ht:TO:=λ_ H Q=>Q none H
noncomputable def Mb(t:TE):TO:=λσ H Q=>t σ H λx H1=>∃i,x= .int i∧Q (some i) H1
section
variable{X:Cx}{e:Expr}{te:TE}{lo hi:Option Expr}{tl th:TO}{pos p2:Pos}
theorem Hu:PO X none Ht:=by
 intro pins s σ H Q I h
 rw[evalPart_none]
 exact Gao ⟨none,H,I,.none,h⟩
theorem Hv(h:PE X e te):PO X (some e) (Mb te):=by
 intro pins s σ H Q I hw
 rw[evalPart_some]
 refine thn (h pins s σ H _ I hw) λu s1 ⟨x,H1,I1,r1,q1⟩=> ?_
 obtain⟨i,rfl,q⟩:=q1
 obtain⟨t,rfl⟩:=r1
 exact⟨some i,H1,I1,.int i t,q⟩
noncomputable def SlR(X:Cx)(r:V→Option Int→Option Int→Hp→VK→Prop):Prop:=
 ∀(pins:List (Addr×Obj)) (s:Shared) (σ:St) (H:Hp) (x:V) (v vl vu:Value) (lo hi:Option Int) (sl:Addr) (Q:VK),Inv X pins σ H s→RelV x v→s.heap.IsSliceOf sl vl vu .none→IsPart vl lo→IsPart vu hi→r x lo hi H Q→
  ∃T id,typeLookup (.type T) "__getitem__"=pure (some (.builtin id))∧s.TypeIs v T∧wpAny (model X.prog X.w) X.A (getItem v (.ref sl)) (EP X pins σ Q) X.xe s
theorem SlR.or{r r' :V→Option Int→Option Int→Hp→VK→Prop}(h:SlR X r)(h' :SlR X r'):SlR X (λx lo hi H Q=>r x lo hi H Q∨r' x lo hi H Q):=by
 intro pins s σ H x v vl vu lo hi sl Q I rx hs pl pu q
 rcases q with q|q
 ·exact h pins s σ H x v vl vu lo hi sl Q I rx hs pl pu q
 ·exact h' pins s σ H x v vl vu lo hi sl Q I rx hs pl pu q
noncomputable def tSl(r:V→Option Int→Option Int→Hp→VK→Prop)(te:TE)(tl th:TO):TE:=λσ H Q=>te σ H λx H1=>tl σ H1 λl H2=>th σ H2 λu H3=>r x l u H3 Q
theorem ED{r:V→Option Int→Option Int→Hp→VK→Prop}(hr:SlR X r)(he:PE X e te)(hl:PO X lo tl)(hu:PO X hi th):PE X (.Subscript e (.Slice lo hi none p2) pos) (tSl r te tl th):=by
 intro pins s σ H Q I h
 refine Subscript_ (thn (he pins s σ H _ I h) λv s1 ⟨x,H1,I1,r1,q1⟩=> ?_)
 refine wpAny_Slice (thn (hl pins s1 σ H1 _ I1 q1) λvl s2 ⟨l,H2,I2,pl,q2⟩=>thn (hu pins s2 σ H2 _ I2 q2) λvu s3 ⟨u,H3,I3,pu,q3⟩=> ?_)
 rw[evalPart_none]
 refine Gao ?_
 have I4:Inv X pins σ H3 {s3 with heap:=s3.heap.push {cls:= .type "slice",data:= .fields #[vl,vu,.none]}}:=I3.kept (t' :=s3.toks) λb ob q=>Gaf _ q
 obtain⟨T,id,hT,ht,hg⟩:=hr pins {s3 with heap:=s3.heap.push {cls:= .type "slice",data:= .fields #[vl,vu,.none]}} σ H3 x v vl vu l u s3.heap.objs.size Q I4 r1 (Heap.IsSliceOf.new ..) pl pu q3
 show wpAny (model X.prog X.w) X.A (subscriptTail e (.Slice lo hi none p2) v (.ref s3.heap.objs.size)) (EP X pins σ Q) X.xe {s3 with heap:=s3.heap.push {cls:= .type "slice",data:= .fields #[vl,vu,.none]}}
 exact tail_any (ops:=[.ref s3.heap.objs.size,v]) ht hT hg (by with_unfolding_all rfl)
noncomputable def wm(xs:List V)(lo hi:Option Int):List V:=(xs.drop (HT.sIx xs.length 0 lo)).take (HT.sIx xs.length xs.length hi -HT.sIx xs.length 0 lo)
theorem pZ(xs:List V)(lo hi:Option Int):(wm xs lo hi).length≤xs.length:=by
 unfold wm
 rw[GcH,GbU]
 omega
noncomputable def Om(K:PySem.W.Frag):V→Option Int→Option Int→Hp→VK→Prop:=λx lo hi H Q=>∃a xs,x= .ref a∧SqT K H a xs∧
 ¬(HT.sIx xs.length 0 lo=0∧HT.sIx xs.length xs.length hi=xs.length)∧∀p,H p=none→Q (.ref p) (upd H p (.tup (wm xs lo hi)))
theorem JY:SlR X (Om X.K):=by
 intro pins s σ H x v vl vu lo hi sl Q I rx hs pl pu h
 obtain⟨a,xs,rfl,hx,hw,q⟩:=h
 cases rx
 obtain⟨its,r,ht,hz⟩:=I.tuple hx
 have hlen:its.toArray.size=xs.length:=by rw[Gan];exact r.length.symm
 refine⟨"tuple",_,Gcq.lookup,ht.typeIs, ?_⟩
 refine HT.o5 ht hs pl pu (by rw[hlen];exact hw) ?_ (by rw[hlen];exact hz)
 rw[hlen]
 refine⟨.ref s.heap.objs.size,_,I.laid (t' :=s.toks) (o:= .tup (wm xs lo hi)) (λb ob q=>Gaf _ q) (Gaq _) ?_,rfl,q _ (I.hok.fresh (Gaq _))⟩
 exact⟨Gbw (pZ xs lo hi) hz,_,(r.drop (HT.sIx xs.length 0 lo)).take (HT.sIx xs.length xs.length hi -HT.sIx xs.length 0 lo),IsTup.new _ _⟩
noncomputable def Jf(K:PySem.W.Frag):R2:=λx y H Q=>∃a b xs ys,x= .ref a∧y= .ref b∧SqT K H a xs∧SqT K H b ys∧xs≠[]∧xs.length+ys.length≤sizeLine∧
 (ys=[]→Q (.ref a) H)∧(ys≠[]→∀p,H p=none→Q (.ref p) (upd H p (.tup (xs++ys))))
theorem Vals.cV{xs:List V}{us:List Value}(r:Vals xs us):us=[]↔xs=[]:=by
 cases r with
 |nil=>simp
 |cons _ _=>simp
theorem Hw:OpR X (binaryOp .Add) (Jf X.K):=by
 intro pins s σ H x y v u Q I rx ry h
 obtain⟨a,b,xs,ys,rfl,rfl,ha,hb,hx,hz,q1,q2⟩:=h
 cases rx
 cases ry
 obtain⟨its,r1,p1,_⟩:=I.tuple ha
 obtain⟨its2,r2,p2,_⟩:=I.tuple hb
 refine HT.Hs p1 p2 (λz=>hx (r1.cV.mp z)) (λz=> ⟨.ref a,H,I,rfl,q1 (r2.cV.mp z)⟩) (λz=> ?_) (by rw[←r1.length,←r2.length];exact hz)
 refine⟨.ref s.heap.objs.size,_,I.laid (t' :=s.toks) (o:= .tup (xs++ys)) (λb ob q=>Gaf _ q) (Gaq _) ?_,rfl,q2 (λw=>z (r2.cV.mpr w)) _ (I.hok.fresh (Gaq _))⟩
 exact⟨by rw[Gax];exact hz,_,r1.append r2,IsTup.new _ _⟩
end
noncomputable def ixN(n:Nat)(i:Int):Option Nat:=if 0≤i then(if i<n then some i.toNat else none) else if -(n:Int)≤i then some (i+n).toNat else none
noncomputable def atI{α:Type}(xs:List α)(i:Int):Option α:=(ixN xs.length i).bind λj=>xs[j]?
theorem BK{n:Nat}{i:Int}{j:Nat}(h:ixN n i=some j):seqIndex? i n=some j∧j<n∧-(n:Int)≤i∧i<n:=by
 unfold ixN at h
 by_cases h0:0≤i
 ·rw[Gag h0] at h
  by_cases h1:i<n
  ·rw[Gag h1] at h
   have e:i.toNat=j:=Option.some.inj h
   exact⟨by rw[seqIndex_of h0 h1,e],by omega,by omega,h1⟩
  ·rw[Gaj h1] at h;cases h
 ·rw[Gaj h0] at h
  by_cases h1: -(n:Int)≤i
  ·rw[Gag h1] at h
   have e:(i+n).toNat=j:=Option.some.inj h
   exact⟨by rw[seqIndex_neg (by omega) h1,e],by omega,h1,by omega⟩
  ·rw[Gaj h1] at h;cases h
theorem uU{α:Type}{xs:List α}{i:Int}{v:α}(h:atI xs i=some v):∃j,seqIndex? i xs.length=some j∧xs[j]? =some v∧j<xs.length∧-(xs.length:Int)≤i∧i<xs.length:=by
 unfold atI at h
 cases e:ixN xs.length i with
 |none=>rw[e] at h;cases h
 |some j=>
  rw[e] at h
  obtain⟨h1,h2,h3,h4⟩:=BK e
  exact⟨j,h1,h,h2,h3,h4⟩
noncomputable def BL(b:Expr):Prop:=∀o i,subscripted b false o i=operate [o,i] (getItem o i)
noncomputable def IxR(X:Cx)(r:R2):Prop:=
 ∀(value slice:Expr) (pins:List (Addr×Obj)) (s:Shared) (σ:St) (H:Hp) (x y:V) (v u:Value) (Q:VK),Inv X pins σ H s→RelV x v→RelV y u→r x y H Q→
  subscripted slice false v u=operate [v,u] (getItem v u)→wpAny (model X.prog X.w) X.A (subscriptTail value slice v u) (EP X pins σ Q) X.xe s
noncomputable def MtR(X:Cx)(id:String)(r:V→List V→Hp→VK→Prop):Prop:=
 ∀(pins:List (Addr×Obj)) (s:Shared) (σ:St) (H:Hp) (x:V) (xs:List V) (v:Value) (us:List Value) (Q:VK),Inv X pins σ H s→RelV x v→Vals xs us→r x xs H Q→
  wpAny (model X.prog X.w) X.A (call (.builtin id) (v::us)) (EP X pins σ Q) X.xe s
section
variable{X:Cx}{a b:Expr}{ta tb:TE}{pos:Pos}
theorem IxR.or{r r' :R2}(h:IxR X r)(h' :IxR X r'):IxR X (λx y H Q=>r x y H Q∨r' x y H Q):=by
 intro value slice pins s σ H x y v u Q I rx ry q hs
 rcases q with q|q
 ·exact h value slice pins s σ H x y v u Q I rx ry q hs
 ·exact h' value slice pins s σ H x y v u Q I rx ry q hs
theorem Mc{r:R2}(hr:IxR X r)(ha:PE X a ta)(hb:PE X b tb)(hs:BL b):PE X (.Subscript a b pos) (tOp r ta tb):=by
 intro pins s σ H Q I h
 exact Subscript_ (JK ha hb I h λv u s2 x y H2 I2 rx ry q=>hr a b pins s2 σ H2 x y v u Q I2 rx ry q (hs _ _))
noncomputable def Md(K:PySem.W.Frag):R2:=λx y H Q=>∃p xs i v,x= .ref p∧y= .int i∧SqL K H p xs∧atI xs i=some v∧Q v H
noncomputable def Me(K:PySem.W.Frag):R2:=λx y H Q=>∃p xs i v,x= .ref p∧y= .int i∧SqT K H p xs∧atI xs i=some v∧Q v H
noncomputable def Mf:R2:=λx y H Q=>∃z i c,x= .str z∧y= .int i∧z.length≤sizeLine∧atI z.cps.toList i=some c∧Q (.str ⟨#[c]⟩) H
theorem Hx:IxR X (Md X.K):=by
 intro value slice pins s σ H x y v u Q I rx ry h hs
 obtain⟨p,xs,i,z,rfl,rfl,hq,he,q⟩:=h
 cases rx
 obtain⟨t,rfl⟩:=ry
 obtain⟨its,r,pl,hz⟩:=I.list hq
 obtain⟨j,h1,h2,h3,h4,h5⟩:=uU he
 obtain⟨w,ew,rw'⟩:=r.get h2
 have hl:=r.length
 have hn:=r9
 have fin:EP X pins σ Q w s:=⟨z,H,I,rw',q⟩
 by_cases h0:0≤i
 ·have hj:i.toNat=j:=by
   rw[seqIndex_of h0 h5] at h1
   exact Option.some.inj h1
  exact item_listR pl.isList h0 (by omega) (by rw[hj];simpa using ew) fin hs
 ·have hj:(i+(its.toArray.size:Int)).toNat=j:=by
   rw[seqIndex_neg (by omega) h4] at h1
   rw[Gan,←hl]
   exact Option.some.inj h1
  exact subscriptTail_builtinR (x:=w) pl.isList.typeIs slot_list_getitem.lookup
   (wpAny_getItem_list_neg (Q:=λr s' =>r=w∧EP X pins σ Q r s') pl.isList (by omega) (by rw[Gan]<;>omega) (by omega) (by rw[hj];simpa using ew) ⟨rfl,fin⟩) hs
theorem JZ:IxR X (Me X.K):=by
 intro value slice pins s σ H x y v u Q I rx ry h hs
 obtain⟨p,xs,i,z,rfl,rfl,hq,he,q⟩:=h
 cases rx
 obtain⟨t,rfl⟩:=ry
 obtain⟨its,r,pl,hz⟩:=I.tuple hq
 obtain⟨j,h1,h2,h3,h4,h5⟩:=uU he
 obtain⟨w,ew,rw'⟩:=r.get h2
 have hl:=r.length
 have hn:=r9
 have fin:EP X pins σ Q w s:=⟨z,H,I,rw',q⟩
 exact subscriptTail_builtinR (x:=w) pl.typeIs slot_tuple_getitem.lookup
  (getItem_tuple (j:=j) (Q:=λr s' =>r=w∧EP X pins σ Q r s') pl (by omega) (by omega) (by rw[Gan,←hl];exact h1) (by simpa using ew) ⟨rfl,fin⟩) hs
theorem K0:IxR X Mf:=by
 intro value slice pins s σ H x y v u Q I rx ry h hs
 obtain⟨z,i,c,rfl,rfl,hz,he,q⟩:=h
 obtain⟨t,rfl⟩:=rx
 obtain⟨t',rfl⟩:=ry
 obtain⟨j,h1,h2,h3,h4,h5⟩:=uU he
 have hl:z.cps.toList.length=z.length:=by simp[Str.length]
 rw[hl] at h1 h4 h5
 have hn:=r9
 exact tail_any (typeIs_str s z t) slot_str_getitem.lookup (getItem_str (c:=c) (by
  have e1:decide (i< -(2^63:Int))=false:=GaO (by omega)
  have e2:decide (i≥2^63)=false:=GaO (by omega)
  rw[e1,e2,Bool.or_false]) (by rw[h1];simpa using h2) ⟨.str ⟨#[c]⟩,H,I.tok _,⟨_,rfl⟩,q⟩) hs
noncomputable def rIx(K:PySem.W.Frag):R2:=λx y H Q=>Md K x y H Q∨Me K x y H Q∨Mf x y H Q
theorem K1:IxR X (rIx X.K):=Hx.or (JZ.or K0)
theorem AZ(its:List Value)(n j:Nat)(u:Value):Obj.mapSeq (·.setIfInBounds j u) {cls:= .type "list",data:= .seq its.toArray n}={cls:= .type "list",data:= .seq (its.set j u).toArray n}:=by
 simp[Obj.mapSeq]
theorem Inv.lst{pins:List (Addr×Obj)}{σ:St}{H:Hp}{s:Shared}{p:Addr}{xs:List V}(I:Inv X pins σ H s)(h:H p=some (.lst xs)):
  ∃(its:List Value) (n:Nat),Vals xs its∧s.heap.get? p=some {cls:= .type "list",data:= .seq its.toArray n}∧xs.length≤sizeLine:=by
 obtain⟨z,its,n,r,e⟩:=I.hok p _ h
 exact⟨its,n,r,e,z⟩
theorem Inv.K2{pins:List (Addr×Obj)}{σ:St}{H:Hp}{s:Shared}{p:Addr}{xs ys:List V}{its its' :List Value}{n n' :Nat}{f:Obj→Obj}(I:Inv X pins σ H s)(h:H p=some (.lst xs))
  (ho:s.heap.get? p=some {cls:= .type "list",data:= .seq its.toArray n})(hf:f {cls:= .type "list",data:= .seq its.toArray n}={cls:= .type "list",data:= .seq its'.toArray n' })(r:Vals ys its')(hz:ys.length≤sizeLine)(t:Nat):
  Inv X pins σ (upd H p (.lst ys)) {s with heap:=s.heap.update p f,toks:=t}:=by
 have e:(s.heap.update p f).get? p=some {cls:= .type "list",data:= .seq its'.toArray n' }:=by
  rw[Gbv f ho (by rw[hf]<;>rfl),hf]
 refine I.write (x:=p) (e:=p) (by rw[h];trivial) (.inl rfl) (λb u hb q=>(Gbr _ _ (GaZ hb)).trans q) ⟨_,e⟩ ?_
 exact⟨hz,its',n',r,e⟩
noncomputable def Jg:V→V→V→Hp→(Hp→Prop)→Prop:=λo i v H Q=>∃p xs k j,o= .ref p∧i= .int k∧H p=some (.lst xs)∧ixN xs.length k=some j∧Q (upd H p (.lst (xs.set j v)))
theorem set_list:LW X Jg:=by
 intro pins s σ H o i v ov iv u Q I ro ri rv h
 obtain⟨p,xs,k,j,rfl,rfl,hp,hj,q⟩:=h
 cases ro
 obtain⟨t,rfl⟩:=ri
 obtain⟨its,n,r,ho,hz⟩:=I.lst hp
 obtain⟨h1,h2,h3,h4⟩:=BK hj
 have hl:=r.length
 have hn:=r9
 have I' :Inv X pins σ (upd H p (.lst (xs.set j v))) {s with heap:=s.heap.update p (Obj.mapSeq (·.setIfInBounds j u))}:=
  I.K2 hp ho (AZ its n j u) (r.set rv j) (by rw[Gdl];exact hz) s.toks
 by_cases h0:0≤k
 ·have hk:k.toNat=j:=by
   rw[seqIndex_of h0 h4] at h1
   exact Option.some.inj h1
  exact PySem.W.ki_setAt ho h0 (by omega) (by rw[Gan,←hl];exact h4) (by rw[hk];exact⟨_,I',q⟩)
 ·have hk:(k+(its.toArray.size:Int)).toNat=j:=by
   rw[seqIndex_neg (by omega) h3] at h1
   rw[Gan,←hl]
   exact Option.some.inj h1
  exact PySem.W.ki_setBack ho (by omega) (by rw[Gan,←hl];exact h3) (by omega) (by rw[hk];exact⟨_,I',q⟩)
theorem uV(lo hi:Option Int)(n:Nat):(sliceBounds lo hi none n).1=((HT.sIx n 0 lo:Nat):Int)∧(sliceBounds lo hi none n).2.1=((HT.sIx n n hi:Nat):Int)∧(sliceBounds lo hi none n).2.2=1:=by
 refine⟨?_, ?_,rfl⟩
 ·cases lo with
  |none=>simp[sliceBounds,HT.sIx]
  |some i=>
   simp only[sliceBounds,HT.sIx,Option.getD_none,show(1:Int)>0 by decide,Gbq]
   by_cases h:i<0
   ·simp only[h,Gbq]<;>omega
   ·simp only[h,Gbe]<;>omega
 ·cases hi with
  |none=>simp[sliceBounds,HT.sIx]
  |some i=>
   simp only[sliceBounds,HT.sIx,Option.getD_none,show(1:Int)>0 by decide,Gbq]
   by_cases h:i<0
   ·simp only[h,Gbq]<;>omega
   ·simp only[h,Gbe]<;>omega
theorem t8(its:List Value)(lo hi:Option Int):slicePick its.toArray lo hi none=((its.drop (HT.sIx its.length 0 lo)).take (HT.sIx its.length its.length hi -HT.sIx its.length 0 lo)).toArray:=by
 obtain⟨h1,h2,h3⟩:=uV lo hi its.toArray.size
 unfold slicePick
 rw[h1,h2,h3]
 simp only[sliceRange_one,pick_run,Gan]<;>rfl
noncomputable def Oo(K:PySem.W.Frag):V→Option Int→Option Int→Hp→VK→Prop:=λx lo hi H Q=>∃a xs,x= .ref a∧SqL K H a xs∧∀p,H p=none→Q (.ref p) (upd H p (.lst (wm xs lo hi)))
theorem Hy:SlR X (Oo X.K):=by
 intro pins s σ H x v vl vu lo hi sl Q I rx hs pl pu h
 obtain⟨a,xs,rfl,hx,q⟩:=h
 cases rx
 obtain⟨its,r,ht,hz⟩:=I.list hx
 have hlen:=r.length
 refine⟨"list",_,slot_list_getitem.lookup,ht.isList.typeIs, ?_⟩
 refine wpAny_getItem_list_slice ht.isList hs pl pu .none (by simp) ?_ (by rw[Gan]<;>omega)
 rw[t8,←hlen]
 refine⟨.ref s.heap.objs.size,_,I.laid (t' :=s.toks) (o:= .lst (wm xs lo hi)) (λb ob q=>Gaf _ q) (Gaq _) ?_,rfl,q _ (I.hok.fresh (Gaq _))⟩
 exact⟨Gbw (pZ xs lo hi) hz,_,0,(r.drop (HT.sIx xs.length 0 lo)).take (HT.sIx xs.length xs.length hi -HT.sIx xs.length 0 lo),GaA _ rfl⟩
noncomputable def tY:V→Bool
 | .non=>true
 | .bl _=>true
 | .int _=>true
 | .str _=>true
 |_=>false
noncomputable def eqV:V→V→Bool
 | .non,.non=>true
 | .bl a,.bl b=>a==b
 | .bl a,.int b=>(if a then 1 else 0)==b
 | .int a,.bl b=>a==(if b then 1 else 0)
 | .int a,.int b=>a==b
 | .str a,.str b=>a==b
 |_,_=>false
theorem K3{A:Around}{s:Shared}{y x:V}{u v:Value}(ry:RelV y u)(rx:RelV x v)(fy:tY y=true)(fx:tY x=true):SeqAt.EqAt A s u v (eqV y x):=by
 cases y with
 |non=>
  cases ry
  cases x with
  |non=>cases rx;exact SeqAt.EqAt.same _
  |bl b=>cases rx;exact SeqAt.EqAt.none_bool b
  |int b=>obtain⟨t,rfl⟩:=rx;exact SeqAt.EqAt.none_int b t
  |str b=>obtain⟨t,rfl⟩:=rx;exact SeqAt.EqAt.none_str b t
  |_=>exact absurd (show false=true from fx) Gaz
 |bl a=>
  cases ry
  cases x with
  |non=>cases rx;exact SeqAt.EqAt.bool_none a
  |bl b=>cases rx;exact SeqAt.EqAt.bool_bool a b
  |int b=>obtain⟨t,rfl⟩:=rx;exact SeqAt.EqAt.bool_int a b t
  |str b=>obtain⟨t,rfl⟩:=rx;exact SeqAt.EqAt.bool_str a b t
  |_=>exact absurd (show false=true from fx) Gaz
 |int a=>
  obtain⟨t',rfl⟩:=ry
  cases x with
  |non=>cases rx;exact SeqAt.EqAt.int_none a t'
  |bl b=>cases rx;exact SeqAt.EqAt.int_bool a t' b
  |int b=>obtain⟨t,rfl⟩:=rx;exact SeqAt.EqAt.int_int a t' b t
  |str b=>obtain⟨t,rfl⟩:=rx;exact SeqAt.EqAt.int_str a t' b t
  |_=>exact absurd (show false=true from fx) Gaz
 |str a=>
  obtain⟨t',rfl⟩:=ry
  cases x with
  |non=>cases rx;exact SeqAt.EqAt.str_none a t'
  |bl b=>cases rx;exact SeqAt.EqAt.str_bool a t' b
  |int b=>obtain⟨t,rfl⟩:=rx;exact SeqAt.EqAt.str_int a t' b t
  |str b=>obtain⟨t,rfl⟩:=rx;exact SeqAt.EqAt.str_str a t' b t
  |_=>exact absurd (show false=true from fx) Gaz
 |_=>exact absurd (show false=true from fy) Gaz
theorem gY.or{f:Value}{r r' :List V→Hp→VK→Prop}(h:gY X f r)(h' :gY X f r'):gY X f (λxs H Q=>r xs H Q∨r' xs H Q):=by
 intro pins s σ H xs us Q I rs q
 rcases q with q|q
 ·exact h pins s σ H xs us Q I rs q
 ·exact h' pins s σ H xs us Q I rs q
theorem cP:gY X (.type "tuple") (λxs H Q=>∃p ys,xs=[.ref p]∧((SqL X.K H p ys∧∀l,H l=none→Q (.ref l) (upd H l (.tup ys)))∨(SqT X.K H p ys∧Q (.ref p) H))):=by
 intro pins s σ H xs us Q I r h
 obtain⟨p,ys,rfl,h⟩:=h
 obtain⟨u,rfl,rx⟩:=vals1 r
 cases rx
 rcases h with⟨hq,q⟩| ⟨hq,q⟩
 ·obtain⟨its,r',pl,hz⟩:=I.list hq
  have hlen:=r'.length
  refine call_tuple_list pl.isList (λh' kp=> ?_) (by simp only[Gan]<;>omega)
  have I1:Inv X pins σ H {s with heap:=h' }:=I.kept (t' :=s.toks) kp
  have I2:Inv X pins σ (upd H h'.objs.size (.tup ys)) {s with heap:=h'.push {cls:= .type "tuple",data:= .seq its.toArray}}:=
   I1.laid (t' :=s.toks) (λb o e=>Gaf _ e) (Gaq _) (show cx X.prog X.w _ _ _ (.tup ys) from⟨hz,its,r',IsTup.new _ _⟩)
  exact⟨.ref h'.objs.size,_,I2,rfl,q _ (I1.hok.fresh (Gaq _))⟩
 ·obtain⟨its,r',pl,hz⟩:=I.tuple hq
  exact call_tuple_same pl ⟨.ref p,H,I,rfl,q⟩
noncomputable def tyV(K:PySem.W.Frag)(T:String)(x:V)(H:Hp):Prop:=match x with
 | .str _=>T="str"
 | .int _=>T="int"
 | .ref p=>(T="list"∧∃xs,SqL K H p xs)∨(T="tuple"∧∃o,K.lookup p=some o∧o.cls= .type "tuple"∧o.dict=none)∨
   (T="dict"∧((∃kvs,H p=some (.dK kvs))∨∃kvs,H p=some (.dT kvs)))∨(T="set"∧∃S n,H p=some (.set S n))
 |_=>False
theorem K4{pins:List (Addr×Obj)}{σ:St}{H:Hp}{s:Shared}{T:String}{x:V}{v:Value}(I:Inv X pins σ H s)(r:RelV x v)(ty:tyV X.K T x H):
  s.TypeIs v T∧∀a,v= .ref a→∃ob,s.heap.get? a=some ob∧ob.dict=none:=by
 cases x with
 |str z=>
  obtain⟨t,rfl⟩:=r
  cases(show T="str" from ty)
  exact⟨typeIs_str s z t,λ_ e=>nomatch e⟩
 |int i=>
  obtain⟨t,rfl⟩:=r
  cases(show T="int" from ty)
  exact⟨typeIs_int s i t,λ_ e=>nomatch e⟩
 |ref p=>
  cases r
  rcases ty with⟨rfl,xs,hq⟩| ⟨rfl,o,hk,hc,hd⟩| ⟨rfl,hk⟩| ⟨rfl,S,n,hk⟩
  ·obtain⟨its,_,pl,_⟩:=I.list hq
   refine⟨pl.isList.typeIs,λa e=> ?_⟩
   cases e
   obtain⟨o,n,e,c,hd,_⟩:=pl
   exact⟨o,e,hd⟩
  ·refine⟨⟨o,I.kIn p o hk,hc⟩,λa e=> ?_⟩
   cases e
   exact⟨o,I.kIn _ o hk,hd⟩
  ·have z:∃o,s.heap.get? p=some o∧o.ExactDict:=by
    rcases hk with⟨kvs,hk⟩| ⟨kvs,hk⟩
    ·obtain⟨_,_,_,_,o,_,_,e,ex,_⟩:=I.hok p _ hk
     exact⟨o,e,ex⟩
    ·obtain⟨_,_,_,_,o,_,_,e,ex,_⟩:=I.hok p _ hk
     exact⟨o,e,ex⟩
   obtain⟨o,e,ex⟩:=z
   refine⟨⟨o,e,ex.1⟩,λa e2=> ?_⟩
   cases e2
   exact⟨o,e,ex.2.1⟩
  ·obtain⟨o,_,_,_,e,ex,_⟩:=I.hok p _ hk
   refine⟨⟨o,e,ex.1⟩,λa e2=> ?_⟩
   cases e2
   exact⟨o,e,ex.2.1⟩
 |_=>exact False.elim ty
noncomputable def tBM(K:PySem.W.Frag)(T:String)(r:V→List V→Hp→VK→Prop)(to:TE)(t:TA):TE:=λσ H Q=>to σ H λx H1=>tyV K T x H1∧t σ H1 λxs H2=>r x xs H2 Q
variable{o e:Expr}{es:List Expr}{to:TE}{t:TA}{name:Str}{apos cpos:Pos}{T id:String}{r:V→List V→Hp→VK→Prop}
theorem BM(pa:PlainAttrs T)(slot:Slot T name id)(hty:typeOf (.builtin id)=pure (.type "method_descriptor"))(hm:MtR X id r)(ho:PE X o to)(ha:PA X (e::es) t)
  (hbase:attributeBase o name X.env (eval o X.env)=eval o X.env:=by rfl)
  (hfew:((backTo cpos (starEach (e::es) X.env)).all (λx=> !x.1)&&(backToKw cpos (keywordEach [] X.env)).all (λx=>x.1.isSome)
   &&decide ((e::es).length+([]:List Keyword).length+(if([]:List Keyword).isEmpty then 0 else 1)<30))=true:=by rfl)
  (hline:(apos.endLine==cpos.line)=true:=by rfl)(hs:starEach (e::es) X.env=(false,eval e X.env)::starEach es X.env:=by rfl)(hplain:(backTo cpos (starEach es X.env)).any (·.1)=false:=by rfl):
  PE X (.Call (.Attribute o name apos) (e::es) [] cpos) (tBM X.K T r to t):=by
 intro pins s σ H Q I h
 refine wpAny_Call_method_late hbase hfew hline rfl (thn (ho pins s σ H _ I h) λv s1 ⟨x,H1,I1,r1,ty,q1⟩=> ?_)
 obtain⟨h1,h2⟩:=K4 I1 r1 ty
 refine⟨T,id,pa,slot,hty,h1,h2, ?_⟩
 have hA:=ha cpos pins s1 σ H1 _ I1 q1
 rw[hs] at hA⊢
 refine Gcy (by show(false||(backTo cpos (starEach es X.env)).any (·.1))=false;rw[hplain]<;>rfl) (Gdm ?_)
 exact thn hA λus s2 ⟨vs,H2,I2,r2,q2⟩=>hm pins s2 σ H2 x vs v us Q I2 r1 r2 q2
end
noncomputable def MtM(X:Cx)(id:String)(r:V→List V→Hp→VK→Prop):Prop:=
 ∀(pins:List (Addr×Obj)) (s:Shared) (σ:St) (H:Hp) (x:V) (xs:List V) (v:Value) (us:List Value) (Q:VK),Inv X pins σ H s→RelV x v→Vals xs us→r x xs H Q→
  wpAny (model X.prog X.w) X.A (call (.builtin id) (v::us)) (EP X pins σ Q) X.xe s
theorem Vals.one:∀{x:V} {us:List Value},Vals [x] us→∃u,us=[u]∧RelV x u
 |_,_,.cons r .nil=> ⟨_,rfl,r⟩
theorem Vals.rep{xs:List V}{us:List Value}(h:Vals xs us):∀k:Nat,Vals (List.replicate k xs).flatten (List.replicate k us).flatten
 |0=> .nil
 |k+1=>by
  rw[List.replicate_succ,List.replicate_succ,List.flatten_cons,List.flatten_cons]
  exact Vals.append h (Vals.rep h k)
section
variable{X:Cx}{pins:List (Addr×Obj)}{σ:St}{H:Hp}{s:Shared}{l b:Addr}{xs ys zs:List V}
theorem Inv.K5{its its' :List Value}{n:Nat}{f:Array Value→Array Value}{t' :Nat}(I:Inv X pins σ H s)(hH:H l=some (.lst xs))
  (e:s.heap.get? l=some {cls:= .type "list",data:= .seq its.toArray n})(hf:f its.toArray=its'.toArray)(hv:Vals ys its')(hz:ys.length≤sizeLine):
  Inv X pins σ (upd H l (.lst ys)) {s with heap:=s.heap.update l (Obj.mapSeq f),toks:=t' }:=by
 have q:=PySem.IsL.update e f
 rw[hf] at q
 refine I.write (x:=l) (e:=l) (by rw[hH];exact trivial) (.inl rfl) (λb' u hb hu=>(Gbr s.heap (Obj.mapSeq f) (GaZ hb)).trans hu) ⟨_,q⟩ ?_
 exact⟨hz,its',_,hv,q⟩
theorem Inv.Oq{its:List Value}{t' :Nat}(I:Inv X pins σ H s)(hv:Vals ys its)(hz:ys.length≤sizeLine):
  Inv X pins σ (upd H s.heap.objs.size (.lst ys)) {s with heap:=s.heap.push {cls:= .type "list",data:= .seq its.toArray},toks:=t' }:=
 I.laid (λ_ _ q=>Gaf _ q) (Gaq _) ⟨hz,its,0,hv,GaA _ rfl⟩
theorem Inv.fresh(I:Inv X pins σ H s):H s.heap.objs.size=none:=I.hok.fresh (Gaq _)
theorem Inv.Hz(I:Inv X pins σ H s)(hH:H l=some (.lst xs)):xs.length≤sizeLine∧∃(its:List Value) (n:Nat),Vals xs its∧xs.length=its.length∧s.heap.get? l=some {cls:= .type "list",data:= .seq its.toArray n}:=by
 obtain⟨z,its,n,r,e⟩:=I.hok l _ hH
 exact⟨z,its,n,r,r.length,e⟩
theorem EF{n:Nat}(h:n≤sizeLine):Builtin.List.listTooLong n=false:=by
 unfold Builtin.List.listTooLong
 exact GaO (by omega)
end
section
variable{X:Cx}
noncomputable def BN:V→List V→Hp→VK→Prop:=λx vs H Q=>∃l xs y,x= .ref l∧vs=[y]∧H l=some (.lst xs)∧xs.length<sizeLine∧Q .non (upd H l (.lst (xs++[y])))
theorem pv:MtM X "list.append" BN:=by
 intro pins s σ H x vs v us Q I rx rv h
 obtain⟨l,xs,y,rfl,rfl,hH,hz,q⟩:=h
 cases rx
 obtain⟨u,rfl,ru⟩:=rv.one
 obtain⟨z,its,n,r,hl,e⟩:=I.Hz hH
 refine call_meets F.slot_list_append ⟨_,e,rfl⟩ F.entry_list_append (F.args_list_append_2 _ _) (PySem.list_append l its.toArray n u (by rw[Gan];omega)) ⟨e, ?_⟩
 refine⟨.non,_,I.K5 (its' :=its++[u]) hH e (by simp) (r.append (.cons ru .nil)) ?_,rfl,q⟩
 rw[Gax,List.length_singleton]
 omega
noncomputable def HA:V→List V→Hp→VK→Prop:=λx vs H Q=>∃l b xs zs,x= .ref l∧vs=[.ref b]∧H l=some (.lst xs)∧H b=some (.lst zs)∧xs.length+zs.length≤sizeLine∧Q .non (upd H l (.lst (xs++zs)))
theorem D1:MtM X "list.extend" HA:=by
 intro pins s σ H x vs v us Q I rx rv h
 obtain⟨l,b,xs,zs,rfl,rfl,hH,hB,hz,q⟩:=h
 cases rx
 obtain⟨u,rfl,ru⟩:=rv.one
 cases ru
 obtain⟨z,its,n,r,hl,e⟩:=I.Hz hH
 obtain⟨z2,its2,n2,r2,hl2,e2⟩:=I.Hz hB
 have hsz:its.toArray.size+its2.toArray.size≤sizeLine:=by rw[Gan,Gan];omega
 have hlong:¬(!its.toArray.isEmpty&&Builtin.List.listTooLong (its.toArray.size+its2.toArray.size))=true:=by
  rw[EF hsz,Gds]
  exact Gaz
 refine call_meets F.slot_list_extend ⟨_,e,rfl⟩ F.entry_list_extend (F.args_list_extend_2 _ _)
  (AutoSeq1.list_extend_list_list_0 l its.toArray n b its2.toArray n2 hlong (by rw[Gan];omega) (by omega)) ⟨e,e2, ?_⟩
 refine⟨.non,_,I.K5 (its' :=its++its2) hH e (by simp) (r.append r2) ?_,rfl,q⟩
 rw[Gax]
 omega
end
section
variable{κ:Type} [DecidableEq κ]
noncomputable def iI(kvs:List (κ×V))(k:κ):Option V:=(kvs.find? λkv=>decide (kv.1=k)).map (·.2)
noncomputable def putK(kvs:List (κ×V))(k:κ)(v:V):List (κ×V):=
 if(kvs.any λkv=>decide (kv.1=k))=true then kvs.map (λkv=>if kv.1=k then(kv.1,v) else kv) else kvs++[(k,v)]
noncomputable def OM(kvs:List (κ×V))(k:κ):List (κ×V):=kvs.filter λkv=>decide (kv.1≠k)
theorem lI{p:κ×V}{r:List (κ×V)}{k:κ}(e:p.1=k):iI (p::r) k=some p.2:=by simp[iI,Gbt,e]
theorem j9{p:κ×V}{r:List (κ×V)}{k:κ}(e:¬p.1=k):iI (p::r) k=iI r k:=by simp[iI,Gbt,e]
theorem rh(k:κ):∀kvs:List (κ×V),(kvs.any λkv=>decide (kv.1=k))=(iI kvs k).isSome
 |[]=>rfl
 |p::r=>by
  rw[Gdc]
  by_cases e:p.1=k
  ·simp only[lI e,GaL e,Bool.true_or,Option.isSome_some]
  ·rw[j9 e,GaO e,Bool.false_or];exact rh k r
theorem lJ(kvs:List (κ×V))(k:κ)(v:V):(putK kvs k v).length≤kvs.length+1:=by
 unfold putK
 split
 ·rw[Gad];omega
 ·rw[Gax,GaB,Gcu];omega
theorem EG{kvs:List (κ×V)}{k:κ}(v:V)(h:iI kvs k=none):putK kvs k v=kvs++[(k,v)]:=by
 unfold putK
 rw[rh,h]
 exact Gaj (by decide)
theorem pk.D2{o:Option V}{u:Option Value}(r:pk o u):o.isSome=u.isSome:=by
 cases o with
 |none=>cases u with
  |none=>rfl
  |some _=>exact(show False from r).elim
 |some _=>cases u with
  |none=>exact(show False from r).elim
  |some _=>rfl
theorem pk.getD{o:Option V}{u:Option Value}{d:V}{d' :Value}(r:pk o u)(rd:RelV d d'):RelV (o.getD d) (u.getD d'):=by
 cases o with
 |none=>cases u with
  |none=>exact rd
  |some _=>exact(show False from r).elim
 |some _=>cases u with
  |none=>exact(show False from r).elim
  |some _=>exact r
theorem KV.val{kvs:List (κ×V)}{vs:List (κ×Value)}(r:KV kvs vs)(k:κ):pk (iI kvs k) (valueAt vs k):=by
 unfold KV at r
 induction r with
 |nil=>exact True.intro
 | @cons p q ps qs h t ih=>
  obtain⟨h1,h2⟩:=h
  by_cases e:p.1=k
  ·have e' :q.1=k:=h1.symm.trans e
   have b:valueAt (q::qs) k=some q.2:=by simp[valueAt,Gbt,e']
   rw[lI e,b];exact h2
  ·have e' :¬q.1=k:=λz=>e (h1.trans z)
   have b:valueAt (q::qs) k=valueAt qs k:=by simp[valueAt,Gbt,e']
   rw[j9 e,b];exact ih
theorem KV.any{kvs:List (κ×V)}{vs:List (κ×Value)}(r:KV kvs vs)(k:κ):(kvs.any λkv=>decide (kv.1=k))=vs.any λkv=>decide (kv.1=k):=by
 unfold KV at r
 induction r with
 |nil=>rfl
 |cons h t ih=>rw[Gdc,Gdc,ih,h.1]
theorem KV.K6{kvs:List (κ×V)}{vs:List (κ×Value)}(r:KV kvs vs)(k:κ){y:V}{u:Value}(ry:RelV y u):
  KV (kvs.map λkv=>if kv.1=k then(kv.1,y) else kv) (vs.map λkv=>if kv.1=k then(kv.1,u) else kv):=by
 unfold KV at r⊢
 induction r with
 |nil=>exact .nil
 | @cons p q ps qs h t ih=>
  rw[Gar,Gar]
  refine .cons ?_ ih
  obtain⟨h1,h2⟩:=h
  by_cases e:p.1=k
  ·rw[Gag e,Gag (h1.symm.trans e)];exact⟨h1,ry⟩
  ·rw[Gaj e,Gaj (λz=>e (h1.trans z))];exact⟨h1,h2⟩
theorem KV.put{kvs:List (κ×V)}{vs:List (κ×Value)}(r:KV kvs vs)(k:κ){y:V}{u:Value}(ry:RelV y u):KV (putK kvs k y) (stored vs k u):=by
 unfold putK stored
 rw[r.any k]
 by_cases e:(vs.any λkv=>decide (kv.1=k))=true
 ·rw[Gag e,Gag e];exact r.K6 k ry
 ·rw[Gaj e,Gaj e];exact Paired.snoc r ⟨rfl,ry⟩
theorem KV.length{kvs:List (κ×V)}{vs:List (κ×Value)}(r:KV kvs vs):kvs.length=vs.length:=Paired.length r
end
theorem BO{P:Program}{w:World}{k:Key}{u:Value}(r:RelV (kV k) u):(cA P w).is k u=true:=by
 cases k with
 |inl i=>obtain⟨t,e⟩:=(show∃t,u=Value.int i t from r);subst e;exact w6 P w i t
 |inr x=>obtain⟨t,e⟩:=(show∃t,u=Value.str x t from r);subst e;exact w9 P w x t
theorem tZ{P:Program}{w:World}:∀{ks:List Key} {us:List Value},Vals (ks.map kV) us→ItemsAre (cA P w) ks us
 |[],_,r=>by rw[GdB] at r;cases r;exact .nil
 |k::ks,_,r=>by
  rw[Gar] at r
  cases r with
  |cons h t=>exact .cons (BO h) (tZ t)
noncomputable abbrev KT (H:Hp):List (List Key×V)→List (List Key×Addr×Value)→Prop:=Paired λp q=>p.1=q.1∧H q.2.1=some (.tup (p.1.map kV))∧RelV p.2 q.2.2
theorem KT.val{H:Hp}{kvs:List (List Key×V)}{xs:List (List Key×Addr×Value)}(r:KT H kvs xs)(k:List Key):pk (iI kvs k) ((atKey xs k).map (·.2)):=by
 induction r with
 |nil=>exact True.intro
 | @cons p q ps qs h t ih=>
  obtain⟨h1,_,h2⟩:=h
  by_cases e:p.1=k
  ·have e' :q.1=k:=h1.symm.trans e
   have b:atKey (q::qs) k=some q.2:=by simp[atKey,Gbt,e']
   rw[lI e,b];exact h2
  ·have e' :¬q.1=k:=λz=>e (h1.trans z)
   have b:atKey (q::qs) k=atKey qs k:=by simp[atKey,Gbt,e']
   rw[j9 e,b];exact ih
theorem KT.K6{H:Hp}{kvs:List (List Key×V)}{xs:List (List Key×Addr×Value)}(r:KT H kvs xs)(k:List Key){y:V}{u:Value}(ry:RelV y u):
  KT H (kvs.map λkv=>if kv.1=k then(kv.1,y) else kv) (xs.map (putAt k u)):=by
 induction r with
 |nil=>exact .nil
 | @cons p q ps qs h t ih=>
  rw[Gar,Gar]
  refine .cons ?_ ih
  obtain⟨h1,h2,h3⟩:=h
  unfold putAt
  by_cases e:p.1=k
  ·rw[Gag e,Gag (h1.symm.trans e)];exact⟨h1,h2,ry⟩
  ·rw[Gaj e,Gaj (λz=>e (h1.trans z))];exact⟨h1,h2,h3⟩
theorem KT.put{H:Hp}{kvs:List (List Key×V)}{xs:List (List Key×Addr×Value)}(r:KT H kvs xs)(k:List Key){b:Addr}{y:V}{u:Value}(hb:H b=some (.tup (k.map kV)))(ry:RelV y u):
  KT H (putK kvs k y) (storedH xs k b u):=by
 have e:(kvs.any λkv=>decide (kv.1=k))=(atKey xs k).isSome:=by
  rw[rh,(r.val k).D2,Option.isSome_map]
 unfold putK storedH
 rw[e]
 by_cases q:(atKey xs k).isSome=true
 ·rw[Gag q,Gag q];exact r.K6 k ry
 ·rw[Gaj q,Gaj q];exact Paired.snoc r ⟨rfl,hb,ry⟩
theorem KT.keeps{H H' :Hp}{kvs:List (List Key×V)}{xs:List (List Key×Addr×Value)}(r:KT H kvs xs)(ht:∀b ys,H b=some (.tup ys)→H' b=some (.tup ys)):KT H' kvs xs:=
 Paired.Jx r λ_ _ z=> ⟨z.1,ht _ _ z.2.1,z.2.2⟩
section
variable{P:Program}{w:World}{H:Hp}{h:Heap}{a:Addr}
theorem Jh{u:HO}(ok:HOk P w H h)(e:Rd H a u):cx P w H h a u:=e.ok ok
theorem u0{kvs:List (Key×V)}(ok:HOk P w H h)(e:Rd H a (.dK kvs)):kvs.length≤sizeLine∧(a==sysModules)=false∧∃vs,KV kvs vs∧h.DictOf (cA P w) a vs:=
 show cx P w H h a (.dK kvs) from Jh ok e
theorem Mg{kvs:List (Key×V)}(ok:HOk P w H h)(e:H a=some (.dK kvs)):kvs.length≤sizeLine∧(a==sysModules)=false∧∃vs,KV kvs vs∧h.DictOf (cA P w) a vs:=u0 ok (.inl e)
theorem nM{ks:List Key}(ok:HOk P w H h)(e:H a=some (.tup (ks.map kV))):(tupleKind (cA P w)).is h ks a:=by
 obtain⟨_,its,r,o,h1,h2,n,h3⟩:=(show cx P w H h a (.tup (ks.map kV)) from ok a _ e)
 exact⟨o,its.toArray,n,h1,h2,h3,by simpa using tZ r⟩
theorem wq{kvs:List (List Key×V)}(ok:HOk P w H h)(e:Rd H a (.dT kvs)):kvs.length≤sizeLine∧(a==sysModules)=false∧
  ∃xs,KT H kvs xs∧h.DictOfH (tupleKind (cA P w)) a xs:=by
 obtain⟨z,y,xs,r,o,es,ep,h1,h2,h3,h4,h5⟩:=(show cx P w H h a (.dT kvs) from Jh ok e)
 refine⟨z,y,xs,r,o,es,ep,h1,h2,h3,h4,λx hx=> ?_,h5⟩
 have all:∀{l:List (List Key×V)} {m:List (List Key×Addr×Value)},KT H l m→∀x∈m,(tupleKind (cA P w)).is h x.1 x.2.1:=by
  intro l m q
  induction q with
  |nil=>intro x hx;exact nomatch hx
  | @cons p q ps qs hq t ih=>
   intro x hx
   rcases Gaw.mp hx with e|hx
   ·subst e
    exact nM ok (by rw[←hq.1];exact hq.2.1)
   ·exact ih x hx
 exact all r x hx
theorem BP{kvs:List (List Key×V)}(ok:HOk P w H h)(e:H a=some (.dT kvs)):kvs.length≤sizeLine∧(a==sysModules)=false∧
  ∃xs,KT H kvs xs∧h.DictOfH (tupleKind (cA P w)) a xs:=wq ok (.inl e)
end
noncomputable def wx(H:Hp)(a:Addr)(y:V)(r:Option V):Prop:=
 (∃kvs k,Rd H a (.dK kvs)∧y=kV k∧r=iI kvs k)∨∃kvs k b,Rd H a (.dT kvs)∧y= .ref b∧H b=some (.tup (k.map kV))∧r=iI kvs k
noncomputable def wz(H:Hp)(a:Addr)(y v:V)(H' :Hp):Prop:=
 (∃kvs k,H a=some (.dK kvs)∧y=kV k∧kvs.length<sizeLine∧H' =upd H a (.dK (putK kvs k v)))∨
 ∃kvs k b,H a=some (.dT kvs)∧y= .ref b∧H b=some (.tup (k.map kV))∧kvs.length<sizeLine∧H' =upd H a (.dT (putK kvs k v))
theorem wz.k{H:Hp}{a:Addr}{kvs:List (Key×V)}{k:Key}{v:V}(e:H a=some (.dK kvs))(hl:kvs.length<sizeLine):wz H a (kV k) v (upd H a (.dK (putK kvs k v))):= .inl ⟨kvs,k,e,rfl,hl,rfl⟩
theorem wz.t{H:Hp}{a b:Addr}{kvs:List (List Key×V)}{k:List Key}{v:V}(e:H a=some (.dT kvs))(eb:H b=some (.tup (k.map kV)))(hl:kvs.length<sizeLine):
  wz H a (.ref b) v (upd H a (.dT (putK kvs k v))):= .inr ⟨kvs,k,b,e,rfl,eb,hl,rfl⟩
section
variable{X:Cx}{pins:List (Addr×Obj)}{σ:St}{H:Hp}{s:Shared}{a:Addr}{y v:V}{u r:Value}{o:Option V}{A:Around}{E:Value→Shared→Prop}
theorem Inv.big(I:Inv X pins σ H s):sysModules<s.heap.objs.size:=by
 have h:mainGlobals<s.heap.objs.size:=(I.mod.glob.keeps I.bk).lt
 exact Nat.lt_trans (by decide) h
theorem D3{Q:Value→Shared→Prop}(hu:A.units+1<cLine)(I:Inv X pins σ H s)(g:wx H a y (some v))(ry:RelV y u)(h:∀w' s',Inv X pins σ H s' →RelV v w' →Q w' s'):
  wpAny (model X.prog X.w) A (getItem (.ref a) u) Q E s:=by
 rcases g with⟨kvs,k,e,ey,l⟩| ⟨kvs,k,b,e,ey,eb,l⟩
 ·subst ey
  obtain⟨z,hd,vs,rel,dd⟩:=u0 I.hok e
  obtain⟨w',hw,rw'⟩:=pk.some_of (v:=v) (o:=valueAt vs k) (by rw[l];exact rel.val k)
  exact wpAny_getItem_of (BO ry) dd.mapOf hw (h w' _ (I.tok _) rw')
 ·subst ey
  cases(show u=Value.ref b from ry)
  obtain⟨z,hd,xs,rel,dd⟩:=wq I.hok e
  obtain⟨w',hw,rw'⟩:=pk.some_of (v:=v) (o:=(atKey xs k).map (·.2)) (by rw[l];exact rel.val k)
  obtain⟨p,hp,hp2⟩:=Gal.mp hw
  refine wpAny_getItem_heap (GcN hu) (nM I.hok eb) dd hp ?_
  rw[hp2]
  exact h w' _ (I.tok _) rw'
theorem qQ{h' :Heap}{t' :Nat}{ob:HO}(I:Inv X pins σ H s)(mu:Mut (H a))(hs:Heap.SameBut a s.heap h')(he:∃q,h'.get? a=some q)(new:cx X.prog X.w (upd H a ob) h' a ob):
  Inv X pins σ (upd H a ob) {s with heap:=h',toks:=t' }:=
 I.write (x:=a) (e:=a) mu (.inl rfl) (λb q hb z=>(hs.2 b hb).trans z) he new
theorem K7{P:Program}{w:World}{H' :Hp}{h' :Heap}{kvs:List (Key×V)}{vs:List (Key×Value)}(z:kvs.length≤sizeLine)(hd:(a==sysModules)=false)(rel:KV kvs vs)(dd:h'.DictOf (cA P w) a vs):
  cx P w H' h' a (.dK kvs):=⟨z,hd,vs,rel,dd⟩
theorem D4{H' :Hp}{Q:Unit→Shared→Prop}(hu:A.units+1<cLine)(I:Inv X pins σ H s)(g:wz H a y v H')(ry:RelV y u)(rv:RelV v r)(h:∀s',Inv X pins σ H' s' →Q () s'):
  wpAny (model X.prog X.w) A (setItem (.ref a) u r) Q E s:=by
 rcases g with⟨kvs,k,e,ey,l,eH⟩| ⟨kvs,k,b,e,ey,eb,l,eH⟩
 ·subst ey eH
  obtain⟨z,hd,vs,rel,dd⟩:=Mg I.hok e
  have hz:vs.length≤sizeLine:=by rw[←rel.length];exact z
  have hl:(putK kvs k v).length≤sizeLine:=by have:=lJ kvs k v;omega
  refine wpAny_setItem_pairs (hsz:=hz) (BO ry) dd λh' dd' hs=>h _ ?_
  have he:∃q,h'.get? a=some q:=let⟨q,_,_,hq,_⟩:=dd';⟨q,hq⟩
  exact qQ I (by rw[e];exact True.intro) hs he (K7 hl hd (rel.put k rv) dd')
 ·subst ey eH
  cases(show u=Value.ref b from ry)
  obtain⟨z,hd,xs,rel,dd⟩:=BP I.hok e
  have hz:xs.length≤sizeLine:=by rw[←Paired.length rel];exact z
  have hl:(putK kvs k v).length≤sizeLine:=by have:=lJ kvs k v;omega
  refine wpAny_setItem_heap (hsz:=hz) (GcN hu) (nM I.hok eb) dd λh' dd' hs=>h _ ?_
  obtain⟨q,es,ep,hq,h2,h3,h4,_,h5⟩:=dd'
  refine qQ I (by rw[e];exact True.intro) hs ⟨q,hq⟩ ⟨hl,hd,_,(rel.put k eb rv).keeps λc ys ec=> ?_,q,es,ep,hq,h2,h3,h4,h5⟩
  rw[az (BF ec e (λz=>nomatch z))]
  exact ec
end
section
variable{X:Cx}{pins:List (Addr×Obj)}{σ:St}{H:Hp}{s:Shared}{a:Addr}{kvs:List (Key×V)}{k:Key}{u:Value}{A:Around}{E:Value→Shared→Prop}
theorem Mh{Q:Value→Shared→Prop}(I:Inv X pins σ H s)(e:Rd H a (.dK kvs))(h:∀t s',Inv X pins σ H s' →Q (.int kvs.length t) s'):wpAny (model X.prog X.w) A (call (.builtin "len") [.ref a]) Q E s:=by
 obtain⟨z,hd,vs,rel,dd⟩:=u0 I.hok e
 refine call_len_dict hd dd (by rw[←rel.length];rw[GbC] at z;omega) ?_
 rw[←rel.length]
 exact h _ _ (I.tok _)
end
theorem wA{X:Cx}{pins:List (Addr×Obj)}{σ:St}{H:Hp}{s:Shared}{a:Addr}{y:V}{o:Option V}(I:Inv X pins σ H s)(g:wx H a y o):s.TypeIs (.ref a) "dict":=by
 rcases g with⟨kvs,k,e,_,_⟩| ⟨kvs,k,b,e,_,_,_⟩
 ·obtain⟨_,_,vs,_,dd⟩:=u0 I.hok e
  exact dd.typeIs
 ·obtain⟨_,_,xs,_,dd⟩:=wq I.hok e
  exact dd.typeIs
theorem EH{P:Program}{w:World}{H:Hp}(h:Heap)(hb:sysModules<h.objs.size):cx P w H (h.push {cls:= .type "dict",data:= .dict #[]}) h.objs.size (.dT []):=
 ⟨GbD _,beq_eq_false_iff_ne.mpr (GaZ (GaK hb)),[],.nil,_,#[],0,GaA _ rfl,⟨rfl,rfl,rfl⟩,rfl,rfl,List.nodup_nil⟩
noncomputable def K8:TE:=λ_ H Q=>∀p,H p=none→Q (.ref p) (upd H p (.dT []))
section
variable{X:Cx}{pos:Pos}
theorem wB:PE X (.Dict [] [] pos) K8:=λpins s σ H Q I h=>
 wpAny_Dict_empty ⟨.ref s.heap.objs.size,_,I.laid (a:=s.heap.objs.size) (o:= .dT []) (t' :=s.toks) (λ_ _ q=>Gaf _ q) (Gaq _) (EH s.heap I.big),rfl,h _ (I.hok.fresh (Gaq _))⟩
end
noncomputable def Ot(kvs more:List (Key×V)):List (Key×V):=more.foldl (λacc kv=>putK acc kv.1 kv.2) kvs
structure M2(X:Cx)(o:Expr)(m:Str)(apos:Pos)(e f:Expr)(cpos:Pos):Prop where
 base:attributeBase o m X.env (eval o X.env)=eval o X.env
 few:((backTo cpos (starEach [e,f] X.env)).all (λx=> !x.1)&&(backToKw cpos (keywordEach [] X.env)).all (λx=>x.1.isSome)
  &&decide (([e,f]:List Expr).length+([]:List Keyword).length+(if([]:List Keyword).isEmpty then 0 else 1)<30))=true
 line:(apos.endLine==cpos.line)=true
 trees:backTo cpos (starEach [e,f] X.env)=[(false,eval e X.env),(false,eval f X.env)]
noncomputable def IsD(H:Hp)(a:Addr):Prop:=(∃kvs,Rd H a (.dK kvs))∨∃kvs,Rd H a (.dT kvs)
theorem B0{X:Cx}{pins:List (Addr×Obj)}{σ:St}{H:Hp}{s:Shared}{a:Addr}(I:Inv X pins σ H s)(d:IsD H a):
  s.TypeIs (.ref a) "dict"∧(∀b,Value.ref a= .ref b→∃ob,s.heap.get? b=some ob∧ob.dict=none)∧(a==sysModules)=false:=by
 rcases d with⟨kvs,e⟩| ⟨kvs,e⟩
 ·obtain⟨_,hd,vs,_,dd⟩:=u0 I.hok e
  refine⟨dd.typeIs,λb q=> ?_,hd⟩
  cases q
  obtain⟨ob,_,_,h1,h2,_⟩:=dd
  exact⟨ob,h1,h2.2.1⟩
 ·obtain⟨_,hd,xs,_,dd⟩:=wq I.hok e
  refine⟨dd.typeIs,λb q=> ?_,hd⟩
  cases q
  obtain⟨ob,_,_,h1,h2,_⟩:=dd
  exact⟨ob,h1,h2.2.1⟩
section
variable{X:Cx}{pins:List (Addr×Obj)}{σ:St}{H:Hp}{s:Shared}{a:Addr}{y d:V}{u r:Value}{o:Option V}{A:Around}{E:Value→Shared→Prop}
theorem K9{Q:Value→Shared→Prop}(hu:A.units+1<cLine)(I:Inv X pins σ H s)(g:wx H a y o)(ry:RelV y u)(rd:RelV d r)(h:∀w' s',Inv X pins σ H s' →RelV (o.getD d) w' →Q w' s'):
  wpAny (model X.prog X.w) A (call (.builtin "dict.get") [.ref a,u,r]) Q E s:=by
 rcases g with⟨kvs,k,e,ey,l⟩| ⟨kvs,k,b,e,ey,eb,l⟩
 ·subst ey
  obtain⟨z,hd,vs,rel,dd⟩:=u0 I.hok e
  refine call_meetsIn Gdh dd.typeIs PySem.F.entry_dict_get (PySem.F.args_dict_get_3 _ _ _) (meets_dict_get_default (cA X.prog X.w) a (BO ry) hd r) ⟨_,dd.mapOf,h _ _ (I.tok _) ?_⟩
  rw[l]
  exact(rel.val k).getD rd
 ·subst ey
  cases(show u=Value.ref b from ry)
  obtain⟨z,hd,xs,rel,dd⟩:=wq I.hok e
  refine call_meetsIn Gdh dd.typeIs PySem.F.entry_dict_get (PySem.F.args_dict_get_3 _ _ _) (meetsH_dict_get_default (tupleKind (cA X.prog X.w)) a b hd r) ⟨GcN hu,k,xs,nM I.hok eb,dd,h _ _ (I.tok _) ?_⟩
  rw[l]
  exact(rel.val k).getD rd
end
noncomputable def Ka(td ty tx:TE):TE:=λσ H Q=>td σ H λx H1=>∃a,x= .ref a∧IsD H1 a∧ty σ H1 λy H2=>tx σ H2 λz H3=>∃o,wx H3 a y o∧Q (o.getD z) H3
section
variable{X:Cx}{o e f:Expr}{apos cpos:Pos}{td ty tx:TE}
theorem EI(hu:X.A.units+1<cLine)(ho:PE X o td)(he:PE X e ty)(hf:PE X f tx)(m:M2 X o "get" apos e f cpos):PE X (.Call (.Attribute o "get" apos) [e,f] [] cpos) (Ka td ty tx):=by
 intro pins s σ H Q I h
 refine wpAny_Call_method m.base m.few m.line GcT Gdh PySem.F.type_dict_get (thn (ho pins s σ H _ I h) λu s1 ⟨x,H1,I1,rx,a,ex,d,q1⟩=> ?_)
 subst ex
 obtain rfl:u=Value.ref a:=rx
 obtain⟨t1,t2,_⟩:=B0 I1 d
 refine⟨t1,t2, ?_⟩
 rw[m.trees]
 refine Gcy rfl (Gdm (Gct (thn (he pins s1 σ H1 _ I1 q1) λiv s2 ⟨y,H2,I2,ry,q2⟩=>
  Gct (thn (hf pins s2 σ H2 _ I2 q2) λfv s3 ⟨z,H3,I3,rz,ov,g,q3⟩=>Calls.spliced_nil ?_))))
 exact K9 hu I3 g ry rz λw' s4 I4 rw' => ⟨_,H3,I4,rw',q3⟩
end
end L2
namespace Att
open PySem PySem.W PySem.Calls PyProof.Rows
theorem qJ{P:Params}{h:Heap}:∀(ns:List Int) (vs:List Value),WellAll P h vs (ns.map WData.int)→IntsAre vs ns:=by
 intro ns
 induction ns with
 |nil=>
  intro vs w
  rw[GdB] at w
  cases w
  exact .nil
 |cons n ns ih=>
  intro vs w
  rw[Gar] at w
  cases w with
  |cons a b=>
   cases a
   exact .cons _ _ (ih _ b)
theorem D5{l:OpenLaw}{n:Nat}(hn:l.most=some n){P:Params}{h:Heap}{args:List WData}{vals:List Value}
  (hpre:l.row.toRowW.claim.pre args=true)(hwl:WellAll P h vals args):
  ∃a vs ns,vals=[Value.ref a]∧args=[WData.list (ns.map WData.int)]∧h.get? a=some {cls:= .type "list",data:= .seq vs.toArray}∧IntsAre vs ns∧ns.length≤n:=by
 have hsh:WShape.hasAll [] args [.list .int]=true:=(pre_splitW hpre).1
 have hc:l.pre.holds [] {args:=args}=true:=(pre_splitW hpre).2
 obtain⟨d,r,rfl,h1,h2⟩:=hasAllW_cons hsh
 obtain rfl:=hasAllW_nil h2
 obtain⟨xs,rfl,h3⟩:=hasW_list h1
 obtain⟨ns,rfl⟩:=items_int h3
 have hlen:ns.length≤n:=by
  unfold OpenLaw.pre at hc
  have h4:(WTm.not (.lt (.lit (.int (n:Int))) (.len (.arg 0)))).holds [] {args:=[.list (ns.map .int)]}=true:=by
   have h4:=(holds_andW hc).1
   rw[hn] at h4
   exact h4
  have h5:=condW_of h4 (w_not (w_lt w_lit (w_len_list (w_arg rfl))))
  rw[Gad] at h5
  refine Nat.le_of_not_lt λq=> ?_
  have q' :(n:Int)<((ns.length:Nat):Int):=by omega
  first
   |(rw[GaL q'] at h5;exact absurd h5 (by decide))
   |(simp at h5;omega)
 cases hwl with
 |cons w1 w2=>
  cases w2
  cases w1 with
  |list ho hall=>exact⟨_,_,ns,rfl,rfl,ho,qJ ns _ hall,hlen⟩
theorem D6(l:OpenLaw)(args:List WData):l.row.toRowW.claim.post args (.bool true) args=true:=
 postW_of (r:=l.row.toRowW) (X:=(true==true))
  (show WShape.has [] (.bool true) .bool=true by first|rfl|decide|simp[WShape.has,WShape.arms,WShape.armsAll])
  (show(WTm.eq .res (.lit (.bool true))).value [] {args:=args,res:=some (.bool true),after:=args}=some (.bool (true==true)) from w_eq_bool (w_res rfl) w_lit) rfl
theorem wC{l:OpenLaw}{n:Nat}{q:Program}{loose:List Str}{XP:(Str→Option Value)→Heap→Prop}{YP:World→Heap→Prop}{d:DefRec}
  (hn:l.most=some n)(hdf:d.params.defaults=[])
  (call:∀(w:World) (s₀ s₁:Shared) (mg mb:Str→Option Value) (fa:Addr) (o:Obj) (pm cd doc:Value) (a:Addr) (vs:List Value) (ns:List Int),
   Ground q loose [] XP w s₀ mg mb s₁.heap→YP w s₁.heap→
   s₁.heap.get? fa=some o→o.data= .func (docDef d.name d.params d.body d.scope pm cd doc)→s₁.heap.CodeRec cd d.name→mg d.name=some (.ref fa)→
   s₁.heap.get? a=some {cls:= .type "list",data:= .seq vs.toArray}→IntsAre vs ns→ns.length≤n→s₁.gens=#[]→
   codeAny (model l.prog w) callerA (.call (.ref fa) ⟨[.ref a],[]⟩) (λr s' =>r= .ok (.ret (.bool true))∧OldK s₁.heap s'.heap∧s'.os=s₁.os∧AllBare s'.gens) s₁):
  WalkO q loose XP YP l.row.toRowW d [] (λf vs=>PySem.call f vs):=by
 intro w s₀ s₁ mg mb G Y fa o pm cd doc dV kV ho hd hcd hD hmg hg args vals as hpre hlay hrd hwl hlo
 obtain rfl:dV= .none:=Dflts.none hD hdf
 obtain rfl:kV= .none:=Dflts.noKw hD
 obtain⟨a,vs,ns,rfl,rfl,hobj,hints,hlen⟩:=D5 hn hpre hwl
 refine enter_call (codeAny_mono (call w s₀ s₁ mg mb fa o pm cd doc a vs ns G Y ho (fd_plain hd) hcd hmg hobj hints hlen hg) λr s' hq=> ?_)
 obtain⟨rfl,h2,h3,h4⟩:=hq
 exact⟨.inl ⟨.bool true,.bool true,[],rfl,λ_=>rfl,.bool true,D6 l _,λ_=> ⟨List.Pairwise.nil,λ_ hm=>(nomatch hm)⟩⟩,h2,h3,h4⟩
end Att
namespace L2
open PySem PySem.Spec PyProof.Rows
theorem mK:∀{vs:List Value} {ns:List Int},IntsAre vs ns→Vals (ns.map V.int) vs
 |_,_,.nil=> .nil
 |_,_,.cons n t h=> .cons ⟨t,rfl⟩ (mK h)
noncomputable def HB(H:Hp):Prop:=∀b,H b=none∨∃o xs,H b=some (.frz o (.lst xs))
theorem EJ{P:Program}{w:World}{K:PySem.W.Frag}{mg mb:Str→Option Value}{CX:CXT}{k:Nat}{fa a:Addr}{fd:FuncData}{x:Str}{sp:Sp}{s₁:Shared}{vs:List Value}{ns:List Int}
  (KX:K.In s₁.heap)(hns:s₁.heap.Ns mainGlobals mg)(hb:s₁.heap.Ns builtinsNs mb)(hbb:∀x:Str,x≠"__name__"→mb x=bootBuiltins x)(hlim:s₁.heap.NoLimit)(hg:s₁.gens=#[])
  (ha:s₁.heap.get? a=some {cls:= .type "list",data:= .seq vs.toArray})(hi:IntsAre vs ns)(hl:ns.length≤sizeLine)(hr:jy k callerA)
  (F:∀base:Heap,K.In base→base.Ns mainGlobals mg→cT P w K mg base CX k fa fd [x] sp)(hbind:∀(s:Shared) (u:Value),BindsTo s fd ⟨[u],[]⟩ [(x,u)])
  (hsp:∀H:Hp,HB H→SqL K H a (ns.map V.int)→sp [.ref a] H (λv _=>v= .bl true) λ_ _ _=>False)
  (hCX:∀H e s',CX [] H s₁ (λ_ _ _=>False) e s' →False):
  codeAny (model P w) callerA (.call (.ref fa) ⟨[.ref a],[]⟩) (λr s' =>r= .ok (.ret (.bool true))∧OldK s₁.heap s'.heap∧s'.os=s₁.os∧AllBare s'.gens) s₁:=by
 have rv:=mK hi
 have lenV:=hi.length
 have core:∀H:Hp,HB H→SqL K H a (ns.map V.int)→HOk P w H s₁.heap→(∀b,H b≠none→b=a)→(H a≠none→K.lookup a=none)→
   codeAny (model P w) callerA (.call (.ref fa) ⟨[.ref a],[]⟩) (λr s' =>r= .ok (.ret (.bool true))∧OldK s₁.heap s'.heap∧s'.os=s₁.os∧AllBare s'.gens) s₁:=by
  intro H hO hS hok hA hK
  have base_of:∀{b:Addr} {o:Obj},s₁.heap.get? b=some o→H b=none→(uQ s₁.heap H).get? b=some o:=λe n=>Eo e n
  have noA:∀{b:Addr} {o:Obj} {es:Array DictEntry} {ep:Nat},s₁.heap.get? b=some o→o.data= .dict es ep→H b=none:=λ{b o es ep} e d=>by
   cases q:H b with
   |none=>rfl
   |some u=>
    have e' :b=a:=hA b (by rw[q];simp)
    subst e'
    rw[ha] at e;cases e
    have d' :Data.seq vs.toArray _=Data.dict es ep:=d
    cases d'
  have nsK:∀{b:Addr} {m:Str→Option Value},s₁.heap.Ns b m→(uQ s₁.heap H).Ns b m:=λ{b m} ⟨o,es,ep,e,d,r⟩=> ⟨o,es,ep,base_of e (noA e d),d,r⟩
  have hKb:K.In (uQ s₁.heap H):=λb o e=>base_of (KX b o e) (by
   cases q:H b with
   |none=>rfl
   |some u=>
    have e' :b=a:=hA b (by rw[q];simp)
    subst e'
    rw[hK (by rw[q];simp)] at e;cases e)
  have hM:Mod K mg (uQ s₁.heap H):=⟨hKb,nsK hns,⟨mb,nsK hb,hbb⟩,let⟨mc,h1,h2⟩:=hlim;⟨mc,nsK h1,h2⟩⟩
  have e0:Hq P w K mg (uQ s₁.heap H) callerA [] s₁ H:=⟨rfl,hM,λb o e=>H0 e,Nat.le_of_eq (CM _ _),trivial,λb hb=>absurd (show b∈([]:List Addr) from hb) (by simp),hok,.of_eq hg⟩
  refine codeAny_mono ((F _ hKb (nsK hns)).run callerA [] s₁ H ⟨[.ref a],[]⟩ [.ref a] [.ref a] _ _ hr e0 (hbind s₁ (.ref a)) (.cons rfl .nil) (hsp H hO hS)) λr s' h=> ?_
  cases r with
  |error e=>exact(hCX H e s' h).elim
  |ok fl=>
   cases fl with
   |next=>exact False.elim h
   |brk=>exact False.elim h
   |cont=>exact False.elim h
   |ret u=>
    obtain⟨v,H',os,bare,un,hok',r',q⟩:=h
    have q' :v= .bl true:=q
    subst q'
    obtain rfl:u=Value.bool true:=r'
    refine⟨rfl,OldK.of_keep λb o e=> ?_,os,bare⟩
    cases q:H b with
    |none=>exact un.keep b o e q (by intro z;exact absurd (show b∈([]:List Addr) from z) (by simp)) (by simp)
    |some u=>
     rcases hO b with z| ⟨ob,xs,z⟩
     ·rw[q] at z;cases z
     ·have z2:=un.t6 b ob _ z
      obtain⟨e1,_⟩:=hok b _ z
      obtain⟨e2,_⟩:=hok' b _ z2
      rw[e] at e1;cases e1
      exact e2
 cases hk:K.lookup a with
 |some o=>
  have e:=KX a o hk
  rw[ha] at e
  cases e
  refine core (λ_=>none) (λ_=> .inl rfl) (.inr ⟨_,vs.toArray,_,hk,rfl,rfl,rfl,by rw[Gan,lenV];exact hl,by simpa using rv⟩) (λb u z=>by have z' :(none:Option HO)=some u:=z;cases z') (λb z=>absurd rfl z) λz=>absurd rfl z
 |none=>
  refine core (λb=>if b=a then some (.frz {cls:= .type "list",data:= .seq vs.toArray} (.lst (ns.map V.int))) else none) (λb=> ?_) (.inl (.inr ⟨{cls:= .type "list",data:= .seq vs.toArray},Gag rfl⟩)) (λb u z=> ?_) (λb z=> ?_) λ_=>hk
  ·by_cases hb:b=a
   ·exact .inr ⟨_,_,Gag hb⟩
   ·exact .inl (Gaj hb)
  ·by_cases hb:b=a
   ·have z' :=(Gag hb).symm.trans z
    cases z'
    subst hb
    exact⟨ha,by rw[Gad];exact hl,vs,_,rv,ha⟩
   ·have z' :=(Gaj hb).symm.trans z
    cases z'
  ·by_cases hb:b=a
   ·exact hb
   ·exact absurd (Gaj hb) z
theorem HC{l:PySem.W.OpenLaw}{n k:Nat}{q:Program}{loose:List Str}{XP:(Str→Option Value)→Heap→Prop}{YP:World→Heap→Prop}{d:DefRec}{K:Params→PySem.W.Frag}{CX:World→CXT}{sp:World→Sp}{x:Str}
  (hn:l.most=some n)(hn2:n≤sizeLine)(hdf:d.params.defaults=[])(hr:jy k callerA)
  (hY:∀(w:World) (h:Heap),YP w h→(K w.params).In h)
  (F:∀(w:World) (mg:Str→Option Value) (fa:Addr) (h:Heap),(K w.params).In h→h.Ns mainGlobals mg→mg d.name=some (.ref fa)→
   ∃fd:FuncData,(∀(s:Shared) (u:Value),BindsTo s fd ⟨[u],[]⟩ [(x,u)])∧
    ∀base:Heap,(K w.params).In base→base.Ns mainGlobals mg→cT l.prog w (K w.params) mg base (CX w) k fa fd [x] (sp w))
  (hsp:∀(w:World) (H:Hp) (a:Addr) (ns:List Int),ns.length≤n→HB H→SqL (K w.params) H a (ns.map V.int)→sp w [.ref a] H (λv _=>v= .bl true) λ_ _ _=>False)
  (hCX:∀(w:World) (H:Hp) (s:Shared) (e:Value) (s' :Shared),CX w [] H s (λ_ _ _=>False) e s' →False):
  PySem.W.WalkO q loose XP YP l.row.toRowW d [] (λf vs=>PySem.call f vs):=by
 refine Att.wC hn hdf λw s₀ s₁ mg mb fa o pm cd doc a vs ns G Y ho hd hcd hmg hobj hints hlen hg=> ?_
 have KX:=hY w _ Y
 obtain⟨fd,hb,hF⟩:=F w mg fa _ KX G.T.g hmg
 exact EJ KX G.T.g G.T.b G.T.builtins G.T.nolimit hg hobj hints (Gbw hlen hn2) hr hF hb (λH hO hS=>hsp w H a ns hlen hO hS) λH e s' =>hCX w H s₁ e s'
noncomputable def mL(s:Stmt):Arguments:=match s with
 | .FunctionDef _ a _ _ _ _ _ _ _ _=>a
 |_=>{posonlyargs:=[],args:=[],vararg:=none,kwonlyargs:=[],kw_defaults:=[],kwarg:=none,defaults:=[]}
noncomputable def jC(s:Stmt):List Stmt:=match s with
 | .FunctionDef _ _ b _ _ _ _ _ _ _=>b
 |_=>[]
noncomputable def aJ(s:Stmt):Scope:=match s with
 | .FunctionDef _ _ _ _ _ _ sc _ _ _=>sc
 |_=>{kind:= .function,names:=[],isGenerator:=false,isCoroutine:=false}
noncomputable abbrev CX0:CXT:=λ_ _ _ _ _ _=>False
noncomputable abbrev E0:XK:=λ_ _ _=>False
theorem Mi{X:Cx}:Passes CX0 X E0:=λ_ _ _ _ _ _ _ h=>h.elim
structure Fun(K:PySem.W.Frag)(x qual:Str)(st:Stmt)(f:Addr)(fd:FuncData):Prop where
 ex:∃(oc:Value) (od:Option Addr) (kV doc pm:Value) (an:Option Addr) (cdv ct:Value) (osl:Array (Option Value)),
  fd=PySem.W.fnOf x qual (mL st) (jC st) (aJ st) .none kV doc pm an cdv ct∧K.lookup f=some ⟨oc,od,.func fd,osl⟩∧PySem.W.codeIn K cdv qual=true
 kp:PySem.W.keepIn K (.ref f)=true
section
variable{P:Program}{w:World}{K:PySem.W.Frag}{mg:Str→Option Value}{base:Heap}
theorem Fun.ok{x qual:Str}{st:Stmt}{f:Addr}{fd:FuncData}{N ps:List Str}{k:Nat}{sp:Sp}(F:Fun K x qual st f fd)(S:aW N ps (aJ st))(len:∀vs H Q E,sp vs H Q E→vs.length=ps.length)
  (hbody:∀(cdv:Value) (A:Around) (outer:List Env) (s:Shared) (H:Hp) (vs:List V) (Q:VK) (E:XK),jy k (A.deeper (envOfC qual (aJ st) s.heap.objs.size f cdv))→sp vs H Q E→
   ∃t,PSs (AW CX0 P w K mg base N qual (aJ st) f cdv A outer s H E).nox (jC st) t∧t {nx:=λ_ H' =>Q .non H',rt:=Q} (start N vs) H):cT P w K mg base CX0 (k+1) f fd ps sp:=by
 obtain⟨oc,od,kV,doc,pm,an,cdv,ct,osl,rfl,lk,hcd⟩:=F.ex
 refine Ma lk hcd S len λA outer s H vs Q E hr hsp=> ?_
 obtain⟨t,h,q⟩:=hbody cdv A outer s H vs Q E hr hsp
 exact⟨t,h.nox,q⟩
theorem Kb{x qual:Str}{st:Stmt}{f:Addr}{oc:Value}{od an:Option Addr}{osl:Array (Option Value)}{kV doc pm cdv ct:Value}(l:K.lookup f=some ⟨oc,od,.func (PySem.W.fnOf x qual (mL st) (jC st) (aJ st) .none kV doc pm an cdv ct),osl⟩)
  (c:PySem.W.codeIn K cdv qual=true)(k:PySem.W.keepIn K (.ref f)=true):Fun K x qual st f (PySem.W.fnOf x qual (mL st) (jC st) (aJ st) .none kV doc pm an cdv ct):=⟨⟨oc,od,kV,doc,pm,an,cdv,ct,osl,rfl,l,c⟩,k⟩
end
theorem cM{A:Around}{k:Nat}(hr:jy k A):A.units+1<cLine:=GcO (Nat.add_le_add_left (by decide:1≤64) _) hr.units
noncomputable def cC(H H' :Hp):Prop:=∀b o,H b=some o→H' b=some o
theorem cC.trans{H H1 H2:Hp}(a:cC H H1)(b:cC H1 H2):cC H H2:=λc o h=>b c o (a c o h)
theorem cC.free{H H' :Hp}(e:cC H H'){l:Addr}(h:H' l=Option.none):H l=Option.none:=by
 cases q:H l with
 |none=>rfl
 |some o=>
  rw[e l o q] at h
  cases h
end L2
namespace DL
open PySem
noncomputable abbrev Key:=Sum Int Str
inductive D where
 |non
 |bl (b:Bool)
 |int (i:Int)
 |str (x:Str)
 |tup (ds:List D)
 |lst (ds:List D)
 |dK (kvs:List (Key×D))
 |dT (kvs:List (List Key×D))
 |scr (ns:List Int)
 deriving Inhabited
mutual
@[simp] noncomputable def D.imm:D→Bool
 | .non=>true
 | .bl _=>true
 | .int _=>true
 | .str _=>true
 | .tup ds=>aQ ds
 | .lst _=>false
 | .dK _=>false
 | .dT _=>false
 | .scr _=>true
@[simp] noncomputable def aQ:List D→Bool
 |[]=>true
 |d::ds=>d.imm&&aQ ds
end
noncomputable def D.o6:D→Bool
 | .lst ds=>aQ ds
 | .dK kvs=>aQ (kvs.map (·.2))
 | .dT kvs=>aQ (kvs.map (·.2))
 |d=>d.imm
noncomputable def D.top:D→Bool
 | .lst _=>true
 | .dK _=>true
 | .dT _=>true
 |_=>false
noncomputable def ai:Nat:=16777216
inductive Slot where
 |sh (d:D)
 |own (d:D)
 |lok (d:D)
 |bor (d:D)
noncomputable abbrev Env:=List (Option Slot)
inductive Cls where
 |c|tn|to|tb
 deriving DecidableEq
structure RV where
 k:Cls
 d:D
noncomputable abbrev DE:=Env→Option RV
noncomputable abbrev DT:=Env→Option Bool
noncomputable abbrev DA:=Env→Option (List RV)
noncomputable abbrev DG:=D→Env→Option Env
inductive Out where
 |nx (e:Env)
 |ret (d:D)
 |bk (e:Env)
 |ct (e:Env)
noncomputable abbrev DS:=Env→Option Out
noncomputable def kC(d:D):RV:=⟨if d.top then .tn else .c,d⟩
noncomputable def RV.free(r:RV):Bool:=match r.k with
 | .c=>true
 | .tn=>true
 |_=>false
@[simp] noncomputable def vE(i:Nat):DE:=λenv=>match env[i]? with
 |some (some (.sh d))=>some ⟨.c,d⟩
 |some (some (.own d))=>some ⟨.to,d⟩
 |some (some (.lok d))=>some ⟨.tb,d⟩
 |some (some (.bor d))=>some ⟨.tb,d⟩
 |_=>none
@[simp] noncomputable def kE(d:D):DE:=λ_=>some ⟨.c,d⟩
@[simp] noncomputable def opE(o:D→D→Option RV)(f g:DE):DE:=λenv=>(f env).bind λx=>(g env).bind λy=>o x.d y.d
@[simp] noncomputable def unE(o:D→Option RV)(f:DE):DE:=λenv=>(f env).bind λx=>o x.d
noncomputable def aT:D→D→Option RV
 | .int i,.int j=>some ⟨.c,.int (i+j)⟩
 | .str x,.str y=>if x.length+y.length≤ai then some ⟨.c,.str (x++y)⟩ else none
 | .tup x,.tup y=>if x.length+y.length≤ai∧0<x.length then some ⟨.c,.tup (x++y)⟩ else none
 | .lst x,.lst y=>if x.length+y.length≤ai then some ⟨.tn,.lst (x++y)⟩ else none
 |_,_=>none
noncomputable def k6:D→D→Option RV
 | .int i,.int j=>some ⟨.c,.int (i -j)⟩
 |_,_=>none
noncomputable def cf(i j:Int):Bool:=decide (i.natAbs<18446744073709551616)||decide (j.natAbs<18446744073709551616)
noncomputable def dE:D→D→Option RV
 | .int i,.int j=>if cf i j then some ⟨.c,.int (i*j)⟩ else none
 |_,_=>none
noncomputable def lK:D→D→Option RV
 | .int i,.int j=>if 0<j∧j<1073741824 then some ⟨.c,.int (i/j)⟩ else none
 |_,_=>none
noncomputable def rm:D→D→Option RV
 | .int i,.int j=>if 0<j then some ⟨.c,.int (i%j)⟩ else none
 |_,_=>none
noncomputable def pw:D→D→Option RV
 | .int i,.int j=>if 0≤j∧j≤1000∧i.natAbs<1000000 then some ⟨.c,.int (i^j.toNat)⟩ else none
 |_,_=>none
noncomputable def D7:D→Option RV
 | .int i=>some ⟨.c,.int (-i)⟩
 |_=>none
@[simp] noncomputable def aA:Nat→D→Bool
 |_,.non=>true
 |_,.bl _=>true
 |_,.int _=>true
 |_,.str _=>true
 |n+1,.tup ds=>ds.all (aA n)
 |n+1,.lst ds=>ds.all (aA n)
 |_,_=>false
@[simp] noncomputable def D.plain(d:D):Bool:=aA 20 d
mutual
@[simp] noncomputable def eqD:D→D→Bool
 | .non,.non=>true
 | .bl a,.bl b=>a==b
 | .bl a,.int b=>(if a then 1 else 0)==b
 | .int a,.bl b=>a==(if b then 1 else 0)
 | .int a,.int b=>a==b
 | .str a,.str b=>a==b
 | .tup a,.tup b=>lL a b
 | .lst a,.lst b=>lL a b
 |_,_=>false
@[simp] noncomputable def lL:List D→List D→Bool
 |[],[]=>true
 |a::as,b::bs=>eqD a b&&lL as bs
 |_,_=>false
end
noncomputable def eqB(x y:D):Option Bool:=if x.plain&&y.plain then some (eqD x y) else none
noncomputable def neB(x y:D):Option Bool:=if x.plain&&y.plain then some (!eqD x y) else none
noncomputable def cD:D→Bool
 | .non=>true
 |_=>false
noncomputable def o7(x y:D):Option Bool:=if cD y then some (cD x) else none
noncomputable def iE(x y:D):Option Bool:=if cD y then some (!cD x) else none
noncomputable def ltB:D→D→Option Bool
 | .int i,.int j=>some (decide (i<j))
 |_,_=>none
noncomputable def leB:D→D→Option Bool
 | .int i,.int j=>some (decide (i≤j))
 |_,_=>none
noncomputable def gtB:D→D→Option Bool
 | .int i,.int j=>some (decide (j<i))
 |_,_=>none
noncomputable def geB:D→D→Option Bool
 | .int i,.int j=>some (decide (j≤i))
 |_,_=>none
@[simp] noncomputable def aZ(o:D→D→Option Bool)(f g:DE):DT:=λenv=>(f env).bind λx=>(g env).bind λy=>o x.d y.d
@[simp] noncomputable def bE(t:DT):DE:=λenv=>(t env).map λb=> ⟨.c,.bl b⟩
@[simp] noncomputable def wD(f:DE):DT:=λenv=>(f env).bind λx=>match x.d with
 | .bl b=>some b
 |_=>none
@[simp] noncomputable def jz(t u:DT):DT:=λenv=>(t env).bind λb=>if b then u env else some false
@[simp] noncomputable def orT(t u:DT):DT:=λenv=>(t env).bind λb=>if b then some true else u env
@[simp] noncomputable def uW(t:DT):DT:=λenv=>(t env).map (!·)
@[simp] noncomputable def EK(o p:D→D→Option Bool)(f g h:DE):DT:=λenv=>(f env).bind λx=>(g env).bind λy=>(o x.d y.d).bind λb=>if b then(h env).bind λz=>p y.d z.d else some false
@[simp] noncomputable def ifE(t:DT)(f g:DE):DE:=λenv=>(t env).bind λb=>if b then f env else g env
noncomputable def atD{α:Type}(xs:List α)(i:Int):Option α:=if 0≤i then xs[i.toNat]? else if -(xs.length:Int)≤i then xs[(i+xs.length).toNat]? else none
noncomputable def keyOf:D→Option Key
 | .int i=>some (.inl i)
 | .str x=>some (.inr x)
 |_=>none
@[simp] noncomputable def keysOf:List D→Option (List Key)
 |[]=>some []
 |d::ds=>(keyOf d).bind λk=>(keysOf ds).map (k:: ·)
section
variable{κ:Type} [DecidableEq κ]
noncomputable def look(kvs:List (κ×D))(k:κ):Option D:=(kvs.find? λkv=>decide (kv.1=k)).map (·.2)
noncomputable def put(kvs:List (κ×D))(k:κ)(v:D):List (κ×D):=
 if(kvs.any λkv=>decide (kv.1=k))=true then kvs.map (λkv=>if kv.1=k then(kv.1,v) else kv) else kvs++[(k,v)]
end
noncomputable def ixD:D→D→Option D
 | .lst xs,.int i=>atD xs i
 | .tup xs,.int i=>atD xs i
 | .str x,.int i=>if x.length≤ai then(atD x.cps.toList i).map λc=> .str ⟨#[c]⟩ else none
 | .dK kvs,k=>(keyOf k).bind λk=>look kvs k
 | .dT kvs,.tup ds=>(keysOf ds).bind λk=>look kvs k
 | .scr ns,.int i=>(atD ns i).map .int
 |_,_=>none
@[simp] noncomputable def ixE(f g:DE):DE:=λenv=>(f env).bind λx=>(g env).bind λy=>(ixD x.d y.d).map λd=> ⟨.c,d⟩
@[simp] noncomputable def aq:DA:=λ_=>some []
@[simp] noncomputable def a5(f:DE)(r:DA):DA:=λenv=>(f env).bind λx=>(r env).bind λxs=>some (x::xs)
@[simp] noncomputable def bM(a:DA):DE:=λenv=>(a env).bind λrs=>if rs.all (·.free)&&decide (rs.length≤ai) then some ⟨.c,.tup (rs.map (·.d))⟩ else none
@[simp] noncomputable def gF(a:DA):DE:=λenv=>(a env).bind λrs=>if rs.all (·.free)&&decide (rs.length≤ai) then some ⟨.tn,.lst (rs.map (·.d))⟩ else none
@[simp] noncomputable def aH(sp:List D→Option D)(a:DA):DE:=λenv=>(a env).bind λrs=>(sp (rs.map (·.d))).map kC
@[simp] noncomputable def dN(o:List D→Option RV)(a:DA):DE:=λenv=>(a env).bind λrs=>o (rs.map (·.d))
noncomputable def cN:List D→Option RV
 |[.lst xs]=>some ⟨.c,.int xs.length⟩
 |[.tup xs]=>some ⟨.c,.int xs.length⟩
 |[.str x]=>if x.length≤ai then some ⟨.c,.int x.length⟩ else none
 |[.dK kvs]=>some ⟨.c,.int kvs.length⟩
 |[.scr ns]=>some ⟨.c,.int ns.length⟩
 |_=>none
noncomputable def o8:List D→Option RV
 |[.int i,.int j]=>some ⟨.c,.int (if j<i then j else i)⟩
 |_=>none
noncomputable def wF:List D→Option RV
 |[.int i,.int j]=>some ⟨.c,.int (if j>i then j else i)⟩
 |_=>none
noncomputable def ja:List D→Option RV
 |[.lst xs]=>some ⟨.c,.tup xs⟩
 |[.tup xs]=>some ⟨.c,.tup xs⟩
 |_=>none
@[simp] noncomputable def uX:List D→Option (List Bool)
 |[]=>some []
 | .bl b::ds=>(uX ds).map (b:: ·)
 |_=>none
@[simp] noncomputable def BQ:List D→Option (List Int)
 |[]=>some []
 | .int i::ds=>(BQ ds).map (i:: ·)
 |_=>none
noncomputable def mX:D→Option (List D)
 | .lst xs=>some xs
 | .tup xs=>some xs
 | .scr ns=>some (ns.map .int)
 |_=>none
noncomputable def one(o:List D→Option RV):List D→Option RV
 |[d]=>(mX d).bind o
 |_=>none
noncomputable def anyS:List D→Option RV:=one λds=>(uX ds).map λbs=> ⟨.c,.bl (bs.any id)⟩
noncomputable def B1(i:Int)(ns:List Int):Int:=ns.foldl (λa b=>if b>a then b else a) i
noncomputable def k7(T:String):D→Bool
 | .non=>T=="NoneType"
 | .bl _=>T=="bool"||T=="int"
 | .int _=>T=="int"
 | .str _=>T=="str"
 | .tup _=>T=="tuple"
 | .lst _=>T=="list"
 | .dK _=>T=="dict"
 | .dT _=>T=="dict"
 | .scr _=>T=="list"
noncomputable def lM:D→Bool
 | .scr _=>true
 |_=>false
@[simp] noncomputable def D8(T:String)(f:DE):DT:=λenv=>(f env).bind λx=>if lM x.d then none else some (k7 T x.d)
noncomputable def sIx(n d:Nat):Option Int→Nat
 |none=>d
 |some v=>if v<0 then(v+(n:Int)).toNat else min v.toNat n
noncomputable def cutD{α:Type}(xs:List α)(lo hi:Option Int):List α:=(xs.drop (sIx xs.length 0 lo)).take (sIx xs.length xs.length hi -sIx xs.length 0 lo)
noncomputable abbrev DO:=Env→Option (Option Int)
@[simp] noncomputable def noO:DO:=λ_=>some none
@[simp] noncomputable def fX(f:DE):DO:=λenv=>(f env).bind λx=>match x.d with
 | .int i=>some (some i)
 |_=>none
noncomputable def slD(lo hi:Option Int):D→Option RV
 | .lst xs=>some ⟨.tn,.lst (cutD xs lo hi)⟩
 | .tup xs=>if sIx xs.length 0 lo=0∧sIx xs.length xs.length hi=xs.length then none else some ⟨.c,.tup (cutD xs lo hi)⟩
 | .scr ns=>some ⟨.tn,.lst (cutD (ns.map .int) lo hi)⟩
 |_=>none
@[simp] noncomputable def slE(f:DE)(lo hi:DO):DE:=λenv=>(f env).bind λx=>(lo env).bind λl=>(hi env).bind λh=>slD l h x.d
@[simp] noncomputable def gN(i:Nat):DG:=λd env=>some (env.set i (some (.sh d)))
@[simp] noncomputable def gNs:List Nat→List D→Env→Option Env
 |[],[],env=>some env
 |i::is,d::ds,env=>gNs is ds (env.set i (some (.sh d)))
 |_,_,_=>none
@[simp] noncomputable def gT(is:List Nat):DG:=λd env=>match d with
 | .tup ds=>gNs is ds env
 |_=>none
@[simp] noncomputable def bf:DS:=λenv=>some (.nx env)
@[simp] noncomputable def bkS:DS:=λenv=>some (.bk env)
@[simp] noncomputable def aG(f g:DS):DS:=λenv=>(f env).bind λo=>match o with
 | .nx e=>g e
 |o=>some o
noncomputable def stored(i:Nat)(r:RV)(env:Env):Option Env:=match r.k with
 | .c=>some (env.set i (some (.sh r.d)))
 | .tn=>some (env.set i (some (.own r.d)))
 |_=>none
@[simp] noncomputable def aR(i:Nat)(f:DE):DS:=λenv=>(f env).bind λr=>(stored i r env).map .nx
noncomputable def wG(r:RV):Bool:=match r.k with
 | .c=>r.d.imm
 | .tn=>r.d.o6
 | .to=>r.d.o6
 | .tb=>false
@[simp] noncomputable def retS(f:DE):DS:=λenv=>(f env).bind λr=>if wG r then some (.ret r.d) else none
@[simp] noncomputable def ifS(t:DT)(f g:DS):DS:=λenv=>(t env).bind λb=>if b then f env else g env
@[simp] noncomputable def forL(g:DG)(body:DS):List D→Env→Option Out
 |[],env=>some (.nx env)
 |d::ds,env=>(g d env).bind λe=>(body e).bind λo=>match o with
  | .nx e=>forL g body ds e
  | .ct e=>forL g body ds e
  | .bk e=>some (.nx e)
  | .ret d=>some (.ret d)
noncomputable abbrev DI:=Env→Option (List D)
@[simp] noncomputable def bT(l:Option Nat)(env:Env):Env:=match l with
 |none=>env
 |some i=>match env[i]? with
  |some (some (.own d))=>env.set i (some (.lok d))
  |_=>env
@[simp] noncomputable def rn(l:Option Nat)(env:Env):Bool:=match l with
 |none=>false
 |some i=>match env[i]? with
  |some (some (.own _))=>true
  |_=>false
@[simp] noncomputable def jb(l:Option Nat)(env:Env):Env:=match l with
 |none=>env
 |some i=>match env[i]? with
  |some (some (.lok d))=>env.set i (some (.own d))
  |_=>env
noncomputable def freed(l:Option Nat)(b:Bool):Out→Out
 | .nx e=> .nx (if b then jb l e else e)
 |o=>o
@[simp] noncomputable def gZ(l:Option Nat)(src:DI)(g:DG)(body:DS):DS:=λenv=>(src (bT l env)).bind λds=>(forL g body ds (bT l env)).map (freed l (rn l env))
noncomputable def iq(t:DT)(body:DS):Nat→Env→Option Out
 |0,_=>none
 |n+1,env=>(t env).bind λb=>if b then(body env).bind λo=>match o with
   | .nx e=>iq t body n e
   | .ct e=>iq t body n e
   | .bk e=>some (.nx e)
   | .ret d=>some (.ret d)
  else some (.nx env)
noncomputable def uY(t:DT)(body:DS):DS:=iq t body 100000
@[simp] noncomputable def lD(f:DE):DI:=λenv=>(f env).bind λr=>if r.k= .to then none else match r.d with
 | .lst xs=>some xs
 | .tup xs=>some xs
 | .scr ns=>some (ns.map .int)
 |_=>none
noncomputable def bx(lo:Int)(n:Nat):List D:=(List.range n).map λ(k:Nat)=> .int (lo+(k:Int))
noncomputable def bV(i:Int):Bool:=decide (-4611686018427387904≤i)&&decide (i<4611686018427387904)
@[simp] noncomputable def iJ(f:DE):DI:=λenv=>(f env).bind λr=>match r.d with
 | .int j=>if bV j then some (bx 0 j.toNat) else none
 |_=>none
@[simp] noncomputable def BR(f g:DE):DI:=λenv=>(f env).bind λx=>(g env).bind λy=>match x.d,y.d with
 | .int i,.int j=>if bV i&&bV j then some (bx i (j -i).toNat) else none
 |_,_=>none
@[simp] noncomputable def ownAt(i:Nat)(env:Env):Option D:=match env[i]? with
 |some (some (.own d))=>some d
 |_=>none
@[simp] noncomputable def mT(i:Nat)(f:DE):DS:=λenv=>(f env).bind λr=>(ownAt i env).bind λd=>match d with
 | .lst xs=>if r.free&&decide (xs.length<ai) then some (.nx (env.set i (some (.own (.lst (xs++[r.d])))))) else none
 |_=>none
@[simp] noncomputable def Mj(i:Nat)(f:DE):DS:=λenv=>(f env).bind λr=>(ownAt i env).bind λd=>match d,r.d with
 | .lst xs,.lst ys=>if(r.k== .tn)&&decide (xs.length+ys.length≤ai) then some (.nx (env.set i (some (.own (.lst (xs++ys)))))) else none
 |_,_=>none
noncomputable def putD(d k v:D):Option D:=match d with
 | .dK kvs=>if kvs.length<ai then(keyOf k).map λk=> .dK (put kvs k v) else none
 | .dT kvs=>match k with
  | .tup ks=>if kvs.length<ai then(keysOf ks).map λk=> .dT (put kvs k v) else none
  |_=>none
 | .lst xs=>match k with
  | .int j=>if 0≤j∧j<xs.length then some (.lst (xs.set j.toNat v)) else if j<0∧-(xs.length:Int)≤j then some (.lst (xs.set (j+xs.length).toNat v)) else none
  |_=>none
 |_=>none
@[simp] noncomputable def pz:DE:=λ_=>some ⟨.tn,.dT []⟩
@[simp] noncomputable def t9(i:Nat)(k v:DE):DS:=λenv=>(v env).bind λx=>(k env).bind λy=>(ownAt i env).bind λd=>if x.free then(putD d y.d x.d).map λd=> .nx (env.set i (some (.own d))) else none
noncomputable def fY:Option Slot→Option Slot
 |some (.sh d)=>some (.sh d)
 |some (.own d)=>some (.bor d)
 |some (.lok d)=>some (.bor d)
 |some (.bor d)=>some (.bor d)
 |none=>none
noncomputable def compEnv(n:Nat)(aO:List Nat)(env:Env):Env:=List.replicate n none++aO.map λi=>fY (env[i]?.getD none)
@[simp] noncomputable def cE(g:DG)(t:DT)(f:DE):List D→Env→Option (List D)
 |[],_=>some []
 |d::ds,env=>(g d env).bind λe=>(t e).bind λb=>if b then(f e).bind λr=>if r.free then(cE g t f ds e).map (r.d:: ·) else none else cE g t f ds e
@[simp] noncomputable def rq(l:Option Nat)(n:Nat)(aO:List Nat)(src:DI)(g:DG)(t:DT)(f:DE):DE:=λenv=>(src (bT l env)).bind λds=>if ds.length≤ai then(cE g t f ds (compEnv n aO env)).map λrs=> ⟨.tn,.lst rs⟩ else none
@[simp] noncomputable def jc:DT:=λ_=>some true
@[simp] noncomputable def bz(n:Nat)(ds:List D):Env:=ds.map (λd=>some (.sh d))++List.replicate (n -ds.length) none
@[simp] noncomputable def dQ(n np:Nat)(body:DS):List D→Option D:=λds=>if ds.length=np then(body (bz n ds)).bind λo=>match o with
  | .ret d=>some d
  | .nx _=>some .non
  |_=>none
 else none
@[simp] theorem HE{a b:String}:Str.ofString a=Str.ofString b↔a=b:=by
 constructor
 ·intro h
  rw[Str.ofString_eq_toList,Str.ofString_eq_toList] at h
  have h1:a.toList.map Char.toNat=b.toList.map Char.toNat:=by
   injection h with h
   exact Gcp.mpr h|>λz=>by simpa using z
  have h2:a.toList=b.toList:=by
   have inj:∀(x y:List Char),x.map Char.toNat=y.map Char.toNat→x=y:=by
    intro x
    induction x with
    |nil=>intro y e;cases y with
     |nil=>rfl
     |cons=>simp at e
    |cons c x ih=>intro y e;cases y with
     |nil=>simp at e
     |cons c' y=>
      simp only[Gar,Gcb] at e
      rw[ih y e.2,Char.toNat_inj.mp e.1]
   exact inj _ _ h1
  exact String.toList_inj.mp h2
 ·rintro rfl;rfl
section
variable{i j:Int}{x y:Str}{ds es:List D}{d:D}{env:Env}{n:Nat}
@[simp] theorem Mk:aT (.int i) (.int j)=some ⟨.c,.int (i+j)⟩:=rfl
@[simp] theorem Ml:aT (.str x) (.str y)=if x.length+y.length≤ai then some ⟨.c,.str (x++y)⟩ else none:=rfl
@[simp] theorem Mm:aT (.tup ds) (.tup es)=if ds.length+es.length≤ai∧0<ds.length then some ⟨.c,.tup (ds++es)⟩ else none:=rfl
@[simp] theorem Mn:aT (.lst ds) (.lst es)=if ds.length+es.length≤ai then some ⟨.tn,.lst (ds++es)⟩ else none:=rfl
@[simp] theorem Mo:k6 (.int i) (.int j)=some ⟨.c,.int (i -j)⟩:=rfl
@[simp] theorem Mp:dE (.int i) (.int j)=if cf i j then some ⟨.c,.int (i*j)⟩ else none:=rfl
@[simp] theorem Lp:lK (.int i) (.int j)=if 0<j∧j<1073741824 then some ⟨.c,.int (i/j)⟩ else none:=rfl
@[simp] theorem Mq:rm (.int i) (.int j)=if 0<j then some ⟨.c,.int (i%j)⟩ else none:=rfl
@[simp] theorem Mr:pw (.int i) (.int j)=if 0≤j∧j≤1000∧i.natAbs<1000000 then some ⟨.c,.int (i^j.toNat)⟩ else none:=rfl
@[simp] theorem Ms:D7 (.int i)=some ⟨.c,.int (-i)⟩:=rfl
@[simp] theorem NF:ltB (.int i) (.int j)=some (decide (i<j)):=rfl
@[simp] theorem NG:leB (.int i) (.int j)=some (decide (i≤j)):=rfl
@[simp] theorem NH:gtB (.int i) (.int j)=some (decide (j<i)):=rfl
@[simp] theorem NI:geB (.int i) (.int j)=some (decide (j≤i)):=rfl
@[simp] theorem NJ:eqB (.int i) (.int j)=some (i==j):=rfl
@[simp] theorem NK:eqB (.str x) (.str y)=some (x==y):=rfl
@[simp] theorem Ou:eqB .non (.int j)=some false:=rfl
@[simp] theorem Ov:eqB (.int j) .non=some false:=rfl
@[simp] theorem Ox:eqB .non .non=some true:=rfl
@[simp] theorem NL:neB (.int i) (.int j)=some (!(i==j)):=rfl
@[simp] theorem NM:neB (.str x) (.str y)=some (!(x==y)):=rfl
@[simp] theorem Oy:neB .non (.int j)=some true:=rfl
@[simp] theorem Oz:neB (.int j) .non=some true:=rfl
@[simp] theorem OA:neB .non .non=some false:=rfl
@[simp] theorem Lq:cD .non=true:=rfl
@[simp] theorem Lr:cD (.int i)=false:=rfl
@[simp] theorem Ls:cD (.str x)=false:=rfl
@[simp] theorem Mt{b:Bool}:cD (.bl b)=false:=rfl
@[simp] theorem Lu:cD (.tup ds)=false:=rfl
@[simp] theorem Lv:cD (.lst ds)=false:=rfl
@[simp] theorem Mu:o7 d .non=some (cD d):=rfl
@[simp] theorem Lw:iE d .non=some (!cD d):=rfl
@[simp] theorem o9:cN [.lst ds]=some ⟨.c,.int ds.length⟩:=rfl
@[simp] theorem fZ:cN [.tup ds]=some ⟨.c,.int ds.length⟩:=rfl
@[simp] theorem Mv:cN [.str x]=if x.length≤ai then some ⟨.c,.int x.length⟩ else none:=rfl
@[simp] theorem EM{ns:List Int}:cN [.scr ns]=some ⟨.c,.int ns.length⟩:=rfl
@[simp] theorem NN{kvs:List (Key×D)}:cN [.dK kvs]=some ⟨.c,.int kvs.length⟩:=rfl
@[simp] theorem Lx:o8 [.int i,.int j]=some ⟨.c,.int (if j<i then j else i)⟩:=rfl
@[simp] theorem Kc:ja [.lst ds]=some ⟨.c,.tup ds⟩:=rfl
@[simp] theorem Kd:ja [.tup ds]=some ⟨.c,.tup ds⟩:=rfl
@[simp] theorem Mw{T:String}:k7 T .non=(T=="NoneType"):=rfl
@[simp] theorem NO{T:String}{b:Bool}:k7 T (.bl b)=(T=="bool"||T=="int"):=rfl
@[simp] theorem Mx{T:String}:k7 T (.int i)=(T=="int"):=rfl
@[simp] theorem My{T:String}:k7 T (.str x)=(T=="str"):=rfl
@[simp] theorem Mz{T:String}:k7 T (.tup ds)=(T=="tuple"):=rfl
@[simp] theorem MA{T:String}:k7 T (.lst ds)=(T=="list"):=rfl
@[simp] theorem Ly:lM .non=false:=rfl
@[simp] theorem MB{b:Bool}:lM (.bl b)=false:=rfl
@[simp] theorem Lz:lM (.int i)=false:=rfl
@[simp] theorem LA:lM (.str x)=false:=rfl
@[simp] theorem LB:lM (.tup ds)=false:=rfl
@[simp] theorem LC:lM (.lst ds)=false:=rfl
@[simp] theorem NP{lo hi:Option Int}:slD lo hi (.lst ds)=some ⟨.tn,.lst (cutD ds lo hi)⟩:=rfl
@[simp] theorem NQ{lo hi:Option Int}:slD lo hi (.tup ds)=if sIx ds.length 0 lo=0∧sIx ds.length ds.length hi=ds.length then none else some ⟨.c,.tup (cutD ds lo hi)⟩:=rfl
@[simp] theorem NR{lo hi:Option Int}{ns:List Int}:slD lo hi (.scr ns)=some ⟨.tn,.lst (cutD (ns.map .int) lo hi)⟩:=rfl
@[simp] theorem MC:stored n ⟨.c,d⟩ env=some (env.set n (some (.sh d))):=rfl
@[simp] theorem LD:stored n ⟨.tn,d⟩ env=some (env.set n (some (.own d))):=rfl
@[simp] theorem NS:wG ⟨.c,d⟩=d.imm:=rfl
@[simp] theorem MD:wG ⟨.tn,d⟩=d.o6:=rfl
@[simp] theorem ME:wG ⟨.to,d⟩=d.o6:=rfl
@[simp] theorem LF:(D.lst ds).o6=aQ ds:=rfl
@[simp] theorem MF{kvs:List (List Key×D)}:(D.dT kvs).o6=aQ (kvs.map (·.2)):=rfl
@[simp] theorem MG{kvs:List (Key×D)}:(D.dK kvs).o6=aQ (kvs.map (·.2)):=rfl
@[simp] theorem MH:kC .non=⟨.c,.non⟩:=rfl
@[simp] theorem NT{b:Bool}:kC (.bl b)=⟨.c,.bl b⟩:=rfl
@[simp] theorem MI:kC (.int i)=⟨.c,.int i⟩:=rfl
@[simp] theorem MJ:kC (.str x)=⟨.c,.str x⟩:=rfl
@[simp] theorem MK:kC (.tup ds)=⟨.c,.tup ds⟩:=rfl
@[simp] theorem ML:kC (.lst ds)=⟨.tn,.lst ds⟩:=rfl
@[simp] theorem NU{kvs:List (List Key×D)}:kC (.dT kvs)=⟨.tn,.dT kvs⟩:=rfl
@[simp] theorem NV{kvs:List (Key×D)}:kC (.dK kvs)=⟨.tn,.dK kvs⟩:=rfl
@[simp] theorem OB:RV.free ⟨.c,d⟩=true:=rfl
@[simp] theorem NW:RV.free ⟨.tn,d⟩=true:=rfl
@[simp] theorem MM{l:Option Nat}{b:Bool}:freed l b (.nx env)= .nx (if b then jb l env else env):=rfl
@[simp] theorem LH{l:Option Nat}{b:Bool}:freed l b (.ret d)= .ret d:=rfl
@[simp] theorem LI:keyOf (.int i)=some (.inl i):=rfl
@[simp] theorem LJ:keyOf (.str x)=some (.inr x):=rfl
@[simp] theorem NX:ixD (.lst ds) (.int i)=atD ds i:=rfl
@[simp] theorem NY:ixD (.tup ds) (.int i)=atD ds i:=rfl
@[simp] theorem NZ{ns:List Int}:ixD (.scr ns) (.int i)=(atD ns i).map .int:=rfl
@[simp] theorem O0:ixD (.str x) (.int i)=if x.length≤ai then(atD x.cps.toList i).map λc=> .str ⟨#[c]⟩ else none:=rfl
@[simp] theorem OC{kvs:List (List Key×D)}:ixD (.dT kvs) (.tup ds)=(keysOf ds).bind λk=>look kvs k:=rfl
theorem cW{α:Type}{xs:List α}{k:Nat}:atD xs (k:Int)=xs[k]? :=by
 unfold atD;rw[Gag (by omega)];simp
@[simp] theorem ON{α:Type}{xs:List α}:atD xs 0=xs[0]? :=rfl
@[simp] theorem OO{α:Type}{xs:List α}:atD xs 1=xs[1]? :=rfl
@[simp] theorem OP{α:Type}{xs:List α}:atD xs 2=xs[2]? :=rfl
@[simp] theorem OQ{α:Type}{xs:List α}:atD xs 3=xs[3]? :=rfl
@[simp] theorem OR{α:Type}{xs:List α}:atD xs 4=xs[4]? :=rfl
@[simp] theorem OT{α:Type}{xs:List α}:atD xs 5=xs[5]? :=rfl
end
open PySem
noncomputable def b7:D→List Int
 | .non=>[0]
 | .int i=>[1,i]
 | .str x=>2::x.cps.toList.map Int.ofNat
 |_=>[3]
noncomputable def g8{α:Type} [DecidableEq α](lt:α→α→Bool):List α→List α→Bool
 |[],[]=>false
 |[],_::_=>true
 |_::_,[]=>false
 |a::as,b::bs=>if a=b then g8 lt as bs else lt a b
noncomputable def ltI(a b:Int):Bool:=decide (a<b)
noncomputable def ltC:List (List Int)→List (List Int)→Bool:=g8 (g8 ltI)
noncomputable def code:D→List (List Int)
 | .tup ds=>ds.map b7
 |d=>[b7 d]
noncomputable def D9(d:D):List D→List D
 |[]=>[d]
 |e::es=>if ltC (code d) (code e) then d::e::es else e::D9 d es
noncomputable def cS:List D→List D
 |[]=>[]
 |d::ds=>D9 d (cS ds)
noncomputable def tyD:D→Nat
 | .non=>0
 | .int _=>1
 | .str _=>2
 |_=>3
noncomputable def mU(d:D):Bool:=tyD d !=3
noncomputable def mY:List D→List D→Bool
 |a::as,b::bs=>if b7 a=b7 b then mY as bs else(tyD a==tyD b&&(tyD a==1||tyD a==2))
 |_,_=>true
noncomputable def Dc:D→Bool
 | .int _=>true
 |_=>false
noncomputable def mV(t:Nat):D→Bool
 | .tup (f::r)=>tyD f==t&&r.all mU
 |_=>false
noncomputable def wH:D→D→Bool
 | .tup a,.tup b=>mY a b
 |_,_=>false
noncomputable def keysOk(ds:List D):Bool:=ds.all Dc||((ds.all (mV 1)||ds.all (mV 2))&&ds.all λx=>ds.all λy=>wH x y)
noncomputable def sortedS:List D→Option RV:=one λds=>if decide (ds.length<64)&&keysOk ds then some ⟨.tn,.lst (cS ds)⟩ else none
structure uZ{α:Type}(lt:α→α→Bool):Prop where
 irr:∀a,lt a a=false
 tr:∀a b c,lt a b=true→lt b c=true→lt a c=true
 tot:∀a b,lt a b=false→lt b a=false→a=b
theorem OE:uZ ltI:=⟨λa=>by simp[ltI],λa b c h1 h2=>by simp[ltI] at*;omega,λa b h1 h2=>by simp[ltI] at*;omega⟩
section
variable{α:Type} [DecidableEq α]{lt:α→α→Bool}
theorem uZ.lex(L:uZ lt):uZ (g8 lt):=by
 refine⟨λa=> ?_,λa=> ?_,λa=> ?_⟩
 ·induction a with
  |nil=>rfl
  |cons x xs ih=>simp[g8,ih]
 ·induction a with
  |nil=>
   intro b c h1 h2
   cases c with
   |nil=>cases b<;>simp[g8] at h1 h2
   |cons z zs=>rfl
  |cons x xs ih=>
   intro b c h1 h2
   cases b with
   |nil=>simp[g8] at h1
   |cons y ys=>
    cases c with
    |nil=>simp[g8] at h2
    |cons z zs=>
     unfold g8 at h1 h2⊢
     by_cases e1:x=y
     ·subst e1
      rw[Gag rfl] at h1
      by_cases e2:x=z
      ·subst e2
       rw[Gag rfl] at h2⊢
       exact ih ys zs h1 h2
      ·rw[Gaj e2] at h2⊢;exact h2
     ·rw[Gaj e1] at h1
      by_cases e2:y=z
      ·subst e2
       rw[Gaj e1];exact h1
      ·rw[Gaj e2] at h2
       by_cases e3:x=z
       ·subst e3
        have:=L.tr x y x h1 h2
        rw[L.irr] at this;cases this
       ·rw[Gaj e3];exact L.tr x y z h1 h2
 ·induction a with
  |nil=>
   intro b h1 h2
   cases b with
   |nil=>rfl
   |cons y ys=>simp[g8] at h1
  |cons x xs ih=>
   intro b h1 h2
   cases b with
   |nil=>simp[g8] at h2
   |cons y ys=>
    unfold g8 at h1 h2
    by_cases e:x=y
    ·subst e
     rw[Gag rfl] at h1 h2
     rw[ih ys h1 h2]
    ·rw[Gaj e] at h1
     rw[Gaj (GaZ e)] at h2
     exact absurd (L.tot x y h1 h2) e
theorem uZ.nt(L:uZ lt){k x y:α}(h1:lt k y=true)(h2:lt x y=false):lt k x=true:=by
 cases h:lt y x with
 |true=>exact L.tr k y x h1 h
 |false=>rw[L.tot x y h2 h];exact h1
theorem uZ.OF(L:uZ lt){x y:α}(h:lt x y=true):lt y x=false:=by
 cases q:lt y x with
 |false=>rfl
 |true=>have:=L.tr x y x h q;rw[L.irr] at this;cases this
end
theorem Dd:uZ ltC:=OE.lex.lex
noncomputable def rank(cs:List (List (List Int)))(i:Nat):Int:=((cs.filter λc=>ltC c (cs[i]?.getD [])).length:Nat)
theorem nN{α:Type}{p q:α→Bool}:∀{l:List α},(∀x∈l,p x=true→q x=true)→(l.filter p).length≤(l.filter q).length
 |[],_=>Gaq _
 |x::l,h=>by
  have ih:=nN (l:=l) λy hy=>h y (Gai _ hy)
  have hx:=h x Gam
  cases hp:p x with
  |false=>
   rw[Gbn,hp]
   simp only[GaF,Gbe]
   refine Gbw ih ?_
   rw[Gbn]
   split
   ·rw[GaB];omega
   ·exact Gaq _
  |true=>rw[Gbn,Gbn,hp,hx hp];simp;exact ih
theorem mZ{α:Type}{p q:α→Bool}:∀{l:List α} {z:α},z∈l→p z=false→q z=true→(∀x∈l,p x=true→q x=true)→(l.filter p).length<(l.filter q).length
 |[],z,hz,_,_,_=>by cases hz
 |x::l,z,hz,h1,h2,h=>by
  rcases Gaw.mp hz with e|hz
  ·subst e
   have:=nN (l:=l) (p:=p) (q:=q) λy hy=>h y (Gai _ hy)
   rw[Gbn,Gbn,h1,h2]
   simp;omega
  ·have ih:=mZ hz h1 h2 λy hy=>h y (Gai _ hy)
   have hx:=h x Gam
   cases hp:p x with
   |false=>
    rw[Gbn,hp]
    simp only[GaF,Gbe]
    rw[Gbn]
    split
    ·rw[GaB];omega
    ·exact ih
   |true=>rw[Gbn,Gbn,hp,hx hp];simp;exact ih
theorem BS{cs:List (List (List Int))}{i j:Nat}(hi:i<cs.length)(hj:j<cs.length):decide (rank cs i<rank cs j)=ltC cs[i] cs[j]:=by
 unfold rank
 rw[Gaa hi,Gaa hj]
 simp only[Option.getD_some]
 cases h:ltC cs[i] cs[j] with
 |true=>
  refine GaL (Int.ofNat_lt.mpr ?_)
  exact mZ (z:=cs[i]) (GaC hi) (Dd.irr _) h λc _ hc=>Dd.tr _ _ _ hc h
 |false=>
  refine GaO (Int.not_lt.mpr (Int.ofNat_le.mpr ?_))
  exact nN λc _ hc=>Dd.nt hc h
noncomputable def fM(ds:List D):Prop:=ds.Pairwise λa b=>ltC (code b) (code a)=false
theorem pA(d:D):∀es:List D,(D9 d es).Perm (d::es)
 |[]=>List.Perm.refl _
 |e::es=>by
  unfold D9
  split
  ·exact List.Perm.refl _
  ·exact((pA d es).cons e).trans (List.Perm.swap d e es)
theorem fO:∀ds:List D,(cS ds).Perm ds
 |[]=>List.Perm.refl _
 |d::ds=>(pA d _).trans ((fO ds).cons d)
theorem q9(d:D):∀{es:List D},fM es→fM (D9 d es)
 |[],_=>GbT _ _
 |e::es,h=>by
  have h' :=Gby.mp h
  unfold D9
  split
  ·rename_i c
   refine Gby.mpr ⟨λb hb=> ?_,h⟩
   rcases Gaw.mp hb with q|q
   ·subst q;exact Dd.OF c
   ·cases z:ltC (code b) (code d) with
    |false=>rfl
    |true=>have:=Dd.tr _ _ _ z c;rw[h'.1 b q] at this;cases this
  ·rename_i c
   refine Gby.mpr ⟨λb hb=> ?_,q9 d h'.2⟩
   rcases Gaw.mp ((pA d es).mem_iff.mp hb) with q|q
   ·subst q;simpa using c
   ·exact h'.1 b q
theorem g9:∀ds:List D,fM (cS ds)
 |[]=>List.Pairwise.nil
 |d::ds=>q9 d (g9 ds)
theorem jW:∀{xs ys:List D},xs.Perm ys→fM xs→fM ys→(∀a∈xs,∀b∈xs,code a=code b→a=b)→xs=ys
 |[],ys,hp,_,_,_=>(List.nil_perm.mp hp).symm
 |x::xs,ys,hp,hx,hy,hi=>by
  cases ys with
  |nil=>exact absurd (List.perm_nil.mp hp) (by simp)
  |cons y ys=>
   have px:=Gby.mp hx
   have py:=Gby.mp hy
   have e:x=y:=by
    have mx:x∈y::ys:=hp.mem_iff.mp Gam
    have my:y∈x::xs:=hp.mem_iff.mpr Gam
    rcases Gaw.mp mx with q|q
    ·exact q
    ·rcases Gaw.mp my with r|r
     ·exact r.symm
     ·exact hi x Gam y my (Dd.tot _ _ (py.1 x q) (px.1 y r)).symm.symm
   subst e
   rw[jW (List.perm_cons x|>.mp hp) px.2 py.2 λa ha b hb=>hi a (Gai _ ha) b (Gai _ hb)]
open PySem
@[simp] noncomputable def fB:Nat→List D→List D
 |_,[]=>[]
 |i,x::xs=> .tup [.int i,x]::fB (i+1) xs
@[simp] noncomputable def BU(f:DE):DI:=λenv=>(f env).bind λr=>if r.k= .to then none else match r.d with
 | .lst xs=>some (fB 0 xs)
 | .tup xs=>some (fB 0 xs)
 |_=>none
theorem k8:∀(i:Nat) (xs:List D),(fB i xs).length=xs.length
 |_,[]=>rfl
 |i,x::xs=>by simp[k8 (i+1) xs]
theorem k9:∀(k:Nat) (xs:List D) (i:Nat),(fB k xs)[i]? =(xs[i]?).map λx=> .tup [.int ((k+i:Nat)),x]
 |_,[],i=>by simp
 |k,x::xs,i=>by
  cases i with
  |zero=>simp
  |succ i=>
   simp only[fB,GcU]
   rw[k9 (k+1) xs i,show k+1+i=k+(i+1) by omega]
open PySem
open PySem
noncomputable def gE{α:Type}(xs:List α)(i:Int)(y:α):List α:=xs.take (if i<0 then(i+(xs.length:Int)).toNat else min i.toNat xs.length)++y::xs.drop (if i<0 then(i+(xs.length:Int)).toNat else min i.toNat xs.length)
theorem u3{α:Type}(xs:List α)(i:Int)(y:α):(gE xs i y).length=xs.length+1:=by
 unfold gE
 rw[Gax,GaB,GcH,GbU]
 omega
theorem B2{α:Type}(xs:List α)(i:Int)(y:α):(gE xs i y).Perm (y::xs):=by
 unfold gE
 refine List.perm_middle.trans ?_
 rw[Gbb]
@[simp] noncomputable def MN(i:Nat)(k v:DE):DS:=λenv=>(k env).bind λx=>(v env).bind λr=>(ownAt i env).bind λd=>match d,x.d with
 | .lst xs,.int j=>if r.free&&(decide (xs.length<ai)&&bV j) then some (.nx (env.set i (some (.own (.lst (gE xs j r.d)))))) else none
 |_,_=>none
open PySem
noncomputable def mmD(best:Int→List Int→Int)(dv:D)(d:D):Option RV:=(mX d).bind λds=>(BQ ds).map λns=>match ns with
 |[]=> ⟨.c,dv⟩
 |n::ns=> ⟨.c,.int (best n ns)⟩
@[simp] noncomputable def mmE(best:Int→List Int→Int)(dv:D)(f:DE):DE:=λenv=>(f env).bind λr=>mmD best dv r.d
open PySem
noncomputable def isInt:D→Bool
 | .int _=>true
 |_=>false
noncomputable def unI:D→Int
 | .int i=>i
 |_=>0
noncomputable def De:Key→D
 | .inl i=> .int i
 | .inr x=> .str x
noncomputable def u4(kvs:List (List Key×D)):List D:=kvs.map λp=> .tup (p.1.map De)
noncomputable def BV:List D→Option RV
 |[.dT kvs]=>some ⟨.tn,.lst (u4 kvs)⟩
 |_=>none
open PySem
noncomputable def Df:D→D→Option (Option D)
 | .dK kvs,k=>(keyOf k).map λk=>look kvs k
 | .dT kvs,.tup ks=>(keysOf ks).map λk=>look kvs k
 |_,_=>none
@[simp] noncomputable def HF(o k d:DE):DE:=λenv=>(o env).bind λx=>(k env).bind λy=>(d env).bind λr=>if r.k= .c then(Df x.d y.d).map λv=> ⟨.c,v.getD r.d⟩ else none
@[simp] theorem O1{kvs:List (List Key×D)}{ks:List D}:Df (.dT kvs) (.tup ks)=(keysOf ks).map λk=>look kvs k:=rfl
open PySem
open PySem
noncomputable def bN(kvs:List (List Key×D)):List D:=kvs.map λp=> .tup [.tup (p.1.map De),p.2]
@[simp] noncomputable def EO(vw:List (List Key×D)→List D)(f:DE):DI:=λenv=>(f env).bind λr=>if r.k= .tn then match r.d with
 | .dT kvs=>some (vw kvs)
 |_=>none
 else none
@[simp] noncomputable def MO(i:Nat)(env:Env):Bool:=(List.range env.length).all λj=>j==i||match env[j]? with
 |some (some (.bor _))=>false
 |_=>true
@[simp] noncomputable def dictAt(i:Nat)(env:Env):Option (List (List Key×D)):=match env[i]? with
 |some (some (.own (.dT kvs)))=>some kvs
 |some (some (.lok (.dT kvs)))=>some kvs
 |some (some (.bor (.dT kvs)))=>if MO i env then some kvs else none
 |_=>none
@[simp] noncomputable def pB(vw:List (List Key×D)→List D)(i n:Nat)(aO:List Nat)(g:DG)(t:DT)(f:DE):DE:=λenv=>(dictAt i env).bind λkvs=>
 if(vw kvs).length≤ai then(cE g t f (vw kvs) (compEnv n aO (env.set i none))).map λrs=> ⟨.tn,.lst rs⟩ else none
open PySem
open PySem
open PySem
open PySem
open PySem
noncomputable abbrev DN:=Env→List (List D)→Option (Env×List (List D))
@[simp] noncomputable def BW(env:Env):Bool:=env.all λz=>match z with
 |some (.bor _)=>false
 |_=>true
open PySem
noncomputable def gc:List D→Option RV:=one λds=>if decide (ds.length<1000000)&&keysOk ds then some ⟨.tn,.lst (cS ds)⟩ else none
open PySem
noncomputable def dd1(ks:List Int)(k:Int):List Int:=if k∈ks then ks else ks++[k]
noncomputable def ddF(ns:List Int):List Int:=ns.foldl dd1 []
open PySem
noncomputable abbrev Rws:=List (List Key×D)
noncomputable abbrev DM:=Env→Rws→Option (Env×Rws)
@[simp] noncomputable def MP(f g:DM):DM:=λenv rows=>(f env rows).bind λq=>g q.1 q.2
@[simp] noncomputable def setM(j:Nat)(f:DE):DM:=λenv rows=>(f env).bind λr=>match r.k with
 | .c=>some (env.set j (some (.sh r.d)),rows)
 |_=>none
noncomputable def ER(kvs:Rws)(k:List Key)(d:D):Option Rws:=if kvs.length<ai then match kvs.findIdx? (λp=>decide (p.1=k)) with
 |some j=>match kvs[j]? with
  |some (_,.lst ds)=>if ds.length<ai then some (kvs.set j (k,.lst (ds++[d]))) else none
  |_=>none
 |none=>some (kvs++[(k,.lst [d])])
 else none
@[simp] noncomputable def MQ(k f:DE):DM:=λenv rows=>(k env).bind λy=>(f env).bind λr=>match y.d with
 | .tup ks=>if r.d.imm&&BW env then(keysOf ks).bind λk=>(ER rows k r.d).map λrows' =>(env,rows') else none
 |_=>none
@[simp] noncomputable def oe(j:Nat)(f:DM):List D→DM
 |[],env,rows=>some (env,rows)
 |d::ds,env,rows=>(f (env.set j (some (.sh d))) rows).bind λq=>oe j f ds q.1 q.2
@[simp] noncomputable def Ji(j:Nat)(e:DE)(f:DM):DM:=λenv rows=>(e env).bind λr=>match r.d with
 | .tup xs=>if aQ xs then oe j f xs env rows else none
 |_=>none
@[simp] noncomputable def ES(i:Nat)(f:DM):DS:=λenv=>(f (env.set i none) []).bind λq=>some (.ret (.dT q.2))
open PySem PySem.Spec PyProof.Rows L2
noncomputable abbrev aE:=PySem.W.Frag
noncomputable abbrev St:=L2.St
noncomputable def isT:HO→Prop
 | .tup _=>True
 | .frz _ _=>True
 |_=>False
noncomputable def Kl(K:aE)(a:Addr)(xs:List V):Prop:=∃(o:Obj) (its:Array Value) (n:Nat),K.lookup a=some o∧o.cls= .type "list"∧o.dict=none∧o.data= .seq its n∧its.size≤sizeLine∧Vals xs its.toList
noncomputable def Scr(K:aE)(H:Hp)(a:Addr)(ns:List Int):Prop:=(∃o,H a=some (.frz o (.lst (ns.map V.int))))∨Kl K a (ns.map V.int)
inductive Rep (K:aE) (F:Addr→Prop) (H:Hp):D→V→Prop where
 |non:Rep K F H .non .non
 |bl (b:Bool):Rep K F H (.bl b) (.bl b)
 |int (i:Int):Rep K F H (.int i) (.int i)
 |str (x:Str):Rep K F H (.str x) (.str x)
 |tup {a:Addr} {vs:List V} {ds:List D} (h:H a=some (.tup vs)) (l:ds.length=vs.length) (r:∀(i:Nat) d v,ds[i]? =some d→vs[i]? =some v→Rep K F H d v):Rep K F H (.tup ds) (.ref a)
 |lst {a:Addr} {vs:List V} {ds:List D} (f:F a) (h:Rd H a (.lst vs)) (l:ds.length=vs.length) (r:∀(i:Nat) d v,ds[i]? =some d→vs[i]? =some v→Rep K F H d v):Rep K F H (.lst ds) (.ref a)
 |scr {a:Addr} {ns:List Int} (h:Scr K H a ns):Rep K F H (.scr ns) (.ref a)
 |dK {a:Addr} {ws:List (Key×V)} {kvs:List (Key×D)} (f:F a) (h:H a=some (.dK ws)) (l:kvs.map (·.1)=ws.map (·.1)) (r:∀(i:Nat) p q,kvs[i]? =some p→ws[i]? =some q→Rep K F H p.2 q.2):Rep K F H (.dK kvs) (.ref a)
 |dT {a:Addr} {ws:List (List Key×V)} {kvs:List (List Key×D)} (f:F a) (h:H a=some (.dT ws)) (l:kvs.map (·.1)=ws.map (·.1)) (r:∀(i:Nat) p q,kvs[i]? =some p→ws[i]? =some q→Rep K F H p.2 q.2):Rep K F H (.dT kvs) (.ref a)
noncomputable def b8(K:aE)(F:Addr→Prop)(H:Hp)(ds:List D)(vs:List V):Prop:=ds.length=vs.length∧∀(i:Nat) d v,ds[i]? =some d→vs[i]? =some v→Rep K F H d v
noncomputable def bc{κ:Type}(K:aE)(F:Addr→Prop)(H:Hp)(kvs:List (κ×D))(ws:List (κ×V)):Prop:=kvs.map (·.1)=ws.map (·.1)∧∀(i:Nat) p q,kvs[i]? =some p→ws[i]? =some q→Rep K F H p.2 q.2
inductive Inn (K:aE) (F:Addr→Prop) (H:Hp):D→V→Prop where
 |non:Inn K F H .non .non
 |bl (b:Bool):Inn K F H (.bl b) (.bl b)
 |int (i:Int):Inn K F H (.int i) (.int i)
 |str (x:Str):Inn K F H (.str x) (.str x)
 |tup {a:Addr} {vs:List V} {ds:List D} (h:H a=some (.tup vs)) (r:b8 K F H ds vs):Inn K F H (.tup ds) (.ref a)
 |lst {a:Addr} {vs:List V} {ds:List D} (h:Rd H a (.lst vs)) (r:b8 K F H ds vs):Inn K F H (.lst ds) (.ref a)
 |scr {a:Addr} {ns:List Int} (h:Scr K H a ns):Inn K F H (.scr ns) (.ref a)
 |dK {a:Addr} {ws:List (Key×V)} {kvs:List (Key×D)} (h:H a=some (.dK ws)) (r:bc K F H kvs ws):Inn K F H (.dK kvs) (.ref a)
 |dT {a:Addr} {ws:List (List Key×V)} {kvs:List (List Key×D)} (h:H a=some (.dT ws)) (r:bc K F H kvs ws):Inn K F H (.dT kvs) (.ref a)
section
variable{K:aE}{F F' :Addr→Prop}{H H' :Hp}{d:D}{v:V}{ds:List D}{vs:List V}
theorem Rep.inn(h:Rep K F H d v):Inn K F H d v:=by
 cases h with
 |non=>exact .non
 |bl b=>exact .bl b
 |int i=>exact .int i
 |str x=>exact .str x
 |tup h l r=>exact .tup h ⟨l,r⟩
 |lst f h l r=>exact .lst h ⟨l,r⟩
 |scr h=>exact .scr h
 |dK f h l r=>exact .dK h ⟨l,r⟩
 |dT f h l r=>exact .dT h ⟨l,r⟩
theorem Inn.rep(h:Inn K F H d v)(hf:∀a,v= .ref a→d.top=true→F a):Rep K F H d v:=by
 cases h with
 |non=>exact .non
 |bl b=>exact .bl b
 |int i=>exact .int i
 |str x=>exact .str x
 |tup h r=>exact .tup h r.1 r.2
 |lst h r=>exact .lst (hf _ rfl rfl) h r.1 r.2
 |scr h=>exact .scr h
 |dK h r=>exact .dK (hf _ rfl rfl) h r.1 r.2
 |dT h r=>exact .dT (hf _ rfl rfl) h r.1 r.2
noncomputable def jA(F:Addr→Prop)(H H' :Hp):Prop:=∀b o,H b=some o→(F b∨isT o)→H' b=some o
theorem jA.of_same(h:cC H H'):jA F H H' :=λb o e _=>h b o e
theorem jA.tup{a:Addr}(s:jA F H H')(h:H a=some (.tup vs)):H' a=some (.tup vs):=s _ _ h (.inr trivial)
theorem jA.scr{a:Addr}{ns:List Int}(s:jA F H H')(h:Scr K H a ns):Scr K H' a ns:=by
 rcases h with⟨o,h⟩|h
 ·exact .inl ⟨o,s _ _ h (.inr trivial)⟩
 ·exact .inr h
theorem jA.rd{a:Addr}{u:HO}(s:jA F H H')(f:F a)(h:Rd H a u):Rd H' a u:=by
 rcases h with h| ⟨o,h⟩
 ·exact .inl (s _ _ h (.inl f))
 ·exact .inr ⟨o,s _ _ h (.inl f)⟩
theorem Rd.there{a:Addr}{u:HO}(h:Rd H a u):H a≠none:=by
 rcases h with h| ⟨o,h⟩<;>rw[h]<;>simp
theorem Rep.gen(s:jA F H H')(hF:∀b,F b→H b≠none→F' b)(h:Rep K F H d v):Rep K F' H' d v:=by
 induction h with
 |non=>exact .non
 |bl b=>exact .bl b
 |int i=>exact .int i
 |str x=>exact .str x
 |tup h l r ih=>exact .tup (s.tup h) l ih
 |lst f h l r ih=>exact .lst (hF _ f (Rd.there h)) (s.rd f h) l ih
 |scr h=>exact .scr (s.scr h)
 |dK f h l r ih=>exact .dK (hF _ f (by rw[h];simp)) (s _ _ h (.inl f)) l ih
 |dT f h l r ih=>exact .dT (hF _ f (by rw[h];simp)) (s _ _ h (.inl f)) l ih
theorem Rep.same(s:cC H H')(h:Rep K F H d v):Rep K F H' d v:=h.gen (.of_same s) λ_ f _=>f
theorem Rep.imp(hF:∀b,F b→F' b)(h:Rep K F H d v):Rep K F' H d v:=h.gen (.of_same λ_ _ e=>e) λb f _=>hF b f
theorem b8.gen(s:jA F H H')(hF:∀b,F b→H b≠none→F' b)(h:b8 K F H ds vs):b8 K F' H' ds vs:=⟨h.1,λi d v e1 e2=>(h.2 i d v e1 e2).gen s hF⟩
theorem bc.gen{κ:Type}{kvs:List (κ×D)}{ws:List (κ×V)}(s:jA F H H')(hF:∀b,F b→H b≠none→F' b)(h:bc K F H kvs ws):bc K F' H' kvs ws:=⟨h.1,λi p q e1 e2=>(h.2 i p q e1 e2).gen s hF⟩
theorem Inn.gen(s:jA F H H')(hF:∀b,F b→H b≠none→F' b)(ht:∀a,v= .ref a→d.top=true→∀o,H a=some o→H' a=some o)(h:Inn K F H d v):Inn K F' H' d v:=by
 have rd:∀{a:Addr} {u:HO},(∀o,H a=some o→H' a=some o)→Rd H a u→Rd H' a u:=λk h=>by
  rcases h with h| ⟨o,h⟩
  ·exact .inl (k _ h)
  ·exact .inr ⟨o,k _ h⟩
 cases h with
 |non=>exact .non
 |bl b=>exact .bl b
 |int i=>exact .int i
 |str x=>exact .str x
 |tup h r=>exact .tup (s.tup h) (r.gen s hF)
 |lst h r=>exact .lst (rd (ht _ rfl rfl) h) (r.gen s hF)
 |scr h=>exact .scr (s.scr h)
 |dK h r=>exact .dK (ht _ rfl rfl _ h) (r.gen s hF)
 |dT h r=>exact .dT (ht _ rfl rfl _ h) (r.gen s hF)
theorem Inn.same(s:cC H H')(h:Inn K F H d v):Inn K F H' d v:=h.gen (.of_same s) (λ_ f _=>f) λ_ _ _ o e=>s _ o e
theorem Inn.imp(hF:∀b,F b→F' b)(h:Inn K F H d v):Inn K F' H d v:=h.gen (.of_same λ_ _ e=>e) (λb f _=>hF b f) λ_ _ _ _ e=>e
theorem Inn.any(h:Inn K F H d v):Rep K (λ_=>True) H d v:=(h.imp (F' :=λ_=>True) λ_ _=>trivial).rep λ_ _ _=>trivial
theorem qR{ds:List D}(h:aQ ds=true):∀(i:Nat) d,ds[i]? =some d→d.imm=true:=by
 induction ds with
 |nil=>intro i d e;simp at e
 |cons x xs ih=>
  unfold aQ at h
  rw[Gau] at h
  intro i d e
  cases i with
  |zero=>simp at e;subst e;exact h.1
  |succ i=>exact ih h.2 i d (by simpa using e)
theorem Rep.imm(h:Rep K F H d v)(hd:d.imm=true):Rep K F' H d v:=by
 induction h with
 |non=>exact .non
 |bl b=>exact .bl b
 |int i=>exact .int i
 |str x=>exact .str x
 |tup h l r ih=>
  unfold D.imm at hd
  exact .tup h l λi d v e1 e2=>ih i d v e1 e2 (qR hd i d e1)
 |lst f h l r ih=>simp[D.imm] at hd
 |scr h=>exact .scr h
 |dK f h l r ih=>simp[D.imm] at hd
 |dT f h l r ih=>simp[D.imm] at hd
theorem Inn.imm(h:Inn K F H d v)(hd:d.imm=true):Rep K F' H d v:=by
 refine Rep.imm (h.rep λa _ ht=> ?_) hd
 cases d<;>simp[D.top] at ht<;>simp[D.imm] at hd
theorem b8.nil:b8 K F H [] []:=⟨rfl,λi d v e=>by simp at e⟩
theorem b8.cV(h:b8 K F H [] vs):vs=[]:=List.eq_nil_of_length_eq_zero h.1.symm
theorem b8.cons(h:Rep K F H d v)(r:b8 K F H ds vs):b8 K F H (d::ds) (v::vs):=by
 refine⟨by simp[r.1],λi x u e1 e2=> ?_⟩
 cases i with
 |zero=>simp at e1 e2;subst e1;subst e2;exact h
 |succ i=>exact r.2 i x u (by simpa using e1) (by simpa using e2)
theorem b8.cons_inv(h:b8 K F H (d::ds) vs):∃v r,vs=v::r∧Rep K F H d v∧b8 K F H ds r:=by
 cases vs with
 |nil=>exact absurd h.1 (by simp)
 |cons v r=>exact⟨v,r,rfl,h.2 0 d v rfl rfl,by simpa using h.1,λi x u e1 e2=>h.2 (i+1) x u (by simpa using e1) (by simpa using e2)⟩
theorem b8.append:∀{ds es:List D} {vs us:List V},b8 K F H ds vs→b8 K F H es us→b8 K F H (ds++es) (vs++us)
 |[],es,vs,us,h,r=>by rw[h.cV];exact r
 |d::ds,es,vs,us,h,r=>by
  obtain⟨v,w,rfl,h1,h2⟩:=h.cons_inv
  exact .cons h1 (h2.append r)
theorem b8.take(n:Nat)(h:b8 K F H ds vs):b8 K F H (ds.take n) (vs.take n):=by
 refine⟨by simp[h.1],λi x u e1 e2=> ?_⟩
 by_cases hi:i<n
 ·rw[GaV hi] at e1 e2;exact h.2 i x u e1 e2
 ·rw[Gbk (by simp;omega)] at e1;cases e1
theorem b8.drop(n:Nat)(h:b8 K F H ds vs):b8 K F H (ds.drop n) (vs.drop n):=by
 refine⟨by simp[h.1],λi x u e1 e2=> ?_⟩
 rw[Gbf] at e1 e2
 exact h.2 _ x u e1 e2
theorem b8.set(h:b8 K F H ds vs)(r:Rep K F H d v)(i:Nat):b8 K F H (ds.set i d) (vs.set i v):=by
 refine⟨by simp[h.1],λj x u e1 e2=> ?_⟩
 by_cases hj:i=j
 ·subst hj
  have hi:i<ds.length:=by have:=(Gae.mp e1).1;simpa using this
  rw[GaT hi] at e1
  rw[GaT (by rw[←h.1];exact hi)] at e2
  cases e1;cases e2;exact r
 ·rw[Gab hj] at e1 e2
  exact h.2 j x u e1 e2
theorem b8.get{i:Nat}(h:b8 K F H ds vs)(e:ds[i]? =some d):∃v,vs[i]? =some v∧Rep K F H d v:=by
 have hi:=(Gae.mp e).1
 have hi' :i<vs.length:=by rw[←h.1];exact hi
 exact⟨vs[i],by simp[hi'],h.2 i d _ e (by simp[hi'])⟩
theorem b8.imm(h:b8 K F H ds vs)(hd:aQ ds=true):b8 K F' H ds vs:=⟨h.1,λi d v e1 e2=>(h.2 i d v e1 e2).imm (qR hd i d e1)⟩
end
noncomputable def bB:Option (Option Slot)→Prop
 |some (some (.own _))=>True
 |some (some (.lok _))=>True
 |some (some (.bor _))=>True
 |_=>False
noncomputable def wI:Option (Option Slot)→Prop
 |some (some (.own _))=>True
 |some (some (.lok _))=>True
 |_=>False
noncomputable def isO:Option (Option Slot)→Prop
 |some (some (.own _))=>True
 |_=>False
noncomputable def va:Option (Option Slot)→Prop
 |some (some (.lok _))=>True
 |some (some (.bor _))=>True
 |_=>False
theorem u5{x:Option (Option Slot)}(h:bB x):isO x∨va x:=by
 match x,h with
 |some (some (.own _)),_=>exact .inl trivial
 |some (some (.lok _)),_=>exact .inr trivial
 |some (some (.bor _)),_=>exact .inr trivial
theorem va.top{x:Option (Option Slot)}(h:va x):bB x:=by
 match x,h with
 |some (some (.lok _)),_=>trivial
 |some (some (.bor _)),_=>trivial
theorem isO.ol{x:Option (Option Slot)}(h:isO x):wI x:=by
 match x,h with
 |some (some (.own _)),_=>trivial
theorem wI.top{x:Option (Option Slot)}(h:wI x):bB x:=by
 match x,h with
 |some (some (.own _)),_=>trivial
 |some (some (.lok _)),_=>trivial
noncomputable def Cln(Bad:Addr→Prop)(env:Env)(σ:St)(a:Addr):Prop:=¬Bad a∧∀i:Nat,bB env[i]? →σ[i]? ≠some (some (V.ref a))
noncomputable def isW:HO→Prop
 | .lst _=>True
 | .dK _=>True
 | .dT _=>True
 |_=>False
noncomputable def Wr(H:Hp)(a:Addr):Prop:=∃o,H a=some o∧isW o
noncomputable def Ow(env:Env)(σ:St)(a:Addr):Prop:=∃i:Nat,isO env[i]? ∧σ[i]? =some (some (.ref a))
structure aI(K:aE)(H₀:Hp)(Bad:Addr→Prop)(env:Env)(σ:St)(H:Hp):Prop where
 same:cC H₀ H
 len:env.length=σ.length
 bad:∀a,Bad a→H a≠none
 sh:∀(i:Nat) d,env[i]? =some (some (.sh d))→∃v,σ[i]? =some (some v)∧Rep K (Cln Bad env σ) H d v
 ow:∀(i:Nat) d,(env[i]? =some (some (.own d))∨env[i]? =some (some (.lok d)))→∃a,σ[i]? =some (some (.ref a))∧H₀ a=none∧¬Bad a∧Wr H a∧d.top=true∧Inn K (Cln Bad env σ) H d (.ref a)
 bo:∀(i:Nat) d,env[i]? =some (some (.bor d))→∃a,σ[i]? =some (some (.ref a))∧Wr H a∧d.top=true∧Inn K (Cln Bad env σ) H d (.ref a)
 dj:∀(i j:Nat) a,wI env[i]? →bB env[j]? →σ[i]? =some (some (.ref a))→σ[j]? =some (some (.ref a))→i=j
structure Stp(env:Env)(σ:St)(H:Hp)(env' :Env)(σ' :St)(H' :Hp):Prop where
 keep:∀b o,H b=some o→¬Ow env σ b→H' b=some o
 ow:∀b,Ow env' σ' b→Ow env σ b∨H b=none
 lk:∀i:Nat,va env'[i]? →env'[i]? =env[i]? ∧σ'[i]? =σ[i]?
theorem Stp.refl{env:Env}{σ:St}{H:Hp}:Stp env σ H env σ H:=⟨λ_ _ e _=>e,λ_ h=> .inl h,λ_ _=> ⟨rfl,rfl⟩⟩
theorem Stp.of_same{env:Env}{σ:St}{H H' :Hp}(s:cC H H'):Stp env σ H env σ H' :=⟨λb o e _=>s b o e,λ_ h=> .inl h,λ_ _=> ⟨rfl,rfl⟩⟩
theorem Stp.trans{e1 e2 e3:Env}{s1 s2 s3:St}{H1 H2 H3:Hp}(a:Stp e1 s1 H1 e2 s2 H2)(b:Stp e2 s2 H2 e3 s3 H3):Stp e1 s1 H1 e3 s3 H3:=by
 refine⟨λc o e n=>b.keep c o (a.keep c o e n) λh=> ?_,λc h=> ?_,λi h=> ?_⟩
 ·rcases a.ow c h with q|q
  ·exact n q
  ·rw[e] at q;cases q
 ·rcases b.ow c h with q|q
  ·exact a.ow c q
  ·by_cases z:Ow e1 s1 c
   ·exact .inl z
   ·right
    cases e:H1 c with
    |none=>rfl
    |some o=>rw[a.keep c o e z] at q;cases q
 ·obtain⟨h1,h2⟩:=b.lk i h
  rw[h1] at h
  obtain⟨h3,h4⟩:=a.lk i h
  exact⟨h1.trans h3,h2.trans h4⟩
section
variable{K:aE}{H₀ H H' H1:Hp}{Bad:Addr→Prop}{env env' :Env}{σ σ' :St}{d:D}{v:V}{a:Addr}{i:Nat}
theorem Wr.same(s:cC H H')(w:Wr H a):Wr H' a:=let⟨o,h1,h2⟩:=w;⟨o,s a o h1,h2⟩
theorem Wr.there(w:Wr H a):H a≠none:=let⟨o,h1,_⟩:=w;by rw[h1];simp
theorem aI.mono(E:aI K H₀ Bad env σ H)(s:cC H H'):aI K H₀ Bad env σ H' where
 same:=E.same.trans s
 len:=E.len
 bad:=λa h e=>E.bad a h (s.free e)
 sh:=λi d e=>let⟨v,h1,h2⟩:=E.sh i d e;⟨v,h1,h2.same s⟩
 ow:=λi d e=>let⟨a,h1,h2,h3,h4,h5,h6⟩:=E.ow i d e;⟨a,h1,h2,h3,h4.same s,h5,h6.same s⟩
 bo:=λi d e=>let⟨a,h1,h2,h3,h4⟩:=E.bo i d e;⟨a,h1,h2.same s,h3,h4.same s⟩
 dj:=E.dj
theorem aI.MR(E:aI K H₀ Bad env σ H)(h:bB env[i]?):∃d a,d.top=true∧σ[i]? =some (some (.ref a))∧Wr H a∧Inn K (Cln Bad env σ) H d (.ref a):=by
 match e:env[i]?,h with
 |some (some (.own d)),_=>obtain⟨a,h1,_,_,h4,h5,h6⟩:=E.ow i d (.inl e);exact⟨d,a,h5,h1,h4,h6⟩
 |some (some (.lok d)),_=>obtain⟨a,h1,_,_,h4,h5,h6⟩:=E.ow i d (.inr e);exact⟨d,a,h5,h1,h4,h6⟩
 |some (some (.bor d)),_=>obtain⟨a,h1,h4,h5,h6⟩:=E.bo i d e;exact⟨d,a,h5,h1,h4,h6⟩
theorem aI.Jj(E:aI K H₀ Bad env σ H)(h:bB env[i]?)(e:σ[i]? =some (some (.ref a))):Wr H a:=by
 obtain⟨d,b,h1,h2,h3,h4⟩:=E.MR h
 rw[e] at h2;cases h2
 exact h3
theorem aI.og(E:aI K H₀ Bad env σ H)(h:bB env[i]?)(e:σ[i]? =some (some (.ref a))):H a≠none:=(E.Jj h e).there
theorem aI.vb(E:aI K H₀ Bad env σ H)(h:H a=none):Cln Bad env σ a:=⟨λb=>E.bad a b h,λi t e=>E.og t e h⟩
noncomputable def jX(K:aE)(H₀:Hp)(Bad:Addr→Prop)(env:Env)(σ:St)(H H' :Hp)(r:RV)(v:V):Prop:=
 match r.k with
 | .c=>Rep K (Cln Bad env σ) H' r.d v
 | .tn=>∃a,v= .ref a∧H a=none∧Wr H' a∧r.d.top=true∧Inn K (λb=>Cln Bad env σ b∧b≠a) H' r.d v
 | .to=>∃a,v= .ref a∧H₀ a=none∧Wr H' a∧r.d.top=true∧Inn K (Cln Bad env σ) H' r.d v
 | .tb=>Inn K (Cln Bad env σ) H' r.d v∧∀a,v= .ref a→r.d.top=true→¬Ow env σ a
theorem jX.inn{r:RV}(h:jX K H₀ Bad env σ H H' r v):Inn K (Cln Bad env σ) H' r.d v:=by
 obtain⟨k,d⟩:=r
 cases k with
 |c=>exact Rep.inn h
 |tn=>obtain⟨_,_,_,_,_,h⟩:=h;exact h.imp λ_ z=>z.1
 |to=>obtain⟨_,_,_,_,_,h⟩:=h;exact h
 |tb=>exact h.1
theorem jX.rep{r:RV}(h:jX K H₀ Bad env σ H H' r v)(E:aI K H₀ Bad env σ H)(hf:r.free=true):Rep K (Cln Bad env σ) H' r.d v:=by
 obtain⟨k,d⟩:=r
 cases k with
 |c=>exact h
 |tn=>
  obtain⟨a,e,h1,_,_,h2⟩:=h
  exact(h2.imp λ_ z=>z.1).rep λb eb _=>by rw[e] at eb;cases eb;exact E.vb h1
 |to=>simp[RV.free] at hf
 |tb=>simp[RV.free] at hf
theorem jX.same{r:RV}{H2:Hp}(h:jX K H₀ Bad env σ H H' r v)(s:cC H' H2):jX K H₀ Bad env σ H H2 r v:=by
 obtain⟨k,d⟩:=r
 cases k with
 |c=>exact Rep.same s h
 |tn=>obtain⟨a,e,h1,w,t,h2⟩:=h;subst e;exact⟨a,rfl,h1,w.same s,t,h2.same s⟩
 |to=>obtain⟨a,e,h1,w,t,h2⟩:=h;subst e;exact⟨a,rfl,h1,w.same s,t,h2.same s⟩
 |tb=>exact⟨h.1.same s,h.2⟩
theorem jX.from{r:RV}(s:cC H H1)(h:jX K H₀ Bad env σ H1 H' r v):jX K H₀ Bad env σ H H' r v:=by
 obtain⟨k,d⟩:=r
 cases k with
 |c=>exact h
 |tn=>obtain⟨a,e,h1,w,t,h2⟩:=h;exact⟨a,e,s.free h1,w,t,h2⟩
 |to=>exact h
 |tb=>exact h
noncomputable def u6(K:aE)(H₀ H' :Hp)(d:D)(v:V):Prop:=
 (d.top=true→∃a,v= .ref a∧H₀ a=none∧Wr H' a)∧Inn K (λb=>H₀ b=none∧v≠ .ref b) H' d v
theorem u6.rv(E:aI K H₀ Bad env σ H)(h:u6 K H H' d v):jX K H₀ Bad env σ H H' (kC d) v:=by
 obtain⟨h1,h2⟩:=h
 unfold kC
 by_cases t:d.top=true
 ·rw[Gag t]
  obtain⟨a,e,n,w⟩:=h1 t
  subst e
  exact⟨a,rfl,n,w,t,h2.imp λb z=> ⟨E.vb z.1,λq=>z.2 (by rw[q])⟩⟩
 ·rw[Gaj t]
  exact(h2.imp λb z=>E.vb z.1).rep λ_ _ z=>absurd z t
end
open PySem PySem.Spec PyProof.Rows L2
noncomputable def tE(X:Cx)(f:DE):TE:=λσ H Q=>∃H₀ Bad env r,aI X.K H₀ Bad env σ H∧f env=some r∧∀v H',cC H H' →jX X.K H₀ Bad env σ H H' r v→Q v H'
noncomputable def tT(X:Cx)(t:DT):TT:=λσ H Q=>∃H₀ Bad env b,aI X.K H₀ Bad env σ H∧t env=some b∧∀H',cC H H' →Q b H'
noncomputable def tA(X:Cx)(a:DA):TA:=λσ H Q=>∃H₀ Bad env rs,aI X.K H₀ Bad env σ H∧a env=some rs∧∀vs H',cC H H' →Paired (jX X.K H₀ Bad env σ H H') rs vs→Q vs H'
noncomputable def MS(X:Cx)(H₀:Hp)(Bad:Addr→Prop)(env:Env)(σ:St)(H:Hp)(E:Ends):Out→Prop
 | .nx e=>∀σ' H',aI X.K H₀ Bad e σ' H' →Stp env σ H e σ' H' →E.nx σ' H'
 | .bk e=>∀σ' H',aI X.K H₀ Bad e σ' H' →Stp env σ H e σ' H' →E.bk σ' H'
 | .ct e=>∀σ' H',aI X.K H₀ Bad e σ' H' →Stp env σ H e σ' H' →E.ct σ' H'
 | .ret d=>∀v H',cC H₀ H' →u6 X.K H₀ H' d v→E.rt v H'
noncomputable def tS(X:Cx)(f:DS):TS:=λE σ H=>∃H₀ Bad env o,aI X.K H₀ Bad env σ H∧f env=some o∧MS X H₀ Bad env σ H E o
noncomputable def tG(X:Cx)(g:DG):TG:=λv σ H Q=>∃H₀ Bad env d env',aI X.K H₀ Bad env σ H∧g d env=some env' ∧Rep X.K (Cln Bad env σ) H d v∧∀σ' H',aI X.K H₀ Bad env' σ' H' →Stp env σ H env' σ' H' →Q σ' H'
noncomputable abbrev PEd (X:Cx) (e:Expr) (f:DE):Prop:=PE X e (tE X f)
noncomputable abbrev PTd (X:Cx) (e:Expr) (t:DT):Prop:=PT X e (tT X t)
noncomputable abbrev PWd (X:Cx) (e:Expr) (t:DT):Prop:=PW X e (tT X t)
noncomputable abbrev PAd (X:Cx) (es:List Expr) (a:DA):Prop:=PA X es (tA X a)
noncomputable abbrev PSd (X:Cx) (st:Stmt) (f:DS):Prop:=PS X st (tS X f)
noncomputable abbrev lE (X:Cx) (st:List Stmt) (f:DS):Prop:=PSs X st (tS X f)
noncomputable abbrev PGd (X:Cx) (e:Expr) (g:DG):Prop:=PG X e (tG X g)
section
variable{X:Cx}{e a b c:Expr}{f g h:DE}{t u:DT}{pos:Pos}
theorem _root_.L2.PE.aU{t t' :TE}(h:PE X e t')(i:∀σ H Q,t σ H Q→t' σ H Q):PE X e t:=λpins s σ H Q I q=>h pins s σ H Q I (i σ H Q q)
theorem _root_.L2.PT.aU{t t' :TT}(h:PT X e t')(i:∀σ H Q,t σ H Q→t' σ H Q):PT X e t:=λpins s σ H Q I q=>h pins s σ H Q I (i σ H Q q)
theorem _root_.L2.PW.aU{t t' :TT}(h:PW X e t')(i:∀σ H Q,t σ H Q→t' σ H Q):PW X e t:=λwh pins s σ H Q I q=>h wh pins s σ H Q I (i σ H Q q)
theorem _root_.L2.PA.aU{es:List Expr}{t t' :TA}(h:PA X es t')(i:∀σ H Q,t σ H Q→t' σ H Q):PA X es t:=λpos pins s σ H Q I q=>h pos pins s σ H Q I (i σ H Q q)
theorem _root_.L2.PS.aU{st:Stmt}{t t' :TS}(h:PS X st t')(i:∀D σ H,t D σ H→t' D σ H):PS X st t:=λpins s σ H D I q=>h pins s σ H D I (i D σ H q)
theorem _root_.L2.PSs.aU{st:List Stmt}{t t' :TS}(h:PSs X st t')(i:∀D σ H,t D σ H→t' D σ H):PSs X st t:=λpins s σ H D I q=>h pins s σ H D I (i D σ H q)
theorem _root_.L2.PG.aU{t t' :TG}(h:PG X e t')(i:∀v σ H Q,t v σ H Q→t' v σ H Q):PG X e t:=λpins s σ H v u Q I r q=>h pins s σ H v u Q I r (i v σ H Q q)
theorem cg{H:Hp}:cC H H:=λ_ _ e=>e
theorem bind_some{α β:Type}{o:Option α}{k:α→Option β}{y:β}(h:o.bind k=some y):∃x,o=some x∧k x=some y:=Option.bind_eq_some_iff.mp h
theorem dw(i:Nat){x:Str}(hN:X.N[i]? =some x:=by rfl)(hv:Vis X.env.scope x:=by first|exact Or.inl rfl|exact Or.inr (Or.inl rfl)|exact Or.inr (Or.inr rfl))(hd:(x==("__debug__":Str))=false:=by decide)
  (hcd:(x==("__classdict__":Str))=false:=by decide):PEd X (.Name x pos) (vE i):=by
 refine(lF hN hv hd hcd).aU ?_
 rintro σ H Q ⟨H₀,Bad,env,r,E,e,k⟩
 unfold vE at e
 match q:env[i]?,e with
 |some (some (.sh d)),e=>
  cases e
  obtain⟨v,h1,h2⟩:=E.sh i d q
  exact⟨v,h1,k v H cg h2⟩
 |some (some (.own d)),e=>
  cases e
  obtain⟨a,h1,h2,h3,h4,h5,h6⟩:=E.ow i d (.inl q)
  exact⟨_,h1,k _ H cg ⟨a,rfl,h2,h4,h5,h6⟩⟩
 |some (some (.lok d)),e=>
  cases e
  obtain⟨a,h1,h2,h3,h4,h5,h6⟩:=E.ow i d (.inr q)
  refine⟨_,h1,k _ H cg ⟨h6,λb eb _ ⟨j,ho,hj⟩=> ?_⟩⟩
  cases eb
  have:=E.dj j i a ho.ol (by rw[q];trivial) hj h1
  subst this
  rw[q] at ho;exact ho
 |some (some (.bor d)),e=>
  cases e
  obtain⟨a,h1,h4,h5,h6⟩:=E.bo i d q
  refine⟨_,h1,k _ H cg ⟨h6,λb eb _ ⟨j,ho,hj⟩=> ?_⟩⟩
  cases eb
  have:=E.dj j i a ho.ol (by rw[q];trivial) hj h1
  subst this
  rw[q] at ho;exact ho
theorem a6{i:Int}{j:Nat}:PEd X (.Constant (.int i) j pos) (kE (.int i)):=Ep.aU λσ H Q ⟨_,_,_,_,_,e,k⟩=>by cases e;exact k _ H cg (.int i)
theorem u7{b:Bool}{j:Nat}:PEd X (.Constant (.bool b) j pos) (kE (.bl b)):=LM.aU λσ H Q ⟨_,_,_,_,_,e,k⟩=>by cases e;exact k _ H cg (.bl b)
theorem fP{j:Nat}:PEd X (.Constant .none j pos) (kE .non):=Jy.aU λσ H Q ⟨_,_,_,_,_,e,k⟩=>by cases e;exact k _ H cg .non
theorem bq{x:Str}{j:Nat}:PEd X (.Constant (.str x) j pos) (kE (.str x)):=Jz.aU λσ H Q ⟨_,_,_,_,_,e,k⟩=>by cases e;exact k _ H cg (.str x)
noncomputable def RvN(K:aE)(F:Addr→Prop)(H H' :Hp)(r:RV)(v:V):Prop:=
 match r.k with
 | .c=>Rep K F H' r.d v
 | .tn=>∃a,v= .ref a∧H a=none∧Wr H' a∧r.d.top=true∧Inn K (λb=>F b∧b≠a) H' r.d v
 |_=>False
theorem RvN.ok{K:aE}{H₀ H H1 H' :Hp}{Bad:Addr→Prop}{env:Env}{σ:St}{r:RV}{v:V}(h:RvN K (Cln Bad env σ) H1 H' r v)(s:cC H H1):jX K H₀ Bad env σ H H' r v:=by
 obtain⟨k,d⟩:=r
 cases k with
 |c=>exact h
 |tn=>obtain⟨a,e,h1,w,t,h2⟩:=h;exact⟨a,e,s.free h1,w,t,h2⟩
 |to=>exact(show False from h).elim
 |tb=>exact(show False from h).elim
noncomputable def OpD(X:Cx)(o:D→D→Option RV)(r:R2):Prop:=∀(F:Addr→Prop) (H:Hp) (dx dy:D) (x y:V) (rv:RV) (Q:VK),Inn X.K F H dx x→Inn X.K F H dy y→o dx dy=some rv→
 (∀v H',cC H H' →RvN X.K F H H' rv v→Q v H')→r x y H Q
theorem u9{op:Operator}{o:D→D→Option RV}{r:R2}(ho:OpR X (binaryOp op) r)(hd:OpD X o r)(ha:PEd X a f)(hb:PEd X b g):PEd X (.BinOp a op b pos) (opE o f g):=by
 refine(M0 ho ha hb).aU ?_
 rintro σ H Q ⟨H₀,Bad,env,rv,E,e,k⟩
 obtain⟨x,hx,e⟩:=bind_some e
 obtain⟨y,hy,e⟩:=bind_some e
 exact⟨H₀,Bad,env,x,E,hx,λvx H1 s1 R1=> ⟨H₀,Bad,env,y,E.mono s1,hy,λvy H2 s2 R2=>hd _ H2 x.d y.d vx vy rv Q (R1.inn.same s2) R2.inn e λv H3 s3 R3=>
  k v H3 (s1.trans (s2.trans s3)) (R3.ok (s1.trans s2))⟩⟩
theorem Ke{o:D→D→Option RV}{gi:Int→Int→Int}(h:∀dx dy rv,o dx dy=some rv→∃i j,dx= .int i∧dy= .int j∧rv=⟨.c,.int (gi i j)⟩):OpD X o (rI0 λi j=> .int (gi i j)):=by
 intro F H dx dy x y rv Q ix iy e k
 obtain⟨i,j,rfl,rfl,rfl⟩:=h dx dy rv e
 cases ix;cases iy
 exact⟨i,j,rfl,rfl,k _ H cg (.int _)⟩
theorem BX{o:D→D→Option RV}{C:Int→Int→Prop}{gi:Int→Int→Int}(h:∀dx dy rv,o dx dy=some rv→∃i j,dx= .int i∧dy= .int j∧C i j∧rv=⟨.c,.int (gi i j)⟩):OpD X o (rI C λi j=> .int (gi i j)):=by
 intro F H dx dy x y rv Q ix iy e k
 obtain⟨i,j,rfl,rfl,hc,rfl⟩:=h dx dy rv e
 cases ix;cases iy
 exact⟨i,j,rfl,rfl,hc,k _ H cg (.int _)⟩
theorem HG:OpD X k6 (rI0 λi j=> .int (i -j)):=Ke λdx dy rv e=>by
 unfold k6 at e
 split at e
 ·cases e;exact⟨_,_,rfl,rfl,rfl⟩
 ·cases e
theorem HH:OpD X dE (rI Hk λi j=> .int (i*j)):=BX λdx dy rv e=>by
 unfold dE at e
 split at e
 ·split at e
  ·rename_i i j q
   cases e
   refine⟨i,j,rfl,rfl, ?_,rfl⟩
   unfold cf at q
   rw[GaW] at q
   rcases q with q|q
   ·left;have:=GaD q;omega
   ·right;have:=GaD q;omega
  ·cases e
 ·cases e
theorem ET:OpD X lK (rI M4 λi j=> .int (i/j)):=BX λdx dy rv e=>by
 unfold lK at e
 split at e
 ·split at e
  ·rename_i i j q
   cases e
   exact⟨i,j,rfl,rfl,q,rfl⟩
  ·cases e
 ·cases e
theorem HI:OpD X rm (rI (λ_ j=>0<j) λi j=> .int (i%j)):=BX λdx dy rv e=>by
 unfold rm at e
 split at e
 ·split at e
  ·rename_i i j q
   cases e
   exact⟨i,j,rfl,rfl,q,rfl⟩
  ·cases e
 ·cases e
theorem HJ:OpD X pw (rI M5 λi j=> .int (i^j.toNat)):=BX λdx dy rv e=>by
 unfold pw at e
 split at e
 ·split at e
  ·rename_i i j q
   cases e
   exact⟨i,j,rfl,rfl,⟨q.1,by omega,by omega⟩,rfl⟩
  ·cases e
 ·cases e
noncomputable def Jk:R2:=λx y H Q=>∃l b xs zs,x= .ref l∧y= .ref b∧Rd H l (.lst xs)∧Rd H b (.lst zs)∧xs.length+zs.length≤sizeLine∧∀p,H p=none→Q (.ref p) (upd H p (.lst (xs++zs)))
theorem HK:OpR X (binaryOp .Add) Jk:=by
 intro pins s σ H x y v u Q I rx ry h
 obtain⟨l,b,xs,zs,rfl,rfl,hH,hB,hz,q⟩:=h
 cases rx
 cases ry
 obtain⟨z,its,n,r,e⟩:=(show cx X.prog X.w H s.heap l (.lst xs) from hH.ok I.hok)
 obtain⟨z2,its2,n2,r2,e2⟩:=(show cx X.prog X.w H s.heap b (.lst zs) from hB.ok I.hok)
 have hl:=r.length
 have hl2:=r2.length
 refine PySem.P.add_list e e2 ?_ (by rw[Gan,Gan];omega)
 have ea:its.toArray++its2.toArray=(its++its2).toArray:=by simp
 rw[ea]
 exact⟨.ref _,_,I.Oq (t' :=s.toks) (r.append r2) (by rw[Gax];omega),rfl,q _ I.fresh⟩
theorem size_eq:ai=sizeLine:=by rw[GbC];rfl
theorem bG{H:Hp}{p:Addr}{o:HO}(n:H p=none):cC H (upd H p o):=λb u e=>by rw[az (dP e n)];exact e
theorem fQ{K:aE}{F:Addr→Prop}{H:Hp}{p:Addr}{ds:List D}{vs:List V}(n:H p=none)(r:b8 K F H ds vs):Rep K F (upd H p (.tup vs)) (.tup ds) (.ref p):=by
 have r2:=r.gen (F' :=F) (.of_same (bG (o:= .tup vs) n)) λ_ f _=>f
 exact .tup aM r2.1 r2.2
theorem gG{K:aE}{F:Addr→Prop}{H:Hp}{p:Addr}{ds:List D}{vs:List V}(n:H p=none)(r:b8 K F H ds vs):Inn K (λb=>F b∧b≠p) (upd H p (.lst vs)) (.lst ds) (.ref p):=
 .lst (.inl aM) (r.gen (F' :=λb=>F b∧b≠p) (.of_same (bG (o:= .lst vs) n)) λb f hb=> ⟨f,λz=>hb (z▸n)⟩)
theorem pC{H:Hp}{p:Addr}{xs:List V}:Wr (upd H p (.lst xs)) p:=⟨_,aM,trivial⟩
noncomputable def Jl(K:aE):R2:=λx y H Q=>rI0 (λi j=> .int (i+j)) x y H Q∨(∃i j,x= .str i∧y= .str j∧i.length+j.length≤sizeLine∧Q (.str (i++j)) H)∨Jk x y H Q∨Jf K x y H Q
theorem HL:OpR X (binaryOp .Add) (Jl X.K):=JL.or (AU.or (HK.or Hw))
theorem b8.ne{K:aE}{F:Addr→Prop}{H:Hp}{ds:List D}{vs:List V}(r:b8 K F H ds vs):vs=[]↔ds=[]:=by
 constructor
 ·intro z;subst z;exact List.eq_nil_of_length_eq_zero r.1
 ·intro z;subst z;exact r.cV
theorem HM:OpD X aT (Jl X.K):=by
 intro F H dx dy x y rv Q ix iy e k
 unfold aT at e
 split at e
 ·cases e;cases ix;cases iy
  exact .inl ⟨_,_,rfl,rfl,k _ H cg (.int _)⟩
 ·split at e
  ·rename_i q
   cases e;cases ix;cases iy
   exact .inr (.inl ⟨_,_,rfl,rfl,by rw[←size_eq];exact q,k _ H cg (.str _)⟩)
  ·cases e
 ·split at e
  ·rename_i xs ys q
   cases e
   cases ix with
   |tup hx rx=>
    cases iy with
    |tup hy ry=>
     refine .inr (.inr (.inr ⟨_,_,_,_,rfl,rfl,SqT.of hx,SqT.of hy, ?_, ?_, ?_, ?_⟩))
     ·intro z
      have:=rx.ne.mp z
      subst this
      exact absurd q.2 (by simp)
     ·rw[←rx.1,←ry.1,←size_eq];exact q.1
     ·intro z
      have:=ry.ne.mp z
      subst this
      refine k _ H cg ?_
      rw[Gbg]
      exact .tup hx rx.1 rx.2
     ·intro z p n
      exact k _ _ (bG n) (fQ n (rx.append ry))
  ·cases e
 ·split at e
  ·rename_i xs ys q
   cases e
   cases ix with
   |lst hx rx=>
    cases iy with
    |lst hy ry=>
     refine .inr (.inr (.inl ⟨_,_,_,_,rfl,rfl,hx,hy,by rw[←rx.1,←ry.1,←size_eq];exact q,λp n=> ?_⟩))
     exact k _ _ (bG n) ⟨p,rfl,n,pC,rfl,gG n (rx.append ry)⟩
  ·cases e
 ·cases e
noncomputable def UnD(X:Cx)(o:D→Option RV)(r:V→Hp→VK→Prop):Prop:=∀(F:Addr→Prop) (H:Hp) (dx:D) (x:V) (rv:RV) (Q:VK),Inn X.K F H dx x→o dx=some rv→(∀v H',cC H H' →RvN X.K F H H' rv v→Q v H')→r x H Q
theorem MT{op:UnaryOp}{o:D→Option RV}{r:V→Hp→VK→Prop}(ho:UnR X (unaryOp op) r)(hd:UnD X o r)(ha:PEd X a f):PEd X (.UnaryOp op a pos) (unE o f):=by
 refine(M1 ho ha).aU ?_
 rintro σ H Q ⟨H₀,Bad,env,rv,E,e,k⟩
 obtain⟨x,hx,e⟩:=bind_some e
 exact⟨H₀,Bad,env,x,E,hx,λvx H1 s1 R1=>hd _ H1 x.d vx rv Q R1.inn e λv H3 s3 R3=>k v H3 (s1.trans s3) (R3.ok s1)⟩
theorem HP:UnD X D7 (rU λi=> .int (-i)):=by
 intro F H dx x rv Q ix e k
 unfold D7 at e
 split at e
 ·cases e;cases ix;exact⟨_,rfl,k _ H cg (.int _)⟩
 ·cases e
theorem aD(ha:PEd X a f)(hb:PEd X b g):PEd X (.BinOp a .Add b pos) (opE aT f g):=u9 HL HM ha hb
theorem jd(ha:PEd X a f)(hb:PEd X b g):PEd X (.BinOp a .Sub b pos) (opE k6 f g):=u9 JM HG ha hb
theorem bC(ha:PEd X a f)(hb:PEd X b g):PEd X (.BinOp a .Mult b pos) (opE dE f g):=u9 JN HH ha hb
theorem kD(ha:PEd X a f)(hb:PEd X b g):PEd X (.BinOp a .FloorDiv b pos) (opE lK f g):=u9 Hl ET ha hb
theorem nO(ha:PEd X a f)(hb:PEd X b g):PEd X (.BinOp a .Mod b pos) (opE rm f g):=u9 JO HI ha hb
theorem lN(ha:PEd X a f)(hb:PEd X b g):PEd X (.BinOp a .Pow b pos) (opE pw f g):=u9 JP HJ ha hb
theorem EU(ha:PEd X a f):PEd X (.UnaryOp .USub a pos) (unE D7 f):=MT JQ HP ha
noncomputable def OpB(X:Cx)(o:D→D→Option Bool)(r:R2):Prop:=∀(F:Addr→Prop) (H:Hp) (dx dy:D) (x y:V) (b:Bool) (Q:VK),Inn X.K F H dx x→Inn X.K F H dy y→o dx dy=some b→Q (.bl b) H→r x y H Q
theorem aN{op:CmpOp}{o:D→D→Option Bool}{r:R2}(ho:OpR X (compareOp op) r)(hd:OpB X o r)(ha:PEd X a f)(hb:PEd X b g)(hm:behindInMarks op b=false):PTd X (.Compare a [op] [b] pos) (aZ o f g):=by
 refine(Hn ho ha hb hm).aU ?_
 rintro σ H Q ⟨H₀,Bad,env,bb,E,e,k⟩
 obtain⟨x,hx,e⟩:=bind_some e
 obtain⟨y,hy,e⟩:=bind_some e
 exact⟨H₀,Bad,env,x,E,hx,λvx H1 s1 R1=> ⟨H₀,Bad,env,y,E.mono s1,hy,λvy H2 s2 R2=>hd _ H2 x.d y.d vx vy bb _ (R1.inn.same s2) R2.inn e ⟨bb,rfl,k H2 (s1.trans s2)⟩⟩⟩
theorem vc{op:CmpOp}{o:D→D→Option Bool}{r:R2}(ho:OpR X (compareOp op) r)(hd:OpB X o r)(ha:PEd X a f)(hb:PEd X b g)(hm:behindInMarks op b=false):PEd X (.Compare a [op] [b] pos) (bE (aZ o f g)):=by
 refine(Hm ho ha hb hm).aU ?_
 rintro σ H Q ⟨H₀,Bad,env,rv,E,e,k⟩
 obtain⟨bb,e',rfl⟩:=Gal.mp e
 clear e
 have e:=e'
 clear e'
 obtain⟨x,hx,e⟩:=bind_some e
 obtain⟨y,hy,e⟩:=bind_some e
 exact⟨H₀,Bad,env,x,E,hx,λvx H1 s1 R1=> ⟨H₀,Bad,env,y,E.mono s1,hy,λvy H2 s2 R2=>hd _ H2 x.d y.d vx vy bb _ (R1.inn.same s2) R2.inn e (k _ H2 (s1.trans s2) (.bl bb))⟩⟩
theorem BY{o:D→D→Option Bool}{gb:Int→Int→Bool}(h:∀dx dy b,o dx dy=some b→∃i j,dx= .int i∧dy= .int j∧b=gb i j):OpB X o (rI0 λi j=> .bl (gb i j)):=by
 intro F H dx dy x y b Q ix iy e q
 obtain⟨i,j,rfl,rfl,rfl⟩:=h dx dy b e
 cases ix;cases iy
 exact⟨i,j,rfl,rfl,q⟩
theorem lP:OpB X ltB (rI0 λi j=> .bl (decide (i<j))):=BY λdx dy b e=>by
 unfold ltB at e;split at e<;>cases e;exact⟨_,_,rfl,rfl,rfl⟩
theorem rA:OpB X leB (rI0 λi j=> .bl (decide (i≤j))):=BY λdx dy b e=>by
 unfold leB at e;split at e<;>cases e;exact⟨_,_,rfl,rfl,rfl⟩
theorem jY:OpB X gtB (rI0 λi j=> .bl (decide (j<i))):=BY λdx dy b e=>by
 unfold gtB at e;split at e<;>cases e;exact⟨_,_,rfl,rfl,rfl⟩
theorem Kf:OpB X geB (rI0 λi j=> .bl (decide (j≤i))):=BY λdx dy b e=>by
 unfold geB at e;split at e<;>cases e;exact⟨_,_,rfl,rfl,rfl⟩
theorem uc{K:aE}{F:Addr→Prop}{H:Hp}{d:D}{x:V}(h:Inn K F H d x):decide (x= .non)=cD d:=by
 cases h<;>simp[cD]
theorem qS:OpB X o7 (λx y H Q=>y= .non∧Q (.bl (decide (x= .non))) H):=by
 intro F H dx dy x y b Q ix iy e q
 simp only[o7,iE] at e
 split at e
 ·rename_i h
  cases e
  cases iy<;>simp[cD] at h
  exact⟨rfl,by rw[uc ix];exact q⟩
 ·cases e
theorem oh:OpB X iE (λx y H Q=>y= .non∧Q (.bl (!decide (x= .non))) H):=by
 intro F H dx dy x y b Q ix iy e q
 simp only[o7,iE] at e
 split at e
 ·rename_i h
  cases e
  cases iy<;>simp[cD] at h
  exact⟨rfl,by rw[uc ix];exact q⟩
 ·cases e
theorem nP(h:PEd X e f)(he:∀whole,isTrue e X.env whole=(do let v←whole;standAt e.pos;holding [v] (truthy v)):=by intro _;rfl):PTd X e (wD f):=by
 refine(JA h he).aU ?_
 rintro σ H Q ⟨H₀,Bad,env,bb,E,e,k⟩
 obtain⟨x,hx,e⟩:=bind_some e
 split at e
 ·rename_i b hb
  cases e
  refine⟨H₀,Bad,env,x,E,hx,λvx H1 s1 R1=> ⟨bb, ?_,k H1 s1⟩⟩
  have i:=R1.inn
  rw[hb] at i
  cases i;rfl
 ·cases e
theorem gf(ha:PTd X a t):PWd X (.BoolOp .And [a] pos) t:=He ha
theorem rC(ha:PTd X a t):PWd X (.BoolOp .Or [a] pos) t:=JB ha
theorem iz{rest:List Expr}(ha:PTd X a t)(hb:PWd X (.BoolOp .And (b::rest) pos) u):PWd X (.BoolOp .And (a::b::rest) pos) (jz t u):=by
 refine(JC ha hb).aU ?_
 rintro σ H Q ⟨H₀,Bad,env,bb,E,e,k⟩
 obtain⟨x,hx,e⟩:=bind_some e
 refine⟨H₀,Bad,env,x,E,hx,λH1 s1=> ?_⟩
 cases x with
 |true=>rw[Gag rfl];rw[Gag rfl] at e;exact⟨H₀,Bad,env,bb,E.mono s1,e,λH2 s2=>k H2 (s1.trans s2)⟩
 |false=>rw[Gaj Gaz];rw[Gaj Gaz] at e;cases e;exact k H1 s1
theorem ud{rest:List Expr}(ha:PTd X a t)(hb:PWd X (.BoolOp .Or (b::rest) pos) u):PWd X (.BoolOp .Or (a::b::rest) pos) (orT t u):=by
 refine(LN ha hb).aU ?_
 rintro σ H Q ⟨H₀,Bad,env,bb,E,e,k⟩
 obtain⟨x,hx,e⟩:=bind_some e
 refine⟨H₀,Bad,env,x,E,hx,λH1 s1=> ?_⟩
 cases x with
 |false=>rw[Gaj Gaz];rw[Gaj Gaz] at e;exact⟨H₀,Bad,env,bb,E.mono s1,e,λH2 s2=>k H2 (s1.trans s2)⟩
 |true=>rw[Gag rfl];rw[Gag rfl] at e;cases e;exact k H1 s1
theorem pD(ha:PTd X a t):PTd X (.UnaryOp .Not a pos) (uW t):=by
 refine(JD ha).aU ?_
 rintro σ H Q ⟨H₀,Bad,env,bb,E,e,k⟩
 obtain⟨x,hx,rfl⟩:=Gal.mp e
 exact⟨H₀,Bad,env,x,E,hx,λH1 s1=>k H1 s1⟩
theorem Kg{op:BoolOp}(ha:PEd X a (bE t)):PEd X (.BoolOp op [a] pos) (bE t):=JE ha
theorem Kh{rest:List Expr}(ha:PEd X a (bE t))(hb:PEd X (.BoolOp .And (b::rest) pos) (bE u)):PEd X (.BoolOp .And (a::b::rest) pos) (bE (jz t u)):=by
 refine(JF ha hb).aU ?_
 rintro σ H Q ⟨H₀,Bad,env,rv,E,e,k⟩
 obtain⟨bb,e',rfl⟩:=Gal.mp e
 clear e
 have e:=e'
 clear e'
 obtain⟨x,hx,e⟩:=bind_some e
 refine⟨H₀,Bad,env,⟨.c,.bl x⟩,E,by unfold bE;rw[hx];rfl,λv H1 s1 R=> ?_⟩
 have R' :Inn X.K (Cln Bad env σ) H1 (.bl x) v:=R.inn
 cases R'
 refine⟨x,rfl, ?_⟩
 cases x with
 |true=>rw[Gag rfl];rw[Gag rfl] at e;exact⟨H₀,Bad,env,⟨.c,.bl bb⟩,E.mono s1,by unfold bE;rw[e];rfl,λv2 H2 s2 R2=>k v2 H2 (s1.trans s2) (R2.from s1)⟩
 |false=>rw[Gaj Gaz];rw[Gaj Gaz] at e;cases e;exact k _ H1 s1 (.bl false)
theorem Ki(ha:PEd X a (bE t)):PEd X (.UnaryOp .Not a pos) (bE (uW t)):=by
 refine(JG ha).aU ?_
 rintro σ H Q ⟨H₀,Bad,env,rv,E,e,k⟩
 obtain⟨bb,e',rfl⟩:=Gal.mp e
 clear e
 have e:=e'
 clear e'
 obtain⟨x,hx,rfl⟩:=Gal.mp e
 refine⟨H₀,Bad,env,⟨.c,.bl x⟩,E,by unfold bE;rw[hx];rfl,λv H1 s1 R=> ?_⟩
 have R' :Inn X.K (Cln Bad env σ) H1 (.bl x) v:=R.inn
 cases R'
 exact⟨x,rfl,k _ H1 s1 (.bl _)⟩
theorem EV(hc:PTd X c t)(ha:PEd X a f)(hb:PEd X b g):PEd X (.IfExp c a b pos) (ifE t f g):=by
 refine(Er hc ha hb).aU ?_
 rintro σ H Q ⟨H₀,Bad,env,rv,E,e,k⟩
 obtain⟨x,hx,e⟩:=bind_some e
 refine⟨H₀,Bad,env,x,E,hx,λH1 s1=> ?_⟩
 cases x with
 |true=>rw[Gag rfl];rw[Gag rfl] at e;exact⟨H₀,Bad,env,rv,E.mono s1,e,λv H2 s2 R=>k v H2 (s1.trans s2) (R.from s1)⟩
 |false=>rw[Gaj Gaz];rw[Gaj Gaz] at e;exact⟨H₀,Bad,env,rv,E.mono s1,e,λv H2 s2 R=>k v H2 (s1.trans s2) (R.from s1)⟩
theorem EW{op op' :CmpOp}{o p:D→D→Option Bool}{r r' :R2}(ho:OpR X (compareOp op) r)(hd:OpB X o r)(ho' :OpR X (compareOp op') r')(hd' :OpB X p r')(ha:PEd X a f)(hb:PEd X b g)(hc:PEd X c h)
  (hm:lastMarks [op,op'] [b,c]=false:=by with_unfolding_all rfl):PTd X (.Compare a [op,op'] [b,c] pos) (EK o p f g h):=by
 refine(EA ho ho' ha hb hc hm).aU ?_
 rintro σ H Q ⟨H₀,Bad,env,bb,E,e,k⟩
 obtain⟨x,hx,e⟩:=bind_some e
 obtain⟨y,hy,e⟩:=bind_some e
 obtain⟨b1,h1,e⟩:=bind_some e
 refine⟨H₀,Bad,env,x,E,hx,λvx H1 s1 R1=> ⟨H₀,Bad,env,y,E.mono s1,hy,λvy H2 s2 R2=>hd _ H2 x.d y.d vx vy b1 _ (R1.inn.same s2) R2.inn h1 ⟨b1,rfl, ?_⟩⟩⟩
 cases b1 with
 |true=>
  rw[Gag rfl];rw[Gag rfl] at e
  obtain⟨z,hz,e⟩:=bind_some e
  exact⟨H₀,Bad,env,z,(E.mono s1).mono s2,hz,λvz H3 s3 R3=>hd' _ H3 y.d z.d vy vz bb _ (R2.inn.same s3) R3.inn e ⟨bb,rfl,k H3 (s1.trans (s2.trans s3))⟩⟩
 |false=>
  rw[Gaj Gaz];rw[Gaj Gaz] at e;cases e
  exact⟨false,rfl,k H2 (s1.trans s2)⟩
end
open PySem PySem.Spec PyProof.Rows L2
section
variable{X:Cx}{e a b c:Expr}{f g h:DE}{t u:DT}{pos:Pos}
theorem Scr.sq{K:aE}{H:Hp}{a:Addr}{ns:List Int}(h:Scr K H a ns):SqL K H a (ns.map V.int):=by
 rcases h with⟨o,h⟩|h
 ·exact .inl (.inr ⟨o,h⟩)
 ·exact .inr h
theorem EX{K:aE}{F:Addr→Prop}{H:Hp}{ds:List D}{vs:List V}{i:Int}{d:D}(r:b8 K F H ds vs)(e:atD ds i=some d):∃v,atI vs i=some v∧Rep K F H d v:=by
 unfold atD at e
 unfold atI ixN
 rw[←r.1]
 split at e
 ·rename_i h0
  obtain⟨v,h1,h2⟩:=r.get e
  have hi:=(Gae.mp e).1
  refine⟨v, ?_,h2⟩
  rw[Gag h0,Gag (by omega)]
  exact h1
 ·rename_i h0
  split at e
  ·rename_i h1
   obtain⟨v,h2,h3⟩:=r.get e
   refine⟨v, ?_,h3⟩
   rw[Gaj h0,Gag h1]
   exact h2
  ·cases e
noncomputable def MU:R2:=λx y H Q=>∃a v,x= .ref a∧wx H a y (some v)∧Q v H
theorem HQ(hu:X.A.units+1<cLine):IxR X MU:=by
 intro value slice pins s σ H x y v u Q I rx ry h hs
 obtain⟨a,z,rfl,g,q⟩:=h
 cases rx
 exact tail_any (wA I g) PySem.F.slot_dict_getitem.lookup (D3 hu I g ry λw' s3 I3 rw' => ⟨z,H,I3,rw',q⟩) hs
noncomputable def OG(K:aE):R2:=λx y H Q=>rIx K x y H Q∨MU x y H Q
theorem HR(hu:X.A.units+1<cLine):IxR X (OG X.K):=K1.or (HQ hu)
theorem oj{κ:Type} [DecidableEq κ]{K:aE}{F:Addr→Prop}{H:Hp}:∀{kvs:List (κ×D)} {ws:List (κ×V)} {k:κ} {d:D},bc K F H kvs ws→look kvs k=some d→∃v,iI ws k=some v∧Rep K F H d v
 |[],ws,k,d,_,e=>by simp[look] at e
 |p::kvs,[],k,d,r,_=>absurd r.1 (by simp)
 |p::kvs,q::ws,k,d,r,e=>by
  have h1:p.1=q.1∧kvs.map (·.1)=ws.map (·.1):=by have:=r.1;simpa using this
  have r2:bc K F H kvs ws:=⟨h1.2,λi x y e1 e2=>r.2 (i+1) x y (by simpa using e1) (by simpa using e2)⟩
  by_cases z:p.1=k
  ·have e' :look (p::kvs) k=some p.2:=by simp[look,Gbt,z]
   rw[e'] at e;cases e
   exact⟨q.2,lI (h1.1.symm.trans z),r.2 0 p q rfl rfl⟩
  ·have e' :look (p::kvs) k=look kvs k:=by simp[look,Gbt,z]
   rw[e'] at e
   obtain⟨v,h3,h4⟩:=oj r2 e
   exact⟨v,by rw[j9 (λw=>z (h1.1.trans w))];exact h3,h4⟩
theorem ue{κ:Type} [DecidableEq κ]{K:aE}{F:Addr→Prop}{H:Hp}:∀{kvs:List (κ×D)} {ws:List (κ×V)} {k:κ},bc K F H kvs ws→look kvs k=none→iI ws k=none
 |[],[],k,_,_=>rfl
 |[],q::ws,k,r,_=>absurd r.1 (by simp)
 |p::kvs,[],k,r,_=>absurd r.1 (by simp)
 |p::kvs,q::ws,k,r,e=>by
  have h1:p.1=q.1∧kvs.map (·.1)=ws.map (·.1):=by have:=r.1;simpa using this
  have r2:bc K F H kvs ws:=⟨h1.2,λi x y e1 e2=>r.2 (i+1) x y (by simpa using e1) (by simpa using e2)⟩
  by_cases z:p.1=k
  ·have e' :look (p::kvs) k=some p.2:=by simp[look,Gbt,z]
   rw[e'] at e;cases e
  ·have e' :look (p::kvs) k=look kvs k:=by simp[look,Gbt,z]
   rw[e'] at e
   rw[j9 (λw=>z (h1.1.trans w))]
   exact ue r2 e
theorem pE{K:aE}{F:Addr→Prop}{H:Hp}{d:D}{x:V}{k:Key}(i:Inn K F H d x)(e:keyOf d=some k):x=kV k:=by
 unfold keyOf at e
 split at e<;>cases e<;>cases i<;>rfl
theorem jD{K:aE}{F:Addr→Prop}{H:Hp}:∀{ds:List D} {vs:List V} {ks:List Key},b8 K F H ds vs→keysOf ds=some ks→vs=ks.map kV
 |[],vs,ks,r,e=>by cases e;rw[r.cV];rfl
 |d::ds,vs,ks,r,e=>by
  obtain⟨v,w,rfl,h1,h2⟩:=r.cons_inv
  unfold keysOf at e
  obtain⟨k,hk,e⟩:=bind_some e
  obtain⟨ks',hks,rfl⟩:=Gal.mp e
  rw[pE h1.inn hk,jD h2 hks]
  rfl
theorem vd{K:aE}{F:Addr→Prop}{H:Hp}{d k:D}{x y:V}(ix:Inn K F H d x)(iy:Inn K F H k y):
  (∀kvs key,d= .dK kvs→keyOf k=some key→∃a ws,x= .ref a∧bc K F H kvs ws∧wx H a y (iI ws key))∧
  (∀kvs ks key,d= .dT kvs→k= .tup ks→keysOf ks=some key→∃a ws,x= .ref a∧bc K F H kvs ws∧wx H a y (iI ws key)):=by
 refine⟨λkvs key ed ek=> ?_,λkvs ks key ed ek e=> ?_⟩
 ·subst ed
  cases ix with
  |dK h r=>exact⟨_,_,rfl,r,.inl ⟨_,key,.inl h,pE iy ek,rfl⟩⟩
 ·subst ed ek
  cases ix with
  |dT h r=>
   cases iy with
   |tup hy ry=>exact⟨_,_,rfl,r,.inr ⟨_,key,_,.inl h,rfl,by rw[←jD ry e];exact hy,rfl⟩⟩
theorem ah(hu:X.A.units+1<cLine)(ha:PEd X a f)(hb:PEd X b g)(hs:BL b:=by exactλ_ _=>rfl):PEd X (.Subscript a b pos) (ixE f g):=by
 refine(Mc (HR hu) ha hb hs).aU ?_
 rintro σ H Q ⟨H₀,Bad,env,rv,E,e,k⟩
 obtain⟨x,hx,e⟩:=bind_some e
 obtain⟨y,hy,e⟩:=bind_some e
 obtain⟨d,e',rfl⟩:=Gal.mp e
 clear e
 have e:=e'
 clear e'
 refine⟨H₀,Bad,env,x,E,hx,λvx H1 s1 R1=> ⟨H₀,Bad,env,y,E.mono s1,hy,λvy H2 s2 R2=> ?_⟩⟩
 have ix:=R1.inn.same s2
 have iy:=R2.inn
 have fin:∀v,Rep X.K (Cln Bad env σ) H2 d v→Q v H2:=λv r=>k v H2 (s1.trans s2) r
 generalize x.d=dx at ix e
 generalize y.d=dy at iy e
 unfold ixD at e
 split at e
 ·cases iy
  cases ix with
  |lst h r=>
   obtain⟨v,h1,h2⟩:=EX r e
   exact .inl (.inl ⟨_,_,_,v,rfl,rfl,.inl h,h1,fin v h2⟩)
 ·cases iy
  cases ix with
  |tup h r=>
   obtain⟨v,h1,h2⟩:=EX r e
   exact .inl (.inr (.inl ⟨_,_,_,v,rfl,rfl,SqT.of h,h1,fin v h2⟩))
 ·split at e
  ·rename_i hz
   obtain⟨ch,e',rfl⟩:=Gal.mp e
   clear e
   have e:=e'
   clear e'
   cases iy;cases ix
   refine .inl (.inr (.inr ⟨_,_,ch,rfl,rfl,by rw[←size_eq];exact hz, ?_,fin _ (.str _)⟩))
   unfold atD at e
   unfold atI ixN
   split at e
   ·rename_i h0
    have hi:=(Gae.mp e).1
    rw[Gag h0,Gag (by omega)]
    exact e
   ·rename_i h0
    split at e
    ·rename_i h1
     rw[Gaj h0,Gag h1]
     exact e
    ·cases e
  ·cases e
 ·obtain⟨key,hk,e⟩:=bind_some e
  obtain⟨p,ws,rfl,r,dg⟩:=(vd ix iy).1 _ key rfl hk
  obtain⟨v,h1,h2⟩:=oj r e
  rw[h1] at dg
  exact .inr ⟨p,v,rfl,dg,fin v h2⟩
 ·obtain⟨key,hk,e⟩:=bind_some e
  obtain⟨p,ws,rfl,r,dg⟩:=(vd ix iy).2 _ _ key rfl rfl hk
  obtain⟨v,h1,h2⟩:=oj r e
  rw[h1] at dg
  exact .inr ⟨p,v,rfl,dg,fin v h2⟩
 ·obtain⟨n,e',rfl⟩:=Gal.mp e
  clear e
  have e:=e'
  clear e'
  cases iy
  cases ix with
  |scr h=>
   refine .inl (.inl ⟨_,_,_,.int n,rfl,rfl,h.sq, ?_,fin _ (.int n)⟩)
   unfold atD at e
   unfold atI ixN
   rw[Gad]
   split at e
   ·rename_i h0
    have hi:=(Gae.mp e).1
    rw[Gag h0,Gag (by omega)]
    show(List.map V.int _)[_]? =_
    rw[Gah,e];rfl
   ·rename_i h0
    split at e
    ·rename_i h1
     rw[Gaj h0,Gag h1]
     show(List.map V.int _)[_]? =_
     rw[Gah,e];rfl
    ·cases e
 ·cases e
theorem aa:PAd X [] aq:=by
 refine AV.aU ?_
 rintro σ H Q ⟨H₀,Bad,env,rs,E,e,k⟩
 cases e
 exact k [] H cg .nil
theorem qf{K:aE}{H₀ H H1 H' :Hp}{Bad:Addr→Prop}{env:Env}{σ:St}(s:cC H H1):∀{rs:List RV} {vs:List V},Paired (jX K H₀ Bad env σ H1 H') rs vs→Paired (jX K H₀ Bad env σ H H') rs vs
 |_,_,.nil=> .nil
 |_,_,.cons h t=> .cons (h.from s) (qf s t)
theorem a4{es:List Expr}{r:DA}(ha:PEd X e f)(hr:PAd X es r)(hs:starEach (e::es) X.env=(false,eval e X.env)::starEach es X.env:=by rfl):PAd X (e::es) (a5 f r):=by
 refine(uT ha hr hs).aU ?_
 rintro σ H Q ⟨H₀,Bad,env,rs,E,e,k⟩
 obtain⟨x,hx,e⟩:=bind_some e
 obtain⟨xs,hxs,e⟩:=bind_some e
 cases e
 exact⟨H₀,Bad,env,x,E,hx,λvx H1 s1 R1=> ⟨H₀,Bad,env,xs,E.mono s1,hxs,λvs H2 s2 Rs=>k _ H2 (s1.trans s2) (.cons (R1.same s2) (qf s1 Rs))⟩⟩
theorem pF{K:aE}{H₀ H H' :Hp}{Bad:Addr→Prop}{env:Env}{σ:St}(E:aI K H₀ Bad env σ H):∀{rs:List RV} {vs:List V},Paired (jX K H₀ Bad env σ H H') rs vs→rs.all (·.free)=true→b8 K (Cln Bad env σ) H' (rs.map (·.d)) vs
 |_,_,.nil,_=>b8.nil
 |r::rs,v::vs,.cons h t,f=>by
  rw[GbE,Gau] at f
  exact b8.cons (h.rep E f.1) (pF E t f.2)
theorem b9{es:List Expr}{r:DA}{j:Nat}(ha:PAd X es r):PEd X (.Tuple es j pos) (bM r):=by
 refine(JV ha).aU ?_
 rintro σ H Q ⟨H₀,Bad,env,rv,E,e,k⟩
 obtain⟨rs,hr,e⟩:=bind_some e
 split at e
 ·rename_i q
  rw[Gau] at q
  cases e
  refine⟨H₀,Bad,env,rs,E,hr,λvs H1 s1 Rs=> ?_⟩
  have rep:=pF E Rs q.1
  refine⟨by rw[←rep.1,Gad,←size_eq];exact GaD q.2,λp n=> ?_⟩
  exact k _ _ (s1.trans (bG n)) (fQ n rep)
 ·cases e
theorem c9{es:List Expr}{r:DA}(ha:PAd X es r):PEd X (.List es pos) (gF r):=by
 refine(EB ha).aU ?_
 rintro σ H Q ⟨H₀,Bad,env,rv,E,e,k⟩
 obtain⟨rs,hr,e⟩:=bind_some e
 split at e
 ·rename_i q
  rw[Gau] at q
  cases e
  refine⟨H₀,Bad,env,rs,E,hr,λvs H1 s1 Rs=> ?_⟩
  have rep:=pF E Rs q.1
  refine⟨by rw[←rep.1,Gad,←size_eq];exact GaD q.2,λp n=> ?_⟩
  exact k _ _ (s1.trans (bG n)) ⟨p,rfl,s1.free n,pC,rfl,gG n rep⟩
 ·cases e
noncomputable def spD(K:aE)(np:Nat)(sp:List D→Option D):Sp:=λvs H Q _=>∃ds d,ds.length=np∧b8 K (λ_=>True) H ds vs∧sp ds=some d∧∀v H',cC H H' →u6 K H H' d v→Q v H'
theorem uf{K:aE}{H₀ H H' :Hp}{Bad:Addr→Prop}{env:Env}{σ:St}:∀{rs:List RV} {vs:List V},Paired (jX K H₀ Bad env σ H H') rs vs→b8 K (λ_=>True) H' (rs.map (·.d)) vs
 |_,_,.nil=>b8.nil
 |r::rs,v::vs,.cons h t=>b8.cons h.inn.any (uf t)
theorem HS{CX:CXT}{k:Nat}{fa:Addr}{fd:FuncData}{ps:List Str}{np:Nat}{sp:List D→Option D}{x:Str}{p:Pos}{es:List Expr}{r:DA}{E:XK}(F:cT X.prog X.w X.K X.mg X.base CX k fa fd ps (spD X.K np sp))(hr:jy k X.A)(hg:Gl X x)
  (hm:X.mg x=some (.ref fa))(hk:PySem.W.keepIn X.K (.ref fa)=true)(hb:Binds X.K fd ps [])(hx:Passes CX X E)(ha:PAd X (e::es) r)(hl:∀env rs,r env=some rs→rs.length=np)
  (hdb:(x==("__debug__":Str))=false:=by decide)(he:starEach (e::es) X.env=(false,eval e X.env)::starEach es X.env:=by rfl)(hpl:(backTo pos (starEach es X.env)).any (·.1)=false:=by rfl):
  PEd X (.Call (.Name x p) (e::es) [] pos) (aH sp r):=by
 refine(Hr (dvs:=[]) F hr hg hm hk hb .nil hx ha hdb he hpl).aU ?_
 rintro σ H Q ⟨H₀,Bad,env,rv,E,e,k⟩
 obtain⟨rs,hrs,e⟩:=bind_some e
 obtain⟨d,hd,rfl⟩:=Gal.mp e
 refine⟨H₀,Bad,env,rs,E,hrs,λvs H1 s1 Rs=> ⟨rs.map (·.d),d,by rw[Gad];exact hl env rs hrs, ?_,hd,λv H2 s2 R2=>k v H2 (s1.trans s2) ((R2.rv (E.mono s1)).from s1)⟩⟩
 rw[Gbg]
 exact uf Rs
noncomputable def CallD(X:Cx)(o:List D→Option RV)(r:List V→Hp→VK→Prop):Prop:=∀(F:Addr→Prop) (H:Hp) (ds:List D) (vs:List V) (rv:RV) (Q:VK),Paired (Inn X.K F H) ds vs→o ds=some rv→(∀v H',cC H H' →RvN X.K F H H' rv v→Q v H')→r vs H Q
theorem nQ{K:aE}{H₀ H H' :Hp}{Bad:Addr→Prop}{env:Env}{σ:St}:∀{rs:List RV} {vs:List V},Paired (jX K H₀ Bad env σ H H') rs vs→Paired (Inn K (Cln Bad env σ) H') (rs.map (·.d)) vs
 |_,_,.nil=> .nil
 |_,_,.cons h t=> .cons h.inn (nQ t)
theorem cj{id:String}{o:List D→Option RV}{r:List V→Hp→VK→Prop}{x:Str}{p:Pos}{es:List Expr}{ra:DA}(hc:gY X (.builtin id) r)(hd:CallD X o r)(hg:Gl X x)(hm:X.mg x=none)(hv:bootBuiltins x=some (.builtin id))(ha:PAd X (e::es) ra)
  (hn:x≠"__name__":=by decide)(hdb:(x==("__debug__":Str))=false:=by decide)(he:starEach (e::es) X.env=(false,eval e X.env)::starEach es X.env:=by rfl)(hpl:(backTo pos (starEach es X.env)).any (·.1)=false:=by rfl):
  PEd X (.Call (.Name x p) (e::es) [] pos) (dN o ra):=by
 refine(wk hc hg hm hv ha hn hdb he hpl).aU ?_
 rintro σ H Q ⟨H₀,Bad,env,rv,E,e,k⟩
 obtain⟨rs,hrs,e⟩:=bind_some e
 exact⟨H₀,Bad,env,rs,E,hrs,λvs H1 s1 Rs=>hd _ H1 _ vs rv Q (nQ Rs) e λv H2 s2 R2=>k v H2 (s1.trans s2) (R2.ok s1)⟩
theorem i4{T:String}{o:List D→Option RV}{r:List V→Hp→VK→Prop}{x:Str}{p:Pos}{es:List Expr}{ra:DA}(hc:gY X (.type T) r)(hd:CallD X o r)(hg:Gl X x)(hm:X.mg x=none)(hv:bootBuiltins x=some (.type T))(ha:PAd X (e::es) ra)
  (hn:x≠"__name__":=by decide)(hdb:(x==("__debug__":Str))=false:=by decide)(he:starEach (e::es) X.env=(false,eval e X.env)::starEach es X.env:=by rfl)(hpl:(backTo pos (starEach es X.env)).any (·.1)=false:=by rfl):
  PEd X (.Call (.Name x p) (e::es) [] pos) (dN o ra):=by
 refine(D0 hc hg hm hv ha hn hdb he hpl).aU ?_
 rintro σ H Q ⟨H₀,Bad,env,rv,E,e,k⟩
 obtain⟨rs,hrs,e⟩:=bind_some e
 exact⟨H₀,Bad,env,rs,E,hrs,λvs H1 s1 Rs=>hd _ H1 _ vs rv Q (nQ Rs) e λv H2 s2 R2=>k v H2 (s1.trans s2) (R2.ok s1)⟩
theorem gL{R:D→V→Prop}{d:D}{vs:List V}(h:Paired R [d] vs):∃v,vs=[v]∧R d v:=by
 cases h with
 |cons h t=>cases t;exact⟨_,rfl,h⟩
theorem BZ{R:D→V→Prop}{d d2:D}{vs:List V}(h:Paired R [d,d2] vs):∃v w,vs=[v,w]∧R d v∧R d2 w:=by
 cases h with
 |cons h t=>cases t with
  |cons h2 t=>cases t;exact⟨_,_,rfl,h,h2⟩
theorem bW:gY X (.builtin "len") (λxs H Q=>∃a kvs,xs=[.ref a]∧Rd H a (.dK kvs)∧Q (.int kvs.length) H):=by
 intro pins s σ H xs us Q I r h
 obtain⟨a,kvs,rfl,e,q⟩:=h
 obtain⟨u,rfl,rx⟩:=vals1 r
 cases rx
 exact Mh I e λt s' I' => ⟨.int kvs.length,H,I',⟨t,rfl⟩,q⟩
theorem bX:CallD X cN (λxs H Q=>(∃x n,xs=[x]∧M7 X.K x H n∧Q (.int n) H)∨(∃a kvs,xs=[.ref a]∧Rd H a (.dK kvs)∧Q (.int kvs.length) H)):=by
 intro F H ds vs rv Q ps e k
 unfold cN at e
 split at e
 ·cases e
  obtain⟨v,rfl,i⟩:=gL ps
  cases i with
  |lst h r=>exact .inl ⟨_,_,rfl,.inl ⟨_,.inl h,r.1⟩,k _ H cg (.int _)⟩
 ·cases e
  obtain⟨v,rfl,i⟩:=gL ps
  cases i with
  |tup h r=>exact .inl ⟨_,_,rfl,.inr ⟨_,SqT.of h,r.1⟩,k _ H cg (.int _)⟩
 ·split at e
  ·rename_i q
   cases e
   obtain⟨v,rfl,i⟩:=gL ps
   cases i
   exact .inl ⟨_,_,rfl,⟨by rw[←size_eq];exact q,rfl⟩,k _ H cg (.int _)⟩
  ·cases e
 ·cases e
  obtain⟨v,rfl,i⟩:=gL ps
  cases i with
  |dK h r=>
   have hl:=congrArg List.length r.1
   rw[Gad,Gad] at hl
   exact .inr ⟨_,_,rfl,.inl h,by rw[←hl];exact k _ H cg (.int _)⟩
 ·cases e
  obtain⟨v,rfl,i⟩:=gL ps
  cases i with
  |scr h=>exact .inl ⟨_,_,rfl,.inl ⟨_,h.sq,by simp⟩,k _ H cg (.int _)⟩
 ·cases e
theorem rD:CallD X o8 (λxs H Q=>∃i j,xs=[.int i,.int j]∧Q (.int (if j<i then j else i)) H):=by
 intro F H ds vs rv Q ps e k
 unfold o8 at e
 split at e
 ·cases e
  obtain⟨v,w,rfl,i1,i2⟩:=BZ ps
  cases i1;cases i2
  exact⟨_,_,rfl,k _ H cg (.int _)⟩
 ·cases e
theorem B3:CallD X wF (λxs H Q=>∃i j,xs=[.int i,.int j]∧Q (.int (if j>i then j else i)) H):=by
 intro F H ds vs rv Q ps e k
 unfold wF at e
 split at e
 ·cases e
  obtain⟨v,w,rfl,i1,i2⟩:=BZ ps
  cases i1;cases i2
  exact⟨_,_,rfl,k _ H cg (.int _)⟩
 ·cases e
theorem dR:CallD X ja (λxs H Q=>∃p ys,xs=[.ref p]∧((SqL X.K H p ys∧∀l,H l=none→Q (.ref l) (upd H l (.tup ys)))∨(SqT X.K H p ys∧Q (.ref p) H))):=by
 intro F H ds vs rv Q ps e k
 unfold ja at e
 split at e
 ·cases e
  obtain⟨v,rfl,i⟩:=gL ps
  cases i with
  |lst h r=>
   refine⟨_,_,rfl,.inl ⟨.inl h,λl n=> ?_⟩⟩
   exact k _ _ (bG n) (fQ n r)
 ·cases e
  obtain⟨v,rfl,i⟩:=gL ps
  cases i with
  |tup h r=>exact⟨_,_,rfl,.inr ⟨SqT.of h,k _ H cg (.tup h r.1 r.2)⟩⟩
 ·cases e
end
open PySem PySem.Spec PyProof.Rows L2
section
variable{K:aE}{H₀ H H' :Hp}{Bad:Addr→Prop}{env env' :Env}{σ σ' :St}{d:D}{v:V}{a:Addr}{i:Nat}
theorem get_set{α:Type}{l:List α}{i j:Nat}{x y:α}(e:(l.set i x)[j]? =some y):(i=j∧y=x)∨(i≠j∧l[j]? =some y):=by
 by_cases h:i=j
 ·subst h
  have hi:i<l.length:=by have:=(Gae.mp e).1;simpa using this
  rw[GaT hi] at e
  cases e
  exact .inl ⟨rfl,rfl⟩
 ·rw[Gab h] at e
  exact .inr ⟨h,e⟩
theorem set_same{α:Type}{l:List α}{i:Nat}{x:α}(e:l[i]? =some x):l.set i x=l:=by
 apply GcV
 intro j
 by_cases h:i=j
 ·subst h
  rw[GaT (Gae.mp e).1,e]
 ·rw[Gab h]
theorem cB{α:Type}{l:List α}{i:Nat}{x:α}(h:i<l.length):(l.set i x)[i]? =some x:=GaT h
theorem gH{j:Nat}(h:bB (env.set i (some (.sh d)))[j]?):i≠j∧bB env[j]? :=by
 by_cases q:i=j
 ·subst q
  by_cases z:i<env.length
  ·rw[cB z] at h;exact h.elim
  ·rw[Gbk (by simpa using Nat.le_of_not_lt z)] at h;exact h.elim
 ·rw[Gab q] at h
  exact⟨q,h⟩
theorem aI.n4(E:aI K H₀ Bad env σ H)(r:Rep K (Cln Bad env σ) H d v):aI K H₀ Bad (env.set i (some (.sh d))) (σ.set i (some v)) H:=by
 have cln:∀b,Cln Bad env σ b→Cln Bad (env.set i (some (.sh d))) (σ.set i (some v)) b:=λb ⟨h1,h2⟩=> ⟨h1,λj t e=>by
  obtain⟨q,t⟩:=gH t
  rw[Gab q] at e
  exact h2 j t e⟩
 refine⟨E.same,by simp[E.len],E.bad,λj dj e=> ?_,λj dj e=> ?_,λj dj e=> ?_,λj k b t1 t2 e1 e2=> ?_⟩
 ·rcases get_set e with⟨q,e⟩| ⟨q,e⟩
  ·cases e
   subst q
   have hi:i<env.length:=by have:=(Gae.mp e);simpa using this.1
   exact⟨v,cB (by rw[←E.len];exact hi),r.imp cln⟩
  ·obtain⟨w,h1,h2⟩:=E.sh j dj e
   exact⟨w,by rw[Gab q];exact h1,h2.imp cln⟩
 ·have e' :i≠j∧(env[j]? =some (some (.own dj))∨env[j]? =some (some (.lok dj))):=by
   rcases e with e|e
   ·rcases get_set e with⟨q,e⟩| ⟨q,e⟩
    ·cases e
    ·exact⟨q,.inl e⟩
   ·rcases get_set e with⟨q,e⟩| ⟨q,e⟩
    ·cases e
    ·exact⟨q,.inr e⟩
  obtain⟨b,h1,h2,h3,h4,h5,h6⟩:=E.ow j dj e'.2
  exact⟨b,by rw[Gab e'.1];exact h1,h2,h3,h4,h5,h6.imp cln⟩
 ·rcases get_set e with⟨q,e⟩| ⟨q,e⟩
  ·cases e
  ·obtain⟨b,h1,hw,h2,h3⟩:=E.bo j dj e
   exact⟨b,by rw[Gab q];exact h1,hw,h2,h3.imp cln⟩
 ·obtain⟨q1,t1'⟩:=gH t1.top
  obtain⟨q2,t2⟩:=gH t2
  rw[Gab q1] at e1 t1
  rw[Gab q2] at e2
  exact E.dj j k b t1 t2 e1 e2
theorem Stp.n4:Stp env σ H (env.set i (some (.sh d))) (σ.set i (some v)) H:=⟨λ_ _ e _=>e,λb ⟨j,h,e⟩=>by
 have h' :bB (env.set i (some (.sh d)))[j]? :=h.ol.top
 obtain⟨q,_⟩:=gH h'
 rw[Gab q] at h e
 exact .inl ⟨j,h,e⟩,λj h=>by
 obtain⟨q,_⟩:=gH h.top
 rw[Gab q,Gab q]
 exact⟨rfl,rfl⟩⟩
theorem jE{j:Nat}(h:bB (env.set i (some (.own d)))[j]?)(hi:i<env.length):i=j∨(i≠j∧bB env[j]?):=by
 by_cases q:i=j
 ·exact .inl q
 ·rw[Gab q] at h
  exact .inr ⟨q,h⟩
theorem aI.EY(E:aI K H₀ Bad env σ H)(hi:i<env.length)(n0:H₀ a=none)(nb:¬Bad a)(w:Wr H' a)(t:d.top=true)(s:cC H₀ H')(bd:∀b,Bad b→H' b≠none)
  (ne:∀j b,j≠i→bB env[j]? →σ[j]? =some (some (.ref b))→b≠a∧H' b=H b)
  (inn:Inn K (Cln Bad (env.set i (some (.own d))) (σ.set i (some (.ref a)))) H' d (.ref a))
  (cln:∀b,Cln Bad env σ b→H b≠none→Cln Bad (env.set i (some (.own d))) (σ.set i (some (.ref a))) b)
  (fu:jA (Cln Bad env σ) H H'):
  aI K H₀ Bad (env.set i (some (.own d))) (σ.set i (some (.ref a))) H' :=by
 have keep:∀{j:Nat} {b:Addr} {dj:D},j≠i→bB env[j]? →σ[j]? =some (some (.ref b))→Inn K (Cln Bad env σ) H dj (.ref b)→Inn K (Cln Bad (env.set i (some (.own d))) (σ.set i (some (.ref a)))) H' dj (.ref b):=λ{j b dj} hj tj ej h=>
  h.gen fu cln λb' eb _ o e=>by cases eb;rw[(ne j b hj tj ej).2];exact e
 refine⟨s,by simp[E.len],bd,λj dj e=> ?_,λj dj e=> ?_,λj dj e=> ?_,λj k b t1 t2 e1 e2=> ?_⟩
 ·rcases get_set e with⟨q,e⟩| ⟨q,e⟩
  ·cases e
  ·obtain⟨u,h1,h2⟩:=E.sh j dj e
   exact⟨u,by rw[Gab q];exact h1,h2.gen fu cln⟩
 ·have e' :(i=j∧dj=d)∨(i≠j∧(env[j]? =some (some (.own dj))∨env[j]? =some (some (.lok dj)))):=by
   rcases e with e|e
   ·rcases get_set e with⟨q,e⟩| ⟨q,e⟩
    ·cases e;exact .inl ⟨q,rfl⟩
    ·exact .inr ⟨q,.inl e⟩
   ·rcases get_set e with⟨q,e⟩| ⟨q,e⟩
    ·cases e
    ·exact .inr ⟨q,.inr e⟩
  rcases e' with⟨q,rfl⟩| ⟨q,e'⟩
  ·subst q
   exact⟨a,cB (by rw[←E.len];exact hi),n0,nb,w,t,inn⟩
  ·obtain⟨b,h1,h2,h3,h4,h5,h6⟩:=E.ow j dj e'
   have tj:bB env[j]? :=by rcases e' with e' |e' <;>rw[e']<;>trivial
   refine⟨b,by rw[Gab q];exact h1,h2,h3, ?_,h5,keep (GaZ q) tj h1 h6⟩
   unfold Wr
   rw[(ne j b (GaZ q) tj h1).2]
   exact h4
 ·rcases get_set e with⟨q,e⟩| ⟨q,e⟩
  ·cases e
  ·obtain⟨b,h1,hw,h2,h3⟩:=E.bo j dj e
   have tj:bB env[j]? :=by rw[e];trivial
   refine⟨b,by rw[Gab q];exact h1, ?_,h2,keep (GaZ q) tj h1 h3⟩
   unfold Wr
   rw[(ne j b (GaZ q) tj h1).2]
   exact hw
 ·rcases jE t1.top hi with q1| ⟨q1,t1'⟩
  ·rcases jE t2 hi with q2| ⟨q2,t2'⟩
   ·rw[←q1,←q2]
   ·subst q1
    rw[cB (by rw[←E.len];exact hi)] at e1
    cases e1
    rw[Gab q2] at e2
    exact absurd rfl (ne k a (GaZ q2) t2' e2).1
  ·rcases jE t2 hi with q2| ⟨q2,t2'⟩
   ·subst q2
    rw[cB (by rw[←E.len];exact hi)] at e2
    cases e2
    rw[Gab q1] at e1
    exact absurd rfl (ne j a (GaZ q1) t1' e1).1
   ·rw[Gab q1] at e1 t1
    rw[Gab q2] at e2
    exact E.dj j k b t1 t2' e1 e2
theorem wJ(hi:i<env.length)(hs:env.length=σ.length){b:Addr}(h:Cln Bad env σ b)(hb:b≠a):Cln Bad (env.set i (some (.own d))) (σ.set i (some (.ref a))) b:=⟨h.1,λj t e=>by
 rcases jE t hi with q| ⟨q,t⟩
 ·subst q
  rw[cB (by rw[←hs];exact hi)] at e
  cases e
  exact hb rfl
 ·rw[Gab q] at e
  exact h.2 j t e⟩
theorem aI.B4(E:aI K H₀ Bad env σ H)(s:cC H H')(hi:i<env.length)(n:H a=none)(w:Wr H' a)(t:d.top=true)(hin:Inn K (λb=>Cln Bad env σ b∧b≠a) H' d (.ref a)):
  aI K H₀ Bad (env.set i (some (.own d))) (σ.set i (some (.ref a))) H' :=by
 have cln:∀b,Cln Bad env σ b→b≠a→Cln Bad (env.set i (some (.own d))) (σ.set i (some (.ref a))) b:=λb h hb=>wJ hi E.len h hb
 have cln' :∀b,Cln Bad env σ b→H b≠none→Cln Bad (env.set i (some (.own d))) (σ.set i (some (.ref a))) b:=λb h hb=>cln b h λz=>hb (z▸n)
 refine E.EY (H' :=H') hi (E.same.free n) (λb=>E.bad a b n) w t (E.same.trans s) (λb h e=>E.bad b h (s.free e)) (λj b hj tj ej=> ?_) (hin.imp λb h=>cln b h.1 h.2) cln' (.of_same s)
 have hb:=E.og tj ej
 refine⟨λz=>hb (z▸n), ?_⟩
 cases q:H b with
 |none=>exact absurd q hb
 |some o=>exact s b o q
theorem Stp.B4(s:cC H H')(hi:i<env.length)(hs:env.length=σ.length)(n:H a=none):Stp env σ H (env.set i (some (.own d))) (σ.set i (some (.ref a))) H' :=⟨λb o e _=>s b o e,λb ⟨j,h,e⟩=>by
 by_cases q:i=j
 ·subst q
  rw[cB (by rw[←hs];exact hi)] at e
  cases e
  exact .inr n
 ·rw[Gab q] at h e
  exact .inl ⟨j,h,e⟩,λj h=>by
 by_cases q:i=j
 ·subst q
  rw[cB hi] at h;exact h.elim
 ·rw[Gab q,Gab q]
  exact⟨rfl,rfl⟩⟩
theorem aI.change{d' :D}{o:HO}(E:aI K H₀ Bad env σ H)(e:env[i]? =some (some (.own d)))(ea:σ[i]? =some (some (.ref a)))(wo:isW o)(t:d'.top=true)
  (inn:Inn K (Cln Bad env σ) (upd H a o) d' (.ref a)):aI K H₀ Bad (env.set i (some (.own d'))) σ (upd H a o)∧Stp env σ H (env.set i (some (.own d'))) σ (upd H a o):=by
 have hi:i<env.length:=(Gae.mp e).1
 obtain⟨a',h1,h2,h3,h4,h5,h6⟩:=E.ow i d (.inl e)
 rw[ea] at h1;cases h1
 have hσ:σ.set i (some (.ref a))=σ:=set_same ea
 have tops:∀j,bB (env.set i (some (.own d')))[j]? ↔bB env[j]? :=λj=>by
  by_cases q:i=j
  ·subst q;rw[cB hi,e];exact⟨λ_=>trivial,λ_=>trivial⟩
  ·rw[Gab q]
 have clnE:∀b,Cln Bad env σ b→Cln Bad (env.set i (some (.own d'))) σ b:=λb h=> ⟨h.1,λj tj ej=>h.2 j ((tops j).mp tj) ej⟩
 have ca:∀b,Cln Bad env σ b→b≠a:=λb h z=>by subst z;exact h.2 i (by rw[e];trivial) ea
 have fu:jA (Cln Bad env σ) H (upd H a o):=λb x hb q=>by
  have:b≠a:=by
   rintro rfl
   rcases q with q|q
   ·exact ca b q rfl
   ·obtain⟨y,hy,wy⟩:=h4
    rw[hb] at hy;cases hy
    cases x<;>simp[isT] at q<;>exact wy
  rw[az this];exact hb
 have keepA:∀b x,H b=some x→b≠a→(upd H a o) b=some x:=λb x hb hn=>by rw[az hn];exact hb
 refine⟨?_,⟨λb x hb n=>keepA b x hb λz=>n ⟨i,by rw[e];trivial,by rw[z];exact ea⟩,λb ⟨j,h,ej⟩=> .inl ?_,λj h=> ?_⟩⟩
 ·have:=E.EY (H' :=upd H a o) (a:=a) (d:=d') hi h2 h3 ⟨o,aM,wo⟩ t (λb x hb=>keepA b x (E.same b x hb) λz=>by rw[z,h2] at hb;cases hb)
   (λb hb z=>by
    by_cases q:b=a
    ·subst q;rw[aM] at z;cases z
    ·rw[az q] at z;exact E.bad b hb z)
   (λj b hj tj ej=>by
    have:b≠a:=by rintro rfl;exact hj (E.dj i j b (by rw[e];trivial) tj ea ej).symm
    exact⟨this,by rw[az this]⟩)
   (by rw[hσ];exact inn.imp clnE) (λb h _=>by rw[hσ];exact clnE b h) fu
  rw[hσ] at this
  exact this
 ·by_cases q:i=j
  ·subst q;exact⟨i,by rw[e];trivial,ej⟩
  ·rw[Gab q] at h;exact⟨j,h,ej⟩
 ·by_cases q:i=j
  ·subst q;rw[cB hi] at h;exact h.elim
  ·rw[Gab q];exact⟨rfl,rfl⟩
end
open PySem PySem.Spec PyProof.Rows L2
section
variable{X:Cx}{e a b c:Expr}{f g h:DE}{t u:DT}{pos:Pos}{st:Stmt}{rest:List Stmt}{s1 s2:DS}
theorem b4:lE X [] bf:=by
 refine Hg.aU ?_
 rintro D σ H ⟨H₀,Bad,env,o,E,e,k⟩
 cases e
 exact k σ H E .refl
theorem ae(h1:PSd X st s1)(h2:lE X rest s2):lE X (st::rest) (aG s1 s2):=by
 refine(nZ h1 h2).aU ?_
 rintro D σ H ⟨H₀,Bad,env,o,E,e,k⟩
 obtain⟨o1,h1,e⟩:=bind_some e
 refine⟨H₀,Bad,env,o1,E,h1, ?_⟩
 cases o1 with
 |nx e1=>
  intro σ1 H1 E1 p1
  refine⟨H₀,Bad,e1,o,E1,e, ?_⟩
  cases o with
  |nx e2=>exactλσ2 H2 E2 p2=>k σ2 H2 E2 (p1.trans p2)
  |bk e2=>exactλσ2 H2 E2 p2=>k σ2 H2 E2 (p1.trans p2)
  |ct e2=>exactλσ2 H2 E2 p2=>k σ2 H2 E2 (p1.trans p2)
  |ret d=>exact k
 |bk e1=>cases e;exact k
 |ct e1=>cases e;exact k
 |ret d=>cases e;exact k
theorem aw(h1:PSd X st s1):lE X [st] s1:=uR h1
theorem EZ:PSd X (.Break pos) bkS:=by
 refine Es.aU ?_
 rintro D σ H ⟨H₀,Bad,env,o,E,e,k⟩
 cases e
 exact k σ H E .refl
theorem HU{K:aE}{F:Addr→Prop}{H₀ H' :Hp}{d:D}{v:V}(i:Inn K F H' d v)(hd:d.imm=true):u6 K H₀ H' d v:=by
 refine⟨λt=> ?_,(i.imm hd).inn⟩
 cases d<;>simp[D.top] at t<;>simp[D.imm] at hd
theorem MV{κ:Type}{K:aE}{F F' :Addr→Prop}{H:Hp}{kvs:List (κ×D)}{ws:List (κ×V)}(r:bc K F H kvs ws)(h:aQ (kvs.map (·.2))=true):bc K F' H kvs ws:=
 ⟨r.1,λi p q e1 e2=>(r.2 i p q e1 e2).imm (qR h i p.2 (by rw[Gah,e1];rfl))⟩
theorem C0{K:aE}{F:Addr→Prop}{H₀ H' :Hp}{d:D}{a:Addr}(i:Inn K F H' d (.ref a))(hd:d.o6=true)(n:H₀ a=none)(w:Wr H' a):u6 K H₀ H' d (.ref a):=by
 refine⟨λ_=> ⟨a,rfl,n,w⟩, ?_⟩
 cases i with
 |tup h r=>exact(Inn.imm (.tup h r) (by exact hd)).inn
 |scr h=>exact .scr h
 |lst h r=>exact .lst h (r.imm hd)
 |dK h r=>exact .dK h (MV r hd)
 |dT h r=>exact .dT h (MV r hd)
theorem aV(he:PEd X e f):PSd X (.Return (some e) pos) (retS f):=by
 refine(Et he).aU ?_
 rintro D σ H ⟨H₀,Bad,env,o,E,e,k⟩
 obtain⟨r,hr,e⟩:=bind_some e
 split at e
 ·rename_i ok
  cases e
  refine⟨H₀,Bad,env,r,E,hr,λv H1 s1 R=>k v H1 (E.same.trans s1) ?_⟩
  obtain⟨kd,d⟩:=r
  cases kd with
  |c=>exact HU R.inn ok
  |tn=>
   have ii:=R.inn
   obtain⟨a,rfl,n,w,t,i⟩:=R
   exact C0 ii ok (E.same.free n) w
  |to=>
   have ii:=R.inn
   obtain⟨a,rfl,n,w,t,i⟩:=R
   exact C0 ii ok n w
  |tb=>exact absurd (show false=true from ok) Gaz
 ·cases e
theorem bD{xs ys:List Stmt}(hc:PTd X c t)(ha:lE X xs s1)(hb:lE X ys s2):PSd X (.If c xs ys pos) (ifS t s1 s2):=by
 refine(LV hc ha hb).aU ?_
 rintro D σ H ⟨H₀,Bad,env,o,E,e,k⟩
 obtain⟨x,hx,e⟩:=bind_some e
 refine⟨H₀,Bad,env,x,E,hx,λH1 s1=> ?_⟩
 have st:Stp env σ H env σ H1:= .of_same s1
 have fin:∀{s:DS},s env=some o→tS X s D σ H1:=λ{s} e=> ⟨H₀,Bad,env,o,E.mono s1,e,by
  cases o with
  |nx e2=>exactλσ2 H2 E2 p2=>k σ2 H2 E2 (st.trans p2)
  |bk e2=>exactλσ2 H2 E2 p2=>k σ2 H2 E2 (st.trans p2)
  |ct e2=>exactλσ2 H2 E2 p2=>k σ2 H2 E2 (st.trans p2)
  |ret d=>exact k⟩
 dsimp only
 cases x with
 |true=>rw[Gag rfl];rw[Gag rfl] at e;exact fin e
 |false=>rw[Gaj Gaz];rw[Gaj Gaz] at e;exact fin e
theorem F4{X:Cx}{Bad:Addr→Prop}{env:Env}{σ:St}{H:Hp}{i:Nat}{x:Str}(E:aI X.K H₀ Bad env σ H)(hl:σ.length=X.N.length)(hi:X.N[i]? =some x):i<env.length:=by
 rw[E.len,hl];exact(Gae.mp hi).1
theorem ax{i:Nat}{x:Str}{pos' :Pos}(hN:X.N.Nodup)(hi:X.N[i]? =some x)(hx:Loc X.env.scope x)(he:PEd X e f)(hs:swapsWith e (some (.Name x pos')) pos.line X.env=pure false:=by rfl)
  (hf:X.fn x=true∨X.env.scope.names.lookup x=some .local:=by first|exact .inl rfl|exact .inr rfl|assumption):PSd X (.Assign [.Name x pos'] e pos) (aR i f):=by
 intro pins s σ H D I hw
 have hl:=I.len
 refine(AQ hN hi hx he hs hf) pins s σ H D I ?_
 obtain⟨H₀,Bad,env,o,E,e,k⟩:=hw
 obtain⟨r,hr,e⟩:=bind_some e
 obtain⟨e',hst,rfl⟩:=Gal.mp e
 have hie:i<env.length:=F4 E hl hi
 refine⟨H₀,Bad,env,r,E,hr,λv H1 s1 R=> ?_⟩
 have st:Stp env σ H env σ H1:= .of_same s1
 obtain⟨kd,d⟩:=r
 unfold stored at hst
 cases kd with
 |c=>
  cases hst
  exact k _ H1 ((E.mono s1).n4 R) (st.trans .n4)
 |tn=>
  cases hst
  obtain⟨a,rfl,n,w,t,i⟩:=R
  exact k _ H1 (E.B4 s1 hie n w t i) (.B4 s1 hie E.len n)
 |to=>cases hst
 |tb=>cases hst
noncomputable def Dg(K:aE)(F N:Addr→Prop)(J:It)(ds:List D)(H1:Hp):Prop:=
 ∀Hi:Hp,(∀b o,H1 b=some o→N b→Hi b=some o)→(∀(i:Nat) d,ds[i]? =some d→J.go i Hi∧∀x H2,J.yld i Hi x H2→cC Hi H2∧Rep K F H2 d x)∧J.stop ds.length Hi
noncomputable def tI(X:Cx)(src:DI):TI:=λσ H R=>∃H₀ Bad env ds,aI X.K H₀ Bad env σ H∧src env=some ds∧∀J H',cC H H' →Dg X.K (λb=>Cln Bad env σ b∧H' b≠none) (λb=>¬Ow env σ b) J ds H' →R J H'
noncomputable abbrev PId (X:Cx) (tg iter:Expr) (src:DI):Prop:=PI X tg iter (tI X src)
theorem _root_.L2.PI.aU{tg iter:Expr}{w w' :TI}(h:PI X tg iter w')(i:∀σ H R,w σ H R→w' σ H R):PI X tg iter w:=λpins s σ H R I q=>h pins s σ H R I (i σ H R q)
theorem aI.lock{K:aE}{H₀:Hp}{Bad:Addr→Prop}{env:Env}{σ:St}{H:Hp}(E:aI K H₀ Bad env σ H)(l:Option Nat):aI K H₀ Bad (bT l env) σ H∧(∀b,Ow (bT l env) σ b→Ow env σ b)∧∀i:Nat,bB (bT l env)[i]? ↔bB env[i]? :=by
 cases l with
 |none=>exact⟨E,λ_ h=>h,λ_=>Iff.rfl⟩
 |some j=>
  unfold bT
  dsimp only
  split
  ·rename_i d q
   have hj:j<env.length:=(Gae.mp q).1
   have tops:∀i,bB (env.set j (some (.lok d)))[i]? ↔bB env[i]? :=λi=>by
    by_cases z:j=i
    ·subst z;rw[cB hj,q];exact⟨λ_=>trivial,λ_=>trivial⟩
    ·rw[Gab z]
   have cln:∀b,Cln Bad env σ b→Cln Bad (env.set j (some (.lok d))) σ b:=λb h=> ⟨h.1,λi t e=>h.2 i ((tops i).mp t) e⟩
   refine⟨⟨E.same,by simpa using E.len,E.bad,λi di e=> ?_,λi di e=> ?_,λi di e=> ?_,λi k b t1 t2 e1 e2=> ?_⟩,λb ⟨i,h,e⟩=> ?_,tops⟩
   ·rcases get_set e with⟨z,e⟩| ⟨z,e⟩
    ·cases e
    ·obtain⟨v,h1,h2⟩:=E.sh i di e;exact⟨v,h1,h2.imp cln⟩
   ·have e' :env[i]? =some (some (.own di))∨env[i]? =some (some (.lok di)):=by
     rcases e with e|e
     ·rcases get_set e with⟨z,e⟩| ⟨z,e⟩
      ·cases e
      ·exact .inl e
     ·rcases get_set e with⟨z,e⟩| ⟨z,e⟩
      ·cases e;subst z;exact .inl q
      ·exact .inr e
    obtain⟨b,h1,h2,h3,h4,h5,h6⟩:=E.ow i di e'
    exact⟨b,h1,h2,h3,h4,h5,h6.imp cln⟩
   ·rcases get_set e with⟨z,e⟩| ⟨z,e⟩
    ·cases e
    ·obtain⟨b,h1,hw,h2,h3⟩:=E.bo i di e;exact⟨b,h1,hw,h2,h3.imp cln⟩
   ·have t1' :wI env[i]? :=by
     by_cases z:j=i
     ·subst z;rw[q];trivial
     ·rw[Gab z] at t1;exact t1
    exact E.dj i k b t1' ((tops k).mp t2) e1 e2
   ·by_cases z:j=i
    ·subst z;rw[cB hj] at h;exact h.elim
    ·rw[Gab z] at h;exact⟨i,h,e⟩
  ·exact⟨E,λ_ h=>h,λ_=>Iff.rfl⟩
theorem aI.free{K:aE}{H₀:Hp}{Bad:Addr→Prop}{env:Env}{σ:St}{H:Hp}(E:aI K H₀ Bad env σ H)(l:Option Nat):aI K H₀ Bad (jb l env) σ H:=by
 cases l with
 |none=>exact E
 |some j=>
  unfold jb
  dsimp only
  split
  ·rename_i d q
   have hj:j<env.length:=(Gae.mp q).1
   have tops:∀i,bB (env.set j (some (.own d)))[i]? ↔bB env[i]? :=λi=>by
    by_cases z:j=i
    ·subst z;rw[cB hj,q];exact⟨λ_=>trivial,λ_=>trivial⟩
    ·rw[Gab z]
   have cln:∀b,Cln Bad env σ b→Cln Bad (env.set j (some (.own d))) σ b:=λb h=> ⟨h.1,λi t e=>h.2 i ((tops i).mp t) e⟩
   refine⟨E.same,by simpa using E.len,E.bad,λi di e=> ?_,λi di e=> ?_,λi di e=> ?_,λi k b t1 t2 e1 e2=> ?_⟩
   ·rcases get_set e with⟨z,e⟩| ⟨z,e⟩
    ·cases e
    ·obtain⟨v,h1,h2⟩:=E.sh i di e;exact⟨v,h1,h2.imp cln⟩
   ·have e' :env[i]? =some (some (.own di))∨env[i]? =some (some (.lok di)):=by
     rcases e with e|e
     ·rcases get_set e with⟨z,e⟩| ⟨z,e⟩
      ·cases e;subst z;exact .inr q
      ·exact .inl e
     ·rcases get_set e with⟨z,e⟩| ⟨z,e⟩
      ·cases e
      ·exact .inr e
    obtain⟨b,h1,h2,h3,h4,h5,h6⟩:=E.ow i di e'
    exact⟨b,h1,h2,h3,h4,h5,h6.imp cln⟩
   ·rcases get_set e with⟨z,e⟩| ⟨z,e⟩
    ·cases e
    ·obtain⟨b,h1,hw,h2,h3⟩:=E.bo i di e;exact⟨b,h1,hw,h2,h3.imp cln⟩
   ·have t1' :wI env[i]? :=by
     by_cases z:j=i
     ·subst z;rw[q];trivial
     ·rw[Gab z] at t1;exact t1
    exact E.dj i k b t1' ((tops k).mp t2) e1 e2
  ·exact E
end
open PySem PySem.Spec PyProof.Rows L2
section
variable{X:Cx}{e a b c:Expr}{f g h:DE}{t u:DT}{pos:Pos}{st:Stmt}{rest:List Stmt}{s1 s2:DS}
theorem wK{env:Env}{l:Option Nat}{i:Nat}(h:∀j,l=some j→j≠i):(bT l env)[i]? =env[i]? :=by
 unfold bT
 split
 ·rfl
 ·rename_i j
  split
  ·rw[Gab (h j rfl)]
  ·rfl
theorem Stp.loop{env envN:Env}{σ σN:St}{H HN:Hp}{l:Option Nat}(p:Stp (bT l env) σ H envN σN HN)(lo:∀b,Ow (bT l env) σ b→Ow env σ b):Stp env σ H (if rn l env then jb l envN else envN) σN HN:=by
 have same:rn l env=false→bT l env=env:=λh=>by
  unfold rn at h
  unfold bT
  split at h
  ·rfl
  ·split at h
   ·cases h
   ·rfl
 cases ho:rn l env with
 |false=>
  rw[Gaj Gaz]
  rw[same ho] at p
  exact p
 |true=>
  rw[Gag rfl]
  unfold rn at ho
  split at ho
  ·cases ho
  ·rename_i j
   split at ho
   ·rename_i d q
    have hj:j<env.length:=(Gae.mp q).1
    have lockj:(bT (some j) env)[j]? =some (some (.lok d)):=by unfold bT;simp only[q];exact cB hj
    have other:∀i,j≠i→(bT (some j) env)[i]? =env[i]? :=λi hi=>wK λk e=>by cases e;exact hi
    refine⟨λb o e n=>p.keep b o e λz=>n (lo b z),λb ⟨i,h,e⟩=> ?_,λi h=> ?_⟩
    ·by_cases z:j=i
     ·subst z
      unfold jb at h
      dsimp only at h
      split at h
      ·rename_i d' q'
       obtain⟨h1,h2⟩:=p.lk j (by rw[q'];trivial)
       rw[h2] at e
       exact .inl ⟨j,by rw[q];trivial,e⟩
      ·rcases p.ow b ⟨j,h,e⟩ with w|w
       ·exact .inl (lo b w)
       ·exact .inr w
     ·have h' :isO envN[i]? :=by
       unfold jb at h
       dsimp only at h
       split at h
       ·rw[Gab z] at h;exact h
       ·exact h
      rcases p.ow b ⟨i,h',e⟩ with w|w
      ·exact .inl (lo b w)
      ·exact .inr w
    ·by_cases z:j=i
     ·subst z
      unfold jb at h⊢
      dsimp only at h⊢
      split at h
      ·rename_i d' q'
       have hj' :j<envN.length:=(Gae.mp q').1
       rw[cB hj'] at h;exact h.elim
      ·rename_i q'
       obtain⟨h1,_⟩:=p.lk j h
       rw[lockj] at h1
       exact absurd h1 (q' d)
     ·have hN:(jb (some j) envN)[i]? =envN[i]? :=by
       unfold jb
       dsimp only
       split
       ·rw[Gab z]
       ·rfl
      rw[hN] at h⊢
      obtain⟨h1,h2⟩:=p.lk i h
      rw[other i z] at h1
      exact⟨h1,h2⟩
   ·cases ho
theorem ug{Bad:Addr→Prop}{env env' :Env}{σ σ' :St}{H H' :Hp}(p:Stp env σ H env' σ' H'){b:Addr}(h:Cln Bad env σ b)(hb:H b≠none):Cln Bad env' σ' b:=⟨h.1,λi t e=>by
 rcases u5 t with o|o
 ·rcases p.ow b ⟨i,o,e⟩ with⟨j,w,ej⟩|w
  ·exact h.2 j w.ol.top ej
  ·exact hb w
 ·obtain⟨h1,h2⟩:=p.lk i o
  rw[h1] at t
  rw[h2] at e
  exact h.2 i t e⟩
theorem ck{tg iter:Expr}{body:List Stmt}{l:Option Nat}{src:DI}{gd:DG}{sb:DS}(hp:PassesOwn (model X.prog X.w) X.A X.env X.xe)(hc:X.calm=true)(hi:PId X tg iter src)(hg:PGd X tg gd)(hb:lE X body sb)
  (hs:∀x,foldedSetIterable iter X.env x=pure x:=by intro _;rfl):PSd X (.For tg iter body [] pos) (gZ l src gd sb):=by
 refine(Ey hp hc hi hg hb hs).aU ?_
 rintro D σ H ⟨H₀,Bad,env,o,E,e,k⟩
 obtain⟨ds,hds,e⟩:=bind_some e
 obtain⟨o1,ho1,rfl⟩:=Gal.mp e
 obtain⟨EL,lo,_⟩:=E.lock l
 refine⟨H₀,Bad,bT l env,ds,EL,hds,λJ H1 sH it=> ?_⟩
 have E1:=EL.mono sH
 have st1:Stp env σ H env σ H1:= .of_same sH
 have nxOk:∀envN σN HN,o1= .nx envN→aI X.K H₀ Bad envN σN HN→Stp (bT l env) σ H1 envN σN HN→D.nx σN HN:=λenvN σN HN eo EN pN=>by
  subst eo
  refine k σN HN ?_ (st1.trans (pN.loop lo))
  show aI X.K H₀ Bad (if rn l env then jb l envN else envN) σN HN
  split
  ·exact EN.free l
  ·exact EN
 refine⟨λi m σ' H' =>m=ds.length -i∧i≤ds.length∧∃envi,aI X.K H₀ Bad envi σ' H' ∧Stp (bT l env) σ H1 envi σ' H' ∧forL gd sb (ds.drop i) envi=some o1,
  ⟨ds.length,by simp,GbD _,_,E1,.refl,by simpa using ho1⟩, ?_⟩
 rintro i m σ' H' ⟨rfl,hle,envi,Ei,pi,ei⟩
 obtain⟨items,stop⟩:=it H' λb o hb n=>pi.keep b o hb n
 by_cases hlt:i<ds.length
 ·obtain⟨go,yld⟩:=items i ds[i] (by simp[hlt])
  refine .inr ⟨go,λσ2 H2=>(ds.length -(i+1))=ds.length -(i+1)∧i+1≤ds.length∧∃envi,aI X.K H₀ Bad envi σ2 H2∧Stp (bT l env) σ H1 envi σ2 H2∧forL gd sb (ds.drop (i+1)) envi=some o1,λσ2 H2 q=> ⟨_,by omega,q⟩,λx H2 y=> ?_⟩
  obtain⟨s2,rep⟩:=yld x H2 y
  have hd:ds.drop i=ds[i]::ds.drop (i+1):=Gbu hlt
  rw[hd] at ei
  unfold forL at ei
  obtain⟨e2,hg2,ei⟩:=bind_some ei
  obtain⟨o2,hb2,ei⟩:=bind_some ei
  refine⟨H₀,Bad,envi,ds[i],e2,Ei.mono s2,hg2,rep.imp λb q=>ug pi q.1 q.2,λσ3 H3 E3 p3=> ?_⟩
  have p3' :Stp (bT l env) σ H1 e2 σ3 H3:=(pi.trans (.of_same s2)).trans p3
  refine⟨H₀,Bad,e2,o2,E3,hb2, ?_⟩
  cases o2 with
  |nx e4=>exactλσ4 H4 E4 p4=> ⟨rfl,hlt,e4,E4,p3'.trans p4,ei⟩
  |ct e4=>exactλσ4 H4 E4 p4=> ⟨rfl,hlt,e4,E4,p3'.trans p4,ei⟩
  |bk e4=>
   cases ei
   exactλσ4 H4 E4 p4=>nxOk e4 σ4 H4 rfl E4 (p3'.trans p4)
  |ret d=>
   cases ei
   exact k
 ·have hi:i=ds.length:=by omega
  subst hi
  rw[GbK] at ei
  cases ei
  exact .inl ⟨stop,nxOk envi σ' H' rfl Ei pi⟩
theorem F5{body:List Stmt}{sb:DS}(hp:PassesOwn (model X.prog X.w) X.A X.env X.xe)(hc:PTd X c t)(hb:lE X body sb):PSd X (.While c body [] pos) (uY t sb):=by
 refine(Ew hp hc hb).aU ?_
 rintro D σ H ⟨H₀,Bad,env,o,E,e,k⟩
 refine⟨λm σ' H' =>∃envi,aI X.K H₀ Bad envi σ' H' ∧Stp env σ H envi σ' H' ∧iq t sb m envi=some o,⟨100000,env,E,.refl,e⟩, ?_⟩
 rintro m σ' H' ⟨envi,Ei,pi,ei⟩
 cases m with
 |zero=>cases ei
 |succ m=>
  unfold iq at ei
  obtain⟨bb,hbb,ei⟩:=bind_some ei
  refine⟨H₀,Bad,envi,bb,Ei,hbb,λH1 s1=> ?_⟩
  have pi1:Stp env σ H envi σ' H1:=pi.trans (.of_same s1)
  dsimp only
  cases bb with
  |true=>
   rw[Gag rfl]
   rw[Gag rfl] at ei
   obtain⟨o2,hb2,ei⟩:=bind_some ei
   refine⟨λσ2 H2=>∃envi,aI X.K H₀ Bad envi σ2 H2∧Stp env σ H envi σ2 H2∧iq t sb m envi=some o,λσ2 H2 q=> ⟨m,by omega,q⟩,H₀,Bad,envi,o2,Ei.mono s1,hb2, ?_⟩
   cases o2 with
   |nx e4=>exactλσ4 H4 E4 p4=> ⟨e4,E4,pi1.trans p4,ei⟩
   |ct e4=>exactλσ4 H4 E4 p4=> ⟨e4,E4,pi1.trans p4,ei⟩
   |bk e4=>cases ei;exactλσ4 H4 E4 p4=>k σ4 H4 E4 (pi1.trans p4)
   |ret d=>cases ei;exact k
  |false=>
   rw[Gaj Gaz]
   rw[Gaj Gaz] at ei
   cases ei
   exact k σ' H1 (Ei.mono s1) pi1
theorem aI.fR{K:aE}{H₀:Hp}{Bad:Addr→Prop}{env:Env}{σ:St}{H:Hp}(E:aI K H₀ Bad env σ H){b:Addr}{o:HO}(h:Ow env σ b)(hb:H b=some o):¬isT o:=by
 intro q
 obtain⟨i,h1,h2⟩:=h
 obtain⟨y,hy,wy⟩:=E.Jj h1.ol.top h2
 rw[hb] at hy;cases hy
 cases o<;>simp[isT] at q<;>exact wy
theorem aI.mM{K:aE}{H₀:Hp}{Bad:Addr→Prop}{env:Env}{σ:St}{H Hi:Hp}{d:D}{v:V}(E:aI K H₀ Bad env σ H)(keep:∀b o,H b=some o→¬Ow env σ b→Hi b=some o)(r:Rep K (Cln Bad env σ) H d v):
  Rep K (λb=>Cln Bad env σ b∧H b≠none) Hi d v:=
 r.gen (λb o hb q=>keep b o hb (by
  rcases q with q|q
  ·exactλ⟨i,h1,h2⟩=>q.2 i h1.ol.top h2
  ·exactλw=>E.fR w hb q)) λb q hb=> ⟨q,hb⟩
noncomputable def OH(K:aE)(tl:TE):TI:=λσ H R=>tl σ H λx H1=>∃a,x= .ref a∧(((∃xs,SqL K H1 a xs)∧R (Itl K a) H1)∨((∃xs,SqT K H1 a xs)∧R (Itt K a) H1))
theorem F6{tg l:Expr}{tl:TE}(hl:PE X l tl):PI X tg l (OH X.K tl):=by
 intro pins s σ H R I h
 refine thn (hl pins s σ H _ I h) λv s1 ⟨x,H1,I1,r1,q1⟩=> ?_
 obtain⟨a,e,q1⟩:=q1
 subst e
 cases r1
 have fp:∀b∈[s1.heap.objs.size],nK X pins H1 b:=λb hb=>by
  have e:b=s1.heap.objs.size:=by simpa using hb
  subst e
  exact I1.CO (Gaq _) (I1.hok.fresh (Gaq _))
 rcases q1 with⟨⟨xs,hq⟩,q⟩| ⟨⟨xs,hq⟩,q⟩
 ·obtain⟨its,rv,p,hz⟩:=I1.list hq
  refine wpAny_pyIter_list p.isList ?_
  exact⟨s1.heap.objs.size,[s1.heap.objs.size],_,_,H1,rfl,I1.kept (t' :=s1.toks) λb o e=>Gaf _ e,CP a _,⟨_,GaA _ rfl,rfl,rfl⟩,fp,q⟩
 ·obtain⟨its,rv,p,hz⟩:=I1.tuple hq
  refine GcP (show s1.heap.IsTuple a its.toArray from p) ?_
  exact⟨s1.heap.objs.size,[s1.heap.objs.size],_,_,H1,rfl,I1.kept (t' :=s1.toks) λb o e=>Gaf _ e,AR a _,⟨_,GaA _ rfl,rfl,rfl⟩,fp,q⟩
theorem C1{Bad:Addr→Prop}{env:Env}{σ:St}{H H1:Hp}{kd:Cls}{d:D}{v:V}(E:aI X.K H₀ Bad env σ H)(ht:d.top=true)(hk:kd≠ .to)(Rv:jX X.K H₀ Bad env σ H H1 ⟨kd,d⟩ v):∀a,v= .ref a→¬Ow env σ a:=λa ea=>by
 cases kd with
 |c=>
  have Rv' :Rep X.K (Cln Bad env σ) H1 d v:=Rv
  have fin:∀b,Cln Bad env σ b→¬Ow env σ b:=λb f ⟨i,h1,h2⟩=>f.2 i h1.ol.top h2
  cases Rv' with
  |tup h l r=>simp[D.top] at ht
  |lst f h l r=>cases ea;exact fin _ f
  |dK f h l r=>cases ea;exact fin _ f
  |dT f h l r=>cases ea;exact fin _ f
  |non=>cases ea
  |bl b=>cases ea
  |int i=>cases ea
  |str x=>cases ea
  |scr h=>simp[D.top] at ht
 |tn=>
  obtain⟨a',e',n,_⟩:=Rv
  rw[e'] at ea;cases ea
  exactλ⟨i,h1,h2⟩=>E.og h1.ol.top h2 n
 |to=>exact absurd rfl hk
 |tb=>exact Rv.2 a ea ht
theorem fw{tg:Expr}(he:PEd X e f):PId X tg e (lD f):=by
 refine(F6 he).aU ?_
 rintro σ H R ⟨H₀,Bad,env,ds,E,hf,k⟩
 obtain⟨⟨kd,d⟩,hr,hf⟩:=bind_some hf
 split at hf
 ·cases hf
 rename_i hk
 refine⟨H₀,Bad,env,_,E,hr,λv H1 s1 Rv=> ?_⟩
 have ii:=Rv.inn
 have E1:=E.mono s1
 split at hf
 ·rename_i xs hd
  cases hf
  have hd' :d= .lst ds:=hd
  subst hd'
  have hno:=C1 E rfl hk Rv
  cases ii with
  | @lst la lv _ h r=>
   refine⟨_,rfl,.inl ⟨⟨_,.inl h⟩,k _ H1 s1 λHi keep=> ?_⟩⟩
   have hh:Rd Hi la (.lst lv):=by
    rcases h with h| ⟨o,h⟩
    ·exact .inl (keep _ _ h (hno _ rfl))
    ·exact .inr ⟨o,keep _ _ h (hno _ rfl)⟩
   refine⟨λi d hd=> ?_,⟨_,.inl hh,by rw[r.1];exact Gaq _⟩⟩
   obtain⟨x,h1,h2⟩:=r.get hd
   refine⟨⟨_,x,.inl hh,h1⟩,λy H2 ⟨e2,e3⟩=> ?_⟩
   subst e2
   refine⟨cg, ?_⟩
   have:=e3 _ (.inl hh)
   rw[h1] at this;cases this
   exact E1.mM keep h2
 ·rename_i xs hd
  cases hf
  have hd' :d= .tup ds:=hd
  subst hd'
  cases ii with
  | @tup la lv _ h r=>
   refine⟨_,rfl,.inr ⟨⟨_,SqT.of h⟩,k _ H1 s1 λHi keep=> ?_⟩⟩
   have hh:Hi la=some (.tup lv):=keep _ _ h λw=>E1.fR w h trivial
   refine⟨λi d hd=> ?_,⟨_,SqT.of hh,by rw[r.1];exact Gaq _⟩⟩
   obtain⟨x,h1,h2⟩:=r.get hd
   refine⟨⟨_,x,SqT.of hh,h1⟩,λy H2 ⟨e2,e3⟩=> ?_⟩
   subst e2
   refine⟨cg, ?_⟩
   have:=e3 _ (SqT.of hh)
   rw[h1] at this;cases this
   exact E1.mM keep h2
 ·rename_i ns hd
  cases hf
  have hd' :d= .scr ns:=hd
  subst hd'
  cases ii with
  | @scr la _ h=>
   refine⟨_,rfl,.inl ⟨⟨_,h.sq⟩,k _ H1 s1 λHi keep=> ?_⟩⟩
   have hh:Scr X.K Hi la ns:=by
    rcases h with⟨o,h⟩|h
    ·exact .inl ⟨o,keep _ _ h λw=>E1.fR w h trivial⟩
    ·exact .inr h
   refine⟨λi d hd=> ?_,⟨_,hh.sq,by simp⟩⟩
   rw[Gah] at hd
   cases q:ns[i]? with
   |none=>rw[q] at hd;cases hd
   |some n=>
    rw[q] at hd;cases hd
    refine⟨⟨_,.int n,hh.sq,by rw[Gah,q];rfl⟩,λy H2 ⟨e2,e3⟩=> ?_⟩
    subst e2
    have:=e3 _ hh.sq
    rw[Gah,q] at this;cases this
    exact⟨cg,.int n⟩
 ·cases hf
theorem lH{lo:Int}{n:Nat}{F N:Addr→Prop}{H1:Hp}:Dg X.K F N (Itr lo n) (bx lo n) H1:=λHi _=>by
 refine⟨λi d hd=> ?_,by show n≤(bx lo n).length;simp[bx]⟩
 have hi:i<n:=by have:=(Gae.mp hd).1;simpa[bx] using this
 refine⟨hi,λx H2 ⟨e1,e2⟩=> ?_⟩
 subst e1 e2
 have:d= .int (lo+(i:Int)):=by
  unfold bx at hd
  rw[Gah,List.getElem?_range hi] at hd
  cases hd;rfl
 subst this
 exact⟨cg,.int _⟩
theorem fS{i:Int}(h:bV i=true): -(2^62)≤i∧i<2^62:=by
 unfold bV at h
 rw[Gau] at h
 have h1:=GaD h.1
 have h2:=GaD h.2
 omega
theorem fU{tg:Expr}{p:Pos}(hg:Gl X "range")(hm:X.mg "range"=none)(he:PEd X e f)(hs:starEach [e] X.env=[(false,eval e X.env)]:=by rfl):PId X tg (.Call (.Name "range" p) [e] [] pos) (iJ f):=by
 refine(CQ hg hm (a4 he aa hs) hs).aU ?_
 rintro σ H R ⟨H₀,Bad,env,ds,E,hf,k⟩
 obtain⟨r,hr,hf⟩:=bind_some hf
 split at hf
 ·rename_i j hd
  split at hf
  ·rename_i hz
   cases hf
   refine⟨H₀,Bad,env,[r],E,by unfold a5 aq;rw[hr];rfl,λvs H1 s1 Rs=> ?_⟩
   cases Rs with
   |cons R1 t=>
    cases t
    have i:=R1.inn
    rw[hd] at i
    cases i
    exact⟨j,rfl,(fS hz).1,(fS hz).2,k _ H1 s1 lH⟩
  ·cases hf
 ·cases hf
theorem Dh{tg:Expr}{p:Pos}(hg:Gl X "range")(hm:X.mg "range"=none)(ha:PEd X a f)(hb:PEd X b g)(hs:starEach [a,b] X.env=[(false,eval a X.env),(false,eval b X.env)]:=by rfl)(hs2:starEach [b] X.env=[(false,eval b X.env)]:=by rfl):
  PId X tg (.Call (.Name "range" p) [a,b] [] pos) (BR f g):=by
 refine(CT hg hm (a4 ha (a4 hb aa hs2) (by rw[hs,hs2])) hs hs2).aU ?_
 rintro σ H R ⟨H₀,Bad,env,ds,E,hf,k⟩
 obtain⟨r,hr,hf⟩:=bind_some hf
 obtain⟨r',hr',hf⟩:=bind_some hf
 split at hf
 ·rename_i i j hd hd'
  split at hf
  ·rename_i hz
   rw[Gau] at hz
   cases hf
   refine⟨H₀,Bad,env,[r,r'],E,by simp only[a5,aq,hr,hr'];rfl,λvs H1 s1 Rs=> ?_⟩
   cases Rs with
   |cons R1 t=>
    cases t with
    |cons R2 t=>
     cases t
     have i1:=R1.inn
     rw[hd] at i1
     cases i1
     have i2:=R2.inn
     rw[hd'] at i2
     cases i2
     exact⟨i,j,rfl,⟨(fS hz.1).1,(fS hz.1).2,(fS hz.2).1,(fS hz.2).2⟩,k _ H1 s1 lH⟩
  ·cases hf
 ·cases hf
theorem aP{i:Nat}{x:Str}(hN:X.N.Nodup)(hi:X.N[i]? =some x)(hx:Loc X.env.scope x)(hf:X.fn x=true∨X.env.scope.names.lookup x=some .local:=by first|exact .inl rfl|exact .inr rfl|assumption):PGd X (.Name x pos) (gN i):=by
 refine(BI hN hi hx hf).aU ?_
 rintro v σ H Q ⟨H₀,Bad,env,d,env',E,hg,r,k⟩
 cases hg
 exact k _ H (E.n4 r) .n4
noncomputable def tGs(X:Cx)(is:List Nat):TGs:=λvs σ H Q=>∃H₀ Bad env ds env',aI X.K H₀ Bad env σ H∧gNs is ds env=some env' ∧b8 X.K (λb=>Cln Bad env σ b∧H b≠none) H ds vs∧∀σ' H',aI X.K H₀ Bad env' σ' H' →Stp env σ H env' σ' H' →Q σ' H'
theorem _root_.L2.PGs.aU{es:List Expr}{t t' :TGs}(h:PGs X es t')(i:∀v σ H Q,t v σ H Q→t' v σ H Q):PGs X es t:=λpins s σ H v u Q I r q=>h pins s σ H v u Q I r (i v σ H Q q)
theorem iK:PGs X [] (tGs X []):=by
 refine Hh.aU ?_
 rintro vs σ H Q ⟨H₀,Bad,env,ds,env',E,hg,r,k⟩
 cases ds with
 |nil=>cases hg;exact⟨r.cV,k σ H E .refl⟩
 |cons d ds=>cases hg
theorem bF{es:List Expr}{i:Nat}{is:List Nat}(h1:PGd X e (gN i))(h2:PGs X es (tGs X is))(hs:(assignEach (e::es) X.env).map (·.2)=assign e X.env::(assignEach es X.env).map (·.2):=by rfl):PGs X (e::es) (tGs X (i::is)):=by
 refine(Eu h1 h2 hs).aU ?_
 rintro vs σ H Q ⟨H₀,Bad,env,ds,env',E,hg,r,k⟩
 cases ds with
 |nil=>cases hg
 |cons d ds=>
  obtain⟨v,vr,rfl,r1,r2⟩:=r.cons_inv
  refine⟨v,vr,rfl,H₀,Bad,env,d,_,E,rfl,r1.imp λ_ q=>q.1,λσ1 H1 E1 p1=> ?_⟩
  refine⟨H₀,Bad,_,ds,env',E1,hg,r2.gen (λb o hb q=>p1.keep b o hb (by
   rcases q with q|q
   ·exactλ⟨j,w1,w2⟩=>q.1.2 j w1.ol.top w2
   ·exactλw=>E.fR w hb q)) (λb q hb=> ⟨ug p1 q.1 hb, ?_⟩),λσ2 H2 E2 p2=>k σ2 H2 E2 (p1.trans p2)⟩
  cases o:H b with
  |none=>exact absurd o hb
  |some x=>rw[p1.keep b x o λ⟨j,w1,w2⟩=>q.1.2 j w1.ol.top w2];simp
theorem C2:∀{is:List Nat} {ds:List D} {env env' :Env},gNs is ds env=some env' →ds.length=is.length
 |[],[],_,_,_=>rfl
 |[],_::_,_,_,h=>by cases h
 |_::_,[],_,_,h=>by cases h
 |i::is,d::ds,env,env',h=>by
  have:=C2 (is:=is) (ds:=ds) h
  simp[this]
theorem kF{es:List Expr}{j n:Nat}{is:List Nat}(hc:X.calm=true)(h:PGs X es (tGs X is))(hn:(assignEach es X.env).length=n:=by rfl)(hst:(assignEach es X.env).findIdx? (·.1)=none:=by rfl)(hl:is.length=n:=by rfl):PGd X (.Tuple es j pos) (gT is):=by
 refine(JI hc h hn hst).aU ?_
 rintro v σ H Q ⟨H₀,Bad,env,d,env',E,hg,r,k⟩
 unfold gT at hg
 split at hg
 ·rename_i ds
  cases r with
  |tup h l r=>
   refine⟨_,_,rfl,SqT.of h,by rw[←l,C2 hg,hl],H₀,Bad,env,ds,env',E,hg,⟨l,λi d v e1 e2=>(r i d v e1 e2).gen (.of_same cg) λb q hb=> ⟨q,hb⟩⟩,k⟩
 ·cases hg
end
open PySem PySem.Spec PyProof.Rows L2
section
variable{X:Cx}{e a b c:Expr}{f g h:DE}{t u:DT}{pos:Pos}{st:Stmt}{rest:List Stmt}{s1 s2:DS}
theorem om{i:Nat}{env:Env}{d:D}(h:ownAt i env=some d):env[i]? =some (some (.own d)):=by
 unfold ownAt at h
 split at h
 ·rename_i d' q;cases h;exact q
 ·cases h
theorem oq{K:aE}{F:Addr→Prop}{H:Hp}{ds:List D}{a:Addr}(w:Wr H a)(i:Inn K F H (.lst ds) (.ref a)):∃vs,H a=some (.lst vs)∧b8 K F H ds vs:=by
 cases i with
 |lst h r=>
  rcases h with h| ⟨o,h⟩
  ·exact⟨_,h,r⟩
  ·obtain⟨y,hy,wy⟩:=w
   rw[h] at hy;cases hy;exact wy.elim
theorem bY{i:Nat}{x:Str}{px apos cpos:Pos}(hN:X.N[i]? =some x)(hv:Vis X.env.scope x)(he:PEd X e f)(hd:(x==("__debug__":Str))=false:=by decide)(hcd:(x==("__classdict__":Str))=false:=by decide)
  (hs1:starEach [e] X.env=[(false,eval e X.env)]:=by rfl)
  (hbase:attributeBase (.Name x px) "append" X.env (eval (.Name x px) X.env)=eval (.Name x px) X.env:=by rfl)
  (hfew:((backTo cpos (starEach [e] X.env)).all (λx=> !x.1)&&(backToKw cpos (keywordEach [] X.env)).all (λx=>x.1.isSome)
   &&decide (([e]:List Expr).length+([]:List Keyword).length+(if([]:List Keyword).isEmpty then 0 else 1)<30))=true:=by rfl)
  (hline:(apos.endLine==cpos.line)=true:=by rfl)(hs:swapsWith (.Call (.Attribute (.Name x px) "append" apos) [e] [] cpos) none pos.line X.env=pure false:=by rfl):
  PSd X (.Expr (.Call (.Attribute (.Name x px) "append" apos) [e] [] cpos) pos) (mT i f):=by
 refine(qO (BM Gcs PySem.F.slot_list_append PySem.F.type_list_append pv (lF hN hv hd hcd) (a4 he aa hs1) hbase hfew hline hs1 rfl) hs).aU ?_
 rintro D σ H ⟨H₀,Bad,env,o,E,e,k⟩
 obtain⟨r,hr,e⟩:=bind_some e
 obtain⟨d,hd,e⟩:=bind_some e
 have q:=om hd
 split at e
 ·rename_i xs
  split at e
  ·rename_i z
   rw[Gau] at z
   cases e
   obtain⟨a,h1,h2,h3,h4,h5,h6⟩:=E.ow i _ (.inl q)
   obtain⟨vs,hH,rp⟩:=oq h4 h6
   refine⟨_,h1,.inl ⟨rfl,vs,.inl (.inl hH)⟩,H₀,Bad,env,[r],E,by unfold a5 aq;rw[hr];rfl,λws H2 s2 Rs=> ?_⟩
   cases Rs with
   | @cons _ v _ _ R1 tl=>
    cases tl
    have hH2:=s2 _ _ hH
    refine⟨a,vs,v,rfl,rfl,hH2,by rw[←rp.1,←size_eq];exact GaD z.2, ?_⟩
    have E2:=E.mono s2
    have rep1:=R1.rep E z.1
    have rp2:b8 X.K (Cln Bad env σ) H2 (xs++[r.d]) (vs++[v]):=(rp.gen (.of_same s2) λ_ f _=>f).append (.cons rep1 .nil)
    obtain⟨E3,p3⟩:=E2.change (d' := .lst (xs++[r.d])) (o:= .lst (vs++[v])) q h1 trivial rfl (.lst (.inl aM) (rp2.gen (λb o hb w=>by
     have:b≠a:=by
      rintro rfl
      rcases w with w|w
      ·exact w.2 i (by rw[q];trivial) h1
      ·rw[hH2] at hb;cases hb;exact w
     rw[az this];exact hb) λ_ f _=>f))
    exact k σ _ E3 ((Stp.of_same s2).trans p3)
  ·cases e
 ·cases e
theorem Di{i:Nat}{x:Str}{px apos cpos:Pos}(hN:X.N[i]? =some x)(hv:Vis X.env.scope x)(he:PEd X e f)(hd:(x==("__debug__":Str))=false:=by decide)(hcd:(x==("__classdict__":Str))=false:=by decide)
  (hs1:starEach [e] X.env=[(false,eval e X.env)]:=by rfl)
  (hbase:attributeBase (.Name x px) "extend" X.env (eval (.Name x px) X.env)=eval (.Name x px) X.env:=by rfl)
  (hfew:((backTo cpos (starEach [e] X.env)).all (λx=> !x.1)&&(backToKw cpos (keywordEach [] X.env)).all (λx=>x.1.isSome)
   &&decide (([e]:List Expr).length+([]:List Keyword).length+(if([]:List Keyword).isEmpty then 0 else 1)<30))=true:=by rfl)
  (hline:(apos.endLine==cpos.line)=true:=by rfl)(hs:swapsWith (.Call (.Attribute (.Name x px) "extend" apos) [e] [] cpos) none pos.line X.env=pure false:=by rfl):
  PSd X (.Expr (.Call (.Attribute (.Name x px) "extend" apos) [e] [] cpos) pos) (Mj i f):=by
 refine(qO (BM Gcs PySem.F.slot_list_extend PySem.F.type_list_extend D1 (lF hN hv hd hcd) (a4 he aa hs1) hbase hfew hline hs1 rfl) hs).aU ?_
 rintro D σ H ⟨H₀,Bad,env,o,E,e,k⟩
 obtain⟨⟨kd,rd⟩,hr,e⟩:=bind_some e
 obtain⟨d,hd,e⟩:=bind_some e
 have q:=om hd
 split at e
 ·rename_i xs ys hrd
  have hrd' :rd= .lst ys:=hrd
  subst hrd'
  split at e
  ·rename_i z
   rw[Gau] at z
   cases e
   have hk:kd= .tn:=by have:=z.1;simpa using this
   subst hk
   obtain⟨a,h1,h2,h3,h4,h5,h6⟩:=E.ow i _ (.inl q)
   obtain⟨vs,hH,rp⟩:=oq h4 h6
   refine⟨_,h1,.inl ⟨rfl,vs,.inl (.inl hH)⟩,H₀,Bad,env,[⟨.tn,.lst ys⟩],E,by unfold a5 aq;rw[hr];rfl,λws H2 s2 Rs=> ?_⟩
   cases Rs with
   | @cons _ v _ _ R1 tl=>
    cases tl
    obtain⟨b,rfl,nb,wb,_,ib⟩:=R1
    obtain⟨us,hB,ru⟩:=oq wb ib
    have hH2:=s2 _ _ hH
    refine⟨a,b,vs,us,rfl,rfl,hH2,hB,by rw[←rp.1,←ru.1,←size_eq];exact GaD z.2, ?_⟩
    have E2:=E.mono s2
    have rp2:b8 X.K (Cln Bad env σ) H2 (xs++ys) (vs++us):=(rp.gen (.of_same s2) λ_ f _=>f).append (ru.gen (.of_same cg) λ_ f _=>f.1)
    obtain⟨E3,p3⟩:=E2.change (d' := .lst (xs++ys)) (o:= .lst (vs++us)) q h1 trivial rfl (.lst (.inl aM) (rp2.gen (λb o hb w=>by
     have:b≠a:=by
      rintro rfl
      rcases w with w|w
      ·exact w.2 i (by rw[q];trivial) h1
      ·rw[hH2] at hb;cases hb;exact w
     rw[az this];exact hb) λ_ f _=>f))
    exact k σ _ E3 ((Stp.of_same s2).trans p3)
  ·cases e
 ·cases e
noncomputable def OI(K:aE):List V→Hp→VK→Prop:=λxs H Q=>∃x T t b,xs=[x,.ty T]∧nL K H x (.type t)∧PySem.W.kitOne K (.type t) (.type T)=some b∧Q (.bl b) H
theorem F7:gY X (.builtin "isinstance") (OI X.K):=by
 intro pins s σ H xs us Q I r h
 obtain⟨x,T,t,bb,rfl,ty,hk,q⟩:=h
 obtain⟨u,w',rfl,r1,r2⟩:=vals2 r
 cases r2
 exact CY I r1 ty hk λtk=> ⟨.bl bb,H,I.tok _,rfl,q⟩
noncomputable def uh(K:aE)(T:String):Prop:=∀t∈["NoneType","bool","int","str","tuple","list","dict"],PySem.W.kitOne K (.type t) (.type T)=some (T==t||(t=="bool"&&T=="int"))
theorem HV{K:aE}{F:Addr→Prop}{H:Hp}{d:D}{x:V}(i:Inn K F H d x)(hs:lM d=false):∃t∈["NoneType","bool","int","str","tuple","list","dict"],nL K H x (.type t)∧∀S,k7 S d=(S==t||(t=="bool"&&S=="int")):=by
 have rdl:∀{a:Addr} {vs:List V},Rd H a (.lst vs)→nL K H (.ref a) (.type "list"):=λh=>by
  rcases h with h| ⟨o,h⟩
  ·exact .lst h
  ·exact .frz h
 cases i with
 |non=>exact⟨"NoneType",by simp,.non,λS=>by simp[k7]⟩
 |bl b=>exact⟨"bool",by simp,.bl b,λS=>by simp[k7]⟩
 |int i=>exact⟨"int",by simp,.int i,λS=>by simp[k7]⟩
 |str x=>exact⟨"str",by simp,.str x,λS=>by simp[k7]⟩
 |tup h r=>exact⟨"tuple",by simp,.tup h,λS=>by simp[k7]⟩
 |lst h r=>exact⟨"list",by simp,rdl h,λS=>by simp[k7]⟩
 |dK h r=>exact⟨"dict",by simp,.dK h,λS=>by simp[k7]⟩
 |dT h r=>exact⟨"dict",by simp,.dT h,λS=>by simp[k7]⟩
 |scr h=>cases hs
theorem rE{T:String}{x:Str}{p p2:Pos}(kit:uh X.K T)(he:PEd X e f)(hg:Gl X "isinstance")(hm:X.mg "isinstance"=none)(hg2:Gl X x)(hm2:X.mg x=none)(hv2:bootBuiltins x=some (.type T))(hn2:x≠"__name__":=by decide)(hd2:(x==("__debug__":Str))=false:=by decide)
  (hs1:starEach [e,.Name x p2] X.env=(false,eval e X.env)::starEach [.Name x p2] X.env:=by rfl)(hs2:starEach [.Name x p2] X.env=(false,eval (.Name x p2) X.env)::starEach [] X.env:=by rfl)(hpl:(backTo pos (starEach [.Name x p2] X.env)).any (·.1)=false:=by rfl):
  PEd X (.Call (.Name "isinstance" p) [e,.Name x p2] [] pos) (bE (D8 T f)):=by
 have ht:PE X (.Name x p2) (tC (.ty T)):=Hc hg2 hm2 hv2 rfl hn2 hd2
 refine(wk F7 hg hm (by decide+kernel) (uT he (uT ht AV hs2) hs1) (by decide) (by decide) hs1 hpl).aU ?_
 rintro σ H Q ⟨H₀,Bad,env,rv,E,e,k⟩
 obtain⟨bb,e',rfl⟩:=Gal.mp e
 clear e
 have e:=e'
 clear e'
 obtain⟨r,hr,e⟩:=bind_some e
 split at e
 ·cases e
 ·rename_i hs
  cases e
  refine⟨H₀,Bad,env,r,E,hr,λv H1 s1 R=> ?_⟩
  obtain⟨t,ht,ty,hb⟩:=HV R.inn (by simpa using hs)
  exact⟨v,T,t,_,rfl,ty,kit t ht,by rw[←hb T];exact k _ H1 s1 (.bl _)⟩
theorem au:∀env rs,aq env=some rs→rs.length=0:=λenv rs h=>by cases h;rfl
theorem a7{r:DA}{n:Nat}(h:∀env rs,r env=some rs→rs.length=n):∀env rs,a5 f r env=some rs→rs.length=n+1:=λenv rs e=>by
 obtain⟨x,_,e⟩:=bind_some e
 obtain⟨xs,hx,e⟩:=bind_some e
 cases e
 rw[GaB,h env xs hx]
theorem aI.start{K:aE}{H:Hp}{N:List Str}{ds:List D}{vs:List V}(hl:ds.length≤N.length)(r:b8 K (λ_=>True) H ds vs):aI K H (λ_=>False) (bz N.length ds) (start N vs) H:=by
 have nt:∀i:Nat,¬bB (bz N.length ds)[i]? :=λi h=>by
  unfold bz at h
  by_cases hi:i<ds.length
  ·rw[GaU (by simpa using hi),Gah] at h
   cases q:ds[i]? with
   |none=>rw[q] at h;exact h
   |some d=>rw[q] at h;exact h
  ·rw[GaJ (by simpa using hi),Gcr] at h
   split at h<;>exact h
 have no:∀{i:Nat} {s:Slot},(bz N.length ds)[i]? =some (some s)→bB (some (some s))→False:=λ{i s} e h=>nt i (by rw[e];exact h)
 refine⟨λ_ _ e=>e,by simp[bz,L2.start,r.1],λ_ h=>h.elim,λi d e=> ?_,λi d e=> ?_,λi d e=> ?_,λi j a t _ _ _=>(nt i t.top).elim⟩
 ·unfold bz at e
  by_cases hi:i<ds.length
  ·rw[GaU (by simpa using hi),Gah] at e
   cases q:ds[i]? with
   |none=>rw[q] at e;cases e
   |some d' =>
    rw[q] at e
    have e' :d' =d:=by simpa using e
    subst e'
    obtain⟨v,h1,h2⟩:=r.get q
    refine⟨v, ?_,h2.imp λb _=> ⟨λz=>z,λj t=>(nt j t).elim⟩⟩
    unfold L2.start
    rw[GaU (by rw[Gad,←r.1];exact hi),Gah,h1];rfl
  ·rw[GaJ (by simpa using hi),Gcr] at e
   split at e<;>cases e
 ·rcases e with e|e
  ·exact(no e trivial).elim
  ·exact(no e trivial).elim
 ·exact(no e trivial).elim
theorem cy{P:Program}{w:World}{K:aE}{mg:Str→Option Value}{base:Heap}{x qual:Str}{sd:Stmt}{fa:Addr}{fd:FuncData}{N ps:List Str}{k np:Nat}{body:DS}(F:Fun K x qual sd fa fd)(S:aW N ps (aJ sd))(hnp:ps.length=np)
  (hbody:∀(cdv:Value) (A:Around) (outer:List PySem.Env) (s:Shared) (H:Hp) (E:XK),jy k (A.deeper (envOfC qual (aJ sd) s.heap.objs.size fa cdv))→
   lE (AW CX0 P w K mg base N qual (aJ sd) fa cdv A outer s H E).nox (jC sd) body):cT P w K mg base CX0 (k+1) fa fd ps (spD K np (dQ N.length np body)):=by
 refine F.ok S (λvs H Q E h=> ?_) λcdv A outer s H vs Q E hr h=> ⟨_,hbody cdv A outer s H E hr, ?_⟩
 ·obtain⟨ds,d,h1,h2,_⟩:=h
  rw[←h2.1,h1,hnp]
 ·obtain⟨ds,d,h1,h2,h3,k⟩:=h
  unfold dQ at h3
  rw[Gag h1] at h3
  obtain⟨o,ho,h3⟩:=bind_some h3
  have hl:ds.length≤N.length:=by
   have:=congrArg List.length S.pre
   rw[GcH] at this
   omega
  refine⟨H,λ_=>False,bz N.length ds,o,aI.start hl h2,ho, ?_⟩
  cases o with
  |ret d' =>cases h3;exactλv H' s' R=>k v H' s' R
  |nx e=>cases h3;exactλσ' H' E' p' =>k .non H' E'.same ⟨λt=>(by cases t),.non⟩
  |bk e=>cases h3
  |ct e=>cases h3
theorem Kj{K:aE}{H:Hp}{a:Addr}{ns:List Int}{sp:List D→Option D}{E:XK}(hO:HB H)(hS:SqL K H a (ns.map V.int))(h:sp [.scr ns]=some (.bl true)):spD K 1 sp [.ref a] H (λv _=>v= .bl true) E:=by
 refine⟨[.scr ns],.bl true,rfl,b8.cons (.scr ?_) .nil,h,λv H' _ R=> ?_⟩
 ·rcases hS with(z|z)|z
  ·rcases hO a with q| ⟨o,xs,q⟩<;>rw[z] at q<;>cases q
  ·exact .inl z
  ·exact .inr z
 ·have i:=R.2
  cases i;rfl
end
open PySem PySem.Spec PyProof.Rows L2
theorem plain_all{n:Nat}{ds:List D}(h:ds.all (aA n)=true){i:Nat}{d:D}(e:ds[i]? =some d):aA n d=true:=Gas.mp h d (GaP e)
theorem wL:∀(n:Nat) (d:D),aA n d=true→eqD d d=true:=by
 intro n
 induction n with
 |zero=>intro d h;cases d<;>simp[aA] at h<;>simp[eqD]
 |succ n ih=>
  have all:∀ds:List D,ds.all (aA n)=true→lL ds ds=true:=by
   intro ds
   induction ds with
   |nil=>intro _;rfl
   |cons d ds ih2=>
    intro h
    rw[GbE,Gau] at h
    simp[lL,ih d h.1,ih2 h.2]
  intro d h
  cases d<;>simp only[aA] at h<;>first
   |(simp[eqD];done)
   |(simp only[eqD];exact all _ h)
   |cases h
theorem lQ:∀{ds es:List D},ds.length≠es.length→lL ds es=false
 |[],[],h=>absurd rfl h
 |[],_::_,_=>rfl
 |_::_,[],_=>rfl
 |d::ds,e::es,h=>by
  unfold lL
  rw[lQ (by simpa using h),Gds]
theorem je:∀{ds es:List D},ds.length=es.length→(List.range ds.length).all (λj=>eqD (ds.getD j .non) (es.getD j .non))=lL ds es
 |[],[],_=>rfl
 |[],_::_,h=>by simp at h
 |_::_,[],h=>by simp at h
 |d::ds,e::es,h=>by
  have ih:=je (ds:=ds) (es:=es) (by simpa using h)
  unfold lL
  rw[GaB,List.range_succ_eq_map,GbE,Gbz,←ih]
  rfl
section
variable{X:Cx}{pins:List (Addr×Obj)}{σ:St}{H:Hp}{s:Shared}
theorem C3{K:aE}{F G:Addr→Prop}:∀(n:Nat) {d d' :D} {v:V},aA n d=true→aA n d' =true→Rep K F H d v→Rep K G H d' v→d=d' :=by
 intro n
 induction n with
 |zero=>intro d d' v h1 h2 r1 r2;cases r1<;>simp[aA] at h1<;>cases r2<;>simp[aA] at h2<;>rfl
 |succ n ih=>
  have all:∀{ds es:List D} {vs:List V},ds.all (aA n)=true→es.all (aA n)=true→ds.length=vs.length→es.length=vs.length→(∀(i:Nat) d v,ds[i]? =some d→vs[i]? =some v→Rep K F H d v)→(∀(i:Nat) d v,es[i]? =some d→vs[i]? =some v→Rep K G H d v)→ds=es:=by
   intro ds es vs p1 p2 l1 l2 r1 r2
   apply GcV
   intro i
   by_cases hi:i<vs.length
   ·have e1:ds[i]? =some ds[i]:=by simp[l1,hi]
    have e2:es[i]? =some es[i]:=by simp[l2,hi]
    have e3:vs[i]? =some vs[i]:=by simp[hi]
    rw[e1,e2,ih (plain_all p1 e1) (plain_all p2 e2) (r1 i _ _ e1 e3) (r2 i _ _ e2 e3)]
   ·rw[Gbk (by omega),Gbk (by omega)]
  intro d d' v h1 h2 r1 r2
  cases r1 with
  |non=>cases r2;rfl
  |bl b=>cases r2;rfl
  |int i=>cases r2;rfl
  |str x=>cases r2;rfl
  |scr h=>simp[aA] at h1
  |dK f h l r=>simp[aA] at h1
  |dT f h l r=>simp[aA] at h1
  |tup h l r=>
   cases r2 with
   |tup h' l' r' =>
    rw[h] at h';cases h'
    rw[all (by simpa[aA] using h1) (by simpa[aA] using h2) l l' r r']
   |lst f h' l' r' =>rcases h' with h' | ⟨o,h'⟩<;>rw[h] at h' <;>cases h'
   |scr h' =>simp[aA] at h2
   |dK f h' l r=>simp[aA] at h2
   |dT f h' l r=>simp[aA] at h2
  |lst f h l r=>
   cases r2 with
   |tup h' l' r' =>rcases h with h| ⟨o,h⟩<;>rw[h] at h' <;>cases h'
   |lst f' h' l' r' =>
    have:∀{xs ys:List V} {a:Addr},Rd H a (.lst xs)→Rd H a (.lst ys)→xs=ys:=λz1 z2=>by
     rcases z1 with z1| ⟨o,z1⟩<;>rcases z2 with z2| ⟨o',z2⟩<;>rw[z1] at z2<;>cases z2<;>rfl
    cases this h h'
    rw[all (by simpa[aA] using h1) (by simpa[aA] using h2) l l' r r']
   |scr h' =>simp[aA] at h2
   |dK f h' l r=>simp[aA] at h2
   |dT f h' l r=>simp[aA] at h2
theorem item_at{ds:List D}{vs:List V}{its:List Value}{K:aE}{F:Addr→Prop}(l:ds.length=vs.length)(r:∀(i:Nat) d v,ds[i]? =some d→vs[i]? =some v→Rep K F H d v)(rv:Vals vs its){j:Nat}(h:j<its.toArray.size):
  ∃d v,ds[j]? =some d∧ds.getD j .non=d∧Rep K F H d v∧RelV v its.toArray[j]:=by
 have hj:j<its.length:=by simpa using h
 have hv:j<vs.length:=by rw[rv.length];exact hj
 have hd:j<ds.length:=by rw[l];exact hv
 obtain⟨u,e1,e2⟩:=rv.get (i:=j) (x:=vs[j]) (by simp[hv])
 refine⟨ds[j],vs[j],by simp[hd],by simp[hd],r j _ _ (by simp[hd]) (by simp[hv]), ?_⟩
 have:its.toArray[j]=u:=by
  have:=e1
  simp[hj] at this
  simpa using this
 rw[this];exact e2
theorem in1_units{A:Around}{n:Nat}(h:A.units+(n+1)<cLine):A.in1.units+n<cLine:=by
 show A.units+1+n<_
 omega
theorem wM(I:Inv X pins σ H s){F G:Addr→Prop}:∀(n:Nat) {dx dy:D} {x y:V} {v u:Value} {A:Around},aA n dx=true→aA n dy=true→Rep X.K F H dx x→Rep X.K G H dy y→RelV x v→RelV y u→A.units+n<cLine→SeqAt.EqAt A s v u (eqD dx dy):=by
 have flat:∀{dx dy:D} {x y:V} {v u:Value} {A:Around},Rep X.K F H dx x→Rep X.K G H dy y→RelV x v→RelV y u→tY x=true→tY y=true→SeqAt.EqAt A s v u (eqD dx dy):=by
  intro dx dy x y v u A r1 r2 rv ru fx fy
  have e:eqD dx dy=eqV x y:=by
   cases r1<;>cases r2<;>first|rfl|(simp[tY] at fx)|(simp[tY] at fy)
  rw[e]
  exact K3 rv ru fx fy
 intro n
 induction n with
 |zero=>
  intro dx dy x y v u A p1 p2 r1 r2 rv ru hu
  refine flat r1 r2 rv ru ?_ ?_
  ·cases r1<;>first|rfl|(simp[aA] at p1)
  ·cases r2<;>first|rfl|(simp[aA] at p2)
 |succ n ih=>
  intro dx dy x y v u A p1 p2 r1 r2 rv ru hu
  have hu0:A.units<cLine:=by omega
  cases r1 with
  |scr h=>simp[aA] at p1
  |dK f h l r=>simp[aA] at p1
  |dT f h l r=>simp[aA] at p1
  | @tup a vs1 ds1 h l r=>
   cases rv
   obtain⟨its,rvs,ht,_⟩:=I.tuple (SqT.of h)
   cases r2 with
   |scr h' =>simp[aA] at p2
   |dK f h' l r=>simp[aA] at p2
   |dT f h' l r=>simp[aA] at p2
   |non=>cases ru;exact SeqAt.EqAt.tuple_none ht hu0
   |bl b=>cases ru;exact SeqAt.EqAt.tuple_bool b ht hu0
   |int i=>obtain⟨t,rfl⟩:=ru;exact SeqAt.EqAt.tuple_int i t ht hu0
   |str z=>obtain⟨t,rfl⟩:=ru;exact SeqAt.EqAt.tuple_str z t ht hu0
   |lst f' h' l' r' =>
    cases ru
    obtain⟨its2,rvs2,pl,_⟩:=I.list (.inl h')
    exact SeqAt.EqAt.tuple_list ht pl.isList hu0
   | @tup b vs2 ds2 h' l' r' =>
    cases ru
    by_cases hab:a=b
    ·subst hab
     have:=C3 (n+1) p1 p2 (Rep.tup h l r) (Rep.tup h' l' r')
     rw[←this,wL _ _ p1]
     exact SeqAt.EqAt.same _
    ·obtain⟨its2,rvs2,ht2,_⟩:=I.tuple (SqT.of h')
     have hs1:its.toArray.size=ds1.length:=by rw[Gan,←rvs.length,l]
     have hs2:its2.toArray.size=ds2.length:=by rw[Gan,←rvs2.length,l']
     have key:=SeqAt.RcAt.tuples (e:=λj=>eqD (ds1.getD j .non) (ds2.getD j .non)) ht ht2 hu0 λj h1 h2=>by
      obtain⟨d1,v1,q1,q2,q3,q4⟩:=item_at l r rvs h1
      obtain⟨d2,v2,w1,w2,w3,w4⟩:=item_at l' r' rvs2 h2
      rw[q2,w2]
      exact ih (plain_all (by simpa[aA] using p1) q1) (plain_all (by simpa[aA] using p2) w1) q3 w3 q4 w4 (in1_units hu)
     refine SeqAt.EqAt.of_refs hab ?_
     show SeqAt.RcAt A s (.ref a) (.ref b) (lL ds1 ds2)
     rw[hs1,hs2] at key
     by_cases hl:ds1.length=ds2.length
     ·rw[←hl,GdC,je hl] at key
      simpa using key
     ·rw[lQ hl]
      have:(ds1.length==ds2.length)=false:=by simpa using hl
      rw[this,Gds] at key
      exact key
  | @lst a vs1 ds1 f h l r=>
   cases rv
   obtain⟨its,rvs,pl,_⟩:=I.list (.inl h)
   have ht:=pl.isList
   cases r2 with
   |scr h' =>simp[aA] at p2
   |dK f h' l r=>simp[aA] at p2
   |dT f h' l r=>simp[aA] at p2
   |non=>cases ru;exact SeqAt.EqAt.list_none ht hu0
   |bl b=>cases ru;exact SeqAt.EqAt.list_bool b ht hu0
   |int i=>obtain⟨t,rfl⟩:=ru;exact SeqAt.EqAt.list_int i t ht hu0
   |str z=>obtain⟨t,rfl⟩:=ru;exact SeqAt.EqAt.list_str z t ht hu0
   |tup h' l' r' =>
    cases ru
    obtain⟨its2,rvs2,ht2,_⟩:=I.tuple (SqT.of h')
    exact SeqAt.EqAt.list_tuple ht ht2 hu0
   | @lst b vs2 ds2 f' h' l' r' =>
    cases ru
    by_cases hab:a=b
    ·subst hab
     have:=C3 (n+1) p1 p2 (Rep.lst f h l r) (Rep.lst f' h' l' r')
     rw[←this,wL _ _ p1]
     exact SeqAt.EqAt.same _
    ·obtain⟨its2,rvs2,pl2,_⟩:=I.list (.inl h')
     have ht2:=pl2.isList
     have hs1:its.toArray.size=ds1.length:=by rw[Gan,←rvs.length,l]
     have hs2:its2.toArray.size=ds2.length:=by rw[Gan,←rvs2.length,l']
     refine SeqAt.EqAt.of_refs hab ?_
     show SeqAt.RcAt A s (.ref a) (.ref b) (lL ds1 ds2)
     by_cases hl:ds1.length=ds2.length
     ·have key:=SeqAt.RcAt.lists (e:=λj=>eqD (ds1.getD j .non) (ds2.getD j .non)) ht ht2 (by rw[hs1,hs2,hl]) hu0 λj h1 h2=>by
       obtain⟨d1,v1,q1,q2,q3,q4⟩:=item_at l r rvs h1
       obtain⟨d2,v2,w1,w2,w3,w4⟩:=item_at l' r' rvs2 h2
       rw[q2,w2]
       exact ih (plain_all (by simpa[aA] using p1) q1) (plain_all (by simpa[aA] using p2) w1) q3 w3 q4 w4 (in1_units hu)
      rw[hs1,je hl] at key
      exact key
     ·rw[lQ hl]
      exact SeqAt.RcAt.lists_lengths ht ht2 (by rw[hs1,hs2];simpa using hl) hu0
  |non=>
   cases rv
   cases r2 with
   |scr h' =>simp[aA] at p2
   |dK f h' l r=>simp[aA] at p2
   |dT f h' l r=>simp[aA] at p2
   |tup h' l' r' =>cases ru;obtain⟨its2,rvs2,ht2,_⟩:=I.tuple (SqT.of h');exact SeqAt.EqAt.none_tuple ht2 hu0
   |lst f' h' l' r' =>cases ru;obtain⟨its2,rvs2,pl2,_⟩:=I.list (.inl h');exact SeqAt.EqAt.none_list pl2.isList hu0
   |_=>exact flat .non (by first|exact .non|exact .bl _|exact .int _|exact .str _) rfl ru rfl rfl
  |bl b=>
   cases r2 with
   |scr h' =>simp[aA] at p2
   |dK f h' l r=>simp[aA] at p2
   |dT f h' l r=>simp[aA] at p2
   |tup h' l' r' =>cases rv;cases ru;obtain⟨its2,rvs2,ht2,_⟩:=I.tuple (SqT.of h');exact SeqAt.EqAt.bool_tuple b ht2 hu0
   |lst f' h' l' r' =>cases rv;cases ru;obtain⟨its2,rvs2,pl2,_⟩:=I.list (.inl h');exact SeqAt.EqAt.bool_list b pl2.isList hu0
   |_=>exact flat (.bl b) (by first|exact .non|exact .bl _|exact .int _|exact .str _) rv ru rfl rfl
  |int i=>
   cases r2 with
   |scr h' =>simp[aA] at p2
   |dK f h' l r=>simp[aA] at p2
   |dT f h' l r=>simp[aA] at p2
   |tup h' l' r' =>obtain⟨t,rfl⟩:=rv;cases ru;obtain⟨its2,rvs2,ht2,_⟩:=I.tuple (SqT.of h');exact SeqAt.EqAt.int_tuple i t ht2 hu0
   |lst f' h' l' r' =>obtain⟨t,rfl⟩:=rv;cases ru;obtain⟨its2,rvs2,pl2,_⟩:=I.list (.inl h');exact SeqAt.EqAt.int_list i t pl2.isList hu0
   |_=>exact flat (.int i) (by first|exact .non|exact .bl _|exact .int _|exact .str _) rv ru rfl rfl
  |str z=>
   cases r2 with
   |scr h' =>simp[aA] at p2
   |dK f h' l r=>simp[aA] at p2
   |dT f h' l r=>simp[aA] at p2
   |tup h' l' r' =>obtain⟨t,rfl⟩:=rv;cases ru;obtain⟨its2,rvs2,ht2,_⟩:=I.tuple (SqT.of h');exact SeqAt.EqAt.str_tuple z t ht2 hu0
   |lst f' h' l' r' =>obtain⟨t,rfl⟩:=rv;cases ru;obtain⟨its2,rvs2,pl2,_⟩:=I.list (.inl h');exact SeqAt.EqAt.str_list z t pl2.isList hu0
   |_=>exact flat (.str z) (by first|exact .non|exact .bl _|exact .int _|exact .str _) rv ru rfl rfl
theorem wN(I:Inv X pins σ H s){F G:Addr→Prop}{n:Nat}{dx dy:D}{x y:V}{v u:Value}{A:Around}(p1:aA n dx=true)(p2:aA n dy=true)(r1:Rep X.K F H dx x)(r2:Rep X.K G H dy y)(rv:RelV x v)(ru:RelV y u)(hu:A.units+n<cLine):
  SeqAt.RcAt A s v u (eqD dx dy)∧SeqAt.RcNeAt A s v u (!eqD dx dy):=by
 have hu0:A.units<cLine:=by omega
 have tupAt:∀{a:Addr} {vs:List V},H a=some (.tup vs)→∃its:List Value,s.heap.IsTuple a its.toArray:=λh=>let⟨its,_,ht,_⟩:=I.tuple (SqT.of h);⟨its,ht⟩
 have lstAt:∀{a:Addr} {vs:List V},Rd H a (.lst vs)→∃its:List Value,s.heap.IsList a its.toArray:=λh=>let⟨its,_,pl,_⟩:=I.list (.inl h);⟨its,pl.isList⟩
 cases r1 with
 |scr h=>cases n<;>simp[aA] at p1
 |dK f h l r=>cases n<;>simp[aA] at p1
 |dT f h l r=>cases n<;>simp[aA] at p1
 |non=>
  cases rv
  cases r2 with
  |scr h' =>cases n<;>simp[aA] at p2
  |dK f h' l r=>cases n<;>simp[aA] at p2
  |dT f h' l r=>cases n<;>simp[aA] at p2
  |non=>cases ru;exact⟨.none_none,.none_none⟩
  |bl b=>cases ru;exact⟨.none_bool b,.none_bool b⟩
  |int i=>obtain⟨t,rfl⟩:=ru;exact⟨.none_int i t,.none_int i t⟩
  |str z=>obtain⟨t,rfl⟩:=ru;exact⟨.none_str z t,.none_str z t⟩
  |tup h' l' r' =>cases ru;obtain⟨its,ht⟩:=tupAt h';exact⟨.none_tuple ht hu0,.none_tuple ht hu0⟩
  |lst f' h' l' r' =>cases ru;obtain⟨its,ht⟩:=lstAt h';exact⟨.none_list ht hu0,.none_list ht hu0⟩
 |bl b=>
  cases rv
  cases r2 with
  |scr h' =>cases n<;>simp[aA] at p2
  |dK f h' l r=>cases n<;>simp[aA] at p2
  |dT f h' l r=>cases n<;>simp[aA] at p2
  |non=>cases ru;exact⟨.bool_none b,.bool_none b⟩
  |bl b' =>cases ru;exact⟨.bool_bool b b',.bool_bool b b'⟩
  |int i=>obtain⟨t,rfl⟩:=ru;exact⟨.bool_int b i t,.bool_int b i t⟩
  |str z=>obtain⟨t,rfl⟩:=ru;exact⟨.bool_str b z t,.bool_str b z t⟩
  |tup h' l' r' =>cases ru;obtain⟨its,ht⟩:=tupAt h';exact⟨.bool_tuple b ht hu0,.bool_tuple b ht hu0⟩
  |lst f' h' l' r' =>cases ru;obtain⟨its,ht⟩:=lstAt h';exact⟨.bool_list b ht hu0,.bool_list b ht hu0⟩
 |int i=>
  obtain⟨t,rfl⟩:=rv
  cases r2 with
  |scr h' =>cases n<;>simp[aA] at p2
  |dK f h' l r=>cases n<;>simp[aA] at p2
  |dT f h' l r=>cases n<;>simp[aA] at p2
  |non=>cases ru;exact⟨.int_none i t,.int_none i t⟩
  |bl b' =>cases ru;exact⟨.int_bool i t b',.int_bool i t b'⟩
  |int j=>obtain⟨t',rfl⟩:=ru;exact⟨.int_int i t j t',.int_int i t j t'⟩
  |str z=>obtain⟨t',rfl⟩:=ru;exact⟨.int_str i t z t',.int_str i t z t'⟩
  |tup h' l' r' =>cases ru;obtain⟨its,ht⟩:=tupAt h';exact⟨.int_tuple i t ht hu0,.int_tuple i t ht hu0⟩
  |lst f' h' l' r' =>cases ru;obtain⟨its,ht⟩:=lstAt h';exact⟨.int_list i t ht hu0,.int_list i t ht hu0⟩
 |str z=>
  obtain⟨t,rfl⟩:=rv
  cases r2 with
  |scr h' =>cases n<;>simp[aA] at p2
  |dK f h' l r=>cases n<;>simp[aA] at p2
  |dT f h' l r=>cases n<;>simp[aA] at p2
  |non=>cases ru;exact⟨.str_none z t,.str_none z t⟩
  |bl b' =>cases ru;exact⟨.str_bool z t b',.str_bool z t b'⟩
  |int j=>obtain⟨t',rfl⟩:=ru;exact⟨.str_int z t j t',.str_int z t j t'⟩
  |str z' =>obtain⟨t',rfl⟩:=ru;exact⟨.str_str z t z' t',.str_str z t z' t'⟩
  |tup h' l' r' =>cases ru;obtain⟨its,ht⟩:=tupAt h';exact⟨.str_tuple z t ht hu0,.str_tuple z t ht hu0⟩
  |lst f' h' l' r' =>cases ru;obtain⟨its,ht⟩:=lstAt h';exact⟨.str_list z t ht hu0,.str_list z t ht hu0⟩
 | @tup a vs1 ds1 h l r=>
  cases n with
  |zero=>simp[aA] at p1
  |succ n=>
   cases rv
   obtain⟨its,rvs,ht,_⟩:=I.tuple (SqT.of h)
   cases r2 with
   |scr h' =>simp[aA] at p2
   |dK f h' l r=>simp[aA] at p2
   |dT f h' l r=>simp[aA] at p2
   |non=>cases ru;exact⟨.tuple_none ht hu0,.tuple_none ht hu0⟩
   |bl b=>cases ru;exact⟨.tuple_bool b ht hu0,.tuple_bool b ht hu0⟩
   |int i=>obtain⟨t,rfl⟩:=ru;exact⟨.tuple_int i t ht hu0,.tuple_int i t ht hu0⟩
   |str z=>obtain⟨t,rfl⟩:=ru;exact⟨.tuple_str z t ht hu0,.tuple_str z t ht hu0⟩
   |lst f' h' l' r' =>cases ru;obtain⟨its2,ht2⟩:=lstAt h';exact⟨.tuple_list ht ht2 hu0,.tuple_list ht ht2 hu0⟩
   | @tup b vs2 ds2 h' l' r' =>
    cases ru
    obtain⟨its2,rvs2,ht2,_⟩:=I.tuple (SqT.of h')
    have hs1:its.toArray.size=ds1.length:=by rw[Gan,←rvs.length,l]
    have hs2:its2.toArray.size=ds2.length:=by rw[Gan,←rvs2.length,l']
    have items:∀j (h1:j<its.toArray.size) (h2:j<its2.toArray.size),SeqAt.EqAt A.in1 s its.toArray[j] its2.toArray[j] ((λj=>eqD (ds1.getD j .non) (ds2.getD j .non)) j):=λj h1 h2=>by
     obtain⟨d1,v1,q1,q2,q3,q4⟩:=item_at l r rvs h1
     obtain⟨d2,v2,w1,w2,w3,w4⟩:=item_at l' r' rvs2 h2
     dsimp only
     rw[q2,w2]
     exact wM I n (plain_all (by simpa[aA] using p1) q1) (plain_all (by simpa[aA] using p2) w1) q3 w3 q4 w4 (in1_units hu)
    have k1:=SeqAt.RcAt.tuples ht ht2 hu0 items
    have k2:=SeqAt.RcNeAt.tuples ht ht2 hu0 items
    have e:((List.range (min its.toArray.size its2.toArray.size)).all (λj=>eqD (ds1.getD j .non) (ds2.getD j .non))&&its.toArray.size==its2.toArray.size)=lL ds1 ds2:=by
     rw[hs1,hs2]
     by_cases hl:ds1.length=ds2.length
     ·rw[←hl,GdC,je hl];simp
     ·rw[lQ hl]
      have:(ds1.length==ds2.length)=false:=by simpa using hl
      rw[this,Gds]
    rw[e] at k1 k2
    exact⟨k1,k2⟩
 | @lst a vs1 ds1 f h l r=>
  cases n with
  |zero=>simp[aA] at p1
  |succ n=>
   cases rv
   obtain⟨its,rvs,pl,_⟩:=I.list (.inl h)
   have ht:=pl.isList
   cases r2 with
   |scr h' =>simp[aA] at p2
   |dK f h' l r=>simp[aA] at p2
   |dT f h' l r=>simp[aA] at p2
   |non=>cases ru;exact⟨.list_none ht hu0,.list_none ht hu0⟩
   |bl b=>cases ru;exact⟨.list_bool b ht hu0,.list_bool b ht hu0⟩
   |int i=>obtain⟨t,rfl⟩:=ru;exact⟨.list_int i t ht hu0,.list_int i t ht hu0⟩
   |str z=>obtain⟨t,rfl⟩:=ru;exact⟨.list_str z t ht hu0,.list_str z t ht hu0⟩
   |tup h' l' r' =>cases ru;obtain⟨its2,ht2⟩:=tupAt h';exact⟨.list_tuple ht ht2 hu0,.list_tuple ht ht2 hu0⟩
   | @lst b vs2 ds2 f' h' l' r' =>
    cases ru
    obtain⟨its2,rvs2,pl2,_⟩:=I.list (.inl h')
    have ht2:=pl2.isList
    have hs1:its.toArray.size=ds1.length:=by rw[Gan,←rvs.length,l]
    have hs2:its2.toArray.size=ds2.length:=by rw[Gan,←rvs2.length,l']
    have items:∀j (h1:j<its.toArray.size) (h2:j<its2.toArray.size),SeqAt.EqAt A.in1 s its.toArray[j] its2.toArray[j] ((λj=>eqD (ds1.getD j .non) (ds2.getD j .non)) j):=λj h1 h2=>by
     obtain⟨d1,v1,q1,q2,q3,q4⟩:=item_at l r rvs h1
     obtain⟨d2,v2,w1,w2,w3,w4⟩:=item_at l' r' rvs2 h2
     dsimp only
     rw[q2,w2]
     exact wM I n (plain_all (by simpa[aA] using p1) q1) (plain_all (by simpa[aA] using p2) w1) q3 w3 q4 w4 (in1_units hu)
    show SeqAt.RcAt A s (.ref a) (.ref b) (lL ds1 ds2)∧SeqAt.RcNeAt A s (.ref a) (.ref b) (!lL ds1 ds2)
    by_cases hl:ds1.length=ds2.length
    ·have k1:=SeqAt.RcAt.lists ht ht2 (by rw[hs1,hs2,hl]) hu0 items
     have k2:=SeqAt.RcNeAt.lists ht ht2 (by rw[hs1,hs2,hl]) hu0 items
     rw[hs1,je hl] at k1 k2
     exact⟨k1,k2⟩
    ·rw[lQ hl]
     exact⟨SeqAt.RcAt.lists_lengths ht ht2 (by rw[hs1,hs2];simpa using hl) hu0,SeqAt.RcNeAt.lists_lengths ht ht2 (by rw[hs1,hs2];simpa using hl) hu0⟩
end
section
variable{X:Cx}
noncomputable def HW(K:aE)(neg:Bool):R2:=λx y H Q=>∃F dx dy,Inn K F H dx x∧Inn K F H dy y∧dx.plain=true∧dy.plain=true∧Q (.bl (if neg then !eqD dx dy else eqD dx dy)) H
theorem bO(hu:X.A.units+20<cLine):OpR X (compareOp .Eq) (HW X.K false):=by
 intro pins s σ H x y v u Q I rx ry h
 obtain⟨F,dx,dy,i1,i2,p1,p2,q⟩:=h
 exact(wN I (n:=20) p1 p2 i1.any i2.any rx ry hu).1 X.prog X.w _ _ ⟨.bl (eqD dx dy),H,I,rfl,q⟩
theorem F8(hu:X.A.units+20<cLine):OpR X (compareOp .NotEq) (HW X.K true):=by
 intro pins s σ H x y v u Q I rx ry h
 obtain⟨F,dx,dy,i1,i2,p1,p2,q⟩:=h
 exact(wN I (n:=20) p1 p2 i1.any i2.any rx ry hu).2 X.prog X.w _ _ ⟨.bl (!eqD dx dy),H,I,rfl,q⟩
theorem bP:OpB X eqB (HW X.K false):=by
 intro F H dx dy x y b Q ix iy e q
 unfold eqB at e
 split at e
 ·rename_i z
  rw[Gau] at z
  cases e
  exact⟨F,dx,dy,ix,iy,z.1,z.2,q⟩
 ·cases e
theorem F9:OpB X neB (HW X.K true):=by
 intro F H dx dy x y b Q ix iy e q
 unfold neB at e
 split at e
 ·rename_i z
  rw[Gau] at z
  cases e
  exact⟨F,dx,dy,ix,iy,z.1,z.2,q⟩
 ·cases e
theorem bQ{A:Around}{k:Nat}(hr:jy k A):A.units+20<cLine:=GcO (Nat.add_le_add_left (by decide:20≤64) _) hr.units
theorem gh:bootBuiltins "len"=some (.builtin "len"):=by decide+kernel
theorem Fb:bootBuiltins "min"=some (.builtin "min"):=by decide+kernel
theorem Fc:bootBuiltins "max"=some (.builtin "max"):=by decide+kernel
theorem Kk:bootBuiltins "any"=some (.builtin "any"):=by decide+kernel
theorem j5:bootBuiltins "sorted"=some (.builtin "sorted"):=by decide+kernel
theorem Km:bootBuiltins "int"=some (.type "int"):=by decide+kernel
theorem HX:bootBuiltins "bool"=some (.type "bool"):=by decide+kernel
theorem Kn:bootBuiltins "str"=some (.type "str"):=by decide+kernel
theorem i5:bootBuiltins "tuple"=some (.type "tuple"):=by decide+kernel
theorem C4:bootBuiltins "list"=some (.type "list"):=by decide+kernel
theorem ve:bootBuiltins "enumerate"=some (.type "enumerate"):=by decide+kernel
theorem HY{K:aE}:uh K "int":=by
 intro t ht
 simp only[Gaw,GbV,Gdt] at ht
 rcases ht with rfl|rfl|rfl|rfl|rfl|rfl|rfl<;>rfl
theorem HZ{K:aE}:uh K "str":=by
 intro t ht
 simp only[Gaw,GbV,Gdt] at ht
 rcases ht with rfl|rfl|rfl|rfl|rfl|rfl|rfl<;>rfl
theorem kit_tuple{K:aE}:uh K "tuple":=by
 intro t ht
 simp only[Gaw,GbV,Gdt] at ht
 rcases ht with rfl|rfl|rfl|rfl|rfl|rfl|rfl<;>rfl
theorem Fd{K:aE}:uh K "list":=by
 intro t ht
 simp only[Gaw,GbV,Gdt] at ht
 rcases ht with rfl|rfl|rfl|rfl|rfl|rfl|rfl<;>rfl
theorem Fe{K:aE}:uh K "bool":=by
 intro t ht
 simp only[Gaw,GbV,Gdt] at ht
 rcases ht with rfl|rfl|rfl|rfl|rfl|rfl|rfl<;>rfl
end
open PySem PySem.Spec PyProof.Rows L2
section
variable{X:Cx}{sts:List Stmt}{f:DS}
theorem a8(i:Nat)(x:Str)(k:(∀pos,PEd X (.Name x pos) (vE i))→lE X sts f)(hN:X.N[i]? =some x:=by rfl)(hv:Vis X.env.scope x:=by first|exact Or.inl rfl|exact Or.inr (Or.inl rfl)|exact Or.inr (Or.inr rfl))(hd:(x==("__debug__":Str))=false:=by decide)
  (hcd:(x==("__classdict__":Str))=false:=by decide):lE X sts f:=k λ_=>dw i hN hv hd hcd
theorem af(i:Nat)(x:Str)(k:Loc X.env.scope x→lE X sts f)(hx:Loc X.env.scope x:=by first|exact Or.inl rfl|exact Or.inr rfl):lE X sts f:=k hx
theorem f7(i:Nat)(x:Str)(k:Vis X.env.scope x→lE X sts f)(hv:Vis X.env.scope x:=by first|exact Or.inl rfl|exact Or.inr (Or.inl rfl)|exact Or.inr (Or.inr rfl)):lE X sts f:=k hv
theorem aC(x:Str)(k:Gl X x→lE X sts f)(hg:Gl X x:=by rfl):lE X sts f:=k hg
end
open PySem PySem.Spec PyProof.Rows L2
theorem nR{env:PySem.Env}:∀(names:List (Str×NameKind)),(∀y∈names,y.2= .free→∃c,env.cells.lookup y.1=some c)→∀(cs:List (Str×Addr)),(∀n c,cs.lookup n=some c→env.cells.lookup n=some c)→
  ∃cl:List (Str×Addr),(forIn names cs λx r=>(do
    if(x.2==NameKind.free)=true then pure (ForInStep.yield ((x.1,←cellOf env x.1)::r)) else pure (ForInStep.yield r):Sem (ForInStep (List (Str×Addr)))))=pure cl∧
   (∀n c,cl.lookup n=some c→env.cells.lookup n=some c)∧(∀y∈names,y.2= .free→∃c,cl.lookup y.1=some c)∧∀n c,cs.lookup n=some c→∃c',cl.lookup n=some c'
 |[],_,cs,h=>by
  refine⟨cs,rfl,h, ?_,λn c e=> ⟨c,e⟩⟩
  intro y hy;cases hy
 |(x,k)::names,hf,cs,h=>by
  by_cases hk:k= .free
  ·subst hk
   obtain⟨c,hc⟩:=hf (x,.free) Gam rfl
   have hcell:cellOf env x=pure c:=by unfold cellOf;rw[hc]<;>rfl
   obtain⟨cl,h1,h2,h3,h4⟩:=nR names (λy hy=>hf y (Gai _ hy)) ((x,c)::cs) (λn c' e=>by
    by_cases z:n=x
    ·subst z;simp[Gbc] at e;subst e;exact hc
    ·have z' :(n==x)=false:=by simpa using z
     simp[Gbc,z'] at e;exact h n c' e)
   refine⟨cl, ?_,h2,λy hy hyf=> ?_,λn c' e=> ?_⟩
   ·rw[List.forIn_cons]
    simp only[hcell]
    exact h1
   ·rcases Gaw.mp hy with rfl|hy
    ·exact h4 x c (by simp[Gbc])
    ·exact h3 y hy hyf
   ·by_cases z:n=x
    ·subst z;exact h4 n c (by simp[Gbc])
    ·have z' :(n==x)=false:=by simpa using z
     exact h4 n c' (by simp[Gbc,z',e])
  ·have hk' :(k==NameKind.free)=false:=by simpa using hk
   obtain⟨cl,h1,h2,h3,h4⟩:=nR names (λy hy=>hf y (Gai _ hy)) cs h
   refine⟨cl, ?_,h2,λy hy hyf=> ?_,h4⟩
   ·rw[List.forIn_cons]
    simp only[hk']
    exact h1
   ·rcases Gaw.mp hy with rfl|hy
    ·exact absurd hyf hk
    ·exact h3 y hy hyf
theorem n5{env:PySem.Env}{scope:Scope}(hf:∀y∈scope.names,y.2= .free→∃c,env.cells.lookup y.1=some c):
  ∃cl:List (Str×Addr),closureFor scope env=pure cl∧(∀n c,cl.lookup n=some c→env.cells.lookup n=some c)∧∀y∈scope.names,y.2= .free→∃c,cl.lookup y.1=some c:=by
 obtain⟨cl,h1,h2,h3,_⟩:=nR scope.names hf [] (λn c e=>by simp at e)
 refine⟨cl, ?_,h2,h3⟩
 unfold closureFor
 exact(congrArg (λm=>m>>=pure) h1).trans (by rfl)
theorem mem_of_lookup{x:Str}{k:NameKind}:∀{l:List (Str×NameKind)},l.lookup x=some k→(x,k)∈l
 |[],h=>by simp at h
 |(n,k')::r,h=>by
  rw[Gbc] at h
  cases hx:x==n with
  |true=>rw[hx] at h;cases h;rw[GcI] at hx;subst hx;exact Gam
  |false=>rw[hx] at h;exact Gai _ (mem_of_lookup h)
theorem nT{env:PySem.Env}{x:Str}:∀{names:List (Str×NameKind)},(∀y∈names,y.2≠ .cell)→((names.map λ(n,k)=>if(k==NameKind.free&&env.scope.kind== .function&&env.kindOf n==some .cell) then(n,NameKind.cell) else(n,k)).lookup x=some .cell∨
   (names.map λ(n,k)=>if(k==NameKind.free&&env.scope.kind== .function&&env.kindOf n==some .cell) then(n,NameKind.cell) else(n,k)).lookup x=some .free)→(x,NameKind.free)∈names
 |[],_,h=>by simp at h
 |(n,k)::r,hc,h=>by
  have hk:k≠ .cell:=hc (n,k) Gam
  rw[Gar] at h
  dsimp only at h
  split at h
  ·rename_i q
   have q1:k= .free:=by
    rw[Gau,Gau] at q
    simpa using q.1.1
   subst q1
   rw[Gbc] at h
   cases hx:x==n with
   |true=>rw[GcI] at hx;subst hx;exact Gam
   |false=>rw[hx] at h;exact Gai _ (nT (λy hy=>hc y (Gai _ hy)) h)
  ·rw[Gbc] at h
   cases hx:x==n with
   |true=>
    rw[hx] at h
    rw[GcI] at hx;subst hx
    rcases h with h|h
    ·cases h;exact absurd rfl hk
    ·cases h;exact Gam
   |false=>rw[hx] at h;exact Gai _ (nT (λy hy=>hc y (Gai _ hy)) h)
theorem iL{env:PySem.Env}{x:Str}:∀{names:List (Str×NameKind)},names.lookup x=some .free→((names.map λ(n,k)=>if(k==NameKind.free&&env.scope.kind== .function&&env.kindOf n==some .cell) then(n,NameKind.cell) else(n,k)).lookup x=some .cell∨
   (names.map λ(n,k)=>if(k==NameKind.free&&env.scope.kind== .function&&env.kindOf n==some .cell) then(n,NameKind.cell) else(n,k)).lookup x=some .free)
 |[],h=>by simp at h
 |(n,k)::r,h=>by
  rw[Gbc] at h
  rw[Gar]
  dsimp only
  cases hx:x==n with
  |true=>
   rw[hx] at h;cases h
   split
   ·left;rw[Gbc,hx]
   ·right;rw[Gbc,hx]
  |false=>
   rw[hx] at h
   split
   ·rw[Gbc,hx];exact iL h
   ·rw[Gbc,hx];exact iL h
noncomputable def blk(X:Cx)(scope:Scope)(cl:List (Str×Addr))(C:Addr)(N:List Str)(s:Shared)(H:Hp)(ex:List Addr):Cx:=
 {X with N:=N,s₀:=s,H₀:=H,env:=compEnvC scope cl C X.env,outer:=X.stack,ex:=ex,fn:=λ_=>false,pn:=[],xe:=λ_ _=>False}
noncomputable def MW:Option NameKind→Bool
 |some .cell=>true
 |some .free=>true
 |_=>false
structure kH(X:Cx)(scope:Scope)(N:List Str)(n:Nat)(aO:List Nat):Prop where
 cell:(scope.names.all λy=>y.2 != .cell)=true
 kind:scope.kind= .function
 names:(scope.names.all λy=>y.2 != .local||scope.names.lookup y.1==some .local)=true
 free:(scope.names.all λy=>y.2 != .free||MW (X.env.kindOf y.1))=true
 cap:N.drop n=aO.map λi=>(X.N[i]?).getD ("":Str)
 le:n≤N.length
 lt:(aO.all λi=>decide (i<X.N.length))=true
 fr:((N.drop n).all λx=>scope.names.lookup x==some .free)=true
noncomputable def qT(X:Cx)(ifs:List Expr)(tt:TT):Prop:=∀(pins:List (Addr×Obj)) (s:Shared) (σ:St) (H:Hp) (Q:Bool→Hp→Prop),Inv X pins σ H s→tt σ H Q→
 wpAny (model X.prog X.w) X.A (forIn ifs true λc r=>if r=true then do let ok←isTrue c X.env (eval c X.env);pure (ForInStep.yield ok) else pure (ForInStep.yield r)) (TP X pins σ Q) X.xe s
theorem j6{X:Cx}:qT X [] (tT X jc):=λpins s σ H Q I ⟨_,_,_,_,_,e,k⟩=>by
 cases e
 exact wpAny_tests_nil ⟨H,I,k H cg⟩
theorem ui{X:Cx}{c:Expr}{t:DT}(h:PTd X c t):qT X [c] (tT X t):=λpins s σ H Q I q=>wpAny_tests_one (h pins s σ H Q I q)
theorem qU{aO:List Nat}{n j:Nat}{α:Type}{f:Nat→Option α}{y:α}(h:(List.replicate n (none:Option α)++aO.map f)[j]? =some (some y)):∃i,aO[j -n]? =some i∧n≤j∧f i=some y:=by
 by_cases hj:j<n
 ·rw[GaU (by simpa using hj),Gcr] at h
  rw[Gag hj] at h;cases h
 ·rw[GaJ (by simp;omega),Gdg,Gah] at h
  cases q:aO[j -n]? with
  |none=>rw[q] at h;cases h
  |some i=>rw[q] at h;simp only[Gcc,Gch] at h;exact⟨i,rfl,by omega,h⟩
theorem Ff{aO:List Nat}{n j i:Nat}{α:Type}{f:Nat→Option α}(h1:aO[j -n]? =some i)(h2:n≤j):(List.replicate n (none:Option α)++aO.map f)[j]? =some (f i):=by
 rw[GaJ (by simp;omega),Gdg,Gah,h1];rfl
noncomputable def lR(n:Nat)(aO:List Nat)(σ:St):St:=List.replicate n none++aO.map λi=>σ[i]?.getD none
noncomputable def n6(Bad:Addr→Prop)(env:Env)(σ:St)(p:Addr):Addr→Prop:=λa=>a=p∨¬Cln Bad env σ a
theorem getD_some{α:Type}{o:Option (Option α)}{y:α}(h:o.getD none=some y):o=some (some y):=by
 cases o with
 |none=>cases h
 |some z=>simp only[Option.getD_some] at h;rw[h]
theorem wO{aO:List Nat}{n j:Nat}{env:Env}{sl:Slot}(e:(compEnv n aO env)[j]? =some (some sl)):∃i,aO[j -n]? =some i∧n≤j∧fY (env[i]?.getD none)=some sl:=qU e
theorem C5{aO:List Nat}{n j:Nat}{env:Env}{σ:St}{a:Addr}(t:bB (compEnv n aO env)[j]?)(e:(lR n aO σ)[j]? =some (some (.ref a))):∃i:Nat,bB env[i]? ∧σ[i]? =some (some (.ref a)):=by
 cases q:(compEnv n aO env)[j]? with
 |none=>rw[q] at t;exact t.elim
 |some z=>
  cases z with
  |none=>rw[q] at t;exact t.elim
  |some sl=>
   obtain⟨i,e1,e2,e3⟩:=wO q
   obtain⟨i',e1',_,e3'⟩:=qU e
   rw[e1] at e1';cases e1'
   refine⟨i, ?_,getD_some e3'⟩
   rw[q] at t
   cases r:env[i]? with
   |none=>rw[r] at e3;cases e3
   |some z=>cases z with
    |none=>rw[r] at e3;cases e3
    |some z=>
     rw[r] at e3
     cases z with
     |sh d=>cases e3;exact t.elim
     |own d=>trivial
     |lok d=>trivial
     |bor d=>trivial
theorem Ia{aO:List Nat}{n j:Nat}{env:Env}:¬isO (compEnv n aO env)[j]? :=λt=>by
 match q:(compEnv n aO env)[j]?,t with
 |some (some (.own d)),_=>
  obtain⟨i,_,_,e3⟩:=wO q
  cases q:env[i]?.getD none with
  |none=>rw[q] at e3;cases e3
  |some z=>rw[q] at e3;cases z<;>cases e3
theorem aI.block{K:aE}{H₀:Hp}{Bad:Addr→Prop}{env:Env}{σ:St}{H:Hp}(E:aI K H₀ Bad env σ H)(n:Nat)(aO:List Nat){p:Addr}(hp:H p=none):
  aI K H (n6 Bad env σ p) (compEnv n aO env) (lR n aO σ) (upd H p (.lst [])):=by
 have sm:cC H (upd H p (.lst [])):=bG hp
 have slot:∀(j:Nat) (sl:Slot),(compEnv n aO env)[j]? =some (some sl)→∃i,aO[j -n]? =some i∧n≤j∧fY (env[i]?.getD none)=some sl:=λj sl e=>qU e
 have noO:∀(j:Nat) d,(compEnv n aO env)[j]? ≠some (some (.own d))∧(compEnv n aO env)[j]? ≠some (some (.lok d)):=λj d=>by
  constructor<;>
  ·intro e
   obtain⟨i,_,_,e3⟩:=slot j _ e
   cases q:env[i]?.getD none with
   |none=>rw[q] at e3;cases e3
   |some z=>rw[q] at e3;cases z<;>cases e3
 have topAd:∀(j:Nat) a,bB (compEnv n aO env)[j]? →(lR n aO σ)[j]? =some (some (.ref a))→∃i:Nat,bB env[i]? ∧σ[i]? =some (some (.ref a)):=λj a t e=>C5 t e
 have cln:∀b,Cln Bad env σ b→H b≠none→Cln (n6 Bad env σ p) (compEnv n aO env) (lR n aO σ) b:=λb h hb=>by
  refine⟨λz=> ?_,λj t e=> ?_⟩
  ·rcases z with z|z
   ·subst z;exact hb hp
   ·exact z h
  ·obtain⟨i,t',e'⟩:=topAd j b t e
   exact h.2 i t' e'
 refine⟨sm, ?_, ?_, ?_, ?_, ?_, ?_⟩
 ·simp[compEnv,lR]
 ·intro a ha
  rcases ha with ha|ha
  ·subst ha;rw[aM];simp
  ·intro z
   refine ha ⟨λb=>E.bad a b (sm.free z),λi t e=>E.og t e (sm.free z)⟩
 ·intro j d e
  obtain⟨i,e1,e2,e3⟩:=slot j _ e
  have q:env[i]? =some (some (.sh d)):=by
   cases r:env[i]? with
   |none=>rw[r] at e3;cases e3
   |some z=>cases z with
    |none=>rw[r] at e3;cases e3
    |some z=>rw[r] at e3;cases z<;>cases e3;rfl
  obtain⟨v,h1,h2⟩:=E.sh i d q
  refine⟨v, ?_,h2.gen (.of_same sm) cln⟩
  unfold lR
  rw[Ff e1 e2,h1];rfl
 ·intro j d e
  rcases e with e|e
  ·exact absurd e (noO j d).1
  ·exact absurd e (noO j d).2
 ·intro j d e
  obtain⟨i,e1,e2,e3⟩:=slot j _ e
  have q:bB env[i]? ∧(env[i]? =some (some (.own d))∨env[i]? =some (some (.lok d))∨env[i]? =some (some (.bor d))):=by
   cases r:env[i]? with
   |none=>rw[r] at e3;cases e3
   |some z=>cases z with
    |none=>rw[r] at e3;cases e3
    |some z=>
     rw[r] at e3
     cases z with
     |sh d=>cases e3
     |own d=>cases e3;exact⟨trivial,.inl rfl⟩
     |lok d=>cases e3;exact⟨trivial,.inr (.inl rfl)⟩
     |bor d=>cases e3;exact⟨trivial,.inr (.inr rfl)⟩
  have fact:∃a,σ[i]? =some (some (.ref a))∧Wr H a∧d.top=true∧Inn K (Cln Bad env σ) H d (.ref a):=by
   rcases q.2 with q|q|q
   ·obtain⟨a,h1,_,_,h4,h5,h6⟩:=E.ow i d (.inl q);exact⟨a,h1,h4,h5,h6⟩
   ·obtain⟨a,h1,_,_,h4,h5,h6⟩:=E.ow i d (.inr q);exact⟨a,h1,h4,h5,h6⟩
   ·exact E.bo i d q
  obtain⟨a,h1,h4,h5,h6⟩:=fact
  refine⟨a, ?_,h4.same sm,h5,h6.gen (.of_same sm) cln λ_ _ _ o e=>sm _ o e⟩
  unfold lR
  rw[Ff e1 e2,h1];rfl
 ·intro j k a t
  exfalso
  cases q:(compEnv n aO env)[j]? with
  |none=>rw[q] at t;exact t
  |some z=>cases z with
   |none=>rw[q] at t;exact t
   |some z=>cases z with
    |sh d=>rw[q] at t;exact t
    |own d=>exact(noO j d).1 q
    |lok d=>exact(noO j d).2 q
    |bor d=>rw[q] at t;exact t
theorem aI.grow{K:aE}{H₀:Hp}{Bad:Addr→Prop}{env:Env}{σ:St}{H:Hp}{p:Addr}{vs us:List V}(E:aI K H₀ Bad env σ H)(hb:Bad p)(h0:H₀ p=none)(hp:H p=some (.lst vs))(hl:∀i:Nat,va env[i]? →σ[i]? ≠some (some (.ref p))):aI K H₀ Bad env σ (upd H p (.lst us)):=by
 have fu:jA (Cln Bad env σ) H (upd H p (.lst us)):=λb o e q=>by
  refine(az ?_).trans e
  rintro rfl
  rcases q with q|q
  ·exact q.1 hb
  ·rw[hp] at e;cases e;exact q
 have wr:∀{a},Wr H a→Wr (upd H p (.lst us)) a:=λ{a} ⟨o,h1,h2⟩=>by
  by_cases z:a=p
  ·subst z;exact⟨_,aM,trivial⟩
  ·exact⟨o,(az z).trans h1,h2⟩
 refine⟨λb o e=>(az λz=>by subst z;rw[h0] at e;cases e).trans (E.same b o e),E.len,λa ha=> ?_,λi d e=> ?_,λi d e=> ?_,λi d e=> ?_,E.dj⟩
 ·by_cases z:a=p
  ·subst z;rw[aM];simp
  ·rw[az z];exact E.bad a ha
 ·obtain⟨v,h1,h2⟩:=E.sh i d e
  exact⟨v,h1,h2.gen fu λ_ f _=>f⟩
 ·obtain⟨a,h1,h2,h3,h4,h5,h6⟩:=E.ow i d e
  refine⟨a,h1,h2,h3,wr h4,h5,h6.gen fu (λ_ f _=>f) λb eb _ o q=> ?_⟩
  cases eb
  exact(az (λz:a=p=>h3 (by rw[z];exact hb))).trans q
 ·obtain⟨a,h1,h4,h5,h6⟩:=E.bo i d e
  refine⟨a,h1,wr h4,h5,h6.gen fu (λ_ f _=>f) λb eb _ o q=> ?_⟩
  cases eb
  exact(az (λz:a=p=>hl i (by rw[e];trivial) (by rw[←z];exact h1))).trans q
open PySem PySem.Spec PyProof.Rows L2
theorem ex7{a b c d e f g:Type}{P:a→b→c→d→e→f→g→Prop}{G:Prop}(h:∀x1 x2 x3 x4 x5 x6 x7,P x1 x2 x3 x4 x5 x6 x7→G):(∃x1 x2 x3 x4 x5 x6 x7,P x1 x2 x3 x4 x5 x6 x7)→G:=λ⟨x1,x2,x3,x4,x5,x6,x7,q⟩=>h x1 x2 x3 x4 x5 x6 x7 q
structure CoI(X:Cx)(scope:Scope)(cl:List (Str×Addr))(C:Addr)(N:List Str)(s:Shared)(H:Hp)(fp:List Addr)(tn:Nat→Heap→Prop)(Bad:Addr→Prop)(env:Env)(σ:St)(p:Addr)(gd:DG)(t:DT)(f:DE)(ds rs:List D)(m:Nat)(s' :Shared)(i:Nat)(σi:St)(Hi:Hp)(envi:Env)(vs:List V)(done rest:List D):Prop where
 em:m=ds.length -i
 hi:i≤ds.length
 Ii:Inv (blk X scope cl C N s H fp) [] σi Hi s'
 sti:tn i s'.heap
 fri:∀b∈fp,Hi b=none
 Ei:aI X.K H (n6 Bad env σ p) envi σi Hi
 hpi:Hi p=some (.lst vs)
 ri:b8 X.K (λb=>Cln Bad env σ b∧b≠p) Hi done vs
 owi:∀j:Nat,¬isO envi[j]?
 lbi:∀(j:Nat) a,va envi[j]? →σi[j]? =some (some (.ref a))→¬Cln Bad env σ a
 dl:done.length≤i
 ci:cE gd t f (ds.drop i) envi=some rest
 eqi:done++rest=rs
section
variable{X:Cx}{pos:Pos}
theorem jf{env:PySem.Env}{scope:Scope}{x:Str}(h:scope.names.lookup x=some .local):(relabel scope env).names.lookup x=some .local:=lookup_relabel_local h
theorem bK{scope:Scope}{cl:List (Str×Addr)}{C:Addr}{N:List Str}{s:Shared}{H:Hp}{ex:List Addr}{x:Str}(h:scope.names.lookup x=some .local):Vis (blk X scope cl C N s H ex).env.scope x:= .inl (jf h)
theorem cY{scope:Scope}{cl:List (Str×Addr)}{C:Addr}{N:List Str}{s:Shared}{H:Hp}{ex:List Addr}{x:Str}(h:scope.names.lookup x=some .local):Loc (blk X scope cl C N s H ex).env.scope x:= .inl (jf h)
theorem wQ{scope:Scope}{cl:List (Str×Addr)}{C:Addr}{N:List Str}{s:Shared}{H:Hp}{ex:List Addr}{x:Str}(h:scope.names.lookup x=some .free):Vis (blk X scope cl C N s H ex).env.scope x:= .inr (iL h)
theorem Dj{scope:Scope}{cl:List (Str×Addr)}{N:List Str}{n:Nat}{aO:List Nat}{pins:List (Addr×Obj)}{σ:St}{H:Hp}{s:Shared}{fp:List Addr}{h₁:Heap}{tk:Nat}{C:Addr}(S:kH X scope N n aO)(I:Inv X pins σ H s)
  (hcl:∀x c,cl.lookup x=some c→X.env.cells.lookup x=some c)(hfr:∀y∈scope.names,y.2= .free→∃c,cl.lookup y.1=some c)(hf:∀b∈fp,nK X pins H b)(hfo:∀b∈fp,b<s.heap.objs.size)
  (hC:s.heap.objs.size+1=C)(hns:h₁.Ns C λ_=>none)(old:∀b o,s.heap.get? b=some o→h₁.get? b=some o)(hacc:h₁.get? s.heap.objs.size=some {cls:= .type "list",data:= .seq ([]:List Value).toArray}):
  Inv (blk X scope cl C N s H fp) [] (lR n aO σ) (upd H s.heap.objs.size (.lst [])) {s with heap:=h₁,toks:=tk}:=by
 have hpn:=I.fresh
 have hCn:H C=none:=I.hok.fresh (by omega)
 have hne:C≠s.heap.objs.size:=λz=>by rw[z] at hC;exact Nat.succ_ne_self _ hC
 have hcell:∀y∈scope.names,y.2≠ .cell:=λy hy z=>by
  have:=Gas.mp S.cell y hy
  rw[z] at this;simp at this
 have cells:∀x c,cl.lookup x=some c→∃v,s.heap.IsCell c v:=λx c e=>I.cell x c (hcl x c e)
 have cNe:∀x c,cl.lookup x=some c→c≠s.heap.objs.size:=λx c e z=>by
  obtain⟨v,q⟩:=cells x c e
  exact absurd q.lt (by rw[z];exact Gbj _)
 refine⟨⟨I.ok.mod,S.kind,I.ok.glob,I.ok.blt,by show s.heap.objs.size≤C;omega,λx y c e1 e2=>I.ok.inj x y c (hcl x c e1) (hcl y c e2),λx hx=> ?_,λx c e=>(by cases e),I.ok.hd,I.ok.frames,.inl rfl,λb hb=> ⟨?_,λx c e=>(hf b hb).2.2.2.2.1 x c (hcl x c e)⟩,
  I.bs,Gbw I.ok.bsz I.sz,λb o e hb=> ?_,λb hb hs=> ?_,I.stack,I.BG⟩,rfl,I.bare,Un.laid old (Gaq _) hpn,⟨_,hns,λj x v e1 e2 e3=> ?_⟩,λx c e=> ?_,(az hne).trans hCn,λx c e=>(az (cNe x c e)).trans (I.lC x c (hcl x c e)),λp hp=> ?_, ?_, ?_⟩
 ·obtain⟨c,hc⟩:=hfr (x,.free) (nT hcell hx) rfl
  exact⟨c,hc⟩
 ·intro z
  have:=hfo b hb
  have z' :b=C:=z
  rw[z',←hC] at this
  exact Gbj _ (Nat.lt_of_succ_lt this)
 ·rcases(hf b hb).2.2.2.1 with z|z
  ·exact I.ok.GY b o e z
  ·exact absurd (GaQ (Gat e) (Gbw I.ok.bsz z)) (Gbj _)
 ·have hs' :b∈frs X.stack:=hs
  rcases Gaw.mp (I.AO b hs') with z|z
  ·exact(hf b hb).2.1 z
  ·exact(hf b hb).2.2.1 z
 ·
  obtain⟨i,f1,f2,f3⟩:=qU e2
  have f3' :=getD_some f3
  have e1' :N[j]? =some x:=e1
  have hd:(N.drop n)[j -n]? =some x:=by rw[Gbf];rw[show n+(j -n)=j by omega];exact e1'
  have hxf:scope.names.lookup x=some .free:=by
   have:=Gas.mp S.fr x (GaP hd)
   simpa using this
  rw[S.cap,Gah,f1] at hd
  have hi:i<X.N.length:=GaD (Gas.mp S.lt i (GaP f1))
  have hXN:X.N[i]? =some x:=by
   simp only[Gcc,Gch] at hd
   rw[Gaa hi] at hd⊢
   simpa using hd
  have hk:MW (X.env.kindOf x)=true:=by
   have:=Gas.mp S.free (x,.free) (mem_of_lookup hxf)
   simpa using this
  have hk' :X.env.kindOf x=some .cell∨X.env.kindOf x=some .free:=by
   cases q:X.env.kindOf x with
   |none=>rw[q] at hk;cases hk
   |some z=>rw[q] at hk;cases z<;>first|(cases hk;done)|exact .inl rfl|exact .inr rfl
  obtain⟨m,hm,look⟩:=I.loc
  have hv:Vis X.env.scope x:= .inr hk'
  obtain⟨u,ru,l⟩:=look i x v hXN f3' hv
  refine⟨u,ru,.inr ⟨?_, ?_⟩⟩
  ·exact iL hxf
  ·rcases l with⟨l,_⟩| ⟨_,c,hc,o,ho,hdt⟩
   ·rcases hk' with z|z<;>rw[l] at z<;>cases z
   ·obtain⟨c',hc'⟩:=hfr (x,.free) (mem_of_lookup hxf) rfl
    have:=hcl x c' hc'
    rw[hc] at this;cases this
    exact⟨c,hc',o,old _ _ ho,hdt⟩
 ·obtain⟨v,o,ho,hdt⟩:=cells x c e
  exact⟨v,o,old _ _ ho,hdt⟩
 ·cases hp
 ·exact I.hok.laid old (Gaq _) ⟨GbD _,[],0,.nil,hacc⟩
 ·show(lR n aO σ).length=N.length
  have:=congrArg List.length S.cap
  rw[GbU,Gad] at this
  have:=S.le
  simp[lR]
  omega
theorem Ib{scope:Scope}{cl:List (Str×Addr)}{N:List Str}{C:Addr}{pins pins' :List (Addr×Obj)}{σ σ' :St}{H H' :Hp}{s s' :Shared}{fp:List Addr}(I:Inv X pins σ H s)(hf:∀b∈fp,nK X pins H b)
  (I' :Inv (blk X scope cl C N s H fp) pins' σ' H' s'):Inv X pins σ H' s' :=
 I.Jc I'.os I'.base I'.hok I'.bare λb hb=> ⟨(hf b hb).2.2.2.1,(hf b hb).2.1,(hf b hb).2.2.2.2.1,(hf b hb).2.2.2.2.2⟩
noncomputable def MX(K:aE)(H H' :Hp)(F:Addr→Prop)(p:Addr)(rs:List D):Prop:=cC H H' ∧H p=none∧∃vs,H' p=some (.lst vs)∧b8 K (λb=>F b∧b≠p) H' rs vs
noncomputable def uj(gd:DG):Prop:=∀d e e',gd d e=some e' →(∀j:Nat,¬isO e[j]?)→∀j:Nat,¬isO e'[j]?
theorem C6{e:Env}{i:Nat}{d:D}(h:∀j:Nat,¬isO e[j]?):∀j:Nat,¬isO (e.set i (some (.sh d)))[j]? :=λj z=>by
 by_cases q:i=j
 ·subst q
  by_cases hl:i<e.length
  ·rw[GaT hl] at z;exact z
  ·rw[Gbk (by simp;omega)] at z;exact z
 ·rw[Gab q] at z;exact h j z
theorem lT{i:Nat}:uj (gN i):=λd e e' h n=>by cases h;exact C6 n
theorem uk:∀(is:List Nat) (ds:List D) (e e' :Env),gNs is ds e=some e' →(∀j:Nat,¬isO e[j]?)→∀j:Nat,¬isO e'[j]?
 |[],[],e,e',h,n=>by cases h;exact n
 |i::is,d::ds,e,e',h,n=>uk is ds _ e' h (C6 n)
 |[],_::_,_,_,h,_=>by cases h
 |_::_,[],_,_,h,_=>by cases h
theorem rF{is:List Nat}:uj (gT is):=λd e e' h n=>by
 unfold gT at h
 split at h
 ·exact uk is _ e e' h n
 ·cases h
theorem um{scope:Scope}{cl:List (Str×Addr)}{N:List Str}{n:Nat}{aO:List Nat}{pins:List (Addr×Obj)}{σ:St}{H H₀:Hp}{s:Shared}{fp:List Addr}{it:Addr}{tn:Nat→Heap→Prop}{J:It}{tg iter elt:Expr}{ifs:List Expr}{E:Value→Shared→Prop}
  {gd:DG}{t:DT}{f:DE}{ds rs:List D}{Bad:Addr→Prop}{env:Env}{RR:Value→Addr→Result→Shared→Prop}(hc:X.calm=true)(S:kH X scope N n aO)(I:Inv X pins σ H s)
  (hcl:∀x c,cl.lookup x=some c→X.env.cells.lookup x=some c)(hfr:∀y∈scope.names,y.2= .free→∃c,cl.lookup y.1=some c)(hf:∀b∈fp,nK X pins H b)(T:Turn X.prog X.w X.K tg J fp it tn)(st:tn 0 s.heap)
  (hg:∀C s' H',PGd (blk X scope cl C N s' H' fp) tg gd)(ht:∀C s' H',qT (blk X scope cl C N s' H' fp) ifs (tT X t))(he:∀C s' H',PEd (blk X scope cl C N s' H' fp) elt f)
  (EE:aI X.K H₀ Bad env σ H)(io:Dg X.K (λb=>Cln Bad env σ b∧H b≠none) (λb=>¬Ow env σ b) J ds H)(hgo:uj gd)(hz:ds.length≤ai)(hl:cE gd t f ds (compEnv n aO env)=some rs)
  (hRR:∀p C s' H' m,Inv X pins σ H' s' →s'.heap.Ns C m→s.heap.objs.size≤C→nK X pins H' C→MX X.K H H' (Cln Bad env σ) p rs→RR (.ref p) C (.ok .next) s'):
  wpAny (model X.prog X.w) X.A (newList []) (λacc s₃=>wpAny (model X.prog X.w) X.A (newFunctionEnv scope X.env.globals cl [] X.env.qual none .none (some X.env)) (λcenv s₄=>
   codeAny (model X.prog X.w) X.A (.compStart (.ListComp elt [⟨tg,iter,ifs,0⟩] scope pos) 0 (.ref it) acc {cenv with scope:=relabel scope X.env}) (RR acc cenv.locals) s₄) E s₃) E s:=by
 have hcell:∀y∈scope.names,y.2≠ .cell:=λy hy z=>by
  have:=Gas.mp S.cell y hy
  rw[z] at this;simp at this
 refine GaX (wpAny_newFunctionEnv hcell (by intro y hy;simp at hy) (λh₁ hns₁ hsb₁=> ?_) S.kind)
 dsimp only at hns₁ hsb₁⊢
 generalize hH2:s.heap.push {cls:= .type "list",dict:=none,data:= .seq ([]:List Value).toArray}=H2 at hns₁ hsb₁⊢
 have hC:s.heap.objs.size+1=H2.objs.size:=by rw[←hH2,GcQ]
 have hDC:s.heap.objs.size≠H2.objs.size:=by rw[←hC];exact GaK (Nat.lt_succ_self _)
 have hCle:s.heap.objs.size≤H2.objs.size:=by rw[←hC];exact GcZ _
 have old:∀b o,s.heap.get? b=some o→h₁.get? b=some o:=λb o e=>hsb₁.extBut b o (by rw[←hC];exact GaK (GcW (Gat e))) (Gaf _ (hH2▸Gaf _ e))
 have hacc:h₁.get? s.heap.objs.size=some {cls:= .type "list",data:= .seq ([]:List Value).toArray}:=hsb₁.extBut _ _ hDC (Gaf _ (hH2▸GaA _ rfl))
 have hfo:∀b∈fp,b<s.heap.objs.size:=λb hb=>by obtain⟨o,e,_⟩:=T.obj 0 _ st b hb;exact Gat e
 have st₁:tn 0 h₁:=T.keep 0 _ _ st λb _ o e=>old b o e
 have hpn:=I.fresh
 generalize hC' :H2.objs.size=C at*
 have I1:Inv (blk X scope cl C N s H fp) [] (lR n aO σ) (upd H s.heap.objs.size (.lst [])) {s with heap:=h₁,toks:=s.toks+([]:List (Str×Value)).length}:=Dj S I hcl hfr hf hfo hC (by
  have z:(λx:Str=>([]:List (Str×Value)).reverse.lookup x)=λ_=>none:=by funext x;rfl
  rw[z] at hns₁;exact hns₁) old hacc
 have E1:=EE.block n aO hpn
 generalize hp:s.heap.objs.size=p at*
 have loop:codeAny (model X.prog X.w) X.A (.compLoop (.ListComp elt [⟨tg,iter,ifs,0⟩] scope pos) 0 (.ref it) (.ref p) (compEnvC scope cl C X.env)) (RR (.ref p) C) {s with heap:=h₁,toks:=s.toks+([]:List (Str×Value)).length}:=by
  refine codeAny_loop rfl (λm s' =>∃i σi Hi envi vs done rest,CoI X scope cl C N s H fp tn Bad env σ p gd t f ds rs m s' i σi Hi envi vs done rest) ?_ ds.length ?_
  ·refineλm s' =>ex7 λi σi Hi envi vs done rest J0=> ?_
   have e0:=J0.em
   subst e0
   have hi:=J0.hi
   have Ii:=J0.Ii
   have sti:=J0.sti
   have fri:=J0.fri
   have Ei:=J0.Ei
   have hpi:=J0.hpi
   have ri:=J0.ri
   have owi:=J0.owi
   have lbi:=J0.lbi
   have dl:=J0.dl
   have ci:=J0.ci
   have eqi:=J0.eqi
   have hfi:∀{H' :Hp},(∀b∈fp,H' b=none)→∀b∈fp,nK (blk X scope cl C N s H fp) [] H' b:=λhn b hb=>by
    refine⟨hn b hb,(Ii.ok.exf b hb).1,Ii.ok.GZ b hb,.inl hb,(Ii.ok.exf b hb).2,λq hq=>(by cases hq)⟩
   have keepAll:∀b o,H b=some o→Hi b=some o:=Ei.same
   obtain⟨items,stop⟩:=io Hi λb o hb _=>keepAll b o hb
   show wpAny _ X.A ((compTurn (.ListComp elt [⟨tg,iter,ifs,0⟩] scope pos) 0 (.ref it) (.ref p) (compEnvC scope cl C X.env)).onRaise (λx=>do noteFrame x (compEnvC scope cl C X.env);theTreesLotGoes x)) _ _ s'
   refine wpAny_noted ?_
   rw[compTurn_list]
   refine Gac (wpAny_standAt (Gac ?_))
   by_cases hlt:i<ds.length
   ·obtain⟨go,yld⟩:=items i ds[i] (by simp[hlt])
    refine thn (T.item (blk X scope cl C N s H fp) rfl rfl rfl hc i [] s' σi Hi _ Ii (hfi fri) sti go) λr s4 ⟨u,hr,h4⟩=> ?_
    subst hr
    refine Gac (thn h4 λ_ s5 ⟨x,H5,I5,r5,y5,st5,fr5⟩=> ?_)
    obtain⟨s2,rep⟩:=yld x H5 y5
    have I5' :=I5.pinned (hfi fr5) (T.obj _ _ st5)
    have hd:ds.drop i=ds[i]::ds.drop (i+1):=Gbu hlt
    rw[hd] at ci
    unfold cE at ci
    obtain⟨e2,hg2,ci⟩:=bind_some ci
    obtain⟨bb,ht2,ci⟩:=bind_some ci
    have clnIn:∀b,Cln Bad env σ b∧H b≠none→Cln (n6 Bad env σ p) envi σi b:=λb ⟨q1,q2⟩=>by
     refine⟨λz=>z.elim (λz=>q2 (by rw[z];exact hpn)) λz=>z q1,λj tj ej=> ?_⟩
     rcases u5 tj with o|o
     ·exact owi j o
     ·exact lbi j b o ej q1
    refine Gac (thn (GbX (hg C s H _ s5 σi H5 x u (λσ6 H6=>aI X.K H (n6 Bad env σ p) e2 σ6 H6∧Stp envi σi H5 e2 σ6 H6) I5' r5 ⟨H,n6 Bad env σ p,envi,ds[i],e2,Ei.mono s2,hg2,rep.imp clnIn,λσ' H' E' p' => ⟨E',p'⟩⟩) (λ_ _ q=>q) λ_ _ q=>q.elim) λ_ s6 ⟨σ6,H6,I6,E6,p6⟩=> ?_)
    have noO6:=hgo _ _ _ hg2 owi
    have s56:cC H5 H6:=λb o e=>p6.keep b o e λ⟨j,z,_⟩=>owi j z
    have lb6:∀(j:Nat) a,va e2[j]? →σ6[j]? =some (some (.ref a))→¬Cln Bad env σ a:=λj a z ej=>by
     obtain⟨q1,q2⟩:=p6.lk j z
     rw[q1] at z;rw[q2] at ej
     exact lbi j a z ej
    have again:∀{H7:Hp} {s7:Shared} {vs' :List V} {done' rest' :List D},Inv (blk X scope cl C N s H fp) ([]++r6 fp s5.heap) σ6 H7 s7→aI X.K H (n6 Bad env σ p) e2 σ6 H7→H7 p=some (.lst vs')→b8 X.K (λb=>Cln Bad env σ b∧b≠p) H7 done' vs' →
      done'.length≤i+1→cE gd t f (ds.drop (i+1)) e2=some rest' →done' ++rest' =rs→
      ∃m,m<ds.length -i∧∃i σi Hi envi vs done rest,CoI X scope cl C N s H fp tn Bad env σ p gd t f ds rs m s7 i σi Hi envi vs done rest:=by
     intro H7 s7 vs' done' rest' I7 E7 hp7 r7 dl7 c7 q7
     refine⟨ds.length -(i+1),by omega,i+1,σ6,H7,e2,vs',done',rest',⟨rfl,hlt,I7.o4,T.keep _ _ _ st5 λb hb o e=>(I7.pin (b,o) (Gba _ (Gba _ (kB hb e)))).1,λb hb=> ?_,E7,hp7,r7,noO6,lb6,dl7,c7,q7⟩⟩
     obtain⟨o,e,d⟩:=T.obj _ _ st5 b hb
     exact(I7.pin (b,o) (Gba _ (Gba _ (kB hb e)))).2.1
    refine Gac (thn (GbX (ht C s H _ s6 σ6 H6 (λb' H7=>b' =bb∧cC H6 H7) I6 ⟨H,n6 Bad env σ p,e2,bb,E6,ht2,λH' s' => ⟨rfl,s'⟩⟩) (λ_ _ q=>q) λ_ _ q=>q.elim) λok s7 ⟨H7,I7,hok,s67⟩=> ?_)
    subst hok
    have sAll:cC Hi H7:=s2.trans (s56.trans s67)
    have E7:=E6.mono s67
    have hp7:H7 p=some (.lst vs):=sAll _ _ hpi
    have r7:=ri.gen (F' :=λb=>Cln Bad env σ b∧b≠p) (.of_same sAll) λ_ q _=>q
    cases ok with
    |false=>
     rw[Gaj Gaz] at ci
     exact Gao ⟨rfl,again I7 E7 hp7 r7 (Nat.le_succ_of_le dl) ci eqi⟩
    |true=>
     rw[Gag rfl] at ci
     obtain⟨r,hr,ci⟩:=bind_some ci
     split at ci
     ·rename_i hfree
      obtain⟨rest',c8,rfl⟩:=Gal.mp ci
      refine Gac (Gac (thn (GbX (he C s H _ s7 σ6 H7 (λv H8=>cC H7 H8∧jX X.K H (n6 Bad env σ p) e2 σ6 H7 H8 r v) I7 ⟨H,n6 Bad env σ p,e2,r,E7,hr,λv H' s' R=> ⟨s',R⟩⟩) (λ_ _ q=>q) λ_ _ q=>q.elim) λy s8 ⟨v,H8,I8,ry,s78,R⟩=> ?_))
      have E8:=E7.mono s78
      have hp8:H8 p=some (.lst vs):=s78 _ _ hp7
      have r8:=(r7.gen (F' :=λb=>Cln Bad env σ b∧b≠p) (.of_same s78) λ_ q _=>q)
      have vr:Rep X.K (λb=>Cln Bad env σ b∧b≠p) H8 r.d v:=(R.rep E7 hfree).imp λb q=> ⟨Classical.byContradiction λz=>q.1 (.inr z),λz=>q.1 (.inl z)⟩
      have hlen:vs.length<sizeLine:=by
       rw[←size_eq,←ri.1];omega
      refine Gac (thn (GbX (pv (X:=blk X scope cl C N s H fp) _ s8 σ6 H8 (.ref p) [v] (.ref p) [y] (λ_ H9=>H9=upd H8 p (.lst (vs++[v]))) I8 rfl (.cons ry .nil) ⟨p,vs,v,rfl,rfl,hp8,hlen,rfl⟩) (λ_ _ q=>q) λ_ _ q=>q.elim) λ_ s9 ⟨_,H9,I9,_,h9⟩=> ?_)
      subst h9
      have lbp:∀j:Nat,va e2[j]? →σ6[j]? ≠some (some (.ref p)):=λj z ej=>lb6 j p z ej (EE.vb hpn)
      have fu:jA (λb=>Cln Bad env σ b∧b≠p) H8 (upd H8 p (.lst (vs++[v]))):=λb o e q=>by
       refine(az ?_).trans e
       rintro rfl
       rcases q with q|q
       ·exact q.2 rfl
       ·rw[hp8] at e;cases e;exact q
      refine Gao (Gao ⟨rfl,again I9 (E8.grow (.inl rfl) hpn hp8 lbp) aM ((r8.append (b8.cons vr .nil)).gen fu λ_ q _=>q) (by simp;omega) c8 ?_⟩)
      rw[←eqi,Gay];rfl
     ·cases ci
   ·have hi' :i=ds.length:=by omega
    subst hi'
    rw[GbK] at ci
    cases ci
    rw[Gbg] at eqi
    subst eqi
    refine thn (T.done (blk X scope cl C N s H fp) rfl rfl rfl hc ds.length [] s' σi Hi _ Ii (hfi fri) sti stop) λr s4 ⟨hr,I4⟩=> ?_
    subst hr
    obtain⟨m,hm,_⟩:=I4.loc
    have IX:=Ib I hf I4
    exact Gao (hRR p C s4 Hi m IX hm hCle ⟨I4.free,(I.CO (by rw[hp];exact hCle) (I.hok.fresh (by rw[hp];exact hCle))).2⟩ ⟨keepAll,hpn,vs,hpi,ri⟩)
  ·exact⟨0,_,_,_,[],[],rs,⟨by simp,GbD _,I1,st₁,λb hb=>(az (by rintro rfl;exact Gbj _ (hfo _ hb))).trans (hf b hb).1,E1,aM,b8.nil,λj=>Ia,λj a z e=>by
    obtain⟨i,t1,t2⟩:=C5 z.top e
    exactλq=>q.2 i t1 t2,Gaq _,by simpa using hl,rfl⟩⟩
 exact codeAny_compStart_list loop (T.self X.A 0 _ _ _ st₁ loop)
end
open PySem PySem.Spec PyProof.Rows L2
section
variable{X:Cx}{pos:Pos}
theorem vf{n:Nat}{aO:List Nat}{l:Option Nat}{env:Env}:compEnv n aO (bT l env)=compEnv n aO env:=by
 cases l with
 |none=>rfl
 |some j=>
  unfold bT
  dsimp only
  split
  ·rename_i d q
   unfold compEnv
   congr 1
   apply GaI
   intro i _
   by_cases z:j=i
   ·subst z
    rw[GaT (Gae.mp q).1,q];rfl
   ·rw[Gab z]
  ·rfl
theorem kH.cells{scope:Scope}{N:List Str}{n:Nat}{aO:List Nat}{pins:List (Addr×Obj)}{σ:St}{H:Hp}{s:Shared}(S:kH X scope N n aO)(I:Inv X pins σ H s):∀y∈scope.names,y.2= .free→∃c,X.env.cells.lookup y.1=some c:=λy hy hf=>by
 have hk:=Gas.mp S.free y hy
 rw[hf] at hk
 simp only[bne_self_eq_false,Bool.false_or] at hk
 refine I.ok.has y.1 ?_
 cases q:X.env.kindOf y.1 with
 |none=>rw[q] at hk;cases hk
 |some z=>rw[q] at hk;cases z<;>first|(cases hk;done)|exact .inl rfl|exact .inr rfl
theorem kH.Fg{scope:Scope}{N:List Str}{n:Nat}{aO:List Nat}(S:kH X scope N n aO):∀y∈scope.names,y.2= .local→scope.names.lookup y.1=some .local:=λy hy hl=>by
 have:=Gas.mp S.names y hy
 rw[hl] at this
 simpa using this
structure Blk(X:Cx)(scope:Scope)(N:List Str)(tg elt:Expr)(ifs:List Expr)(gd:DG)(t:DT)(f:DE):Prop where
 g:∀cl C s H ex,PGd (blk X scope cl C N s H ex) tg gd
 t:∀cl C s H ex,qT (blk X scope cl C N s H ex) ifs (tT X t)
 e:∀cl C s H ex,PEd (blk X scope cl C N s H ex) elt f
theorem _root_.L2.Inv.Jm{pins:List (Addr×Obj)}{σ:St}{H:Hp}{s:Shared}{C:Addr}{h' :Heap}(I:Inv X pins σ H s)(F:nK X pins H C)(hs:Heap.SameBut C s.heap h'):Inv X pins σ H {s with heap:=h' }:=
 I.turned (t' :=s.toks) (λb o hb e=>(hs.2 b hb).trans e) F.1 F.2.1 F.2.2.2.1 F.2.2.2.2.1 F.2.2.2.2.2
theorem ot{tg iter elt:Expr}{ifs:List Expr}{scope:Scope}{N:List Str}{n:Nat}{aO:List Nat}{l:Option Nat}{src:DI}{gd:DG}{t:DT}{f:DE}(hc:X.calm=true)(S:kH X scope N n aO)(hi:PId X tg iter src)(hgo:uj gd)(B:Blk X scope N tg elt ifs gd t f)
  (hs:∀x,foldedSetIterable iter X.env x=pure x:=by intro _;rfl):PEd X (.ListComp elt [⟨tg,iter,ifs,0⟩] scope pos) (rq l n aO src gd t f):=by
 intro pins s σ H Q I hw
 obtain⟨H₀,Bad,env,r,E,e,k⟩:=hw
 unfold rq at e
 obtain⟨ds,hds,e⟩:=bind_some e
 split at e
 ·rename_i hz
  obtain⟨rs,hrs,rfl⟩:=Gal.mp e
  obtain⟨EL,lo,tops⟩:=E.lock l
  obtain⟨cl,h1,h2,h3⟩:=n5 (S.cells I)
  rw[eval_ListComp]
  refine wpAny_comprehension_free (use:=none) rfl hs h1 S.kind S.Fg ?_
  refine thn (hi pins s σ H (λJ H' =>cC H H' ∧Dg X.K (λb=>Cln Bad (bT l env) σ b∧H' b≠none) (λb=>¬Ow (bT l env) σ b) J ds H') I ⟨H₀,Bad,bT l env,ds,EL,hds,λJ H' s' io=> ⟨s',io⟩⟩) λv s1 q1=>thn q1 λitv s2 q2=> ?_
  obtain⟨it,fp,tn,J,H2,e,I2,T,st2,f2,sH,io⟩:=q2
  subst e
  refine um (RR:=λacc C=>compPost (model X.prog X.w) X.A X.xe none (EP X pins σ Q) acc C) hc S I2 h2 h3 f2 T st2 (λC s' H' =>B.g cl C s' H' fp) (λC s' H' =>B.t cl C s' H' fp) (λC s' H' =>B.e cl C s' H' fp) (EL.mono sH) io hgo hz (by rw[vf];exact hrs) ?_
  intro p C s' H' m IX hm hC hF G
  refine⟨m,hm,λh' hs' => ⟨.ref p,H',IX.Jm hF hs',rfl, ?_⟩⟩
  obtain⟨g1,g2,vs,g3,g4⟩:=G
  exact k _ H' (sH.trans g1) ⟨p,rfl,sH.free g2,⟨_,g3,trivial⟩,rfl,.lst (.inl g3) (g4.gen (.of_same cg) λb q _=> ⟨⟨q.1.1,λi ti ei=>q.1.2 i ((tops i).mpr ti) ei⟩,q.2⟩)⟩
 ·cases e
end
open PySem PySem.Spec PyProof.Rows L2
section
variable{X:Cx}{scope:Scope}{cl:List (Str×Addr)}{C:Addr}{N:List Str}{s:Shared}{H:Hp}{ex:List Addr}{x:Str}
theorem jg(h:N.Nodup):(blk X scope cl C N s H ex).N.Nodup:=h
theorem jh(h:scope.names.lookup x=some .local):(blk X scope cl C N s H ex).fn x=true∨(blk X scope cl C N s H ex).env.scope.names.lookup x=some .local:= .inr (jf h)
end
open PySem PySem.Spec PyProof.Rows L2
section
variable{X:Cx}{e a b c:Expr}{f g h:DE}{pos:Pos}
noncomputable def tO(X:Cx)(o:DO):TO:=λσ H Q=>∃H₀ Bad env i,aI X.K H₀ Bad env σ H∧o env=some i∧∀H',cC H H' →Q i H'
theorem _root_.L2.PO.aU{e:Option Expr}{t t' :TO}(h:PO X e t')(i:∀σ H Q,t σ H Q→t' σ H Q):PO X e t:=λpins s σ H Q I q=>h pins s σ H Q I (i σ H Q q)
theorem uo:PO X none (tO X noO):=Hu.aU λσ H Q ⟨_,_,_,_,_,e,k⟩=>by cases e;exact k H cg
theorem j7(he:PEd X e f):PO X (some e) (tO X (fX f)):=by
 refine(Hv he).aU ?_
 rintro σ H Q ⟨H₀,Bad,env,o,E,ho,k⟩
 obtain⟨r,hr,ho⟩:=bind_some ho
 split at ho
 ·rename_i i hd
  cases ho
  refine⟨H₀,Bad,env,r,E,hr,λv H1 s1 R=> ?_⟩
  have q:=R.inn
  rw[hd] at q
  cases q
  exact⟨i,rfl,k H1 s1⟩
 ·cases ho
theorem vg(n d:Nat)(o:Option Int):HT.sIx n d o=sIx n d o:=by
 cases o<;>rfl
theorem rG{K:aE}{F:Addr→Prop}{H:Hp}{ds:List D}{vs:List V}{lo hi:Option Int}(r:b8 K F H ds vs):b8 K F H (cutD ds lo hi) (wm vs lo hi):=by
 unfold cutD wm
 rw[vg,vg,←r.1]
 exact(r.drop _).take _
theorem wR{K:aE}{F:Addr→Prop}{H:Hp}:∀{ns:List Int},b8 K F H (ns.map .int) (ns.map V.int)
 |[]=> .nil
 |n::ns=> .cons (.int n) wR
theorem ou{lo hi:Option Expr}{l u:DO}{p2:Pos}(he:PEd X e f)(hl:PO X lo (tO X l))(hu:PO X hi (tO X u)):PEd X (.Subscript e (.Slice lo hi none p2) pos) (slE f l u):=by
 refine(ED (Hy.or JY) he hl hu).aU ?_
 rintro σ H Q ⟨H₀,Bad,env,rv,E,hf,k⟩
 obtain⟨r,hr,hf⟩:=bind_some hf
 obtain⟨lv,hlv,hf⟩:=bind_some hf
 obtain⟨uv,huv,hf⟩:=bind_some hf
 refine⟨H₀,Bad,env,r,E,hr,λv H1 s1 R=> ⟨H₀,Bad,env,lv,E.mono s1,hlv,λH2 s2=> ⟨H₀,Bad,env,uv,(E.mono s1).mono s2,huv,λH3 s3=> ?_⟩⟩⟩
 have i3:=(R.inn.same s2).same s3
 have s13:=s1.trans (s2.trans s3)
 unfold slD at hf
 split at hf
 ·rename_i xs hd
  cases hf
  rw[hd] at i3
  cases i3 with
  |lst hh rr=>exact .inl ⟨_,_,rfl,.inl hh,λp n=>k _ _ (s13.trans (bG n)) ⟨p,rfl,s13.free n,pC,rfl,gG n (rG rr)⟩⟩
 ·rename_i xs hd
  split at hf
  ·cases hf
  ·rename_i hw
   cases hf
   rw[hd] at i3
   cases i3 with
   |tup hh rr=>exact .inr ⟨_,_,rfl,SqT.of hh,by rw[vg,vg,←rr.1];exact hw,λp n=>k _ _ (s13.trans (bG n)) (fQ n (rG rr))⟩
 ·rename_i ns hd
  cases hf
  rw[hd] at i3
  cases i3 with
  |scr hh=>exact .inl ⟨_,_,rfl,hh.sq,λp n=>k _ _ (s13.trans (bG n)) ⟨p,rfl,s13.free n,pC,rfl,gG n (rG wR)⟩⟩
 ·cases hf
theorem wU{pins:List (Addr×Obj)}{σ:St}{H:Hp}{s:Shared}{p:Addr}{ys:List V}{Q:Value→Shared→Prop}{E:Value→Shared→Prop}(hc:X.calm=true)(I:Inv X pins σ H s)(h:SqL X.K H p ys∨SqT X.K H p ys)
  (k:∀(It:Addr) fp wr P St (s₂:Shared),Walks X.prog X.w X.A.in1 It fp wr ys.length P St→St 0 s₂.heap→(∀b∈fp,b<s₂.heap.objs.size)→(∀(i:Nat) v,P i v→∃y,ys[i]? =some y∧RelV y v)→
   (∀h' tk,(∀b o,b∉wr→s₂.heap.get? b=some o→h'.get? b=some o)→Inv X pins σ H {s₂ with heap:=h',toks:=tk})→Q (.ref It) s₂):wpAny (model X.prog X.w) X.A.in1 (pyIter (.ref p)) Q E s:=by
 have hh:X.A.in1.handled=none:=I.ok.hd hc
 have kept:∀{oi:Obj} {h' :Heap} {tk:Nat},(∀b o,b∉[s.heap.objs.size]→(s.heap.push oi).get? b=some o→h'.get? b=some o)→Inv X pins σ H {s with heap:=h',toks:=tk}:=λ{oi h' tk} hk=>
  I.kept λb o e=>hk b o (by simp only[GbA];exact GaK (Gat e)) (Gaf _ e)
 have get:∀{its:List Value},Vals ys its→∀(i:Nat) v,its.toArray[i]? =some v→∃y,ys[i]? =some y∧RelV y v:=λ{its} r i v e=>by
  have e' :its[i]? =some v:=by simpa using e
  obtain⟨hi,_⟩:=Gae.mp e'
  have hi' :i<ys.length:=by rw[r.length];exact hi
  obtain⟨u,hu,ru⟩:=r.get (x:=ys[i]) (i:=i) (by simp[hi'])
  rw[e'] at hu;cases hu
  exact⟨ys[i],by simp[hi'],ru⟩
 have lts:∀{oi:Obj},p<s.heap.objs.size→∀b∈[s.heap.objs.size,p],b<(s.heap.push oi).objs.size:=λ{oi} hp b hb=>by
  rw[GcQ]
  rcases Gaw.mp hb with rfl|hb
  ·exact Nat.lt_succ_self _
  ·rcases Gaw.mp hb with rfl|hb
   ·exact GcW hp
   ·cases hb
 rcases h with hq|hq
 ·obtain⟨its,rv,pl,hz⟩:=I.list hq
  have hlt:p<s.heap.objs.size:=by obtain⟨_,e,_⟩:=pl.isList;exact Gat e
  have W:=Walks.list (prog:=X.prog) (w:=X.w) hh s.heap.objs.size p (GaK hlt) its.toArray
  have hsz:its.toArray.size=ys.length:=by rw[Gan,rv.length]
  rw[hsz] at W
  exact wpAny_pyIter_list pl.isList (k _ _ _ _ _ _ W ⟨⟨_,GaA _ rfl,rfl,rfl⟩,pl.isList.push _⟩ (lts hlt) (get rv) λh' tk hk=>kept hk)
 ·obtain⟨its,rv,pl,hz⟩:=I.tuple hq
  have pl' :s.heap.IsTuple p its.toArray:=pl
  have hlt:p<s.heap.objs.size:=by obtain⟨_,e,_⟩:=pl';exact Gat e
  have W:=Walks.tuple (prog:=X.prog) (w:=X.w) hh s.heap.objs.size p (GaK hlt) its.toArray
  have hsz:its.toArray.size=ys.length:=by rw[Gan,rv.length]
  rw[hsz] at W
  exact GcP pl' (k _ _ _ _ _ _ W ⟨⟨_,GaA _ rfl,rfl,rfl⟩,pl'.at λo e=>Gaf _ e⟩ (lts hlt) (get rv) λh' tk hk=>kept hk)
theorem range_any(bs:List Bool):(List.range bs.length).any (λi=>bs[i]?.getD false)=bs.any id:=by
 rw[Bool.eq_iff_iff]
 simp only[List.any_eq_true,GbM,id]
 constructor
 ·rintro⟨i,hi,h⟩
  rw[Gaa hi] at h
  exact⟨bs[i],GaC hi,h⟩
 ·rintro⟨b,hb,h⟩
  obtain⟨i,hi,rfl⟩:=Gdr hb
  exact⟨i,hi,by rw[Gaa hi];exact h⟩
theorem wV{A:Around}{P:Nat→Value→Prop}{bs:List Bool}(hP:∀(i:Nat) v,P i v→∃y,(bs.map V.bl)[i]? =some y∧RelV y v):TruthOf X.prog X.w A P (λi=>bs[i]?.getD false):=by
 intro i v s Q E p q
 obtain⟨y,hy,r⟩:=hP i v p
 rw[Gah] at hy
 cases hb:bs[i]? with
 |none=>rw[hb] at hy;cases hy
 |some b=>
  rw[hb] at hy;cases hy
  cases r
  refine GbG ?_
  have q' :Q (bs[i]?.getD false) s:=q
  rw[hb] at q';exact q'
theorem Dk(hc:X.calm=true):gY X (.builtin "any") (λxs H Q=>∃(p:Addr) (bs:List Bool),xs=[.ref p]∧(SqL X.K H p (bs.map V.bl)∨SqT X.K H p (bs.map V.bl))∧Q (.bl (bs.any id)) H):=by
 intro pins s σ H xs us Q I rv h
 obtain⟨p,bs,rfl,hq,q⟩:=h
 obtain⟨u,rfl,ru⟩:=rv.one
 cases ru
 refine call_any_walk (wU hc I hq λIt fp wr P St s₂ W st lt hP kept=> ⟨It,fp,wr,_,P,St,_,rfl,W,st,wV hP,λh' tk hk=> ?_⟩)
 rw[Gad,range_any]
 exact⟨.bl (bs.any id),H,kept h' tk hk,rfl,q⟩
noncomputable def vh(ns:List Int)(i:Nat):Int:=ns[i]?.getD 0
theorem wW{P:Nat→Value→Prop}{ns:List Int}(hP:∀(i:Nat) v,P i v→∃y,(ns.map V.int)[i]? =some y∧RelV y v):∀i v,P i v→∃t,v= .int (vh ns i) t:=by
 intro i v p
 obtain⟨y,hy,r⟩:=hP i v p
 rw[Gah] at hy
 cases hb:ns[i]? with
 |none=>rw[hb] at hy;cases hy
 |some n=>
  rw[hb] at hy;cases hy
  obtain⟨t,rfl⟩:=r
  exact⟨t,by unfold vh;rw[hb];rfl⟩
theorem Dl{f:Int→Int→Int}{i:Int}{ns:List Int}{k:Nat}(hk:k<ns.length):(ns.take (k+1)).foldl f i=f ((ns.take k).foldl f i) (ns[k]):=by
 rw[Gdf hk,Gdx];rfl
theorem Fh{n:Int}{ns:List Int}:∀k,k≤ns.length→vh (n::ns) (argBest (λi j=>decide (vh (n::ns) i>vh (n::ns) j)) k)=(ns.take k).foldl (λa b=>if b>a then b else a) n
 |0,_=>by simp[argBest,vh]
 |k+1,hk=>by
  have ih:= @Fh n ns k (by omega)
  rw[Dl (by omega),argBest]
  have e:vh (n::ns) (k+1)=ns[k]:=by simp[vh,show k<ns.length by omega]
  rw[ih,e]
  simp only[decide_eq_true_eq]
  split
  ·exact e
  ·exact ih
theorem wX{K:aE}{F:Addr→Prop}{H:Hp}:∀{ds:List D} {vs:List V} {bs:List Bool},b8 K F H ds vs→uX ds=some bs→vs=bs.map V.bl
 |[],vs,bs,r,e=>by cases e;exact r.cV
 |d::ds,vs,bs,r,e=>by
  obtain⟨v,w,rfl,h1,h2⟩:=r.cons_inv
  cases d<;>try (cases e;done)
  obtain⟨bs',e',rfl⟩:=Gal.mp e
  cases h1
  rw[wX h2 e'];rfl
theorem C7{K:aE}{F:Addr→Prop}{H:Hp}:∀{ds:List D} {vs:List V} {bs:List Int},b8 K F H ds vs→BQ ds=some bs→vs=bs.map V.int
 |[],vs,bs,r,e=>by cases e;exact r.cV
 |d::ds,vs,bs,r,e=>by
  obtain⟨v,w,rfl,h1,h2⟩:=r.cons_inv
  cases d<;>try (cases e;done)
  obtain⟨bs',e',rfl⟩:=Gal.mp e
  cases h1
  rw[C7 h2 e'];rfl
theorem B5{K:aE}{F:Addr→Prop}{H:Hp}{d:D}{v:V}{ds:List D}(i:Inn K F H d v)(e:mX d=some ds):∃p vs,v= .ref p∧(SqL K H p vs∨SqT K H p vs)∧b8 K F H ds vs:=by
 unfold mX at e
 split at e
 ·cases e
  cases i with
  |lst h r=>exact⟨_,_,rfl,.inl (.inl h),r⟩
 ·cases e
  cases i with
  |tup h r=>exact⟨_,_,rfl,.inr (SqT.of h),r⟩
 ·rename_i ns
  cases e
  cases i with
  |scr h=>
   refine⟨_,_,rfl,.inl h.sq,by simp,λi d v e1 e2=> ?_⟩
   rw[Gah] at e1 e2
   cases q:ns[i]? with
   |none=>rw[q] at e1;cases e1
   |some n=>rw[q] at e1 e2;cases e1;cases e2;exact .int n
 ·cases e
theorem B6{o:List D→Option RV}{ds:List D}{rv:RV}(h:one o ds=some rv):∃d xs,ds=[d]∧mX d=some xs∧o xs=some rv:=by
 unfold one at h
 split at h
 ·obtain⟨xs,h1,h2⟩:=bind_some h
  exact⟨_,xs,rfl,h1,h2⟩
 ·cases h
theorem Dm:CallD X anyS (λxs H Q=>∃(p:Addr) (bs:List Bool),xs=[.ref p]∧(SqL X.K H p (bs.map V.bl)∨SqT X.K H p (bs.map V.bl))∧Q (.bl (bs.any id)) H):=by
 intro F H ds vs rv Q ps e k
 obtain⟨d,xs,rfl,h1,h2⟩:=B6 e
 obtain⟨bs,hb,rfl⟩:=Gal.mp h2
 obtain⟨v,rfl,i⟩:=gL ps
 obtain⟨p,vs,rfl,hs,r⟩:=B5 i h1
 rw[wX r hb] at hs
 exact⟨p,bs,rfl,hs,k _ H cg (.bl _)⟩
end
open PySem PySem.Spec PyProof.Rows L2
section
variable{X:Cx}{e a b c:Expr}{f g h:DE}{pos:Pos}
theorem bc.cons{κ:Type}{K:aE}{F:Addr→Prop}{H:Hp}{kvs:List (κ×D)}{ws:List (κ×V)}{k:κ}{d:D}{v:V}(h:Rep K F H d v)(r:bc K F H kvs ws):bc K F H ((k,d)::kvs) ((k,v)::ws):=by
 refine⟨by simp[r.1],λi x u e1 e2=> ?_⟩
 cases i with
 |zero=>simp at e1 e2;subst e1;subst e2;exact h
 |succ i=>exact r.2 i x u (by simpa using e1) (by simpa using e2)
theorem bc.cons_inv{κ:Type}{K:aE}{F:Addr→Prop}{H:Hp}{kvs:List (κ×D)}{ws:List (κ×V)}{k:κ}{d:D}(h:bc K F H ((k,d)::kvs) ws):∃v r,ws=(k,v)::r∧Rep K F H d v∧bc K F H kvs r:=by
 cases ws with
 |nil=>exact absurd h.1 (by simp)
 |cons q r=>
  obtain⟨k',v⟩:=q
  have h1:k=k' ∧kvs.map (·.1)=r.map (·.1):=by have:=h.1;simpa using this
  obtain⟨rfl,h2⟩:=h1
  exact⟨v,r,rfl,h.2 0 (k,d) (k,v) rfl rfl,h2,λi x y e1 e2=>h.2 (i+1) x y (by simpa using e1) (by simpa using e2)⟩
theorem bc.nil{κ:Type}{K:aE}{F:Addr→Prop}{H:Hp}:bc K F H ([]:List (κ×D)) []:=⟨rfl,λi p q e=>by simp at e⟩
theorem bc.cV{κ:Type}{K:aE}{F:Addr→Prop}{H:Hp}{ws:List (κ×V)}(h:bc K F H [] ws):ws=[]:=by
 cases ws with
 |nil=>rfl
 |cons q r=>exact absurd h.1 (by simp)
theorem bc.len{κ:Type}{K:aE}{F:Addr→Prop}{H:Hp}{kvs:List (κ×D)}{ws:List (κ×V)}(h:bc K F H kvs ws):kvs.length=ws.length:=by
 have:=congrArg List.length h.1
 simpa using this
theorem bc.over{κ:Type} [DecidableEq κ]{K:aE}{F:Addr→Prop}{H:Hp}{k:κ}{d:D}{v:V}(hv:Rep K F H d v):∀{kvs:List (κ×D)} {ws:List (κ×V)},bc K F H kvs ws→
  bc K F H (kvs.map λkv=>if kv.1=k then(kv.1,d) else kv) (ws.map λkv=>if kv.1=k then(kv.1,v) else kv)
 |[],ws,r=>by rw[r.cV];exact .nil
 |(k',d')::kvs,ws,r=>by
  obtain⟨v',w,rfl,h1,h2⟩:=r.cons_inv
  rw[Gar,Gar]
  dsimp only
  split
  ·exact .cons hv (bc.over hv h2)
  ·exact .cons h1 (bc.over hv h2)
theorem bc.snoc{κ:Type}{K:aE}{F:Addr→Prop}{H:Hp}{k:κ}{d:D}{v:V}(hv:Rep K F H d v):∀{kvs:List (κ×D)} {ws:List (κ×V)},bc K F H kvs ws→bc K F H (kvs++[(k,d)]) (ws++[(k,v)])
 |[],ws,r=>by rw[r.cV];exact .cons hv .nil
 |(k',d')::kvs,ws,r=>by
  obtain⟨v',w,rfl,h1,h2⟩:=r.cons_inv
  exact .cons h1 (bc.snoc hv h2)
theorem bc.any{κ:Type} [DecidableEq κ]{K:aE}{F:Addr→Prop}{H:Hp}{k:κ}:∀{kvs:List (κ×D)} {ws:List (κ×V)},bc K F H kvs ws→(kvs.any λkv=>decide (kv.1=k))=(ws.any λkv=>decide (kv.1=k))
 |[],ws,r=>by rw[r.cV];rfl
 |(k',d')::kvs,ws,r=>by
  obtain⟨v',w,rfl,h1,h2⟩:=r.cons_inv
  rw[Gdc,Gdc,bc.any h2]
theorem bc.put{κ:Type} [DecidableEq κ]{K:aE}{F:Addr→Prop}{H:Hp}{kvs:List (κ×D)}{ws:List (κ×V)}{k:κ}{d:D}{v:V}(r:bc K F H kvs ws)(hv:Rep K F H d v):bc K F H (put kvs k d) (putK ws k v):=by
 unfold DL.put putK
 rw[r.any]
 split
 ·exact r.over hv
 ·exact r.snoc hv
theorem Ko{K:aE}{F:Addr→Prop}{H:Hp}{kvs:List (Key×D)}{a:Addr}(i:Inn K F H (.dK kvs) (.ref a)):∃ws,H a=some (.dK ws)∧bc K F H kvs ws:=by
 cases i with
 |dK h r=>exact⟨_,h,r⟩
theorem Kp{K:aE}{F:Addr→Prop}{H:Hp}{kvs:List (List Key×D)}{a:Addr}(i:Inn K F H (.dT kvs) (.ref a)):∃ws,H a=some (.dT ws)∧bc K F H kvs ws:=by
 cases i with
 |dT h r=>exact⟨_,h,r⟩
noncomputable def Jn:V→V→V→Hp→(Hp→Prop)→Prop:=λo i v H Q=>Jg o i v H Q∨∃a H4,o= .ref a∧wz H a i v H4∧Q H4
theorem Ic(hu:X.A.units+1<cLine):LW X Jn:=by
 intro pins s σ H o i v ov iv u Q I ro ri rv h
 rcases h with h| ⟨a,H4,rfl,g,q⟩
 ·exact set_list pins s σ H o i v ov iv u Q I ro ri rv h
 ·cases ro
  exact D4 hu I g ri rv λs4 I4=> ⟨H4,I4,q⟩
noncomputable def OJ(td ty tv:TE):TS:=λD σ H=>tv σ H λv H1=>td σ H1 λx H2=>ty σ H2 λy H3=>Jn x y v H3 λH4=>D.nx σ H4
theorem Kq{o i value:Expr}{td ty tv:TE}{pos' :Pos}(hu:X.A.units+1<cLine)(ho:PE X o td)(hi:PE X i ty)(hv:PE X value tv)(hs:swapsWith value (some (.Subscript o i pos')) pos.line X.env=pure false):PS X (.Assign [.Subscript o i pos'] value pos) (OJ td ty tv):=by
 intro pins s σ H D I h
 refine wpAny_Assign_Subscript (thn (hv pins s σ H _ I h) λr s1 ⟨v,H1,I1,rv,q1⟩=>thn (ho pins s1 σ H1 _ I1 q1) λu s2 ⟨x,H2,I2,rx,q2⟩=>thn (hi pins s2 σ H2 _ I2 q2) λiv s3 ⟨y,H3,I3,ry,q3⟩=> ?_) hs
 exact thn (Ic hu pins s3 σ H3 x y v u iv r _ I3 rx ry rv q3) λ_ s4 ⟨H4,I4,q4⟩=> ⟨σ,H4,I4,q4⟩
theorem ox{Bad:Addr→Prop}{env:Env}{σ:St}{H:Hp}{i:Nat}{a:Addr}{d:D}{o o' :HO}(q:env[i]? =some (some (.own d)))(h1:σ[i]? =some (some (.ref a)))(hH:H a=some o')(hw:isW o'):jA (Cln Bad env σ) H (upd H a o):=λb x hb w=>by
 have:b≠a:=by
  rintro rfl
  rcases w with w|w
  ·exact w.2 i (by rw[q];trivial) h1
  ·rw[hH] at hb;cases hb
   cases o' <;>simp[isT] at w<;>exact hw
 rw[az this];exact hb
theorem nU{i:Nat}{x:Str}{px pos' :Pos}{k value:Expr}{fk fv:DE}(hu:X.A.units+1<cLine)(hN:X.N[i]? =some x)(hv:Vis X.env.scope x)(hk:PEd X k fk)(he:PEd X value fv)(hd:(x==("__debug__":Str))=false:=by decide)(hcd:(x==("__classdict__":Str))=false:=by decide)
  (hs:swapsWith value (some (.Subscript (.Name x px) k pos')) pos.line X.env=pure false:=by rfl):PSd X (.Assign [.Subscript (.Name x px) k pos'] value pos) (t9 i fk fv):=by
 refine(Kq hu (lF hN hv hd hcd) hk he hs).aU ?_
 rintro D σ H ⟨H₀,Bad,env,o,E,e,kk⟩
 obtain⟨r,hr,e⟩:=bind_some e
 obtain⟨y,hy,e⟩:=bind_some e
 obtain⟨d,hd,e⟩:=bind_some e
 have q:=om hd
 split at e
 ·rename_i hfree
  obtain⟨d',hp,rfl⟩:=Gal.mp e
  refine⟨H₀,Bad,env,r,E,hr,λv H1 s1 R=> ?_⟩
  have E1:=E.mono s1
  obtain⟨a,h1,h2,h3,h4,h5,h6⟩:=E1.ow i _ (.inl q)
  refine⟨_,h1,H₀,Bad,env,y,E1,hy,λvy H3 s3 Ry=> ?_⟩
  have E3:=E1.mono s3
  have rep:=(R.rep E hfree).same s3
  have i6:=h6.same s3
  have iy:=Ry.inn
  have fin:∀(o' :HO) (o'' :HO),H3 a=some o'' →isW o'' →isW o' →d'.top=true→Inn X.K (Cln Bad env σ) (upd H3 a o') d' (.ref a)→D.nx σ (upd H3 a o'):=λo' o'' hH hw hw' ht inn=>by
   obtain⟨E4,p4⟩:=E3.change (d' :=d') (o:=o') q h1 hw' ht inn
   exact kk σ _ E4 (((Stp.of_same s1).trans (.of_same s3)).trans p4)
  unfold putD at hp
  split at hp
  ·rename_i kvs
   split at hp
   ·rename_i hz
    obtain⟨key,hkey,rfl⟩:=Gal.mp hp
    obtain⟨ws,hH,rp⟩:=Ko i6
    have hy' :=pE iy hkey
    subst hy'
    refine .inr ⟨a,_,rfl,wz.k hH (by rw[←rp.len,←size_eq];exact hz),fin _ _ hH trivial trivial rfl ?_⟩
    exact .dK aM ((rp.put rep).gen (ox q h1 hH trivial) λ_ f _=>f)
   ·cases hp
  ·rename_i kvs
   split at hp
   ·rename_i ks hks
    split at hp
    ·rename_i hz
     obtain⟨key,hkey,rfl⟩:=Gal.mp hp
     obtain⟨ws,hH,rp⟩:=Kp i6
     rw[hks] at iy
     cases iy with
     |tup hb rb=>
      have:=jD rb hkey
      subst this
      refine .inr ⟨a,_,rfl,wz.t hH hb (by rw[←rp.len,←size_eq];exact hz),fin _ _ hH trivial trivial rfl ?_⟩
      exact .dT aM ((rp.put rep).gen (ox q h1 hH trivial) λ_ f _=>f)
    ·cases hp
   ·cases hp
  ·rename_i xs
   split at hp
   ·rename_i j hj
    rw[hj] at iy
    cases iy
    obtain⟨vs,hH,rp⟩:=oq (h4.same s3) i6
    split at hp
    ·rename_i hb
     cases hp
     refine .inl ⟨a,vs,j,j.toNat,rfl,rfl,hH, ?_,fin _ _ hH trivial trivial rfl ?_⟩
     ·unfold ixN
      rw[Gag hb.1,Gag (by rw[←rp.1];exact hb.2)]
     ·exact .lst (.inl aM) ((rp.set rep j.toNat).gen (ox q h1 hH trivial) λ_ f _=>f)
    ·split at hp
     ·rename_i hb
      cases hp
      refine .inl ⟨a,vs,j,(j+xs.length).toNat,rfl,rfl,hH, ?_,fin _ _ hH trivial trivial rfl ?_⟩
      ·unfold ixN
       rw[Gaj (by omega),Gag (by rw[←rp.1];omega),rp.1]
      ·exact .lst (.inl aM) ((rp.set rep _).gen (ox q h1 hH trivial) λ_ f _=>f)
     ·cases hp
   ·cases hp
  ·cases hp
 ·cases e
theorem lU:PEd X (.Dict [] [] pos) pz:=wB.aU λσ H Q ⟨_,_,_,_,E,e,k⟩ p n=>by
 cases e
 exact k _ _ (bG n) ⟨p,rfl,n,⟨_,aM,trivial⟩,rfl,.dT aM .nil⟩
end
open PySem PySem.Spec PyProof.Rows L2
open PySem.W (KasT kas_rev kas_asc kas_desc kas_tail3 kas_descPart kas_count kas_place kas_bin kas_sort)
section
variable{rk:Nat→Int}{N:Nat}
noncomputable def Asks(rk:Nat→Int)(N:Nat){α:Type}:KasT α→(α→Prop)→Prop
 | .ret a,Q=>Q a
 | .ask i j k,Q=>i<N∧j<N∧Asks rk N (k (decide (rk i<rk j))) Q
noncomputable def Ord(N:Nat)(p:Array Nat):Prop:=p.toList.Perm (List.range N)
theorem Ord.size{p:Array Nat}(h:Ord N p):p.size=N:=by
 have:=List.Perm.length_eq h
 simpa using this
noncomputable def Fj(rk:Nat→Int)(p:Array Nat)(i:Nat):Int:=rk (p.getD i 0)
noncomputable def Up(rk:Nat→Int)(p:Array Nat)(k:Nat):Prop:=∀u v,u≤v→v<k→Fj rk p u≤Fj rk p v
noncomputable def Down(rk:Nat→Int)(p:Array Nat)(k:Nat):Prop:=∀u v,u≤v→v<k→Fj rk p v≤Fj rk p u
end
open PySem PySem.Spec PyProof.Rows L2
noncomputable def FO(h:Heap)(a:Addr)(T:String)(vs:Array Value):Prop:=∃o,h.get? a=some o∧o.cls= .type T∧o.data= .fields vs
noncomputable def lV(h:Heap)(d:Addr)(es:Array DictEntry)(ep:Nat):Prop:=∃o,h.get? d=some o∧o.ExactDict∧o.data= .dict es ep
theorem lV.at{h h' :Heap}{d:Addr}{es:Array DictEntry}{ep:Nat}(x:lV h d es ep)(e:∀o,h.get? d=some o→h'.get? d=some o):lV h' d es ep:=let⟨o,ho,r⟩:=x;⟨o,e _ ho,r⟩
section
variable{prog:Program}{w:World}{A:Around}{E:Value→Shared→Prop}{z:Shared}
theorem lV.ty{d:Addr}{es:Array DictEntry}{ep:Nat}(x:lV z.heap d es ep):z.TypeIs (.ref d) "dict":=let⟨o,ho,hc,_⟩:=x;⟨o,ho,hc.1⟩
theorem vk{d:Addr}{es:Array DictEntry}{ep:Nat}{p:Option Value}{Q:Array DictEntry→Shared→Prop}(x:lV z.heap d es ep)(h:Q es z):wpAny (model prog w) A (dictEntries d p) Q E z:=let⟨_,ho,_,hd⟩:=x;wpAny_dictEntries ho hd h
theorem C8{d:Addr}{es:Array DictEntry}{ep:Nat}{p:Option Value}{Q:Nat→Shared→Prop}(x:lV z.heap d es ep)(h:Q ep z):wpAny (model prog w) A (dictEpoch d p) Q E z:=let⟨_,ho,_,hd⟩:=x;wpAny_dictEpoch ho hd h
theorem FO.ty{a:Addr}{T:String}{vs:Array Value}(x:FO z.heap a T vs):z.TypeIs (.ref a) T:=let⟨o,ho,hc,_⟩:=x;⟨o,ho,hc⟩
theorem Fm{a:Addr}{T:String}{vs:Array Value}{Q:Array Value→Shared→Prop}(x:FO z.heap a T vs)(h:Q vs z):wpAny (model prog w) A (fieldsOf (.ref a)) Q E z:=let⟨_,ho,_,hd⟩:=x;wpAny_fieldsOf ho hd h
theorem iA{a:Addr}{T:String}{vs:Array Value}{k:Nat}{x:Value}{Q:Unit→Shared→Prop}(f:FO z.heap a T vs)(h:∀h',FO h' a T (vs.setIfInBounds k x)∧Heap.SameBut a z.heap h' →Q () {z with heap:=h' })(hk:k<vs.size):
  wpAny (model prog w) A (setField (.ref a) k x) Q E z:=by
 obtain⟨⟨c,dc,dt,sl⟩,ho,hc,hd⟩:=f
 cases hc;cases hd
 exact wpAny_setField ho rfl hk (h _ ⟨⟨_,Gbv _ ho rfl,rfl,rfl⟩,Heap.SameBut.update ..⟩)
theorem FO.at{h h' :Heap}{a:Addr}{T:String}{vs:Array Value}(x:FO h a T vs)(k:∀o,h.get? a=some o→h'.get? a=some o):FO h' a T vs:=let⟨o,q,r⟩:=x;⟨o,k o q,r⟩
theorem FO.lt{h:Heap}{a:Addr}{T:String}{vs:Array Value}(x:FO h a T vs):a<h.objs.size:=let⟨_,q,_⟩:=x;Gat q
theorem kI{a:Addr}{T:String}{vs:Array Value}{i:Nat}{x:Value}{Q:Value→Shared→Prop}(f:FO z.heap a T vs)(e:vs[i]? =some x)(h:Q x z):wpAny (model prog w) A (field (.ref a) i) Q E z:=let⟨_,ho,_,hd⟩:=f;wpAny_field ho hd e h
theorem Fn{α:Type}{Q:α→Shared→Prop}(hh:A.handled=none)(h:∀h' a,(∀b o,z.heap.get? b=some o→h'.get? b=some o)∧(∃o,h'.get? a=some o∧o.cls= .type "StopIteration")→E (.ref a) {z with heap:=h' }):
  wpAny (model prog w) A (newExc (.type "StopIteration") []>>=λe=>(raiseNew e:Sem α)) Q E z:=by
 obtain⟨hp,g,dr,tk,os⟩:=z
 wp_walk using GaX
 ·unfold raiseNew
  wp_walk
  exact h _ _ ⟨λb o e=>Gaf _ (Gaf _ e),_,GaA _ rfl,rfl⟩
 all_goals size_fits
theorem vn{e:Addr}{Q:Bool→Shared→Prop}(x:∃o,z.heap.get? e=some o∧o.cls= .type "StopIteration")(h:Q true z):wpAny (model prog w) A (isInstance (.ref e) (.type "StopIteration")) Q E z:=
 wpAny_isInstance (T:="StopIteration") x isSubtype_stop h
theorem Jo(es:Array DictEntry)(i:Nat):(if(i:Int)<0 then none else es[(i:Int).toNat]?)=es[i]? :=by simp;omega
noncomputable def Emp(h:Heap)(S:Addr):Prop:=∃c,h.get? S=some {cls:= .type "list",data:= .seq #[] c}
theorem on{α:Type}{t:Sem α}{Q Q' :α→Shared→Prop}(h:wpAny (model prog w) A t Q E z)(k:∀a s,Q a s→Q' a s):wpAny (model prog w) A t Q' E z:=GbX h k λ_ _ x=>x
theorem touched{S:Addr}{Q:Unit→Shared→Prop}(e:Emp z.heap S)(h:∀h2,Emp h2 S∧(∀b o,b≠S→z.heap.get? b=some o→h2.get? b=some o)→Q () {z with heap:=h2}):wpAny (model prog w) A (Builtin.List.listTouch (.ref S)) Q E z:=by
 obtain⟨c,e⟩:=e
 have e1:=Gbv (Obj.mapSeq (·.push Value.none)) e rfl
 refine Gac (Gdn e rfl (Gdn (hz:=by seq_fits) e1 rfl (h _ ⟨⟨_,Gbv (Obj.mapSeq (·.pop)) e1 rfl⟩,λb o n k=> ?_⟩)))
 rw[Gbr _ _ (GaZ n),Gbr _ _ (GaZ n),k]
theorem Fo{T:String}{S:Addr}{v res:Value}{R:Result→Shared→Prop}(hT:z.TypeIs v T)(n1:(Value.type T== .type "list")=false)(n2:(Value.type T== .type "tuple")=false)(n3:Builtin.List.listSameRef (.ref S) v=false)
  (h:wpAny (model prog w) A.in1 (pyIter v) (λi s1=>wpAny (model prog w) A.in1 (Builtin.List.listLengthHint v) (λ_ s2=>Emp s2.heap S∧∀h2,Emp h2 S→(∀b o,b≠S→s2.heap.get? b=some o→h2.get? b=some o)→
   codeAny (model prog w) A (.builtin "list.extend.loop" ⟨[.ref S,i,res],[]⟩) R {s2 with heap:=h2}) (λe s' =>R (.error e) s') s1) (λe s' =>R (.error e) s') z):
  wpAny (model prog w) A.in1 (Builtin.List.listExtendWith (.ref S) v res) (λfin s' =>match fin with| .done f=>R (.ok f) s' | .again c' =>c'.quiet=true∧codeAny (model prog w) A c' R s') (λe s' =>R (.error e) s') z:=by
 wp_walk using wpAny_typeOf hT,on h
 intro i s1 q
 wp_walk using on q
 rintro b s2 ⟨e,q⟩
 have quiet:Code.quiet (.builtin "list.extend.loop" ⟨[.ref S,i,res],[]⟩)=true:=plainId_quiet F.plain_extend_loop _
 apply wpAny_ite_split<;>intro _
 ·wp_walk using touched e
  exactλh2 k=>Gao ⟨quiet,q h2 k.1 k.2⟩
 ·exact Gao ⟨quiet,q _ e λ_ _ _ k=>k⟩
theorem Dn{v:Value}{Q:Value→Shared→Prop}
  (h:∀h1:Heap,Emp h1 z.heap.objs.size→(∀b o,z.heap.get? b=some o→h1.get? b=some o)→z.heap.objs.size<h1.objs.size→wpAny (model prog w) A.in1.in1 (Builtin.List.listExtendWith (.ref z.heap.objs.size) v .none)
   (λfin s' =>match fin with| .done f=>wants (λr s₂=>r= .none∧Q (.ref z.heap.objs.size) s₂) E (.ok f) s' | .again c' =>c'.quiet=true∧codeAny (model prog w) A.in1 c' (wants (λr s₂=>r= .none∧Q (.ref z.heap.objs.size) s₂) E) s')
   (λe s' =>wants (λr s₂=>r= .none∧Q (.ref z.heap.objs.size) s₂) E (.error e) s') {z with heap:=h1}):wpAny (model prog w) A (call (.type "list") [v]) Q E z:=by
 apply callType_codes (Q₁:=λo s=>o= .ref z.heap.objs.size∧s={z with heap:=z.heap.push {cls:= .type "list",data:= .seq #[]}}) F.called_list (F.typeCall_list_1 _) F.entry_list_init (code_list_new _ ⟨rfl,rfl⟩)
 rintro _ _ ⟨rfl,rfl⟩
 have e:(z.heap.push {cls:= .type "list",data:= .seq #[]}).get? z.heap.objs.size=some {cls:= .type "list",data:= .seq #[]}:=GaA _ rfl
 refine⟨⟨_,e,rfl⟩,F.args_list_init_2 _ _,Gac (Gac (wpAny_seqItems e rfl (Gao (Gac (Gdn e rfl (Gac (Gda ?_)))))))⟩
 have e2:=Gbv (Obj.mapSeq λ_=>(#[]:Array Value)) e rfl
 refine h _ ⟨_,e2⟩ (λb o k=> ?_) (Gat e2)
 rw[Gbr _ _ (Gco (Gat k))]
 exact Gaf _ k
theorem Ie{c:Code}{Q:Value→Shared→Prop}(h:∀R:Result→Shared→Prop,(∀v s',Q v s' →R (.ok (.ret v)) s')→codeAny (model prog w) A c R z):wpAny (model prog w) A (runValue c) Q E z:=wpAny_runValue (h _ λ_ _ q=>q)
theorem gather{v:Value}{Q:List Value→Shared→Prop}
  (h:∀R:Result→Shared→Prop,(∀s' acc c,s'.heap.get? z.heap.objs.size=some {cls:= .type "list",dict:=none,data:= .seq acc c,slots:=#[]}→Q acc.toList s' →R (.ok (.ret (.ref z.heap.objs.size))) s')→
   wpAny (model prog w) A.in1 (Builtin.List.listExtendWith (.ref z.heap.objs.size) v (.ref z.heap.objs.size)) (λfin s' =>match fin with| .done f=>R (.ok f) s' | .again c' =>c'.quiet=true∧codeAny (model prog w) A c' R s') (λe s' =>R (.error e) s') {z with heap:=z.heap.push (seqObj "list" #[] 0)}):
  wpAny (model prog w) A (collect v) Q E z:=by
 unfold collect
 apply Gac
 apply Ie
 intro R r
 apply Gdo entry_proto_collect'
 apply Gac
 refine wpAny_newList (Gao ⟨Code.quiet_builtin _ (by decide+kernel), ?_⟩)
 apply Gdo entry_list_iadd'
 rw[Gdp (by decide+kernel:plainId "list.__iadd__"=true)]
 exact h R λs' acc c k q=>r _ _ (Gac (wpAny_load k (Gao q)))
noncomputable def wY(h:Heap)(S:Addr)(acc:Array Value):Prop:=∃c,h.get? S=some {cls:= .type "list",dict:=none,data:= .seq acc c,slots:=#[]}
end
open PySem PySem.Spec PyProof.Rows L2
open PySem.W (KatLex KatTups kas_sort kas_ask kat_kind kat_lt kat_one kat_run kat_snds BoolBack kat_lt_int)
noncomputable def FlV:D→Value→Prop
 | .non,v=>v= .none
 | .int i,v=>∃t,v= .int i t
 | .str x,v=>∃t,v= .str x t
 |_,_=>False
noncomputable def rH(h:Heap):D→Value→Prop
 | .int i,v=>∃t,v= .int i t
 | .tup fs,v=>∃a o n us,v= .ref a∧h.get? a=some o∧o.cls= .type "tuple"∧o.data= .seq (List.toArray us) n∧Paired FlV fs us
 |_,_=>False
theorem qh{α β:Type}{R S:α→β→Prop}(h:∀a b,R a b→S a b):∀{xs:List α} {ys:List β},Paired R xs ys→Paired S xs ys
 |_,_,.nil=> .nil
 |_,_,.cons p t=> .cons (h _ _ p) (qh h t)
theorem Ig{xs ys:List Nat}(h:xs.map Int.ofNat=ys.map Int.ofNat):xs=ys:=by
 induction xs generalizing ys with
 |nil=>cases ys with
  |nil=>rfl
  |cons=>simp at h
 |cons x xs ih=>cases ys with
  |nil=>simp at h
  |cons y ys=>
   simp only[Gar,Gcb] at h
   rw[ih h.2,Int.ofNat_inj.mp h.1]
theorem Ih{x y:Str}(h:x.cps.toList=y.cps.toList):x=y:=by
 cases x;cases y
 simp only at h
 rw[Gcp.mp h]
theorem pG{a b:D}(ha:mU a=true)(hb:mU b=true)(h:b7 a=b7 b):a=b:=by
 cases a<;>cases b<;>simp[mU,tyD] at ha hb<;>simp[b7] at h
 ·rfl
 ·rw[h]
 ·have:=Ih (Ig h)
  rw[this]
theorem uq:∀{as bs:List D},as.all mU=true→bs.all mU=true→as.map b7=bs.map b7→as=bs
 |[],[],_,_,_=>rfl
 |[],_::_,_,_,h=>by simp at h
 |_::_,[],_,_,h=>by simp at h
 |a::as,b::bs,ha,hb,h=>by
  rw[GbE,Gau] at ha hb
  simp only[Gar,Gcb] at h
  rw[pG ha.1 hb.1 h.1,uq ha.2 hb.2 h.2]
theorem Kr{a:D}{t:Nat}(h:(tyD a==t)=true)(ht:t≠3):mU a=true:=by
 unfold mU
 rw[GcI] at h
 rw[h]
 simpa using ht
theorem mN{t:Nat}{d:D}(ht:t≠3)(h:mV t d=true):∃f r,d= .tup (f::r)∧tyD f=t∧(f::r).all mU=true:=by
 unfold mV at h
 split at h
 ·rename_i f r
  rw[Gau] at h
  refine⟨f,r,rfl,GcI.mp h.1, ?_⟩
  rw[GbE,Gau]
  exact⟨Kr h.1 ht,h.2⟩
 ·cases h
theorem ka{d:D}(h:Dc d=true):∃i,d= .int i:=by
 unfold Dc at h
 split at h
 ·exact⟨_,rfl⟩
 ·cases h
theorem Fp{ds:List D}(h:keysOk ds=true):∀a∈ds,∀b∈ds,code a=code b→a=b:=by
 intro a ha b hb e
 unfold keysOk at h
 rw[GaW,Gau,GaW] at h
 have tup:∀t,t≠3→ds.all (mV t)=true→a=b:=λt ht hk=>by
  obtain⟨f,r,rfl,_,q1⟩:=mN ht (Gas.mp hk a ha)
  obtain⟨f',r',rfl,_,q2⟩:=mN ht (Gas.mp hk b hb)
  rw[uq q1 q2 e]
 rcases h with h| ⟨h|h,_⟩
 ·obtain⟨i,rfl⟩:=ka (Gas.mp h a ha)
  obtain⟨j,rfl⟩:=ka (Gas.mp h b hb)
  simp[code,b7] at e
  rw[e]
 ·exact tup 1 (by decide) h
 ·exact tup 2 (by decide) h
theorem C9{i j:Int}:g8 ltI (b7 (.int i)) (b7 (.int j))=decide (i<j):=by
 unfold b7
 simp only[g8,Gbq]
 by_cases e:i=j
 ·subst e;simp
 ·rw[Gaj e];rfl
theorem Ca:∀(xs ys:List Nat),g8 ltI (xs.map Int.ofNat) (ys.map Int.ofNat)=decide (xs<ys)
 |[],[]=>by simp[g8]
 |[],y::ys=>by simp[g8]
 |x::xs,[]=>by simp[g8]
 |x::xs,y::ys=>by
  simp only[Gar,g8]
  by_cases e:x=y
  ·subst e
   rw[Gag rfl,Ca xs ys]
   simp[List.cons_lt_cons_iff]
  ·rw[Gaj (λz:Int.ofNat x=Int.ofNat y=>e (Int.ofNat_inj.mp z))]
   have:(x::xs<y::ys)↔x<y:=by rw[List.cons_lt_cons_iff];simp[e]
   unfold ltI
   simp[this]
theorem Ij{x y:Str}:g8 ltI (b7 (.str x)) (b7 (.str y))=decide (x.cps.toList<y.cps.toList):=by
 unfold b7
 simp only[g8,Gbq]
 exact Ca _ _
section
variable{prog:Program}{w:World}{A:Around}{E:Value→Shared→Prop}{s:Shared}
theorem MY{a b:D}{u v:Value}{Q:Bool→Shared→Prop}(ha:FlV a u)(hb:FlV b v)(ht:tyD a=tyD b)(h:Q (decide (b7 a=b7 b)) s):wpAny (model prog w) A (eqBool u v) Q E s:=by
 cases a<;>cases b<;>simp[tyD] at ht<;>try exact ha.elim
 ·cases ha;cases hb
  unfold eqBool
  refine GcJ ?_
  simp only[b7,decide_true] at h
  rw[Gag (by rfl)]
  exact Gac (Gcj (Gao h))
 ·obtain⟨t,rfl⟩:=ha
  obtain⟨t',rfl⟩:=hb
  refine wpAny_eqBool_int ?_
  rename_i i j
  have e:decide (b7 (.int i)=b7 (.int j))=(i==j):=by
   simp only[b7]
   by_cases q:i=j
   ·subst q;simp
   ·simp[q]
  rw[e] at h;exact h
 ·obtain⟨t,rfl⟩:=ha
  obtain⟨t',rfl⟩:=hb
  refine eqBool_str ?_
  rename_i i j
  have e:decide (b7 (.str i)=b7 (.str j))=(i==j):=by
   by_cases q:i=j
   ·subst q;simp
   ·have:¬b7 (.str i)=b7 (.str j):=λz=>q (by
     have:=pG (a:= .str i) (b:= .str j) rfl rfl z
     cases this;rfl)
    simp[q,this]
  rw[e] at h;exact h
theorem MZ{a b:D}{u v:Value}{one:Bool}{Q:Bool→Shared→Prop}(ha:FlV a u)(hb:FlV b v)(ht:tyD a=tyD b)(hk:tyD a=1∨tyD a=2)(h:Q (g8 ltI (b7 a) (b7 b)) s):wpAny (model prog w) A (oneLt' one u v) Q E s:=by
 cases a<;>cases b<;>simp[tyD] at ht hk
 ·obtain⟨t,rfl⟩:=ha
  obtain⟨t',rfl⟩:=hb
  rw[C9] at h
  cases one with
  |true=>exact oneLt_int h
  |false=>exact kat_one _ _ (PyProof.Rows.lt_int h)
 ·obtain⟨t,rfl⟩:=ha
  obtain⟨t',rfl⟩:=hb
  rw[Ij] at h
  cases one with
  |true=>exact oneLt_str h
  |false=>exact kat_one _ _ (PyProof.Rows.lt_str h)
theorem Fq{b fin:Bool}{Q:Bool→Shared→Prop}:∀{as bs:List D} {us vs:List Value} (i:Nat),Paired FlV as us→Paired FlV bs vs→mY as bs=true→fin=decide (as.length<bs.length)→Q (ltC (as.map b7) (bs.map b7)) s→KatLex prog w A b fin Q (us.zip vs) i s
 |[],[],_,_,i,.nil,.nil,_,hf,h=>by
  have h' :Q fin s:=by rw[hf];exact h
  exact h'
 |[],_::_,_,_,i,.nil,.cons _ _,_,hf,h=>by
  have h' :Q fin s:=by rw[hf,GaL (by simp)];exact h
  exact h'
 |_::_,[],_,_,i,.cons _ _,.nil,_,hf,h=>by
  have h' :Q fin s:=by rw[hf,GaO (by simp)];exact h
  exact h'
 |a::as,c::cs,_,_,i,.cons (b:=u) ha ta,.cons (b:=v) hb tb,hc,hf,h=>by
  unfold mY at hc
  have h0:ltC ((a::as).map b7) ((c::cs).map b7)=if b7 a=b7 c then ltC (as.map b7) (cs.map b7) else g8 ltI (b7 a) (b7 c):=rfl
  rw[h0] at h
  have ht:tyD a=tyD c:=by
   split at hc
   ·rename_i e
    cases a<;>cases c<;>simp[b7] at e<;>first|rfl|exact ha.elim|exact hb.elim
   ·rw[Gau] at hc;exact GcI.mp hc.1
  show wpAny _ _ (eqBool u v) _ _ s
  refine MY ha hb ht ?_
  by_cases e:b7 a=b7 c
  ·rw[GaL e,Gag rfl]
   rw[Gag e] at h hc
   exact Fq (i+1) ta tb hc (by rw[hf];simp) h
  ·rw[GaO e,Gaj Gaz]
   rw[Gaj e] at h hc
   rw[Gau,GaW] at hc
   exact MZ ha hb ht (hc.2.imp GcI.mp GcI.mp) h
theorem Fs{ds:List D}{vs:List Value}{κ:SortKind}(hK:Paired (rH s.heap) ds vs)(hok:keysOk ds=true)(hκ:(ds.all Dc=true∧κ=oneType')∨((ds.all (mV 1)||ds.all (mV 2))=true∧(ds.all λx=>ds.all λy=>wH x y)=true∧κ=tuples' true)):
  ∀i j C,i<ds.length→j<ds.length→C (decide (rank (ds.map code) i<rank (ds.map code) j)) s→kas_ask prog w A κ vs i j C s:=by
 intro i j C hi hj h
 have hl:=hK.length
 rw[BS (by simpa using hi) (by simpa using hj)] at h
 simp only[GbW] at h
 unfold kas_ask
 have gi:vs.getD i Value.none=vs[i]:=by simp[←hl,hi]
 have gj:vs.getD j Value.none=vs[j]:=by simp[←hl,hj]
 rw[gi,gj]
 have at_:∀{ds:List D} {vs:List Value},Paired (rH s.heap) ds vs→∀(i:Nat) (h1:i<ds.length) (h2:i<vs.length),rH s.heap ds[i] vs[i]:=by
  intro ds vs hK
  induction hK with
  |nil=>intro i h1;simp at h1
  |cons h t ih=>
   intro i h1 h2
   cases i with
   |zero=>exact h
   |succ i=>exact ih i (by simpa using h1) (by simpa using h2)
 have ki:=at_ hK i hi (by omega)
 have kj:=at_ hK j hj (by omega)
 rcases hκ with⟨a1,rfl⟩| ⟨a1,a2,rfl⟩
 ·obtain⟨x,hx⟩:=ka (Gas.mp a1 ds[i] (GaC hi))
  obtain⟨y,hy⟩:=ka (Gas.mp a1 ds[j] (GaC hj))
  rw[hx] at ki h
  rw[hy] at kj h
  obtain⟨t,ei⟩:=ki
  obtain⟨t',ej⟩:=kj
  rw[ei,ej]
  refine kat_lt_int ?_
  have e:ltC (code (.int x)) (code (.int y))=decide (x<y):=by
   show g8 (g8 ltI) [b7 (.int x)] [b7 (.int y)]=_
   unfold g8
   split
   ·rename_i z
    have:=pG (a:= .int x) (b:= .int y) rfl rfl z
    cases this
    simp[g8]
   ·exact C9
  rw[e] at h;exact h
 ·have tup:∀d∈ds,∃fs,d= .tup fs:=λd hd=>by
   rw[GaW] at a1
   rcases a1 with a1|a1
   ·obtain⟨f,r,e,_⟩:=mN (by decide) (Gas.mp a1 d hd);exact⟨_,e⟩
   ·obtain⟨f,r,e,_⟩:=mN (by decide) (Gas.mp a1 d hd);exact⟨_,e⟩
  have cm:=Gas.mp (Gas.mp a2 ds[i] (GaC hi)) ds[j] (GaC hj)
  obtain⟨xs,hx⟩:=tup ds[i] (GaC hi)
  obtain⟨ys,hy⟩:=tup ds[j] (GaC hj)
  rw[hx] at ki h cm
  rw[hy] at kj h cm
  obtain⟨a,o,n,us,ei,h1,h2,h3,h4⟩:=ki
  obtain⟨a',o',n',us',ej,h1',h2',h3',h4'⟩:=kj
  rw[ei,ej]
  refine kat_lt h1 h3 h1' h3' ?_
  exact Fq 0 h4 h4' cm (by rw[Gan,Gan,h4.length,h4'.length]) h
theorem pH{t:Nat}(ht:t≠3):∀{ds:List D} {vs:List Value},Paired (rH s.heap) ds vs→ds.all (mV t)=true→∃fs:List Value,∃gs:List D,KatTups s.heap vs fs∧Paired FlV gs fs∧(∀g∈gs,tyD g=t)∧fs.length=vs.length
 |[],_,.nil,_=> ⟨[],[],trivial,.nil,(by intro g hg;cases hg),rfl⟩
 |d::ds,_,.cons h tl,hk=>by
  rw[GbE,Gau] at hk
  obtain⟨fs,gs,h1,h2,h3,h4⟩:=pH ht tl hk.2
  obtain⟨f,r,rfl,q1,q2⟩:=mN ht hk.1
  obtain⟨a,o,n,us,rfl,g1,g2,g3,g4⟩:=h
  cases g4 with
  |cons p t=>
   refine⟨_::fs,f::gs,KatTups.cons g1 g2 g3 (by simp) h1,.cons p h2,λg hg=> ?_,by simp[h4]⟩
   rcases Gaw.mp hg with e|e
   ·subst e;exact q1
   ·exact h3 g e
theorem Cb{M:Model}{h:Heap}{d:D}{v:Value}{t:Nat}(hd:FlV d v)(ht:tyD d=t):(t=1→PySem.W.Looks M h (typeOf v) (.type "int"))∧(t=2→PySem.W.Looks M h (typeOf v) (.type "str")):=by
 subst ht
 cases d<;>simp[tyD]<;>try exact hd.elim
 ·obtain⟨u,rfl⟩:=hd
  exact PySem.W.Looks.of_pure rfl
 ·obtain⟨u,rfl⟩:=hd
  exact PySem.W.Looks.of_pure rfl
theorem Dp{ds:List D}{vs:List Value}{Q:SortKind→Shared→Prop}(hK:Paired (rH s.heap) ds vs)(hok:keysOk ds=true)(h2:2≤ds.length)
  (h:∀κ,((ds.all Dc=true∧κ=oneType')∨((ds.all (mV 1)||ds.all (mV 2))=true∧(ds.all λx=>ds.all λy=>wH x y)=true∧κ=tuples' true))→Q κ s):wpAny (model prog w) A (keyKind' vs.toArray) Q E s:=by
 have hl:=hK.length
 unfold keysOk at hok
 rw[GaW,Gau] at hok
 rcases hok with hok| ⟨hok,hc⟩
 ·have ia:∀{ds:List D} {vs:List Value},Paired (rH s.heap) ds vs→ds.all Dc=true→∃ns,IntsAre vs ns:=by
   intro ds vs hK
   induction hK with
   |nil=>intro _;exact⟨[],.nil⟩
   |cons p t ih=>
    intro hk
    rw[GbE,Gau] at hk
    obtain⟨ns,q⟩:=ih hk.2
    obtain⟨i,rfl⟩:=ka hk.1
    obtain⟨u,rfl⟩:=p
    exact⟨i::ns,.cons i u q⟩
  obtain⟨ns,q⟩:=ia hK hok
  match vs,hl,q with
  |[],e,_=>rw[Gcu] at e;omega
  |[_],e,_=>rw[List.length_singleton] at e;omega
  |v1::v2::vr,_,q=>
   rw[keyKind_ints q]
   exact Gao (h _ (.inl ⟨hok,rfl⟩))
 ·have hok' :=hok
  rw[GaW] at hok'
  rcases hok' with a1|a1
  ·obtain⟨fs,gs,q1,q2,q3,q4⟩:=pH (s:=s) (by decide) hK a1
   refine kat_kind (T:= .type "int") q1 (by rw[q4,←hl];omega) (λv hv=> ?_) (by rfl) (h _ (.inr ⟨hok,hc,rfl⟩))
   obtain⟨g,hg,hgv⟩:∃g∈gs,FlV g v:=by
    clear q1 q3 q4
    induction q2 with
    |nil=>cases hv
    |cons p t ih=>
     rcases Gaw.mp hv with e|e
     ·subst e;exact⟨_,Gam,p⟩
     ·obtain⟨g,h1,h2⟩:=ih e;exact⟨g,Gai _ h1,h2⟩
   exact(Cb hgv (q3 g hg)).1 rfl
  ·obtain⟨fs,gs,q1,q2,q3,q4⟩:=pH (s:=s) (by decide) hK a1
   refine kat_kind (T:= .type "str") q1 (by rw[q4,←hl];omega) (λv hv=> ?_) (by rfl) (h _ (.inr ⟨hok,hc,rfl⟩))
   obtain⟨g,hg,hgv⟩:∃g∈gs,FlV g v:=by
    clear q1 q3 q4
    induction q2 with
    |nil=>cases hv
    |cons p t ih=>
     rcases Gaw.mp hv with e|e
     ·subst e;exact⟨_,Gam,p⟩
     ·obtain⟨g,h1,h2⟩:=ih e;exact⟨g,Gai _ h1,h2⟩
   exact(Cb hgv (q3 g hg)).2 rfl
theorem Ft(vs:List Value):(vs.toArray.zip vs.toArray).map (·.2)=vs.toArray:=by
 apply Gcp.mp
 rw[Array.toList_map,Array.toList_zip]
 exact List.map_snd_zip (Gaq _)
theorem B7{a:Addr}{vs:List Value}{n:Nat}{P:PySem.Fin→Shared→Prop}{Ok:Array Value→Prop}(ho:s.heap.get? a=some (seqObj "list" vs.toArray n))(sz:vs.length≤sizeLine)(one:vs.length<2→Ok vs.toArray)(len:∀out,Ok out→out.size=vs.length)
  (big:∀G:Heap,(∀b o,b≠a→s.heap.get? b=some o→G.get? b=some o)→2≤vs.length→wpAny (model prog w) A (keyKind' vs.toArray) (λκ s1=>wpAny (model prog w) A (sortRuns'.run (SortSt.mk' κ (vs.toArray.zip vs.toArray) #[] 7 none)) (λr s2=>s2={s with heap:=G}∧failedOf r.2=none∧Ok ((arrOf r.2).map (·.2))) E s1) E {s with heap:=G})
  (h:∀out,Ok out→P (.done (.ret .none)) {s with heap:=sortedHeap s.heap a vs out}):wpAny (model prog w) A (Builtin.«list.sort» ⟨[.ref a],[]⟩) P E s:=by
 have⟨ep,e1⟩:∃ep,(s.heap.update a (Obj.mapSeq λ_=>(#[]:Array Value))).get? a=some (seqObj "list" #[] ep):=⟨_,get?_update_seq ho _⟩
 rw[list_sort_plain]
 refine Gac (listItems_at ho rfl (Gac (listUpdate_at ho rfl (Gac (seqEpoch_at e1 rfl (Gac (wpAny_newTuple (Gac (wpAny_newList (GcJ ?_) (GbD _))) sz)))) (by simpa using sz) (GbD _))))
 have e2:=Gaf (seqObj "list" #[] 0) (Gaf (seqObj "tuple" vs.toArray 0) e1)
 have last:∀st:SortSt,failedOf st=none→Ok ((arrOf st).map (·.2))→wpAny (model prog w) A (do
   let touched:=(←seqEpoch a) !=ep
   Builtin.List.listUpdate (.ref a) λ_=>(arrOf st).map (·.2)
   if let some e:=failedOf st then rule "list.sort.comparison-raised";throw e
   if touched then rule "list.sort.modified";raiseError "ValueError" "list modified during sort"
   ret .none) P E {s with heap:=((s.heap.update a (Obj.mapSeq λ_=>(#[]:Array Value))).push (seqObj "tuple" vs.toArray 0)).push (seqObj "list" #[] 0)}:=λst f ok=>by
  refine Gac (seqEpoch_at e2 rfl (Gac (listUpdate_at e2 rfl ?_ (GbD _) (by rw[len _ ok];omega))))
  rw[f]
  wp_walk
  exact h _ ok
 by_cases c:vs.length<2
 ·have c' :vs.toArray.size<2:=by simpa using c
  rw[Gag c',Gag c']
  refine Gac (Gao (Gac (Gao (last (SortSt.mk' general' (vs.toArray.zip vs.toArray) #[] 7 none) rfl ?_))))
  show Ok ((vs.toArray.zip vs.toArray).map (·.2))
  rw[Ft]
  exact one c
 ·have c' :¬vs.toArray.size<2:=by simpa using c
  rw[Gaj c',Gaj c']
  refine Gac (on (big _ (λb o n q=>Gaf _ (Gaf _ ((Gbr _ _ (GaZ n)).trans q))) (by omega)) λκ s1 q=>Gac (on q ?_))
  rintro⟨⟨⟩,st⟩ s2 ⟨rfl,f,ok⟩
  exact last st f ok
noncomputable def kJ(cs:List (List (List Int)))(vs:List Value)(out:Array Value):Prop:=∃p:Array Nat,Ord vs.length p∧Up (rank cs) p vs.length∧out=List.toArray (p.toList.map λi=>vs.getD i Value.none)
theorem kJ.len{cs:List (List (List Int))}{vs:List Value}{out:Array Value}(x:kJ cs vs out):out.size=vs.length:=by
 obtain⟨p,h1,_,rfl⟩:=x
 rw[Gan,Gad,GbI,h1.size]
theorem kJ.one{cs:List (List (List Int))}{vs:List Value}(c:vs.length<2):kJ cs vs vs.toArray:=by
 refine⟨List.toArray (List.range vs.length),List.Perm.refl _,λu v q r=> ?_, ?_⟩
 ·rw[show u=v by omega];exact GbO _
 ·rcases vs with _| ⟨x,_| ⟨y,t⟩⟩
  ·rfl
  ·rfl
  ·exact absurd c (by simp)
noncomputable def vo(prog:Program)(w:World)(A:Around)(E:Value→Shared→Prop)(s:Shared)(cs:List (List (List Int)))(vs:List Value):Prop:=
 2≤vs.length→∀Q:SortKind→Shared→Prop,(∀κ,(∀i j C,i<vs.length→j<vs.length→C (decide (rank cs i<rank cs j)) s→kas_ask prog w A κ vs i j C s)→Q κ s)→wpAny (model prog w) A (keyKind' vs.toArray) Q E s
theorem wZ{l:Addr}{o:Obj}{vs:List Value}{n:Nat}{T:String}{Q:List Value→Shared→Prop}(ho:s.heap.get? l=some o)(hc:o.cls= .type T)(hT:T="list"∨T="tuple")(hd:o.data= .seq vs.toArray n)
  (h:Q vs {s with heap:=(s.heap.push (seqObj "list" #[] 0)).update s.heap.objs.size (Obj.mapSeq (· ++vs.toArray))})(hsz:vs.length≤sizeLine):wpAny (model prog w) A (collect (.ref l)) Q E s:=by
 have e0:(s.heap.push (seqObj "list" #[] 0)).get? s.heap.objs.size=some (seqObj "list" #[] 0):=GaA _ rfl
 have el:=Gaf (seqObj "list" #[] 0) ho
 have up:(#[]++vs.toArray:Array Value)=vs.toArray:=by simp
 have ek:((s.heap.push (seqObj "list" #[] 0)).update s.heap.objs.size (Obj.mapSeq (· ++vs.toArray))).get? s.heap.objs.size=some (seqObj "list" (#[]++vs.toArray) _):=get?_update_seq e0 _
 rw[up] at ek
 refine gather λR r=> ?_
 have c:(Builtin.List.listSameRef (.ref s.heap.objs.size) (.ref l)||Value.type T== .type "list"||Value.type T== .type "tuple")=true:=by rcases hT with rfl|rfl<;>rw[GaW,GaW]<;>simp
 exact Gac (wpAny_typeOf ⟨o,el,hc⟩ (wpAny_ite_true (by rw[c];rfl) (Gac (listItems_at el hd (Gac (listItems_at e0 rfl (wpAny_ite_false (by simp) (Gac (listUpdate_at e0 rfl (Gao (r _ vs.toArray _ ek h)) (GbD _) (by rw[up,Gan];omega))))))))))
end
section
variable{X:Cx}
theorem N0{K:aE}{F:Addr→Prop}{H:Hp}{d:D}{v:V}{u:Value}(r:Rep K F H d v)(hf:mU d=true)(ru:RelV v u):FlV d u:=by
 cases r<;>simp[mU,tyD] at hf
 ·cases ru;rfl
 ·exact ru
 ·exact ru
theorem Fu{K:aE}{F:Addr→Prop}{H:Hp}:∀{ds:List D} {vs:List V} {us:List Value},b8 K F H ds vs→ds.all mU=true→Vals vs us→Paired FlV ds us
 |[],vs,us,r,_,ru=>by
  have:=r.cV
  subst this
  cases ru
  exact .nil
 |d::ds,vs,us,r,hf,ru=>by
  obtain⟨v,w,rfl,h1,h2⟩:=r.cons_inv
  rw[GbE,Gau] at hf
  cases ru with
  |cons r1 r2=>exact .cons (N0 h1 hf.1 r1) (Fu h2 hf.2 r2)
noncomputable def isKey(d:D):Bool:=match d with
 | .int _=>true
 | .tup fs=>fs.all mU
 |_=>false
theorem nM{pins:List (Addr×Obj)}{σ:St}{F:Addr→Prop}{H:Hp}{s:Shared}{d:D}{v:V}{u:Value}(I:Inv X pins σ H s)(r:Rep X.K F H d v)(hk:isKey d=true)(ru:RelV v u):rH s.heap d u:=by
 cases r<;>simp[isKey] at hk
 ·exact ru
 ·rename_i a vs fs h l r
  cases ru
  obtain⟨its,rv,⟨o,h1,h2,n,h3⟩,_⟩:=I.tuple (SqT.of h)
  exact⟨a,o,n,its,rfl,h1,h2,h3,Fu ⟨l,r⟩ (Gas.mpr hk) rv⟩
theorem Cc{pins:List (Addr×Obj)}{σ:St}{F:Addr→Prop}{H:Hp}{s:Shared}(I:Inv X pins σ H s):∀{ds:List D} {vs:List V} {us:List Value},b8 X.K F H ds vs→ds.all isKey=true→Vals vs us→Paired (rH s.heap) ds us
 |[],vs,us,r,_,ru=>by
  have:=r.cV
  subst this
  cases ru
  exact .nil
 |d::ds,vs,us,r,hf,ru=>by
  obtain⟨v,w,rfl,h1,h2⟩:=r.cons_inv
  rw[GbE,Gau] at hf
  cases ru with
  |cons r1 r2=>exact .cons (nM I h1 hf.1 r1) (Cc I h2 hf.2 r2)
theorem Fv{ds:List D}(h:keysOk ds=true):ds.all isKey=true:=by
 unfold keysOk at h
 rw[GaW,Gau,GaW] at h
 refine Gas.mpr λd hd=> ?_
 have tup:∀t,t≠3→ds.all (mV t)=true→isKey d=true:=λt ht hk=>by
  obtain⟨f,r,rfl,_,q1⟩:=mN ht (Gas.mp hk d hd)
  exact q1
 rcases h with h| ⟨h|h,_⟩
 ·obtain⟨i,rfl⟩:=ka (Gas.mp h d hd);rfl
 ·exact tup 1 (by decide) h
 ·exact tup 2 (by decide) h
theorem range_getD{α:Type}{xs:List α}{d:α}:(List.range xs.length).map (λi=>xs.getD i d)=xs:=by
 apply List.ext_getElem
 ·simp
 ·intro i h1 h2
  simp[h2]
theorem rJ{α:Type}{xs:List α}{d:α}{p:Array Nat}(h:Ord xs.length p):(p.toList.map λi=>xs.getD i d).Perm xs:=by
 have:=Gdd (λi=>xs.getD i d) h
 rw[range_getD] at this
 exact this
theorem Fw{n:Nat}{p:Array Nat}(h:Ord n p){i:Nat}(hi:i<p.toList.length):p.toList[i]<n:=GbM.mp (h.mem_iff.mp (GaC hi))
theorem B8{ds:List D}{p:Array Nat}(h:Ord ds.length p)(hu:Up (rank (ds.map code)) p ds.length):fM (p.toList.map λi=>ds.getD i .non):=by
 refine Gck.mpr λi j hi hj hij=> ?_
 rw[Gad] at hi hj
 rw[GbW,GbW]
 have bi:=Fw h hi
 have bj:=Fw h hj
 have hs:=h.size
 have hi' :i<p.size:=by simpa using hi
 have hj' :j<p.size:=by simpa using hj
 have u:=hu i j (Gdj hij) (by omega)
 unfold Fj at u
 have ei:p.getD i 0=p.toList[i]:=by simp[Array.getD,hi']
 have ej:p.getD j 0=p.toList[j]:=by simp[Array.getD,hj']
 rw[ei,ej] at u
 have r:=BS (cs:=ds.map code) (i:=p.toList[j]) (j:=p.toList[i]) (by simpa using bj) (by simpa using bi)
 rw[GaO (Int.not_lt.mpr u)] at r
 simp only[GbW] at r
 have gd:∀{k:Nat} (hk:k<ds.length),ds.getD k .non=ds[k]:=λ{k} hk=>by simp[hk]
 have gi:=gd bi
 have gj:=gd bj
 rw[gi,gj]
 exact r.symm
theorem Fx{K:aE}{F:Addr→Prop}{H:Hp}{ds:List D}{vs:List V}{p:Array Nat}(h:Ord ds.length p)(r:b8 K F H ds vs):b8 K F H (p.toList.map λi=>ds.getD i .non) (p.toList.map λi=>vs.getD i .non):=by
 refine⟨by simp,λi d v e1 e2=> ?_⟩
 rw[Gah] at e1 e2
 cases q:p.toList[i]? with
 |none=>rw[q] at e1;cases e1
 |some k=>
  rw[q] at e1 e2
  have hk:k<ds.length:=GbM.mp (h.mem_iff.mp (GaP q))
  have hk2:k<vs.length:=by rw[←r.1];exact hk
  cases e1;cases e2
  exact r.2 k _ _ (by simp[hk]) (by simp[hk2])
theorem Fy{vs:List V}{us:List Value}{p:Array Nat}(h:Ord vs.length p)(r:Vals vs us):Vals (p.toList.map λi=>vs.getD i .non) (p.toList.map λi=>us.getD i Value.none):=by
 have hl:=r.length
 have all:∀(l:List Nat),(∀i∈l,i<vs.length)→Vals (l.map λi=>vs.getD i .non) (l.map λi=>us.getD i Value.none):=by
  intro l
  induction l with
  |nil=>intro _;exact .nil
  |cons i l ih=>
   intro hm
   have hi:=hm i Gam
   obtain⟨u,hu,ru⟩:=r.get (x:=vs[i]) (i:=i) (by simp[hi])
   refine .cons ?_ (ih λj hj=>hm j (Gai _ hj))
   have e1:vs.getD i .non=vs[i]:=by simp[hi]
   have e2:us.getD i Value.none=u:=by simp[hu]
   show RelV (vs.getD i .non) (us.getD i Value.none)
   rw[e1,e2];exact ru
 exact all _ λi hi=>GbM.mp (h.mem_iff.mp hi)
end
open PySem PySem.Spec PyProof.Rows L2
section
variable{X:Cx}{e a b c:Expr}{f g h:DE}{pos:Pos}
theorem _root_.L2.Inv.rK{pins:List (Addr×Obj)}{σ:St}{H:Hp}{s s' :Shared}{ch:List Addr}{T:Addr}{o:HO}(I:Inv X pins σ H s)(hf:∀b∈ch,nK X pins H b)(hos:s'.os=s.os)(hg:s'.gens=s.gens)
  (k:∀b u,b∉ch→s.heap.get? b=some u→s'.heap.get? b=some u)(hT:s.heap.objs.size≤T)(new:cx X.prog X.w (upd H T o) s'.heap T o):Inv X pins σ (upd H T o) s' :=by
 have hn:H T=none:=I.hok.fresh hT
 have ne:∀{b u},H b=some u→b≠T:=λ{b u} q=>dP q hn
 refine I.Jc (ch:=ch) hos ⟨λb ob q _ _ hx=>k b ob hx q,λb ob q _ _ hx=> ⟨ob.slots,k b ob hx q⟩,λb ob q n _=> ?_,λb ob q hx=> ⟨ob,k b ob hx q⟩,λb xs q=> ?_,λb ob u q=> ?_,λb ps q=> ⟨#[], ?_⟩⟩ ?_ (by rw[hg];exact I.bare) λb hb=> ⟨(hf b hb).2.2.2.1,(hf b hb).2.1,(hf b hb).2.2.2.2.1,(hf b hb).2.2.2.2.2⟩
 ·rw[az (GaK (GaQ (Gat q) hT))];exact n
 ·rw[az (ne q)];exact q
 ·rw[az (ne q)];exact q
 ·rw[az (ne q),q];simp
 ·intro b u q
  by_cases hb:b=T
  ·subst hb;rw[aM] at q;cases q;exact new
  ·rw[az hb] at q
   have tr:∀{c v},H c=some v→c∉ch:=λ{c v} z hc=>by rw[(hf c hc).1] at z;cases z
   refine(I.hok b u q).fu (λc v hc z=>k c v ?_ z) (λc z=>by rw[az (ne z)];exact z) λc xs z=>by rw[az (ne z)];exact z
   rcases hc with hc|hc
   ·rw[hc];exact tr q
   ·exact tr hc
noncomputable def Ite(K:aE)(l:Addr):It:=
 ⟨λi H=>∃xs x,SqL K H l xs∧xs[i]? =some x,λi H x H' =>∃p y,H p=none∧x= .ref p∧H' =upd H p (.tup [.int i,y])∧∀xs,SqL K H l xs→xs[i]? =some y,λi H=>∃xs,SqL K H l xs∧xs.length≤i⟩
theorem Dq{P:Program}{w:World}{K:aE}{elts:List Expr}{x1}{tp:Pos}(en it l:Addr)(hne:en≠it):Turn P w K (.Tuple elts x1 tp) (Ite K l) [en,it] en (λi h=>(∃old,IsEnum h en it i old)∧h.IsListIter it l i) where
 mem:=by simp
 obj:=λi h st b hb=>by
  obtain⟨⟨old,he⟩,o,e,c,d⟩:=st
  rcases Gaw.mp hb with z|z
  ·subst z
   exact⟨_,he,λv z=>by
    have z' :Data.fields _=Data.cell v:=z
    cases z'⟩
  ·have z' :b=it:=by simpa using z
   subst z'
   exact⟨o,e,λv z=>by rw[d] at z;cases z⟩
 keep:=λi h h' st k=> ⟨let⟨old,he⟩:=st.1;⟨old,k en (by simp) _ he⟩,st.2.at λo e=>k it (by simp) o e⟩
 item:=by
  intro X hP hw hK hc i pins s σ H E I hf st hg
  subst hP hw hK
  obtain⟨⟨old,he⟩,hit⟩:=st
  obtain⟨xs,x,hq,hx⟩:=hg
  obtain⟨its,rv,p,hz⟩:=I.list hq
  obtain⟨u,hu,ru⟩:=rv.get hx
  refine wpAny_pyNext_enum_item he hit p.isList (x:=u) (by simpa using hu) hne λh' ho hit' hT hsz kk=> ⟨_,rfl, ?_⟩
  refine wpAny_letOwnedTupleGo_enum (s:={s with heap:=h',toks:=s.toks+1}) ho λh2 he2 sb=> ?_
  have hltE:en<s.heap.objs.size:=Gat he
  have kept:∀b o,b∉[en,it]→s.heap.get? b=some o→h2.get? b=some o:=λb o hb e=>by
   have b1:b≠en:=λz=>hb (by simp[z])
   have b2:b≠it:=λz=>hb (by simp[z])
   exact(sb.2 b b1).trans (kk b o b1 b2 e)
  have hT2:h2.get? s.heap.objs.size=some {cls:= .type "tuple",data:= .seq #[.int i s.toks,u]}:=(sb.2 _ (Gco hltE)).trans hT
  have I1:Inv X pins σ (upd H s.heap.objs.size (.tup [.int i,x])) {s with heap:=h2,toks:=s.toks+1}:=I.rK (ch:=[en,it]) hf rfl rfl kept (Gaq _) (by
   refine⟨by simp[GbC],[.int i s.toks,u],.cons ⟨_,rfl⟩ (.cons ru .nil),_,hT2,rfl,0,rfl⟩)
  refine⟨.ref s.heap.objs.size,_,I1,rfl,⟨_,x,I.fresh,rfl,rfl,λys hy=>by rw[I.we hy hq];exact hx⟩,⟨⟨u,by simpa using he2⟩,hit'.at λo e=>(sb.2 it (GaZ hne)).trans e⟩,λb hb=> ?_⟩
  obtain⟨o,ob,_⟩:∃o,s.heap.get? b=some o∧True:=by
   rcases Gaw.mp hb with z|z
   ·subst z;exact⟨_,he,trivial⟩
   ·have z' :b=it:=by simpa using z
    subst z'
    obtain⟨o,e,_⟩:=hit
    exact⟨o,e,trivial⟩
  rw[az (GaK (Gat ob))]
  exact(hf b hb).1
 done:=by
  intro X hP hw hK hc i pins s σ H E I hf st hg
  subst hP hw hK
  obtain⟨⟨old,he⟩,hit⟩:=st
  obtain⟨xs,hq,hx⟩:=hg
  obtain⟨its,rv,p,hz⟩:=I.list hq
  obtain⟨f0,f1,f2,f3,f4,f5⟩:=hf it (by simp)
  have hl:=rv.length
  exact wpAny_pyNext_enum_end (I.ok.hd hc) he hit p.isList (by simp;omega) λh' eb=> ⟨rfl,I.turned (t' :=s.toks) (λb o hb e=>eb b o hb e) f0 f1 f3 f4 f5⟩
 self:=λ_ _ _ _ _ st h=>let⟨old,he⟩:=st.1;GcX he h
theorem rL{prog:Program}{w:World}{A:Around}{E:Value→Shared→Prop}{z:Shared}{it t:Addr}{i:Nat}{its:Array Value}{Q:Value→Shared→Prop}(hh:A.handled=none)(hit:z.heap.IsTupleIter it t i)(ht:z.heap.IsTuple t its)
  (hQ:∀x h',its[i]? =some x→h'.IsTupleIter it t (i+1)→Heap.SameBut it z.heap h' →Q x {z with heap:=h' })
  (hE:∀h' e,its[i]? =none→Heap.ExtBut it z.heap h' →(∃o,h'.get? e=some o∧o.cls= .type "StopIteration")→E (.ref e) {z with heap:=h' }):wpAny (model prog w) A (Builtin.SmallTypes.nextOf (.ref it)) Q E z:=by
 have f:FO z.heap it _ _:=hit
 obtain⟨ol,hol,_,nl,hdl⟩:=ht
 wp_walk using GbS f.ty F.slot_tuple_iterator_next,Gbx F.slot_tuple_iterator_next f.ty F.entry_tuple_iterator_next (ha:=F.args_tuple_iterator_next_1 _),kI (i:=0) (x:= .ref t) f rfl,kI (i:=1) (x:= .int i 0) f rfl,wpAny_seqItems hol hdl
 rw[show its[(i:Int).toNat]? =its[i]? by simp]
 cases h:its[i]? with
 |some x=>
  wp_walk using iA f
  ·exactλh' k=>Gao ⟨_,rfl,Gao (hQ x h' h k.1 k.2)⟩
  ·show _<2;decide
 |none=>
  wp_walk using iA f
  ·exactλh1 k=>Fn hh λh' a q=>hE h' a h (λb o n e=>q.1 b o (k.2.extBut b o n e)) q.2
  ·show _<2;decide
theorem Dr{prog:Program}{w:World}{A:Around}(hh:A.handled=none)(it l:Addr)(hne:l≠it)(its:Array Value):Draws prog w A it [it,l] its.size (λi v=>its[i]? =some v) (λi h=>h.IsTupleIter it l i∧h.IsTuple l its) where
 live:=λ_ _ st=>let⟨o,ho,_⟩:=st.1;⟨o,ho⟩
 frame:=λ_ _ _ st hk=> ⟨st.1.at λo e=>hk it (by simp) o e,let⟨o,ho,r⟩:=st.2;⟨o,hk l (by simp) _ ho,r⟩⟩
 item:=λi z Q E hi st hQ=>rL hh st.1 st.2 (λx h' hx hit' hs' =>hQ x h' z.toks hx ⟨hit',let⟨o,ho,r⟩:=st.2;⟨o,hs'.extBut _ _ hne ho,r⟩⟩ hs') λ_ _ q=>absurd hi (by simpa using q)
 done:=λz Q E st hE=>rL hh st.1 st.2 (λ_ _ q=>absurd (Gcg.mp q).1 (Gbj _)) λh' e _=>hE h' e
noncomputable def N5(K:aE)(l:Addr):It:=
 ⟨λi H=>∃xs x,SqT K H l xs∧xs[i]? =some x,λi H x H' =>∃p y,H p=none∧x= .ref p∧H' =upd H p (.tup [.int i,y])∧∀xs,SqT K H l xs→xs[i]? =some y,λi H=>∃xs,SqT K H l xs∧xs.length≤i⟩
theorem B9{P:Program}{w:World}{K:aE}{elts:List Expr}{x1}{tp:Pos}(en it l:Addr)(hne:en≠it)(hle:l≠en)(hli:l≠it):Turn P w K (.Tuple elts x1 tp) (N5 K l) [en,it] en (λi h=>(∃old,IsEnum h en it i old)∧h.IsTupleIter it l i) where
 mem:=by simp
 obj:=λi h st b hb=>by
  obtain⟨⟨old,he⟩,o,e,c,d⟩:=st
  rcases Gaw.mp hb with z|z
  ·subst z
   exact⟨_,he,λv z=>by
    have z' :Data.fields _=Data.cell v:=z
    cases z'⟩
  ·have z' :b=it:=by simpa using z
   subst z'
   exact⟨o,e,λv z=>by rw[d] at z;cases z⟩
 keep:=λi h h' st k=> ⟨let⟨old,he⟩:=st.1;⟨old,k en (by simp) _ he⟩,st.2.at λo e=>k it (by simp) o e⟩
 item:=by
  intro X hP hw hK hc i pins s σ H E I hf st hg
  subst hP hw hK
  obtain⟨⟨old,he⟩,hit⟩:=st
  obtain⟨xs,x,hq,hx⟩:=hg
  obtain⟨its,rv,p,hz⟩:=I.tuple hq
  obtain⟨u,hu,ru⟩:=rv.get hx
  have hi:i<its.toArray.size:=by
   have:=(Gae.mp hu).1
   simpa using this
  refine wpAny_pyNext_enum_itemD (Dr (A:=X.A.in1) (I.ok.hd hc) it l hli its.toArray) he ⟨hit,p⟩ hi hne (by simp[hne,GaZ hle]) λu' h' tk hu' ho hit' hT hsz kk=> ⟨_,rfl, ?_⟩
  have hit1:=hit'.1
  have eu:u' =u:=by
   have hu2:its.toArray[i]? =some u:=by simpa using hu
   rw[hu2] at hu';cases hu';rfl
  subst eu
  refine wpAny_letOwnedTupleGo_enum (s:={s with heap:=h',toks:=tk+1}) ho λh2 he2 sb=> ?_
  have hltE:en<s.heap.objs.size:=Gat he
  have kept:∀b o,b∉[en,it]→s.heap.get? b=some o→h2.get? b=some o:=λb o hb e=>by
   have b1:b≠en:=λz=>hb (by simp[z])
   have b2:b≠it:=λz=>hb (by simp[z])
   exact(sb.2 b b1).trans (kk b o b1 b2 e)
  have hT2:h2.get? s.heap.objs.size=some {cls:= .type "tuple",data:= .seq #[.int i tk,u']}:=(sb.2 _ (Gco hltE)).trans hT
  have I1:Inv X pins σ (upd H s.heap.objs.size (.tup [.int i,x])) {s with heap:=h2,toks:=tk+1}:=I.rK (ch:=[en,it]) hf rfl rfl kept (Gaq _) (by
   refine⟨by simp[GbC],[.int i tk,u'],.cons ⟨_,rfl⟩ (.cons ru .nil),_,hT2,rfl,0,rfl⟩)
  refine⟨.ref s.heap.objs.size,_,I1,rfl,⟨_,x,I.fresh,rfl,rfl,λys hy=>by rw[I.tQ hy hq];exact hx⟩,⟨⟨u',by simpa using he2⟩,hit1.at λo e=>(sb.2 it (GaZ hne)).trans e⟩,λb hb=> ?_⟩
  obtain⟨o,ob,_⟩:∃o,s.heap.get? b=some o∧True:=by
   rcases Gaw.mp hb with z|z
   ·subst z;exact⟨_,he,trivial⟩
   ·have z' :b=it:=by simpa using z
    subst z'
    obtain⟨o,e,_⟩:=hit
    exact⟨o,e,trivial⟩
  rw[az (GaK (Gat ob))]
  exact(hf b hb).1
 done:=by
  intro X hP hw hK hc i pins s σ H E I hf st hg
  subst hP hw hK
  obtain⟨⟨old,he⟩,hit⟩:=st
  obtain⟨xs,hq,hx⟩:=hg
  obtain⟨its,rv,p,hz⟩:=I.tuple hq
  obtain⟨f0,f1,f2,f3,f4,f5⟩:=hf it (by simp)
  have hl:=rv.length
  have fe:FO s.heap en "enumerate" _:=⟨_,he,rfl,rfl⟩
  have pt:s.heap.IsTuple l its.toArray:=p
  wp_walk using GbS fe.ty F.slot_enumerate_next,Gbx F.slot_enumerate_next fe.ty F.entry_enumerate_next (ha:=F.args_enumerate_next_1 _),kI (i:=2) (x:= .ref it) fe rfl,rL (A:=X.A.in1) (I.ok.hd hc) hit pt
  ·exactλx h' q=>absurd (Gcg.mp q).1 (by simp;omega)
  ·exactλh' e _ eb q=>Gac (vn q (Gao ⟨rfl,I.turned (t' :=s.toks) (λb o hb e=>eb b o hb e) f0 f1 f3 f4 f5⟩))
 self:=λ_ _ _ _ _ st h=>let⟨old,he⟩:=st.1;GcX he h
theorem Fz{prog:Program}{w:World}{A:Around}{E:Value→Shared→Prop}{z:Shared}{b:Bool}{Q:Bool→Shared→Prop}(h:∀b,Q b z):wpAny (model prog w) A (pure b) Q E z:=Gao (h b)
theorem A0(l:Addr)(items:Array Value):
  Meets (Builtin.«enumerate.__new__» ⟨[.type "enumerate",.ref l],[]⟩) (λ_ R s=>s.heap.IsTuple l items∧
   R (.ok (.ret (.ref (s.heap.objs.size+1)))) {s with heap:=(s.heap.push {cls:= .type "tuple_iterator",data:= .fields #[.ref l,.int 0 0]}).push {cls:= .type "enumerate",data:= .fields #[.none,.bool false,.ref s.heap.objs.size,rawInt 0,.none,.none]}}):=by
 apply Meets.of_wp
 rintro prog w A R s ⟨hl,h⟩
 have sub:=sub_enumerate
 wp_walk using GcP hl,wpAny_stack_any
 intro st
 refine Fz λshort=> ?_
 have sz:(s.heap.push {cls:= .type "tuple_iterator",data:= .fields #[.ref l,.int 0 0]}).objs.size=s.heap.objs.size+1:=GcQ ..
 rw[←sz] at h
 cases short<;>wp_walk using GcP hl<;>exact⟨_,rfl,h⟩
theorem Ba{prog:Program}{w:World}{A:Around}{E:Value→Shared→Prop}{z:Shared}{l:Addr}{items:Array Value}{Q:Value→Shared→Prop}(hL:z.heap.IsTuple l items)
  (h:∀h',IsEnum h' (z.heap.objs.size+1) z.heap.objs.size 0 .none→h'.IsTupleIter z.heap.objs.size l 0→(∀b o,z.heap.get? b=some o→h'.get? b=some o)→Q (.ref (z.heap.objs.size+1)) {z with heap:=h' }):
  wpAny (model prog w) A (call (.type "enumerate") [.ref l]) Q E z:=by
 have sz:(z.heap.push {cls:= .type "tuple_iterator",data:= .fields #[.ref l,.int 0 0]}).objs.size=z.heap.objs.size+1:=GcQ ..
 have en:IsEnum ((z.heap.push {cls:= .type "tuple_iterator",data:= .fields #[.ref l,.int 0 0]}).push {cls:= .type "enumerate",data:= .fields #[.none,.bool false,.ref z.heap.objs.size,rawInt 0,.none,.none]}) (z.heap.objs.size+1) z.heap.objs.size 0 .none:=sz▸GaA _ rfl
 exact callType_new F.called_enumerate (by decide) (F.typeCall_enumerate_1 _) (F.newCall_enumerate_1 _) (λ_=>F.args_object_init_2 _ _) F.entry_enumerate_new (A0 l items) ⟨hL,⟨_,en,rfl⟩,h _ en ⟨_,Gaf _ (GaA _ rfl),rfl,rfl⟩ λb o q=>Gaf _ (Gaf _ q)⟩
noncomputable def N6(K:aE)(tl:TA):TI:=λσ H R=>tl σ H λvs H1=>∃l,vs=[.ref l]∧(((∃xs,SqL K H1 l xs)∧R (Ite K l) H1)∨((∃xs,SqT K H1 l xs)∧R (N5 K l) H1))
theorem Ik{elts:List Expr}{x1}{tp p:Pos}{ta:TA}(hg:Gl X "enumerate")(hm:X.mg "enumerate"=none)(ha:PA X [a] ta)(hs:starEach [a] X.env=[(false,eval a X.env)]:=by rfl):PI X (.Tuple elts x1 tp) (.Call (.Name "enumerate" p) [a] [] pos) (N6 X.K ta):=by
 intro pins s σ H R I h
 refine Call_ (nJ I hg hm ve (GbY (thn (ha pos pins s σ H _ I h) λus s1 ⟨vs,H1,I1,r1,q1⟩=> ?_) hs rfl))
 obtain⟨l,e,q1⟩:=q1
 subst e
 cases r1 with
 |cons r rr=>
  cases rr
  cases r
  have fps:∀b∈[s1.heap.objs.size+1,s1.heap.objs.size],nK X pins H1 b:=λb hb=>by
   rcases Gaw.mp hb with z|z
   ·subst z;exact I1.CO (GcZ _) (I1.hok.fresh (GcZ _))
   ·have z' :b=s1.heap.objs.size:=by simpa using z
    subst z'
    exact I1.CO (Gaq _) (I1.hok.fresh (Gaq _))
  rcases q1 with⟨⟨xs,hq⟩,q⟩| ⟨⟨xs,hq⟩,q⟩
  ·obtain⟨its,rv,pl,hz⟩:=I1.list hq
   refine call_enumerate_list pl.isList λh' he hit hsz kk=> ?_
   refine GcX (s:={s1 with heap:=h' }) he ?_
   exact⟨s1.heap.objs.size+1,[s1.heap.objs.size+1,s1.heap.objs.size],_,_,H1,rfl,I1.kept (t' :=s1.toks) kk,Dq _ _ l (Nat.succ_ne_self _),⟨⟨.none,he⟩,hit⟩,fps,q⟩
  ·obtain⟨its,rv,pl,hz⟩:=I1.tuple hq
   have hlt:l<s1.heap.objs.size:=pl.lt
   refine Ba (show s1.heap.IsTuple l its.toArray from pl) λh' he hit kk=> ?_
   refine GcX (s:={s1 with heap:=h' }) he ?_
   exact⟨s1.heap.objs.size+1,[s1.heap.objs.size+1,s1.heap.objs.size],_,_,H1,rfl,I1.kept (t' :=s1.toks) kk,B9 _ _ l (Nat.succ_ne_self _) (GaK (GcW hlt)) (GaK hlt),⟨⟨.none,he⟩,hit⟩,fps,q⟩
theorem vp{elts:List Expr}{x1}{tp p:Pos}(hg:Gl X "enumerate")(hm:X.mg "enumerate"=none)(he:PEd X e f)(hs:starEach [e] X.env=[(false,eval e X.env)]:=by rfl):PId X (.Tuple elts x1 tp) (.Call (.Name "enumerate" p) [e] [] pos) (BU f):=by
 refine(Ik hg hm (a4 he aa hs) hs).aU ?_
 rintro σ H R ⟨H₀,Bad,env,ds,E,hf,k⟩
 obtain⟨⟨kd,d⟩,hr,hf⟩:=bind_some hf
 split at hf
 ·cases hf
 rename_i hk
 split at hf
 ·rename_i xs hd
  have hd' :d= .lst xs:=hd
  subst hd'
  cases hf
  refine⟨H₀,Bad,env,[⟨kd,.lst xs⟩],E,by unfold a5 aq;rw[hr];rfl,λvs H1 s1 Rs=> ?_⟩
  cases Rs with
  |cons Rv tl=>
   cases tl
   have ii:=Rv.inn
   have hno:=C1 E rfl hk Rv
   have E1:=E.mono s1
   cases ii with
   | @lst la lv _ h r=>
    refine⟨_,rfl,.inl ⟨⟨_,.inl h⟩,k _ H1 s1 λHi keep=> ?_⟩⟩
    have hh:Rd Hi la (.lst lv):=by
     rcases h with h| ⟨o,h⟩
     ·exact .inl (keep _ _ h (hno _ rfl))
     ·exact .inr ⟨o,keep _ _ h (hno _ rfl)⟩
    refine⟨λi d hd=> ?_,⟨_,.inl hh,by rw[k8,r.1];exact Gaq _⟩⟩
    rw[k9] at hd
    obtain⟨y,hy,rfl⟩:=Gal.mp hd
    obtain⟨v,h1,h2⟩:=r.get hy
    refine⟨⟨_,v,.inl hh,h1⟩,λz H2 ⟨p,w,hp,ez,eH,ew⟩=> ?_⟩
    subst ez eH
    have:=ew _ (.inl hh)
    rw[h1] at this;cases this
    refine⟨bG hp, ?_⟩
    have rp:=E1.mM keep h2
    rw[show(((0+i:Nat)):Int)=(i:Int) by simp]
    exact fQ hp (.cons (.int _) (.cons rp .nil))
 ·rename_i xs hd
  have hd' :d= .tup xs:=hd
  subst hd'
  cases hf
  refine⟨H₀,Bad,env,[⟨kd,.tup xs⟩],E,by unfold a5 aq;rw[hr];rfl,λvs H1 s1 Rs=> ?_⟩
  cases Rs with
  |cons Rv tl=>
   cases tl
   have ii:=Rv.inn
   have E1:=E.mono s1
   cases ii with
   | @tup la lv _ h r=>
    refine⟨_,rfl,.inr ⟨⟨_,SqT.of h⟩,k _ H1 s1 λHi keep=> ?_⟩⟩
    have hh:Hi la=some (.tup lv):=keep _ _ h λw=>E1.fR w h trivial
    refine⟨λi d hd=> ?_,⟨_,SqT.of hh,by rw[k8,r.1];exact Gaq _⟩⟩
    rw[k9] at hd
    obtain⟨y,hy,rfl⟩:=Gal.mp hd
    obtain⟨v,h1,h2⟩:=r.get hy
    refine⟨⟨_,v,SqT.of hh,h1⟩,λz H2 ⟨p,w,hp,ez,eH,ew⟩=> ?_⟩
    subst ez eH
    have:=ew _ (SqT.of hh)
    rw[h1] at this;cases this
    refine⟨bG hp, ?_⟩
    have rp:=E1.mM keep h2
    rw[show(((0+i:Nat)):Int)=(i:Int) by simp]
    exact fQ hp (.cons (.int _) (.cons rp .nil))
 ·cases hf
end
open PySem PySem.Spec PyProof.Rows L2
open PySem PySem.Spec PyProof.Rows L2
namespace Fr
end Fr
noncomputable def OU(h:Heap)(it a:Addr)(i:Int):Prop:=∃o,h.get? it=some o∧o.cls= .type "reversed"∧o.data= .fields #[.ref a,rawInt i]
open PySem PySem.Spec PyProof.Rows L2
section
variable{X:Cx}{e a b c:Expr}{f g h:DE}{pos:Pos}
theorem FA{xs:List V}{its:List Value}(r:Vals xs its){x:V}{u:Value}(hx:RelV x u)(j:Int):Vals (gE xs j x) (PySem.W.kl_ins its j u):=by
 have hl:=r.length
 unfold gE PySem.W.kl_ins
 rw[hl]
 have tk:∀{xs:List V} {its:List Value} (r:Vals xs its) (n:Nat),Vals (xs.take n) (its.take n):=by
  intro xs its r
  induction r with
  |nil=>intro n;simp;exact .nil
  |cons h t ih=>intro n;cases n with
   |zero=>exact .nil
   |succ n=>exact .cons h (ih n)
 have dr:∀{xs:List V} {its:List Value} (r:Vals xs its) (n:Nat),Vals (xs.drop n) (its.drop n):=by
  intro xs its r
  induction r with
  |nil=>intro n;simp;exact .nil
  |cons h t ih=>intro n;cases n with
   |zero=>exact .cons h t
   |succ n=>exact ih n
 exact(tk r _).append (.cons hx (dr r _))
noncomputable def Il:V→List V→Hp→VK→Prop:=λx vs H Q=>∃l xs j y,x= .ref l∧vs=[.int j,y]∧H l=some (.lst xs)∧xs.length<sizeLine∧-(2^62)≤j∧j<2^62∧Q .non (upd H l (.lst (gE xs j y)))
theorem Ds:MtM X "list.insert" Il:=by
 intro pins z σ H x vs v us Q I rx rv h
 obtain⟨l,xs,j,y,rfl,rfl,hH,hz,h1,h2,q⟩:=h
 cases rx
 cases rv with
 |cons r1 t1=>
  cases t1 with
  |cons r2 t2=>
   cases t2
   obtain⟨t,rfl⟩:=r1
   rename_i u
   obtain⟨_,its,n,r,hl,e⟩:=I.Hz hH
   have hfit:Builtin.List.listFitsIndex j=true:=by simp[Builtin.List.listFitsIndex];omega
   refine call_meets F.slot_list_insert ⟨_,e,rfl⟩ F.entry_list_insert (F.args_list_insert_3 _ _ _) (PySem.AutoSeq1.list_insert_list_int_val_1 l its.toArray n j t u (by simp[hfit]) (by rw[Gan];omega)) ⟨e, ?_⟩
   refine⟨.non,_,I.K5 (its' :=PySem.W.kl_ins its j u) hH e ?_ (FA r r2 j) ?_,rfl,q⟩
   ·show(its.toArray.extract 0 _).push u++its.toArray.extract _=_
    rw[PySem.W.kl_ins_eq]
    simp only[Gan]
    rfl
   ·rw[u3];omega
theorem Dt{i:Nat}{x:Str}{px apos cpos:Pos}(hN:X.N[i]? =some x)(hv:Vis X.env.scope x)(he:PEd X e f)(ha:PEd X a g)(hd:(x==("__debug__":Str))=false:=by decide)(hcd:(x==("__classdict__":Str))=false:=by decide)
  (hs1:starEach [e,a] X.env=(false,eval e X.env)::starEach [a] X.env:=by rfl)(hs2:starEach [a] X.env=[(false,eval a X.env)]:=by rfl)
  (hbase:attributeBase (.Name x px) "insert" X.env (eval (.Name x px) X.env)=eval (.Name x px) X.env:=by rfl)
  (hfew:((backTo cpos (starEach [e,a] X.env)).all (λx=> !x.1)&&(backToKw cpos (keywordEach [] X.env)).all (λx=>x.1.isSome)
   &&decide (([e,a]:List Expr).length+([]:List Keyword).length+(if([]:List Keyword).isEmpty then 0 else 1)<30))=true:=by rfl)
  (hline:(apos.endLine==cpos.line)=true:=by rfl)(hs:swapsWith (.Call (.Attribute (.Name x px) "insert" apos) [e,a] [] cpos) none pos.line X.env=pure false:=by rfl):
  PSd X (.Expr (.Call (.Attribute (.Name x px) "insert" apos) [e,a] [] cpos) pos) (MN i f g):=by
 refine(qO (BM Gcs PySem.F.slot_list_insert PySem.F.type_list_insert Ds (lF hN hv hd hcd) (a4 he (a4 ha aa hs2) hs1) hbase hfew hline hs1 (by rw[hs2];rfl)) hs).aU ?_
 rintro D σ H ⟨H₀,Bad,env,o,E,e,k⟩
 obtain⟨r,hr,e⟩:=bind_some e
 obtain⟨r2,hr2,e⟩:=bind_some e
 obtain⟨d,hd,e⟩:=bind_some e
 have q:=om hd
 obtain⟨kd,rd⟩:=r
 split at e
 ·rename_i xs j hj
  have hj' :rd= .int j:=hj
  split at e
  ·rename_i z
   rw[Gau,Gau] at z
   obtain⟨z1,z2,z3⟩:=z
   cases e
   subst hj'
   obtain⟨a,h1,h2,h3,h4,h5,h6⟩:=E.ow i _ (.inl q)
   obtain⟨vs,hH,rp⟩:=oq h4 h6
   refine⟨_,h1,.inl ⟨rfl,vs,.inl (.inl hH)⟩,H₀,Bad,env,[⟨kd,.int j⟩,r2],E,by unfold a5 aq;rw[hr,hr2];rfl,λws H2 s2 Rs=> ?_⟩
   cases Rs with
   | @cons _ v _ _ R1 tl=>
    cases tl with
    | @cons _ v2 _ _ R2 tl=>
    cases tl
    have i1:=R1.inn
    cases i1
    have hH2:=s2 _ _ hH
    have sj:=fS z3
    refine⟨a,vs,j,v2,rfl,rfl,hH2,by rw[←rp.1,←size_eq];exact GaD z2,sj.1,sj.2, ?_⟩
    have E2:=E.mono s2
    have rep1:=R2.rep E z1
    have rp1:b8 X.K (Cln Bad env σ) H2 xs vs:=rp.gen (.of_same s2) λ_ f _=>f
    have rp2:b8 X.K (Cln Bad env σ) H2 (gE xs j r2.d) (gE vs j v2):=by
     unfold gE
     rw[←rp1.1]
     exact(rp1.take _).append (.cons rep1 (rp1.drop _))
    obtain⟨E3,p3⟩:=E2.change (d' := .lst (gE xs j r2.d)) (o:= .lst (gE vs j v2)) q h1 trivial rfl (.lst (.inl aM) (rp2.gen (λb o hb w=>by
     have:b≠a:=by
      rintro rfl
      rcases w with w|w
      ·exact w.2 i (by rw[q];trivial) h1
      ·rw[hH2] at hb;cases hb;exact w
     rw[az this];exact hb) λ_ f _=>f))
    exact k σ _ E3 ((Stp.of_same s2).trans p3)
  ·cases e
 ·cases e
theorem rM{α β:Type}{F:α→β→Prop}:∀{xs:List α} {ys:List β},xs.length=ys.length→(∀(i:Nat) x y,xs[i]? =some x→ys[i]? =some y→F x y)→Paired F xs ys
 |[],[],_,_=> .nil
 |[],_::_,h,_=>by cases h
 |_::_,[],h,_=>by cases h
 |x::xs,y::ys,h,g=> .cons (g 0 x y rfl rfl) (rM (by simpa using h) λi a b ha hb=>g (i+1) a b (by simpa using ha) (by simpa using hb))
theorem rN{K:aE}{F:Addr→Prop}{H:Hp}{α:Type}{dd:α→D}{vv:α→V}(h:∀n,Rep K F H (dd n) (vv n)):∀{l:List α},b8 K F H (l.map dd) (l.map vv)
 |[]=> .nil
 |x::l=> .cons (h x) (rN h)
end
noncomputable def N7(prog:Program)(w:World)(A:Around)(op:CmpOp)(G:Shared→Prop)(P:Nat→Value→Prop)(bt:Nat→Nat→Bool):Prop:=
 ∀i j vi vj (z:Shared) (Q:Value→Shared→Prop) (E:Value→Shared→Prop),G z→P i vi→P j vj→Q (.bool (bt i j)) z→wpAny (model prog w) A (richCompare op vi vj) Q E z
noncomputable def mmO(mx:Bool):CmpOp:=bif mx then .Gt else .Lt
noncomputable def mmN(mx:Bool):String:=bif mx then "max.loop" else "min.loop"
noncomputable def kb:Option Value→Array Value
 |none=>#[]
 |some v=>#[v,v]
section
variable{prog:Program}{w:World}{A:Around}{R:Result→Shared→Prop}{I B:Addr}{kw:List (Str×Value)}{z:Shared}
theorem vq{old:Option Value}{v:Option Value}{Q:Unit→Shared→Prop}{E:Value→Shared→Prop}(e:wY z.heap B (kb old))(h:∀h',wY h' B (kb v)→(∀b o,b≠B→z.heap.get? b=some o→h'.get? b=some o)→Q () {z with heap:=h' }):
  wpAny (model prog w) A (updateSeq B λ_=>kb v) Q E z:=by
 obtain⟨c,e⟩:=e
 have l1:(kb old).size≤2:=by cases old<;>simp[kb]
 have l2:(kb v).size≤2:=by cases v<;>simp[kb]
 have:=GbC
 refine Gdn e rfl (h _ ⟨_,Gbv _ e rfl⟩ λb o n q=> ?_) (by omega) (by omega)
 rw[Gbr _ _ (GaZ n),q]
theorem Cd(mx:Bool){old:Option Value}
  (h:wpAny (model prog w) A.in1 (pyNext (.ref I)) (λr s' =>wY s'.heap B (kb old)∧match r,old with
   |none,some v=>∀h',(∀b o,b≠B→s'.heap.get? b=some o→h'.get? b=some o)→R (.ok (.ret v)) {s' with heap:=h' }
   |none,none=>∃k d t,kw=(k,d)::t∧R (.ok (.ret d)) s'
   |some x,some v=>∃bt:Bool,(∀Q E,Q (.bool bt) s' →wpAny (model prog w) A.in1 (richCompare (mmO mx) x v) Q E s')∧∀h',wY h' B (kb (some (if bt then x else v)))→(∀b o,b≠B→s'.heap.get? b=some o→h'.get? b=some o)→codeAny (model prog w) A (.builtin (mmN mx) ⟨[.ref I,.none,.ref B],kw⟩) R {s' with heap:=h' }
   |some x,none=>∀h',wY h' B (kb (some x))→(∀b o,b≠B→s'.heap.get? b=some o→h'.get? b=some o)→codeAny (model prog w) A (.builtin (mmN mx) ⟨[.ref I,.none,.ref B],kw⟩) R {s' with heap:=h' }) (λ_ _=>False) z)(hB:wY z.heap B (kb old)):
  codeAny (model prog w) A (.builtin (mmN mx) ⟨[.ref I,.none,.ref B],kw⟩) R z:=by
 obtain⟨c,e⟩:=id hB
 have quiet:Code.quiet (.builtin (mmN mx) ⟨[.ref I,.none,.ref B],kw⟩)=true:=by cases mx<;>exact plainId_quiet (by decide+kernel) _
 cases mx
 all_goals
  first
  |(apply Gdo F.entry_min_loop;rw[Gdp F.plain_min_loop])
  |(apply Gdo F.entry_max_loop;rw[Gdp F.plain_max_loop])
  refine Gac (wpAny_seqItems e rfl (Gac (wpAny_tryCatch (GbX h (λr s' q=> ?_) λ_ _ q=>q.elim))))
  obtain⟨e',q⟩:=q
  rcases r with _|x<;>rcases old with _|v
  ·obtain⟨k,d,t,rfl,q⟩:=q
   exact Gac (Gcj (Gao q))
  ·exact Gac (vq (v:=none) e' λh' _ k=>Gac (Gda (Gao (q h' k))))
  ·exact Gac (Gao (Gac (vq (v:=some x) e' λh' l k=>Gao ⟨quiet,q h' l k⟩)))
  ·obtain⟨bt,q1,q2⟩:=q
   refine Gac (Gao (Gac (wpAny_tryCatch (GcJ (Gac (q1 _ _ (Gac (GcJ (GbG (Gac (Gda (Gao ?_))))))))))))
   cases bt
   ·exact Gac (Gda (Gao ⟨quiet,q2 _ e' λ_ _ _ k=>k⟩))
   ·exact Gac (vq (v:=some x) e' λh' l k=>Gac (Gda (Gao ⟨quiet,q2 h' l k⟩)))
variable{fp wr:List Addr}{n:Nat}{P:Nat→Value→Prop}{St:Nat→Heap→Prop}{G:Shared→Prop}
theorem Ce(mx:Bool)(W:Walks prog w A.in1 I fp wr n P St)(bt:Nat→Nat→Bool)(hcmp:N7 prog w A.in1 (mmO mx) G P bt)(hf:B∉fp)
  (hG:∀h' tk,(∀b o,b∉wr→b≠B→z.heap.get? b=some o→h'.get? b=some o)→G {z with heap:=h',toks:=tk})
  (hE:n=0→∃k d t,kw=(k,d)::t∧∀h' tk,(∀b o,b∉wr→b≠B→z.heap.get? b=some o→h'.get? b=some o)→R (.ok (.ret d)) {z with heap:=h',toks:=tk})
  (hR:0<n→∀v h' tk,P (argBest bt (n -1)) v→(∀b o,b∉wr→b≠B→z.heap.get? b=some o→h'.get? b=some o)→R (.ok (.ret v)) {z with heap:=h',toks:=tk}):
  ∀(k i:Nat) (old:Option Value) (h:Heap) (tk:Nat),i+k=n→St i h→wY h B (kb old)→(∀b o,b∉wr→b≠B→z.heap.get? b=some o→h.get? b=some o)→(match old with|none=>i=0|some v=>0<i∧P (argBest bt (i -1)) v)→
   codeAny (model prog w) A (.builtin (mmN mx) ⟨[.ref I,.none,.ref B],kw⟩) R {z with heap:=h,toks:=tk}
 |0,i,old,h,tk,hk,st,l,kp,ho=>by
  cases hk
  refine Cd mx (W.done {z with heap:=h,toks:=tk} _ _ st λh' tk' k=> ⟨let⟨c,e⟩:=l;⟨c,k B _ (λm=>hf (W.sub _ m)) e⟩, ?_⟩) l
  have kp' :∀b o,b∉wr→b≠B→z.heap.get? b=some o→h'.get? b=some o:=λb o q1 q2 q=>k b o q1 (kp b o q1 q2 q)
  cases old with
  |none=>
   obtain⟨a,d,t,q1,q2⟩:=hE ho
   exact⟨a,d,t,q1,q2 h' tk' kp'⟩
  |some v=>exactλh2 k2=>hR ho.1 v h2 tk' ho.2 λb o q1 q2 q=>k2 b o q2 (kp' b o q1 q2 q)
 |k+1,i,old,h,tk,hk,st,l,kp,ho=>by
  refine Cd mx (W.item i {z with heap:=h,toks:=tk} _ _ (by omega) st λx h' tk' hP st' k' => ⟨let⟨c,e⟩:=l;⟨c,k' B _ (λm=>hf (W.sub _ m)) e⟩, ?_⟩) l
  have kp' :∀b o,b∉wr→b≠B→z.heap.get? b=some o→h'.get? b=some o:=λb o q1 q2 q=>k' b o q1 (kp b o q1 q2 q)
  have go:∀v h2,wY h2 B (kb (some v))→(∀b o,b≠B→h'.get? b=some o→h2.get? b=some o)→P (argBest bt i) v→codeAny (model prog w) A (.builtin (mmN mx) ⟨[.ref I,.none,.ref B],kw⟩) R {z with heap:=h2,toks:=tk' }:=λv h2 l2 k2 hv=>
   Ce mx W bt hcmp hf hG hE hR k (i+1) (some v) h2 tk' (by omega) (W.frame _ _ _ st' λb m o q=>k2 b o (λe=>hf (e▸m)) q) l2 (λb o q1 q2 q=>k2 b o q2 (kp' b o q1 q2 q)) ⟨Nat.succ_pos _,hv⟩
  cases old with
  |none=>
   cases ho
   exactλh2 l2 k2=>go x h2 l2 k2 hP
  |some v=>
   obtain⟨pos,hv⟩:=ho
   obtain⟨j,rfl⟩:∃j,i=j+1:=⟨i -1,by omega⟩
   refine⟨bt (j+1) (argBest bt j),λQ E q=>hcmp _ _ x v _ Q E (hG h' tk' kp') hP hv q,λh2 l2 k2=>go _ h2 l2 k2 ?_⟩
   show P (if bt (j+1) (argBest bt j)=true then j+1 else argBest bt j) _
   split
   ·exact hP
   ·exact hv
theorem Bb(a d:Value):argsOk "min" ⟨[a],[(Str.ofString "default",d)]⟩:=by unfold argsOk;kernel_rfl
theorem Bc(a d:Value):argsOk "max" ⟨[a],[(Str.ofString "default",d)]⟩:=by unfold argsOk;kernel_rfl
noncomputable def mmF(mx:Bool):String:=bif mx then "max" else "min"
noncomputable abbrev MMs (prog:Program) (w:World) (A:Around) (mx:Bool) (od:Option Value) (Q:Value→Shared→Prop) (it:Value) (s₂:Shared):Prop:=∃I fp wr n P St bt G,it= .ref I∧Walks prog w A.in1 I fp wr n P St∧St 0 s₂.heap∧(∀b∈fp,b<s₂.heap.objs.size)∧N7 prog w A.in1 (mmO mx) G P bt∧
 (∀h' tk,(∀b o,b∉wr→s₂.heap.get? b=some o→h'.get? b=some o)→G {s₂ with heap:=h',toks:=tk})∧(n=0→∃d,od=some d∧∀h' tk,(∀b o,b∉wr→s₂.heap.get? b=some o→h'.get? b=some o)→Q d {s₂ with heap:=h',toks:=tk})∧
 (0<n→∀v h' tk,P (argBest bt (n -1)) v→(∀b o,b∉wr→s₂.heap.get? b=some o→h'.get? b=some o)→Q v {s₂ with heap:=h',toks:=tk})
theorem oy(mx:Bool)(od:Option Value){E Q:Value→Shared→Prop}{it:Value}{s₂:Shared}(q:MMs prog w A mx od Q it s₂):codeAny (model prog w) A (.builtin (mmN mx) ⟨[it,.none,.ref s₂.heap.objs.size],od.toList.map λd=>(Str.ofString "default",d)⟩) (λr s' =>match r with| .ok (.ret v)=>Q v s' | .ok _=>False| .error e=>E e s') {s₂ with heap:=s₂.heap.push {cls:= .type "list",data:= .seq #[]}}:=by
 obtain⟨I,fp,wr,n,P,St,bt,G,rfl,W,st,lt,hc,hG,h0,hv⟩:=q
 have up:∀{h' :Heap},(∀b o,b∉wr→b≠s₂.heap.objs.size→s₂.heap.get? b=some o→h'.get? b=some o)→∀b o,b∉wr→s₂.heap.get? b=some o→h'.get? b=some o:=λk b o q e=>k b o q (GaK (Gat e)) e
 refine Ce (z:=s₂) mx W bt hc (λm=>Gbj _ (lt _ m)) (λh' tk k=>hG h' tk (up k)) (λn0=> ?_) (λp v h' tk hp k=>hv p v h' tk hp (up k)) n 0 none _ s₂.toks (GcB _) (W.frame _ _ _ st λb _ o e=>Gaf _ e) ⟨0,GaA _ rfl⟩ (λb o _ _ e=>Gaf _ e) rfl
 obtain⟨d,rfl,hd⟩:=h0 n0
 exact⟨_,d,_,rfl,λh' tk k=>hd h' tk (up k)⟩
theorem Im(mx:Bool)(od:Option Value){x:Value}{E Q:Value→Shared→Prop}(h:wpAny (model prog w) A.in1 (pyIter x) (MMs prog w A mx od Q) E z):wpAny (model prog w) A (call (.builtin (mmF mx)) [x] (od.toList.map λd=>(Str.ofString "default",d))) Q E z:=by
 have quiet:∀a,Code.quiet (.builtin (mmN mx) a)=true:=λa=>by cases mx<;>exact plainId_quiet (by decide+kernel) _
 cases mx<;>cases od
 ·exact GcC F.kind_min F.plain_min F.entry_min (F.args_min1 _) (Gac (wpAny_of_eq (a:=[none,none]) rfl (Gac (Gao (Gac (on h λ_ _ q=>Gac (GaX (Gao ⟨quiet _,oy _ _ q⟩))))))))
 ·exact GcC F.kind_min F.plain_min F.entry_min (Bb _ _) (Gac (wpAny_of_eq (a:=[none,some _]) rfl (Gac (Gao (Gac (on h λ_ _ q=>Gac (GaX (Gao ⟨quiet _,oy _ _ q⟩))))))))
 ·exact GcC F.kind_max F.plain_max F.entry_max (F.args_max1 _) (Gac (wpAny_of_eq (a:=[none,none]) rfl (Gac (Gao (Gac (on h λ_ _ q=>Gac (GaX (Gao ⟨quiet _,oy _ _ q⟩))))))))
 ·exact GcC F.kind_max F.plain_max F.entry_max (Bc _ _) (Gac (wpAny_of_eq (a:=[none,some _]) rfl (Gac (Gao (Gac (on h λ_ _ q=>Gac (GaX (Gao ⟨quiet _,oy _ _ q⟩))))))))
end
section
variable{X:Cx}{e a b c:Expr}{f g h:DE}{pos:Pos}
noncomputable def Ks(K:aE)(dv:V)(t:TA):TE:=λσ H Q=>t σ H λvs H1=>∃(p:Addr) (ns:List Int),vs=[.ref p]∧(SqL K H1 p (ns.map V.int)∨SqT K H1 p (ns.map V.int))∧Q (match ns with|[]=>dv|n::ns=> .int (B1 n ns)) H1
theorem Io{p pos kp:Pos}{dx:Expr}{dv:V}{t:TA}(hc:X.calm=true)(hg:Gl X "max")(hm:X.mg "max"=none)(ha:PA X [e] t)(hd:PE X dx (tC dv))(hs:starEach [e] X.env=[(false,eval e X.env)]:=by rfl):PE X (.Call (.Name "max" p) [e] [⟨some "default",dx,kp⟩] pos) (Ks X.K dv t):=by
 intro pins z σ H Q I h
 refine GcM (nJ I hg hm Fc ?_)
 refine PyProof.Rows.callWith_kw (thn (ha pos pins z σ H _ I h) λus s1 ⟨vs,H1,I1,r1,q1⟩=> ?_) (by rw[hs];rfl) (by rw[hs];rfl) rfl rfl
 obtain⟨l,ns,e1,hq,q⟩:=q1
 subst e1
 cases r1 with
 |cons r rr=>
  cases rr
  cases r
  refine PyProof.Rows.kws_cons (thn (hd pins s1 σ H1 (λv H2=>v=dv∧H2=H1) I1 ⟨rfl,rfl⟩) λdu s2 ⟨v,H2,I2,r2,e2,e3⟩=>PyProof.Rows.kws_nil ?_)
  subst e2 e3
  show wpAny _ _ (call (.builtin "max") [.ref l] [(Str.ofString "default",du)]) _ _ _
  refine Im true (some du) (wU hc I2 hq λIt fp wr P St s₃ W st lt hP kept=> ⟨It,fp,wr,_,P,St,_,λ_=>True,rfl,W,st,lt,λi j vi vj zz Q' E' _ hi hj hq' =>CmpOf.ints_gt (vh ns) (wW hP) i j vi vj zz Q' E' hi hj hq',λ_ _ _=>trivial,λhn=> ⟨du,rfl,λh' tk hk=> ?_⟩,λhn u h' tk hu hk=> ?_⟩)
  ·cases ns with
   |nil=>exact⟨v,H2,kept h' tk hk,r2,q⟩
   |cons n ns=>simp at hn
  ·cases ns with
   |nil=>simp at hn
   |cons n ns=>
    obtain⟨t,rfl⟩:=wW hP _ _ hu
    rw[show((n::ns).map V.int).length -1=ns.length by simp,Fh _ (Gaq _),List.take_length]
    exact⟨.int (B1 n ns),H2,kept h' tk hk,⟨t,rfl⟩,q⟩
theorem Ip{p pos kp:Pos}{dx:Expr}{dd:D}{dv:V}(hc:X.calm=true)(hg:Gl X "max")(hm:X.mg "max"=none)(he:PEd X e f)(hd:PE X dx (tC dv))(hdv:∀K F H,Inn K F H dd dv)(ht:dd.top=false)(hs:starEach [e] X.env=[(false,eval e X.env)]:=by rfl):PEd X (.Call (.Name "max" p) [e] [⟨some "default",dx,kp⟩] pos) (mmE B1 dd f):=by
 refine(Io hc hg hm (a4 he aa hs) hd hs).aU ?_
 rintro σ H Q ⟨H₀,Bad,env,rv,E,e,k⟩
 obtain⟨r,hr,e⟩:=bind_some e
 refine⟨H₀,Bad,env,[r],E,by unfold a5 aq;rw[hr];rfl,λvs H1 s1 Rs=> ?_⟩
 cases Rs with
 |cons R1 tl=>
  cases tl
  unfold mmD at e
  obtain⟨ds,h1,e⟩:=bind_some e
  obtain⟨ns,h2,e⟩:=Gal.mp e
  obtain⟨p,vs,rfl,hq,rr⟩:=B5 R1.inn h1
  rw[C7 rr h2] at hq
  refine⟨p,ns,rfl,hq, ?_⟩
  subst e
  cases ns with
  |nil=>exact k _ _ s1 ((hdv _ _ _).rep λa _ w=>by rw[ht] at w;cases w)
  |cons n ns=>exact k _ _ s1 (.int _)
end
section
variable{prog:Program}{w:World}{A:Around}{E:Value→Shared→Prop}{z:Shared}
theorem FC{d:Addr}{es:Array DictEntry}{ep:Nat}{Q:Value→Shared→Prop}(hd:(d==sysModules)=false)(hm:lV z.heap d es ep)
  (hQ:Q (.ref z.heap.objs.size) {z with heap:=z.heap.push {cls:= .type "dict_keyiterator",data:= .fields #[.ref d,.int 0 0,.int es.size 0,.int ep 0]}}):wpAny (model prog w) A (pyIter (.ref d)) Q E z:=by
 have hT:=hm.ty
 apply wpAny_pyIter_slot hT F.slot_dict_iter
 apply Gbx F.slot_dict_iter hT F.entry_dict_iter (ha:=F.args_dict_iter_1 _)
 wp_walk using Gdi hT,vk hm,C8 hm,GaX
 ·exact⟨_,rfl,_,_,⟨_,GaA _ rfl,rfl⟩,GcD.lookup,hQ⟩
 ·size_fits
theorem A1{it d:Addr}{i ep:Nat}{es:Array DictEntry}{Q:Option Value→Shared→Prop}(hh:A.handled=none)(hit:z.heap.IsKeyIter it d i es.size ep)(hm:lV z.heap d es ep)
  (hQ:∀e h',es[i]? =some e→h'.IsKeyIter it d (i+1) es.size ep→Heap.SameBut it z.heap h' →Q (some e.key) {z with heap:=h' })(hE:∀h',es.size≤i→Heap.ExtBut it z.heap h' →Q none {z with heap:=h' }):
  wpAny (model prog w) A (pyNext (.ref it)) Q E z:=by
 have hT:=hit.typeIs
 have hf:FO z.heap it _ _:=hit
 wp_walk using GbS hT GcD,Gbx GcD hT F.entry_dict_keyiterator_next (ha:=F.args_dict_keyiterator_next_1 _),vk hm,C8 hm,Fm hf,Gcz hT
 rw[Jo]
 cases h:es[i]? with
 |some e=>
  wp_walk using Gcz hT,wpAny_isOneOf_keyiter hT,iA hf
  ·rintro h' ⟨f,hs⟩
   wp_walk using wpAny_isOneOf_keyiter f.ty
   exact⟨_,rfl,Gao (hQ e h' h f hs)⟩
  ·show _<4;decide
 |none=>
  wp_walk using Gcz hT,iA hf
  ·rintro h' ⟨f,hs⟩
   refine Fn hh λh2 a k=>Gac (vn k.2 (Gao (hE h2 (by simpa using h) λb o n e=>k.1 b o (hs.extBut b o n e))))
  ·show _<4;decide
theorem Du(hh:A.handled=none)(I d:Addr)(hne:d≠I)(es:Array DictEntry)(ep:Nat):Walks prog w A I [I,d] [I] es.size (λi v=>∃e,es[i]? =some e∧v=e.key) (λi h=>h.IsKeyIter I d i es.size ep∧lV h d es ep):=by
 have out:∀{b:Addr},b∉[I]→b≠I:=λh e=>h (e▸List.mem_singleton_self _)
 refine⟨by simp,λi h h' st k=> ⟨let⟨o,q,r⟩:=st.1;⟨o,k I (by simp) o q,r⟩,st.2.at (k d (by simp))⟩,λi z Q E hi st hQ=> ?_,λz Q E st hQ=> ?_,λ_ _ _ _ st q=>wpAny_pyIter_keyiter st.1 q⟩
 ·exact A1 hh st.1 st.2 (λe h' h f s=>hQ _ h' z.toks ⟨e,h,rfl⟩ ⟨f,st.2.at λo=>s.extBut d o hne⟩ λb o hb=>s.extBut b o (out hb)) λ_ h=>absurd hi (Nat.not_lt.mpr h)
 ·exact A1 hh st.1 st.2 (λe h' h=>absurd (Gcg.mp h).1 (Gbj _)) λh' _ s=>hQ h' z.toks λb o hb=>s b o (out hb)
theorem Bd{R:Result→Shared→Prop}{d:Addr}{es:Array DictEntry}{ep:Nat}(hh:A.handled=none)(hds:(d==sysModules)=false)(hm:lV z.heap d es ep)(hlen:es.size≤sizeLine)(S:Addr)(res:Value)(hS:Emp z.heap S)(hSd:S≠d)
  (hR:∀h' tk acc' c',(∀b o,b≠S→z.heap.get? b=some o→h'.get? b=some o)→h'.get? S=some {cls:= .type "list",dict:=none,data:= .seq acc' c',slots:=#[]}→ItemsOf (λi v=>∃e,es[i]? =some e∧v=e.key) acc' es.size→R (.ok (.ret res)) {z with heap:=h',toks:=tk}):
  wpAny (model prog w) A.in1 (Builtin.List.listExtendWith (.ref S) (.ref d) res) (λfin s' =>match fin with| .done f=>R (.ok f) s' | .again c' =>c'.quiet=true∧codeAny (model prog w) A c' R s') (λe s' =>R (.error e) s') z:=by
 have lS:S<z.heap.objs.size:=let⟨_,e⟩:=hS;Gat e
 have ld:d<z.heap.objs.size:=let⟨o,ho,_⟩:=hm;Gat ho
 have W:=(Du (prog:=prog) (w:=w) (A:=A.in1) hh z.heap.objs.size d (GaK ld) es ep).toS
 have nS:S∉[z.heap.objs.size,d]:=by simp[hSd,GaK lS]
 refine Fo hm.ty rfl rfl (by simp[Builtin.List.listSameRef,hSd]) (FC hds hm (PySem.W.kdl_hint_dict (lV.ty (hm.at λo=>Gaf _)) ⟨let⟨c,e⟩:=hS;⟨c,Gaf _ e⟩,λh2 ⟨c,e⟩ k=> ?_⟩))
 refine codeAny_extend_loopS W hlen S nS res es.size 0 _ #[] c rfl (GbD _) ⟨⟨_,k _ _ (Gco lS) (GaA _ rfl),rfl,rfl⟩,hm.at λo e=>k d o (GaZ hSd) (Gaf _ e)⟩ e (ItemsOf.nil _) λs' acc' c' mv e' it=> ?_
 rw[Moved.eq_with mv]
 refine hR _ _ acc' c' (λb o n e=>mv.heap b o (λm=> ?_) (k b o n (Gaf _ e))) e' it
 have:=Gat e
 simp only[Gaw,GbV,Gdt] at m
 rcases m with rfl|rfl
 ·exact n rfl
 ·exact Gbj _ this
theorem tf{Q:Value→Shared→Prop}{d:Addr}{es:Array DictEntry}{ep:Nat}(hh:A.handled=none)(hds:(d==sysModules)=false)(hm:lV z.heap d es ep)(hlen:es.size≤sizeLine)
  (hQ:∀h' tk acc' c',(∀b o,z.heap.get? b=some o→h'.get? b=some o)→h'.get? z.heap.objs.size=some {cls:= .type "list",dict:=none,data:= .seq acc' c',slots:=#[]}→ItemsOf (λi v=>∃e,es[i]? =some e∧v=e.key) acc' es.size→Q (.ref z.heap.objs.size) {z with heap:=h',toks:=tk}):
  wpAny (model prog w) A (call (.type "list") [.ref d]) Q E z:=by
 have old:∀{b o},z.heap.get? b=some o→b≠z.heap.objs.size:=λe=>GaK (Gat e)
 refine Dn λh1 e k _=>Bd (A:=A.in1) (z:={z with heap:=h1}) hh hds (hm.at (k d)) hlen _ _ e (let⟨o,ho,_⟩:=hm;GaZ (old ho)) λh' tk acc' c' k' e' it=> ?_
 exact⟨rfl,hQ h' tk acc' c' (λb o q=>k' b o (old q) (k b o q)) e' it⟩
end
section
variable{X:Cx}{e a b c:Expr}{f g h:DE}{pos:Pos}
noncomputable def Be(H:Hp)(kvs:List (List Key×V))(ks:List V):Prop:=ks.length=kvs.length∧∀(i:Nat) p v,kvs[i]? =some p→ks[i]? =some v→∃b,v= .ref b∧H b=some (.tup (p.1.map kV))
theorem Kt{pins:List (Addr×Obj)}{σ:L2.St}{H:Hp}{z:Shared}{d:Addr}{kvs:List (List Key×V)}(I:Inv X pins σ H z)(e:H d=some (.dT kvs)):kvs.length≤sizeLine∧(d==sysModules)=false∧∃(es:Array DictEntry) (ep:Nat) (bs:List Addr),lV z.heap d es ep∧es.size=kvs.length∧bs.length=kvs.length∧
  (∀(i:Nat) p b,kvs[i]? =some p→bs[i]? =some b→H b=some (.tup (p.1.map kV)))∧∀(i:Nat) en b,es[i]? =some en→bs[i]? =some b→en.key= .ref b:=by
 obtain⟨h1,h2,xs,kt,o,es,ep,ho,hx,hd,he,_⟩:=BP I.hok e
 have hl:kvs.length=xs.length:=Paired.length kt
 have hs:es.size=xs.length:=by rw[←GbI,he,Gad]
 refine⟨h1,h2,es,ep,xs.map (·.2.1),⟨o,ho,hx,hd⟩,by omega,by simp[hl], ?_, ?_⟩
 ·have all:∀{l:List (List Key×V)} {m:List (List Key×Addr×Value)},KT H l m→∀(i:Nat) p b,l[i]? =some p→(m.map (·.2.1))[i]? =some b→H b=some (.tup (p.1.map kV)):=by
   intro l m q
   induction q with
   |nil=>intro i p b h;simp at h
   | @cons p q ps qs hq t ih=>
    intro i p' b h1 h2
    cases i with
    |zero=>
     simp at h1 h2
     subst h1 h2
     exact hq.2.1
    |succ i=>exact ih i p' b (by simpa using h1) (by simpa using h2)
  exact all kt
 ·intro i en b h3 h4
  have h5:es.toList[i]? =some en:=by simpa using h3
  rw[he,Gah] at h5
  rw[Gah] at h4
  cases q:xs[i]? with
  |none=>rw[q] at h4;cases h4
  |some x=>
   rw[q] at h4 h5
   cases h4;cases h5
   rfl
theorem vt(hc:X.calm=true):gY X (.type "list") (λxs H Q=>∃a kvs,xs=[.ref a]∧H a=some (.dT kvs)∧∀l ks,H l=none→Be H kvs ks→Q (.ref l) (upd H l (.lst ks))):=by
 intro pins z σ H xs us Q I r h
 obtain⟨d,kvs,rfl,hp,q⟩:=h
 obtain⟨u,rfl,rx⟩:=vals1 r
 cases rx
 obtain⟨h1,h2,es,ep,bs,hr,e1,e2,e3,e4⟩:=Kt I hp
 refine tf (I.ok.hd hc) h2 hr (by omega) λh' tk acc' c' hk hS hacc=> ?_
 refine⟨.ref z.heap.objs.size,_,I.laid (a:=z.heap.objs.size) (o:= .lst (bs.map V.ref)) hk (Gaq _) ⟨by rw[Gad];omega,acc'.toList,c', ?_,by simpa using hS⟩,rfl,q _ _ I.fresh ⟨by rw[Gad,e2],λi p v hp' hv=> ?_⟩⟩
 ·refine rM (by simp[hacc.1,e2,e1]) λi x y hx hy=> ?_
  rw[Gah] at hx
  obtain⟨b,hb,rfl⟩:=Gal.mp hx
  obtain⟨en,h3,rfl⟩:=hacc.2 i y (by simpa using hy)
  exact e4 i en b h3 hb
 ·rw[Gah] at hv
  obtain⟨b,hb,rfl⟩:=Gal.mp hv
  exact⟨b,rfl,e3 i p b hp' hb⟩
theorem Cf{K:aE}{F:Addr→Prop}{H:Hp}(k:Key):Rep K F H (De k) (kV k):=by
 cases k with
 |inl i=>exact .int i
 |inr x=>exact .str x
theorem Dv{K:aE}{F:Addr→Prop}{H:Hp}{kvs:List (List Key×D)}{ws:List (List Key×V)}{ks:List V}(h:kvs.map (·.1)=ws.map (·.1))(hk:Be H ws ks):b8 K F H (u4 kvs) ks:=by
 have hl:kvs.length=ws.length:=by have:=congrArg List.length h;simpa using this
 refine⟨by unfold u4;rw[Gad,hl,hk.1],λi d v e1 e2=> ?_⟩
 unfold u4 at e1
 rw[Gah] at e1
 obtain⟨p,hp,rfl⟩:=Gal.mp e1
 have hi:i<ws.length:=by rw[←hl];exact(Gae.mp hp).1
 have hq:ws[i]? =some ws[i]:=Gaa hi
 have ep:p.1=ws[i].1:=by
  have:=congrArg (λl=>l[i]?) h
  simp only[Gah,hp,hq,Gcc,Gch] at this
  exact this
 obtain⟨b,rfl,hb⟩:=hk.2 i _ _ hq e2
 have rs:b8 K F H (p.1.map De) (ws[i].1.map kV):=by rw[ep];exact rN λk=>Cf k
 exact .tup hb rs.1 rs.2
theorem A2:CallD X BV (λxs H Q=>∃a kvs,xs=[.ref a]∧H a=some (.dT kvs)∧∀l ks,H l=none→Be H kvs ks→Q (.ref l) (upd H l (.lst ks))):=by
 intro F H ds vs rv Q ps e k
 unfold BV at e
 split at e
 ·cases e
  obtain⟨v,rfl,i⟩:=gL ps
  cases i with
  |dT h r=>
   exact⟨_,_,rfl,h,λl ks hl hk=>k _ _ (bG hl) ⟨l,rfl,hl,pC,rfl,gG hl (Dv r.1 hk)⟩⟩
 ·cases e
end
section
variable{X:Cx}{e a b c:Expr}{f g h:DE}{pos:Pos}
theorem Ku{K:aE}{F:Addr→Prop}{H:Hp}{d:D}{v:V}{k:D}{o:Option D}(i:Inn K F H d v)(e:Df d k=some o):∃p,v= .ref p∧IsD H p:=by
 unfold Df at e
 split at e
 ·cases i with
  |dK h r=>exact⟨_,rfl,.inl ⟨_,.inl h⟩⟩
 ·cases i with
  |dT h r=>exact⟨_,rfl,.inr ⟨_,.inl h⟩⟩
 ·cases e
theorem FD{K:aE}{F:Addr→Prop}{H:Hp}{dx dy rd:D}{y vz:V}{p:Addr}{o' :Option D}(ix:Inn K F H dx (.ref p))(iy:Inn K F H dy y)(e:Df dx dy=some o')(rz:Rep K F H rd vz):∃o,wx H p y o∧Rep K F H (o'.getD rd) (o.getD vz):=by
 obtain⟨g1,g2⟩:=vd ix iy
 have fin:∀{κ:Type} [DecidableEq κ] {kvs:List (κ×D)} {ws:List (κ×V)} {k:κ},bc K F H kvs ws→Rep K F H ((look kvs k).getD rd) ((iI ws k).getD vz):=λ{κ _ kvs ws k} rp=>by
  cases z:look kvs k with
  |none=>rw[ue rp z];exact rz
  |some d=>obtain⟨v,h1,h2⟩:=oj rp z;rw[h1];exact h2
 unfold Df at e
 split at e
 ·obtain⟨k',hk,rfl⟩:=Gal.mp e
  obtain⟨q,ws,eq,rp,gg⟩:=g1 _ k' rfl hk
  cases eq
  exact⟨_,gg,fin rp⟩
 ·obtain⟨k',hk,rfl⟩:=Gal.mp e
  obtain⟨q,ws,eq,rp,gg⟩:=g2 _ _ k' rfl rfl hk
  cases eq
  exact⟨_,gg,fin rp⟩
 ·cases e
theorem Cg{apos cpos:Pos}{o:Expr}(hu:X.A.units+1<cLine)(ho:PEd X o f)(he:PEd X a g)(hd:PEd X b h)(m:M2 X o "get" apos a b cpos):PEd X (.Call (.Attribute o "get" apos) [a,b] [] cpos) (HF f g h):=by
 refine(EI hu ho he hd m).aU ?_
 rintro σ H Q ⟨H₀,Bad,env,rv,E,e,k⟩
 obtain⟨x,hx,e⟩:=bind_some e
 obtain⟨y,hy,e⟩:=bind_some e
 obtain⟨r,hr,e⟩:=bind_some e
 split at e
 ·rename_i hc
  obtain⟨o',e',rfl⟩:=Gal.mp e
  refine⟨H₀,Bad,env,x,E,hx,λvx H1 s1 R1=> ?_⟩
  obtain⟨p,rfl,hD⟩:=Ku R1.inn e'
  refine⟨p,rfl,hD,H₀,Bad,env,y,E.mono s1,hy,λvy H2 s2 R2=> ⟨H₀,Bad,env,r,(E.mono s1).mono s2,hr,λvz H3 s3 R3=> ?_⟩⟩
  have rz:Rep X.K (Cln Bad env σ) H3 r.d vz:=R3.rep ((E.mono s1).mono s2) (by unfold RV.free;rw[hc])
  obtain⟨ov,gg,rp⟩:=FD ((R1.inn.same s2).same s3) (R2.inn.same s3) e' rz
  exact⟨ov,gg,k _ H3 (s1.trans (s2.trans s3)) rp⟩
 ·cases e
end
section
variable{prog:Program}{w:World}{A:Around}{E:Value→Shared→Prop}{s:Shared}
theorem qK(d:Addr)(hd:(d==sysModules)=false):MeetsIn prog w (Builtin.«dict.items» ⟨[.ref d],[]⟩) (λ_ R s=>s.TypeIs (.ref d) "dict"∧R (.ok (.ret (.ref s.heap.objs.size))) {s with heap:=s.heap.push {cls:= .type "dict_items",data:= .fields #[.ref d]}}):=by
 apply MeetsIn.of_wp
 rintro A R s ⟨hm,h⟩
 wp_walk using Gdi hm,GaX
 ·exact⟨_,rfl,h⟩
 ·size_fits
theorem rO{v d:Addr}{es:Array DictEntry}{ep:Nat}{Q:Value→Shared→Prop}(hv:s.heap.IsItemsView v d)(hm:lV s.heap d es ep)
  (hQ:Q (.ref s.heap.objs.size) {s with heap:=s.heap.push {cls:= .type "dict_itemiterator",data:= .fields #[.none,.bool false,.ref d,.int 0 0,.int es.size 0,.int ep 0,.none,.none]}}):wpAny (model prog w) A (pyIter (.ref v)) Q E s:=by
 have f:FO s.heap v _ _:=hv
 apply wpAny_pyIter_slot f.ty F.slot_dict_items_iter
 apply Gbx F.slot_dict_items_iter f.ty F.entry_dict_items_iter (ha:=F.args_dict_items_iter_1 _)
 wp_walk using kI (i:=0) (x:= .ref d) f rfl,vk hm,C8 hm,GaX
 ·exact⟨_,rfl,_,_,⟨_,GaA _ rfl,rfl⟩,GcA.lookup,hQ⟩
 ·simp[sizeOk,Builtin.Dict_items.ownsTuple,Builtin.Dict_items.ownedTupleFields,GbC]
noncomputable abbrev ItI (h:Heap) (it d:Addr) (i n ep:Nat) (f0 f1 ok ov:Value):Prop:=FO h it "dict_itemiterator" #[f0,f1,.ref d,.int i 0,.int n 0,.int ep 0,ok,ov]
noncomputable def Kept(h:Heap)(it:Addr)(f0 f1:Value):Prop:=f0= .none∨∃(a:Addr) (oa:Obj) (f:Bool),f0=rawInt a∧f1= .bool f∧h.get? a=some oa∧a≠it
theorem Dw{it:Addr}{x2 x3 x4 x5 f0 f1 ok ov k v:Value}{Q:Value→Shared→Prop}(f:FO s.heap it "dict_itemiterator" #[f0,f1,x2,x3,x4,x5,ok,ov])(hf:Kept s.heap it f0 f1)
  (h:∀h' g0 g1 ok' ov',FO h' it "dict_itemiterator" #[g0,g1,x2,x3,x4,x5,ok',ov']→((f0= .none∧g0=rawInt s.heap.objs.size∧g1= .bool false)∨(f0≠ .none∧g0=f0∧g1= .bool true))→
   h'.get? s.heap.objs.size=some {cls:= .type "tuple",data:= .seq #[k,v]}→h'.objs.size=s.heap.objs.size+1→(∀b o,b≠it→s.heap.get? b=some o→h'.get? b=some o)→Q (.ref s.heap.objs.size) {s with heap:=h' }):
  wpAny (model prog w) A (Builtin.Dict_items.pairFromOwner (.ref it) 6 k v) Q E s:=by
 have ne:s.heap.objs.size≠it:=Gco f.lt
 apply Gac
 refine wpAny_newTuple ?_
 have f2:=f.at λo=>Gaf {cls:= .type "tuple",data:= .seq #[k,v]}
 have t2:(s.heap.push {cls:= .type "tuple",data:= .seq #[k,v]}).get? s.heap.objs.size=_:=GaA _ rfl
 have k2:∀b o,s.heap.get? b=some o→(s.heap.push {cls:= .type "tuple",data:= .seq #[k,v]}).get? b=some o:=λb o=>Gaf _
 have z2:(s.heap.push {cls:= .type "tuple",data:= .seq #[k,v]}).objs.size=s.heap.objs.size+1:=GcQ ..
 generalize s.heap.push {cls:= .type "tuple",data:= .seq #[k,v]}=p at*
 have fin:∀h',Heap.SameBut it p h' →h'.get? s.heap.objs.size=some {cls:= .type "tuple",data:= .seq #[k,v]}∧h'.objs.size=s.heap.objs.size+1∧∀b o,b≠it→s.heap.get? b=some o→h'.get? b=some o:=λh' sb=> ⟨sb.extBut _ _ ne t2,sb.1.trans z2,λb o n e=>sb.extBut b o n (k2 b o e)⟩
 rcases hf with rfl| ⟨a,oa,b,rfl,rfl,ha,hai⟩
 ·wp_walk using kI (i:=0) (x:= .none) f2 rfl,kI (i:=6) (x:=ok) f2 rfl,kI (i:=7) (x:=ov) f2 rfl,iA f2
  ·rintro h3 ⟨f3,s3⟩
   refine Gac (iA f3 (λh4 ⟨f4,s4⟩=>Gac (iA f4 (λh5 ⟨f5,s5⟩=>Gac (iA f5 (λh6 ⟨f6,s6⟩=>Gac (Gda (Gao ?_))) (by simp))) (by simp))) (by simp))
   obtain⟨q1,q2,q3⟩:=fin h6 (((s3.trans s4).trans s5).trans s6)
   exact h h6 _ _ _ _ f6 (.inl ⟨rfl,rfl,rfl⟩) q1 q2 q3
  ·show _<8;decide
 ·wp_walk using kI (i:=0) (x:=rawInt a) f2 rfl,PySem.W.kdx_alive (k2 a oa ha),kI (i:=1) (x:= .bool b) f2 rfl
  have q1:(Value.bool b !=Value.bool true)= !b:=by cases b<;>rfl
  rw[q1]
  have no:rawInt (a:Int)≠Value.none:=by simp[rawInt]
  cases b with
  |true=>
   wp_walk
   obtain⟨q1,q2,q3⟩:=fin p (Heap.SameBut.refl _ _)
   exact h p _ _ _ _ f2 (.inr ⟨no,rfl,rfl⟩) q1 q2 q3
  |false=>
   wp_walk using iA f2
   ·rintro h3 ⟨f3,s3⟩
    wp_walk
    obtain⟨q1,q2,q3⟩:=fin h3 s3
    exact h h3 _ _ _ _ f3 (.inr ⟨no,rfl,rfl⟩) q1 q2 q3
   ·show _<8;decide
theorem lW{it d:Addr}{i ep:Nat}{es:Array DictEntry}{f0 f1 ok ov:Value}{Q:Option Value→Shared→Prop}(hh:A.handled=none)(hit:ItI s.heap it d i es.size ep f0 f1 ok ov)(hm:lV s.heap d es ep)(hf:Kept s.heap it f0 f1)
  (hQ:∀e h' g0 g1 ok' ov',es[i]? =some e→ItI h' it d (i+1) es.size ep g0 g1 ok' ov' →((f0= .none∧g0=rawInt s.heap.objs.size∧g1= .bool false)∨(f0≠ .none∧g0=f0∧g1= .bool true))→
   h'.get? s.heap.objs.size=some {cls:= .type "tuple",data:= .seq #[e.key,e.val]}→(∀b o,b≠it→s.heap.get? b=some o→h'.get? b=some o)→Q (some (.ref s.heap.objs.size)) {s with heap:=h' })
  (hE:∀h',es.size≤i→Heap.ExtBut it s.heap h' →Q none {s with heap:=h' }):wpAny (model prog w) A (pyNext (.ref it)) Q E s:=by
 have hT:=hit.ty
 wp_walk using GbS hT GcA,Gbx GcA hT F.entry_dict_itemiterator_next (ha:=F.args_dict_itemiterator_next_1 _),vk hm,C8 hm,Fm hit,Gcv hT
 rw[Jo]
 cases h:es[i]? with
 |some e=>
  wp_walk using Gcv hT,wpAny_isOneOf_itemiter hT,iA hit
  ·rintro h1 ⟨f,hs⟩
   replace f:ItI h1 it d (i+1) es.size ep f0 f1 ok ov:=f
   have kp:Kept h1 it f0 f1:=hf.imp id λ⟨a,o,b,q1,q2,q3,q4⟩=> ⟨a,o,b,q1,q2,hs.extBut a o q4 q3,q4⟩
   wp_walk using wpAny_isOneOf_itemiter f.ty,Dw f kp
   intro h' g0 g1 ok' ov' f' g t _ k
   rw[show h1.objs.size=s.heap.objs.size from hs.1] at*
   exact Gao ⟨_,rfl,Gao (hQ e h' g0 g1 ok' ov' h f' g t λb o n q=>k b o n (hs.extBut b o n q))⟩
  ·show _<8;decide
 |none=>
  wp_walk using Gcv hT,iA hit
  ·rintro h' ⟨f,hs⟩
   exact Fn hh λh2 a k=>Gac (vn k.2 (Gao (hE h2 (by simpa using h) λb o n e=>k.1 b o (hs.extBut b o n e))))
  ·show _<8;decide
theorem FE{elts:List Expr}{x1}{pos:Pos}{it d a:Addr}{i n ep:Nat}{f1 ok ov:Value}{Q:Unit→Shared→Prop}(he:ItI s.heap it d i n ep (rawInt a) f1 ok ov)
  (hQ:∀h',ItI h' it d i n ep .none f1 ok ov→Heap.SameBut it s.heap h' →Q () {s with heap:=h' }):
  wpAny (model prog w) A (letOwnedTupleGo (.Tuple elts x1 pos) (.ref it) (.ref a)) Q E s:=by
 obtain⟨⟨c,dc,dt,sl⟩,ho,hc,hd⟩:=id he
 cases hc;cases hd
 apply Gac
 apply wpAny_load ho
 apply wpAny_ite_split<;>intro hi
 ·exact Gac (Gcj (iA he (λh' k=>hQ h' k.1 k.2) (by simp)))
 ·exact absurd (by simp) hi
end
section
variable{X:Cx}{e a b c:Expr}{f g h:DE}{pos:Pos}{pins:List (Addr×Obj)}{σ:St}{H:Hp}{s:Shared}
theorem _root_.L2.Inv.freeze{d:Addr}{kvs:List (List Key×V)}{o:Obj}(I:Inv X pins σ H s)(e:H d=some (.dT kvs))(ho:s.heap.get? d=some o):Inv X pins σ (upd H d (.frz o (.dT kvs))) s:=by
 have:=qQ (t' :=s.toks) (h' :=s.heap) (ob:= .frz o (.dT kvs)) I (by rw[e];trivial) (Heap.SameBut.refl _ _) ⟨o,ho⟩
  ⟨ho,(I.hok d _ e).fu (λb u _ q=>q) (λb q=>by rw[az (BF q e (by simp))];exact q) λb xs q=>by rw[az (BF q e (by simp))];exact q⟩
 exact this
theorem _root_.L2.Inv.Kv{d:Addr}{kvs:List (List Key×V)}{o:Obj}(I:Inv X pins σ H s)(e:H d=some (.frz o (.dT kvs)))(hn:∀o u,X.H₀ d≠some (.frz o u)):Inv X pins σ (upd H d (.dT kvs)) s:=by
 have ne:∀{b:Addr},H b=none→b≠d:=λq z=>by rw[z,e] at q;cases q
 have nt:∀{b:Addr} {u:HO},H b=some u→u≠ .frz o (.dT kvs)→b≠d:=λq hu z=>by rw[z,e] at q;cases q;exact hu rfl
 refine⟨I.ok,I.os,I.bare,⟨I.base.keep,I.base.slot,λb ob q n hx=> ?_,I.base.there,λb xs q=> ?_,λb ob u q=> ?_,λb ps q=> ?_⟩,I.loc,I.cell, ?_,λx c q=> ?_,λp hp=> ?_,λb u q=> ?_,I.len⟩
 ·have:=I.base.free b ob q n hx
  rw[az (ne this)];exact this
 ·have:=I.base.vU b xs q
  rw[az (nt this (by simp))];exact this
 ·have:=I.base.t6 b ob u q
  rw[az (λz=>hn ob u (by rw[←z];exact q))];exact this
 ·obtain⟨more,q'⟩:=I.base.vV b ps q
  exact⟨more,by rw[az (nt q' (by simp))];exact q'⟩
 ·rw[az (ne I.free)];exact I.free
 ·rw[az (ne (I.lC x c q))];exact I.lC x c q
 ·obtain⟨h1,h2,h3⟩:=I.pin p hp
  exact⟨h1,by rw[az (ne h2)];exact h2,h3⟩
 ·have st:∀{b:Addr} {u:HO},cx X.prog X.w H s.heap b u→cx X.prog X.w (upd H d (.dT kvs)) s.heap b u:=λx=>
   x.fu (λ_ _ _ q=>q) (λc q=>by rw[az (nt q (by simp))];exact q) λc xs q=>by rw[az (nt q (by simp))];exact q
  by_cases hb:b=d
  ·subst hb
   rw[aM] at q;cases q
   exact st (I.hok b _ e).2
  ·rw[az hb] at q
   exact st (I.hok b _ q)
theorem Ci{d:Addr}{kvs:List (List Key×V)}{o:Obj}{es:Array DictEntry}{ep:Nat}(I:Inv X pins σ H s)(e:H d=some (.frz o (.dT kvs)))(hd:o.data= .dict es ep):lV s.heap d es ep∧es.size=kvs.length∧
  ∀(i:Nat) p,kvs[i]? =some p→∃b en,es[i]? =some en∧en.key= .ref b∧H b=some (.tup (p.1.map kV))∧RelV p.2 en.val:=by
 obtain⟨ho,h1,h2,xs,kt,o',es',ep',ho',hx,hd',he,_⟩:=I.hok d _ e
 rw[ho] at ho';cases ho'
 rw[hd] at hd';cases hd'
 have hl:kvs.length=xs.length:=Paired.length kt
 have hs:es.size=xs.length:=by rw[←GbI,he,Gad]
 refine⟨⟨o,ho,hx,hd⟩,by omega,λi p hp=> ?_⟩
 have hi:i<xs.length:=by rw[←hl];exact(Gae.mp hp).1
 have rel:∀{l:List (List Key×V)} {m:List (List Key×Addr×Value)},Paired (λ(p:List Key×V) (q:List Key×Addr×Value)=>p.1=q.1∧H q.2.1=some (.tup (p.1.map kV))∧RelV p.2 q.2.2) l m→∀(i:Nat) p q,l[i]? =some p→m[i]? =some q→H q.2.1=some (.tup (p.1.map kV))∧RelV p.2 q.2.2:=by
  intro l m q
  induction q with
  |nil=>intro i p q h;simp at h
  |cons hq t ih=>
   intro i p' q' h1 h2
   cases i with
   |zero=>simp at h1 h2;subst h1 h2;exact hq.2
   |succ i=>exact ih i p' q' (by simpa using h1) (by simpa using h2)
 obtain⟨r1,r2⟩:=rel kt i p xs[i] hp (by simp[hi])
 refine⟨xs[i].2.1,entryOfKey (tupleKind (cA X.prog X.w)) xs[i], ?_,rfl,r1,r2⟩
 have:es.toList[i]? =some (entryOfKey (tupleKind (cA X.prog X.w)) xs[i]):=by rw[he,Gah];simp[hi]
 simpa using this
noncomputable def Kw(d:Addr)(o:Obj)(kvs:List (List Key×V)):It:=
 ⟨λi H=>H d=some (.frz o (.dT kvs))∧i<kvs.length,λi H x H' =>∃p b q,kvs[i]? =some p∧H b=some (.tup (p.1.map kV))∧H q=none∧x= .ref q∧H' =upd H q (.tup [.ref b,p.2]),λi H=>H d=some (.frz o (.dT kvs))∧kvs.length≤i⟩
theorem Bf{prog:Program}{w:World}{A:Around}{E:Value→Shared→Prop}{s:Shared}{it d:Addr}{i n ep:Nat}{f0 f1 ok ov:Value}{Q:Value→Shared→Prop}(hit:ItI s.heap it d i n ep f0 f1 ok ov)(h:Q (.ref it) s):wpAny (model prog w) A (pyIter (.ref it)) Q E s:=by
 have hT:=hit.ty
 apply wpAny_pyIter_slot hT GcR
 apply Gbx GcR hT PySem.W.kcp_entry (ha:=PySem.F.args_dict_itemiterator_iter_1 _)
 exact Gao ⟨_,rfl,_,_,hT,PySem.F.slot_dict_itemiterator_next.lookup,h⟩
theorem Bg{P:Program}{w:World}{K:aE}{elts:List Expr}{x1}{tp:Pos}(it d:Addr)(o:Obj)(kvs:List (List Key×V))(es:Array DictEntry)(ep:Nat)(hd:o.data= .dict es ep)(hne:d≠it):
  Turn P w K (.Tuple elts x1 tp) (Kw d o kvs) [it] it (λi h=>∃f1 ok ov,ItI h it d i es.size ep .none f1 ok ov) where
 mem:=by simp
 obj:=λi h st b hb=>by
  have e:b=it:=by simpa using hb
  subst e
  obtain⟨f1,ok,ov,o,e,c,d⟩:=st
  exact⟨o,e,λv z=>by rw[d] at z;cases z⟩
 keep:=λi h h' st k=>let⟨f1,ok,ov,e⟩:=st;⟨f1,ok,ov,e.at (k it (by simp))⟩
 item:=by
  intro X hP hw hK hc i pins s σ H E I hf st hg
  subst hP hw hK
  obtain⟨he,hi⟩:=hg
  obtain⟨hr,hz,hx⟩:=Ci I he hd
  obtain⟨f1,ok,ov,hit⟩:=st
  obtain⟨b,en,q1,q2,q3,q4⟩:=hx i kvs[i] (by simp[hi])
  refine lW (I.ok.hd hc) hit hr (.inl rfl) (λen' h' g0 g1 ok' ov' q1' hit' hg hT kk=> ⟨_,rfl, ?_⟩) λ_ hl _=>absurd hl (by omega)
  cases q1.symm.trans q1'
  have hg0:g0=rawInt s.heap.objs.size:=by
   rcases hg with⟨_,z,_⟩| ⟨z,_⟩
   ·exact z
   ·exact absurd rfl z
  subst hg0
  refine FE (s:={s with heap:=h' }) hit' λh2 he2 sb=> ?_
  have hlt:it<s.heap.objs.size:=hit.lt
  have kept:∀b o,b∉[it]→s.heap.get? b=some o→h2.get? b=some o:=λb o hb e=>by
   have b1:b≠it:=λz=>hb (by simp[z])
   exact(sb.2 b b1).trans (kk b o b1 e)
  have hT2:h2.get? s.heap.objs.size=some {cls:= .type "tuple",data:= .seq #[en.key,en.val]}:=(sb.2 _ (Gco hlt)).trans hT
  have I1:Inv X pins σ (upd H s.heap.objs.size (.tup [.ref b,kvs[i].2])) {s with heap:=h2}:=I.rK (ch:=[it]) hf rfl rfl kept (Gaq _) (by
   refine⟨by simp[GbC],[en.key,en.val],.cons q2 (.cons q4 .nil),_,hT2,rfl,0,rfl⟩)
  refine⟨.ref s.heap.objs.size,_,I1,rfl,⟨kvs[i],b,_,by simp[hi],q3,I.fresh,rfl,rfl⟩,⟨_,_,_,he2⟩,λb' hb=> ?_⟩
  have z:b' =it:=by simpa using hb
  subst z
  rw[az (GaK hlt)]
  exact(hf b' hb).1
 done:=by
  intro X hP hw hK hc i pins s σ H E I hf st hg
  subst hP hw hK
  obtain⟨he,hi⟩:=hg
  obtain⟨hr,hz,hx⟩:=Ci I he hd
  obtain⟨f0,f1,f2,f3,f4,f5⟩:=hf it (by simp)
  obtain⟨f1',ok,ov,hit⟩:=st
  exact lW (I.ok.hd hc) hit hr (.inl rfl) (λ_ _ _ _ _ _ q=>absurd (Gcg.mp q).1 (by omega)) λh' _ eb=> ⟨rfl,I.turned (t' :=s.toks) (λb o hb e=>eb b o hb e) f0 f1 f3 f4 f5⟩
 self:=λ_ _ _ _ _ st h=>let⟨_,_,_,e⟩:=st;Bf e h
noncomputable def FF(X:Cx)(J:Addr→Obj→List (List Key×V)→It)(to:TE):TI:=λσ H R=>to σ H λx H1=>∃d kvs,x= .ref d∧H1 d=some (.dT kvs)∧∀o,(∀o u,X.H₀ d≠some (.frz o u))→R (J d o kvs) (upd H1 d (.frz o (.dT kvs)))
theorem A3{o:Expr}{elts:List Expr}{x1}{tp:Pos}{to:TE}{apos cpos:Pos}(ho:PE X o to)(hbase:attributeBase o "items" X.env (eval o X.env)=eval o X.env:=by rfl)(hline:(apos.endLine==cpos.line)=true:=by rfl):PI X (.Tuple elts x1 tp) (.Call (.Attribute o "items" apos) [] [] cpos) (FF X Kw to):=by
 intro pins s σ H R I h
 refine wpAny_Call_method0_late hbase hline (thn (ho pins s σ H _ I h) λv s1 ⟨x,H1,I1,r1,d,kvs,ex,hd,q1⟩=> ?_)
 subst ex
 cases r1
 obtain⟨_,hds,xs,kt,ob,es,ep,hob,hx,hdt,he,_⟩:=BP I1.hok hd
 obtain⟨t1,t2,_⟩:=B0 I1 (.inr ⟨kvs,.inl hd⟩)
 refine⟨"dict","dict.items",GcT,PySem.F.slot_dict_items,PySem.F.type_dict_items,t1,t2,Gcy rfl (PySem.evalArgs_none ?_)⟩
 refine call_meetsIn PySem.F.slot_dict_items t1 PySem.F.entry_dict_items (PySem.F.args_dict_items_1 _) (qK d hds) ⟨t1, ?_⟩
 generalize hh1:s1.heap.push {cls:= .type "dict_items",data:= .fields #[.ref d]}=h1
 have hv:h1.IsItemsView s1.heap.objs.size d:=by rw[←hh1];exact⟨_,GaA _ rfl,rfl,rfl⟩
 have k1:∀b u,s1.heap.get? b=some u→h1.get? b=some u:=λb u q=>by rw[←hh1];exact Gaf _ q
 have I2:Inv X pins σ H1 {s1 with heap:=h1}:=I1.kept (t' :=s1.toks) k1
 refine rO (s:={s1 with heap:=h1}) hv ⟨ob,k1 _ _ hob,hx,hdt⟩ ?_
 have I3:Inv X pins σ H1 {s1 with heap:=h1.push {cls:= .type "dict_itemiterator",data:= .fields #[.none,.bool false,.ref d,.int 0 0,.int es.size 0,.int ep 0,.none,.none]}}:=I2.kept (t' :=s1.toks) λb u q=>Gaf _ q
 have I4:=I3.freeze hd (o:=ob) (Gaf _ (k1 _ _ hob))
 have hlt:d<h1.objs.size:=Gat (k1 _ _ hob)
 have fresh:(upd H1 d (.frz ob (.dT kvs))) h1.objs.size=none:=by
  rw[az (Gco hlt)];exact I2.fresh
 refine⟨h1.objs.size,[h1.objs.size],_,_,_,rfl,I4,Bg _ d ob kvs es ep hdt (GaK hlt),⟨_,_,_,_,GaA _ rfl,rfl,rfl⟩,λb hb=> ?_,q1 ob λo u z=> ?_⟩
 ·have z:b=h1.objs.size:=by simpa using hb
  subst z
  exact I2.CO (Gaq _) fresh
 ·have:=I1.base.t6 d o u z
  rw[hd] at this;cases this
end
section
variable{X:Cx}{e a b c:Expr}{f g h:DE}{pos:Pos}
noncomputable def Bh(J:Addr→Obj→List (List Key×V)→It)(vw:List (List Key×D)→List D):Prop:=
 ∀{K:aE} {Hf:Hp} {a:Addr} {o:Obj} {ws:List (List Key×V)} {kvs:List (List Key×D)} {F F' Nn:Addr→Prop},Hf a=some (.frz o (.dT ws))→bc K F Hf kvs ws→
  (∀b u,Hf b=some u→(F b∨isT u)→Nn b)→(∀b,F b→Hf b≠none→F' b)→Dg K F' Nn (J a o ws) (vw kvs) Hf
theorem ur{κ:Type}{K:aE}{F:Addr→Prop}{H:Hp}{kvs:List (κ×D)}{ws:List (κ×V)}(r:bc K F H kvs ws):kvs.length=ws.length:=by
 have:=congrArg List.length r.1
 simpa using this
theorem Dx{κ:Type}{K:aE}{F:Addr→Prop}{H:Hp}{kvs:List (κ×D)}{ws:List (κ×V)}(r:bc K F H kvs ws){i:Nat}{p:κ×D}(e:kvs[i]? =some p):∃q,ws[i]? =some q∧p.1=q.1∧Rep K F H p.2 q.2:=by
 have hi:i<ws.length:=by rw[←ur r];exact(Gae.mp e).1
 have hq:ws[i]? =some ws[i]:=Gaa hi
 refine⟨ws[i],hq, ?_,r.2 i p _ e hq⟩
 have:=congrArg (λl=>l[i]?) r.1
 simp only[Gah,e,hq,Gcc,Gch] at this
 exact this
theorem rP:Bh Kw bN:=by
 intro K Hf a o ws kvs F F' Nn hA r hN hF Hi keep
 have hAi:Hi a=some (.frz o (.dT ws)):=keep a _ hA (hN a _ hA (.inr trivial))
 have r' :bc K F' Hi kvs ws:=r.gen (λb u hb q=>keep b u hb (hN b u hb q)) hF
 refine⟨λi d hd=> ?_,hAi,by unfold bN;rw[Gad,ur r];exact Gaq _⟩
 unfold bN at hd
 rw[Gah] at hd
 obtain⟨p,hp,rfl⟩:=Gal.mp hd
 obtain⟨q,h1,h2,h3⟩:=Dx r' hp
 refine⟨⟨hAi,(Gae.mp h1).1⟩,λx H2 ⟨q',b,t,e2,e3,e4,e5,e6⟩=> ?_⟩
 subst e5 e6
 rw[h1] at e2;cases e2
 refine⟨bG e4,fQ e4 (.cons ?_ (.cons h3 .nil))⟩
 have rs:b8 K F' Hi (p.1.map De) (q.1.map kV):=by rw[h2];exact rN λk=>Cf k
 exact .tup e3 rs.1 rs.2
theorem Iq{tg iter:Expr}{J:Addr→Obj→List (List Key×V)→It}{vw:List (List Key×D)→List D}(hi:PI X tg iter (FF X J (tE X f)))(hv:Bh J vw):PId X tg iter (EO vw f):=by
 refine hi.aU ?_
 rintro σ H R ⟨H₀,Bad,env,ds,E,hf,k⟩
 obtain⟨⟨kd,d⟩,hr,hf⟩:=bind_some hf
 split at hf
 ·rename_i hk
  have hk' :kd= .tn:=hk
  subst hk'
  split at hf
  ·rename_i kvs hd
   have hd' :d= .dT kvs:=hd
   subst hd'
   cases hf
   refine⟨H₀,Bad,env,⟨.tn,.dT kvs⟩,E,hr,λv H1 s1 Rv=> ?_⟩
   obtain⟨a,ev,hn,wr,_,ii⟩:=Rv
   subst ev
   cases ii with
   | @dT _ ws _ h r=>
    refine⟨a,ws,rfl,h,λo hnf=> ?_⟩
    have sm:cC H (upd H1 a (.frz o (.dT ws))):=λb u q=>by
     rw[az (dP q hn)];exact s1 b u q
    have E1:=E.mono sm
    refine k _ _ sm (hv aM (r.gen (λb u hb q=> ?_) λb q _=>q) (λb u hb q=> ?_) λb q hb=> ⟨q.1,hb⟩)
    ·have:b≠a:=by
      rcases q with q|q
      ·exact q.2
      ·intro z;subst z;rw[h] at hb;cases hb;exact q
     rw[az this];exact hb
    ·rcases q with q|q
     ·exactλ⟨i,h1,h2⟩=>q.1.2 i h1.ol.top h2
     ·exactλw=>E1.fR w hb q
  ·cases hf
 ·cases hf
theorem FG{o:Expr}{elts:List Expr}{x1}{tp:Pos}{apos cpos:Pos}(ho:PEd X o f)(hbase:attributeBase o "items" X.env (eval o X.env)=eval o X.env:=by rfl)(hline:(apos.endLine==cpos.line)=true:=by rfl):PId X (.Tuple elts x1 tp) (.Call (.Attribute o "items" apos) [] [] cpos) (EO bN f):=Iq (A3 ho hbase hline) rP
theorem kc{env:Env}{i j:Nat}{sl:Slot}(h:(env.set i none)[j]? =some (some sl)):j≠i∧env[j]? =some (some sl):=by
 by_cases z:i=j
 ·subst z
  rw[Gdy] at h
  simp at h
 ·rw[Gab z] at h
  exact⟨GaZ z,h⟩
theorem oz{env:Env}{i j:Nat}(h:bB (env.set i none)[j]?):j≠i∧bB env[j]? :=by
 by_cases z:i=j
 ·subst z
  rw[Gdy] at h
  split at h
  ·split at h<;>exact h.elim
  ·exact absurd rfl (by assumption)
 ·rw[Gab z] at h
  exact⟨GaZ z,h⟩
theorem A4{env:Env}{i j:Nat}(h:wI (env.set i none)[j]?):j≠i∧wI env[j]? :=by
 by_cases z:i=j
 ·subst z
  rw[Gdy] at h
  split at h
  ·split at h<;>exact h.elim
  ·exact absurd rfl (by assumption)
 ·rw[Gab z] at h
  exact⟨GaZ z,h⟩
theorem aI.N8{K:aE}{H₀:Hp}{Bad:Addr→Prop}{env:Env}{σ:St}{H:Hp}{i:Nat}{a:Addr}{o:Obj}{ws:List (List Key×V)}(E:aI K H₀ Bad env σ H)(ti:bB env[i]?)(ea:σ[i]? =some (some (.ref a)))
  (sole:∀j:Nat,j≠i→bB env[j]? →σ[j]? ≠some (some (.ref a)))(hH:H a=some (.dT ws)):
  aI K (λb=>if b=a then none else H₀ b) (λb=>Bad b∨b=a) (env.set i none) σ (upd H a (.frz o (.dT ws)))∧∀b,Cln (λb=>Bad b∨b=a) (env.set i none) σ b↔Cln Bad env σ b:=by
 have cl:∀b,Cln (λb=>Bad b∨b=a) (env.set i none) σ b↔Cln Bad env σ b:=λb=>by
  constructor
  ·intro q
   refine⟨λz=>q.1 (.inl z),λj tj ej=> ?_⟩
   by_cases z:j=i
   ·subst z;rw[ea] at ej;cases ej;exact q.1 (.inr rfl)
   ·exact q.2 j (by rw[Gab (GaZ z)];exact tj) ej
  ·intro q
   refine⟨λz=> ?_,λj tj ej=>q.2 j (oz tj).2 ej⟩
   rcases z with z|z
   ·exact q.1 z
   ·subst z;exact q.2 i ti ea
 have na:¬Cln Bad env σ a:=λq=>q.2 i ti ea
 have fu:jA (Cln Bad env σ) H (upd H a (.frz o (.dT ws))):=λb u hb q=>by
  have:b≠a:=by
   rcases q with q|q
   ·intro z;subst z;exact na q
   ·intro z;subst z;rw[hH] at hb;cases hb;exact q
  rw[az this];exact hb
 have hF:∀b,Cln Bad env σ b→H b≠none→Cln (λb=>Bad b∨b=a) (env.set i none) σ b:=λb q _=>(cl b).mpr q
 refine⟨⟨λb u q=> ?_,by rw[Gdl];exact E.len,λb q=> ?_,λj d q=> ?_,λj d q=> ?_,λj d q=> ?_,λj k b tj tk ej ek=> ?_⟩,cl⟩
 ·by_cases z:b=a
  ·subst z;rw[Gag rfl] at q;cases q
  ·rw[Gaj z] at q
   rw[az z];exact E.same b u q
 ·rcases q with q|q
  ·by_cases z:b=a
   ·subst z;rw[aM];simp
   ·rw[az z];exact E.bad b q
  ·subst q;rw[aM];simp
 ·obtain⟨v,h1,h2⟩:=E.sh j d (kc q).2
  exact⟨v,h1,h2.gen fu hF⟩
 ·have q' :j≠i∧(env[j]? =some (some (.own d))∨env[j]? =some (some (.lok d))):=by
   rcases q with q|q
   ·exact⟨(kc q).1,.inl (kc q).2⟩
   ·exact⟨(kc q).1,.inr (kc q).2⟩
  have tj:bB env[j]? :=by rcases q'.2 with z|z<;>rw[z]<;>trivial
  obtain⟨a',h1,h2,h3,h4,h5,h6⟩:=E.ow j d q'.2
  have ne:a' ≠a:=λz=>sole j q'.1 tj (by rw[h1,z])
  refine⟨a',h1,by rw[Gaj ne];exact h2,λz=>z.elim h3 ne, ?_,h5,h6.gen fu hF λb eb _ u hu=> ?_⟩
  ·obtain⟨u,hu,wu⟩:=h4
   exact⟨u,by rw[az ne];exact hu,wu⟩
  ·cases eb;rw[az ne];exact hu
 ·have q' :=kc q
  have tj:bB env[j]? :=by rw[q'.2];trivial
  obtain⟨a',h1,h4,h5,h6⟩:=E.bo j d q'.2
  have ne:a' ≠a:=λz=>sole j q'.1 tj (by rw[h1,z])
  refine⟨a',h1, ?_,h5,h6.gen fu hF λb eb _ u hu=> ?_⟩
  ·obtain⟨u,hu,wu⟩:=h4
   exact⟨u,by rw[az ne];exact hu,wu⟩
  ·cases eb;rw[az ne];exact hu
 ·exact E.dj j k b (A4 tj).2 (oz tk).2 ej ek
theorem Rep.Kv{K:aE}{F:Addr→Prop}{H:Hp}{a:Addr}{o:Obj}{ws:List (List Key×V)}{d:D}{v:V}(hH:H a=some (.frz o (.dT ws)))(nf:¬F a)(r:Rep K F H d v):Rep K F (upd H a (.dT ws)) d v:=by
 induction r with
 |non=>exact .non
 |bl b=>exact .bl b
 |int i=>exact .int i
 |str x=>exact .str x
 | @tup b vs ds h l r ih=>
  refine .tup ?_ l ih
  rw[az λz=>by subst z;rw[hH] at h;cases h];exact h
 | @lst b vs ds f h l r ih=>
  have ne:b≠a:=λz=>by subst z;exact nf f
  refine .lst f ?_ l ih
  rcases h with h| ⟨o',h⟩
  ·exact .inl (by rw[az ne];exact h)
  ·exact .inr ⟨o',by rw[az ne];exact h⟩
 | @scr b ns h=>
  refine .scr ?_
  rcases h with⟨o',h⟩|h
  ·exact .inl ⟨o',by rw[az λz=>by subst z;rw[hH] at h;cases h];exact h⟩
  ·exact .inr h
 | @dK b ws' kvs f h l r ih=>exact .dK f (by rw[az λz=>by subst z;exact nf f];exact h) l ih
 | @dT b ws' kvs f h l r ih=>exact .dT f (by rw[az λz=>by subst z;exact nf f];exact h) l ih
theorem Jp{H:Hp}{a:Addr}{K:aE}{F:Addr→Prop}{kvs:List (List Key×D)}(ii:Inn K F H (.dT kvs) (.ref a)):∃ws,H a=some (.dT ws)∧bc K F H kvs ws:=by
 cases ii with
 |dT h r=>exact⟨_,h,r⟩
theorem Dy{K:aE}{H₀:Hp}{Bad:Addr→Prop}{env:Env}{σ:St}{H:Hp}{i:Nat}{kvs:List (List Key×D)}(E:aI K H₀ Bad env σ H)(e:dictAt i env=some kvs):
  ∃a ws,bB env[i]? ∧σ[i]? =some (some (.ref a))∧(∀j:Nat,j≠i→bB env[j]? →σ[j]? ≠some (some (.ref a)))∧H a=some (.dT ws)∧bc K (Cln Bad env σ) H kvs ws:=by
 unfold dictAt at e
 have own:∀{d:D},(env[i]? =some (some (.own d))∨env[i]? =some (some (.lok d)))→d= .dT kvs→∃a ws,bB env[i]? ∧σ[i]? =some (some (.ref a))∧(∀j:Nat,j≠i→bB env[j]? →σ[j]? ≠some (some (.ref a)))∧H a=some (.dT ws)∧bc K (Cln Bad env σ) H kvs ws:=by
  intro d q hd
  subst hd
  obtain⟨a,h1,h2,h3,h4,h5,h6⟩:=E.ow i _ q
  obtain⟨ws,g1,g2⟩:=Jp h6
  refine⟨a,ws,by rcases q with z|z<;>rw[z]<;>trivial,h1,λj hj tj ej=>hj (E.dj i j a (by rcases q with z|z<;>rw[z]<;>trivial) tj h1 ej).symm,g1,g2⟩
 split at e
 ·rename_i q;cases e;exact own (.inl q) rfl
 ·rename_i q;cases e;exact own (.inr q) rfl
 ·rename_i q
  split at e
  ·rename_i hs
   cases e
   obtain⟨a,h1,h4,h5,h6⟩:=E.bo i _ q
   obtain⟨ws,g1,g2⟩:=Jp h6
   refine⟨a,ws,by rw[q];trivial,h1,λj hj tj ej=> ?_,g1,g2⟩
   have hlt:j<env.length:=by
    rcases Nat.lt_or_ge j env.length with z|z
    ·exact z
    ·rw[Gbk z] at tj;exact tj.elim
   have hsj:=Gas.mp hs j (GbM.mpr hlt)
   cases hq:env[j]? with
   |none=>rw[hq] at tj;exact tj.elim
   |some sl=>
    cases sl with
    |none=>rw[hq] at tj;exact tj.elim
    |some sl=>
     cases sl with
     |sh d=>rw[hq] at tj;exact tj.elim
     |own d=>exact hj (E.dj j i a (by rw[hq];trivial) (by rw[q];trivial) ej h1)
     |lok d=>exact hj (E.dj j i a (by rw[hq];trivial) (by rw[q];trivial) ej h1)
     |bor d=>rw[hq] at hsj;simp[hj] at hsj
  ·cases e
 ·cases e
theorem FH{tg iter elt:Expr}{ifs:List Expr}{scope:Scope}{N:List Str}{n i:Nat}{aO:List Nat}{gd:DG}{t:DT}{f:DE}{J:Addr→Obj→List (List Key×V)→It}{vw:List (List Key×D)→List D}(hc:X.calm=true)(S:kH X scope N n aO)
  (hi:PI X tg iter (FF X J (LL i)))(hv:Bh J vw)(hgo:uj gd)(B:Blk X scope N tg elt ifs gd t f)
  (hs:∀x,foldedSetIterable iter X.env x=pure x:=by intro _;rfl):PEd X (.ListComp elt [⟨tg,iter,ifs,0⟩] scope pos) (pB vw i n aO gd t f):=by
 intro pins s σ H Q I hw
 obtain⟨H₀,Bad,env,r,E,e,k⟩:=hw
 unfold pB at e
 obtain⟨kvs,hk,e⟩:=bind_some e
 split at e
 ·rename_i hz
  obtain⟨rs,hrs,rfl⟩:=Gal.mp e
  obtain⟨a,ws,ti,ea,sole,hH,rp⟩:=Dy E hk
  obtain⟨cl,h1,h2,h3⟩:=n5 (S.cells I)
  rw[eval_ListComp]
  refine wpAny_comprehension_free (use:=none) rfl hs h1 S.kind S.Fg ?_
  refine thn (hi pins s σ H (λJ' H' =>∃o,(∀o u,X.H₀ a≠some (.frz o u))∧J' =J a o ws∧H' =upd H a (.frz o (.dT ws))) I ⟨.ref a,ea,a,ws,rfl,hH,λo hnf=> ⟨o,hnf,rfl,rfl⟩⟩) λv s1 q1=>thn q1 λitv s2 q2=> ?_
  obtain⟨it,fp,tn,J2,H2,e,I2,T,st2,f2,o,hnf,eJ,eH⟩:=q2
  subst e eJ eH
  obtain⟨E2,cl2⟩:=E.N8 (o:=o) ti ea sole hH
  have na:¬Cln Bad env σ a:=λq=>q.2 i ti ea
  have fu:jA (Cln Bad env σ) H (upd H a (.frz o (.dT ws))):=λb u hb q=>by
   have:b≠a:=by
    rcases q with q|q
    ·intro z;subst z;exact na q
    ·intro z;subst z;rw[hH] at hb;cases hb;exact q
   rw[az this];exact hb
  have io:Dg X.K (λb=>Cln (λb=>Bad b∨b=a) (env.set i none) σ b∧(upd H a (.frz o (.dT ws))) b≠none) (λb=>¬Ow (env.set i none) σ b) (J a o ws) (vw kvs) (upd H a (.frz o (.dT ws))):=
   hv (F:=Cln (λb=>Bad b∨b=a) (env.set i none) σ) aM (rp.gen fu λb q _=>(cl2 b).mpr q) (λb u hb q=>by
    rcases q with q|q
    ·exactλ⟨j,h1,h2⟩=>q.2 j h1.ol.top h2
    ·exactλw=>E2.fR w hb q) λb q hb=> ⟨q,hb⟩
  refine um (RR:=λacc C=>compPost (model X.prog X.w) X.A X.xe none (EP X pins σ Q) acc C) hc S I2 h2 h3 f2 T st2 (λC s' H' =>B.g cl C s' H' fp) (λC s' H' =>B.t cl C s' H' fp) (λC s' H' =>B.e cl C s' H' fp) E2 io hgo hz hrs ?_
  intro p C s' H' m IX hm hC hF G
  obtain⟨g1,g2,vs,g3,g4⟩:=G
  have hA:H' a=some (.frz o (.dT ws)):=g1 a _ aM
  have hpa:p≠a:=λz=>by subst z;rw[aM] at g2;cases g2
  refine⟨m,hm,λh' hs' => ⟨.ref p,upd H' a (.dT ws),(IX.Jm hF hs').Kv hA hnf,rfl, ?_⟩⟩
  have sm:cC H (upd H' a (.dT ws)):=λb u q=>by
   by_cases z:b=a
   ·subst z;rw[aM,←q,hH]
   ·rw[az z];exact g1 b u (by rw[az z];exact q)
  have g3' :(upd H' a (.dT ws)) p=some (.lst vs):=by rw[az hpa];exact g3
  refine k _ _ sm ⟨p,rfl,by rw[az hpa] at g2;exact g2,⟨_,g3',trivial⟩,rfl,.lst (.inl g3') ⟨g4.1,λj d v e1 e2=> ?_⟩⟩
  have r1:=Rep.Kv hA (λq=>na ((cl2 a).mp q.1)) (g4.2 j d v e1 e2)
  exact r1.imp λb q=> ⟨(cl2 b).mp q.1,q.2⟩
 ·cases e
theorem kK{elts:List Expr}{x1}{tp:Pos}{elt:Expr}{ifs:List Expr}{scope:Scope}{N:List Str}{n i:Nat}{aO:List Nat}{gd:DG}{t:DT}{f:DE}{x:Str}{px apos cpos:Pos}(hN:X.N[i]? =some x)(hv:Vis X.env.scope x)(hc:X.calm=true)(S:kH X scope N n aO)
  (hgo:uj gd)(B:Blk X scope N (.Tuple elts x1 tp) elt ifs gd t f)(hd:(x==("__debug__":Str))=false:=by decide)(hcd:(x==("__classdict__":Str))=false:=by decide)
  (hbase:attributeBase (.Name x px) "items" X.env (eval (.Name x px) X.env)=eval (.Name x px) X.env:=by rfl)(hline:(apos.endLine==cpos.line)=true:=by rfl)
  (hs:∀y,foldedSetIterable (.Call (.Attribute (.Name x px) "items" apos) [] [] cpos) X.env y=pure y:=by intro _;rfl):
  PEd X (.ListComp elt [⟨.Tuple elts x1 tp,.Call (.Attribute (.Name x px) "items" apos) [] [] cpos,ifs,0⟩] scope pos) (pB bN i n aO gd t f):=FH hc S (A3 (lF hN hv hd hcd) hbase hline) rP hgo B hs
end
section
variable{prog:Program}{w:World}{A:Around}{E:Value→Shared→Prop}{s:Shared}{es:Array DictEntry}{ep:Nat}
noncomputable def Prs(es:Array DictEntry)(lo:Addr)(h:Heap)(as:List Addr):Prop:=as.Nodup∧∀(j:Nat) (a:Addr),as[j]? =some a→lo<a∧∃en,es[j]? =some en∧h.get? a=some {cls:= .type "tuple",data:= .seq #[en.key,en.val]}
end
open PySem.W (KatLex KatTups kas_sort kas_ask kat_kind kat_lt kat_one kat_run kat_snds BoolBack kat_lt_int)
structure OV(K:aE)(Bad:Addr→Prop)(env:Env)(σ:St)(H:Hp)(i:Nat)(p:Addr)(as:List Addr)(rows:List (List D)):Prop where
 at_:σ[i]? =some (some (.ref p))
 hid:env[i]? =some none
 top:H p=some (.lst (as.map V.ref))
 nd:(p::as).Nodup
 len:as.length=rows.length
 row:∀(k:Nat) a ds,as[k]? =some a→rows[k]? =some ds→∃vs,H a=some (.lst vs)∧b8 K (Cln Bad env σ) H ds vs
 bad:∀b∈p::as,Bad b
structure OW(as:List Addr)(env:Env)(σ:St)(H:Hp)(env' :Env)(σ' :St)(H' :Hp):Prop where
 keep:∀b o,H b=some o→¬Ow env σ b→b∉as→H' b=some o
 ow:∀b,Ow env' σ' b→Ow env σ b∨H b=none
 lk:∀i:Nat,va env'[i]? →env'[i]? =env[i]? ∧σ'[i]? =σ[i]?
 th:∀b∈as,H' b≠none
section
variable{K:aE}{H₀ H H' H1:Hp}{Bad Bad' :Addr→Prop}{env env' :Env}{σ σ' :St}{d:D}{v:V}{a p:Addr}{i j:Nat}{as:List Addr}{rows:List (List D)}
theorem LK{b:Addr}(h:Cln Bad env σ b):Cln Bad (env.set j (some (.sh d))) (σ.set j (some v)) b:=⟨h.1,λk t e=>by
 obtain⟨q,t⟩:=gH t
 rw[Gab q] at e
 exact h.2 k t e⟩
theorem FI(nb:BW env=true){k:Nat}(e:env[k]? =some (some (.bor d))):False:=by
 have:=Gas.mp nb _ (GaP e)
 cases this
theorem aI.FJ{o o' :HO}(E:aI K H₀ Bad env σ H)(hb:Bad a)(h0:H₀ a=none)(h:H a=some o)(ho:¬isT o)(nb:BW env=true):aI K H₀ Bad env σ (upd H a o'):=by
 have fu:jA (Cln Bad env σ) H (upd H a o'):=λb x hx q=>by
  have:b≠a:=by
   rintro rfl
   rcases q with q|q
   ·exact q.1 hb
   ·rw[h] at hx;cases hx;exact ho q
  rw[az this];exact hx
 refine⟨λb x hx=> ?_,E.len,λb q z=> ?_,λk dk e=> ?_,λk dk e=> ?_,λk dk e=>(FI nb e).elim,E.dj⟩
 ·have:b≠a:=by rintro rfl;rw[h0] at hx;cases hx
  rw[az this];exact E.same b x hx
 ·by_cases m:b=a
  ·subst m;rw[aM] at z;cases z
  ·rw[az m] at z;exact E.bad b q z
 ·obtain⟨u,h1,h2⟩:=E.sh k dk e
  exact⟨u,h1,h2.gen fu λ_ f _=>f⟩
 ·obtain⟨b,h1,h2,h3,h4,h5,h6⟩:=E.ow k dk e
  have m:b≠a:=λz=>h3 (z▸hb)
  refine⟨b,h1,h2,h3, ?_,h5,h6.gen fu (λ_ f _=>f) λc ec _ x hx=> ?_⟩
  ·unfold Wr;rw[az m];exact h4
  ·cases ec;rw[az m];exact hx
theorem aI.hide(E:aI K H₀ Bad env σ H)(i:Nat)(v:V):aI K H₀ Bad (env.set i none) (σ.set i (some v)) H:=by
 have tops:∀{k:Nat},bB (env.set i none)[k]? →i≠k∧bB env[k]? :=λ{k} t=>by
  by_cases q:i=k
  ·subst q
   by_cases z:i<env.length
   ·rw[cB z] at t;exact t.elim
   ·rw[Gbk (by simpa using Nat.le_of_not_lt z)] at t;exact t.elim
  ·rw[Gab q] at t
   exact⟨q,t⟩
 have cln:∀b,Cln Bad env σ b→Cln Bad (env.set i none) (σ.set i (some v)) b:=λb h=> ⟨h.1,λk t e=>by
  obtain⟨q,t⟩:=tops t
  rw[Gab q] at e
  exact h.2 k t e⟩
 refine⟨E.same,by simp[E.len],E.bad,λk dk e=> ?_,λk dk e=> ?_,λk dk e=> ?_,λk l b t1 t2 e1 e2=> ?_⟩
 ·rcases get_set e with⟨q,e⟩| ⟨q,e⟩
  ·cases e
  ·obtain⟨u,h1,h2⟩:=E.sh k dk e
   exact⟨u,by rw[Gab q];exact h1,h2.imp cln⟩
 ·have e' :i≠k∧(env[k]? =some (some (.own dk))∨env[k]? =some (some (.lok dk))):=by
   rcases e with e|e
   ·rcases get_set e with⟨q,e⟩| ⟨q,e⟩
    ·cases e
    ·exact⟨q,.inl e⟩
   ·rcases get_set e with⟨q,e⟩| ⟨q,e⟩
    ·cases e
    ·exact⟨q,.inr e⟩
  obtain⟨b,h1,h2,h3,h4,h5,h6⟩:=E.ow k dk e'.2
  exact⟨b,by rw[Gab e'.1];exact h1,h2,h3,h4,h5,h6.imp cln⟩
 ·rcases get_set e with⟨q,e⟩| ⟨q,e⟩
  ·cases e
  ·obtain⟨b,h1,hw,h2,h3⟩:=E.bo k dk e
   exact⟨b,by rw[Gab q];exact h1,hw,h2,h3.imp cln⟩
 ·obtain⟨q1,t1'⟩:=tops t1.top
  obtain⟨q2,t2⟩:=tops t2
  rw[Gab q1] at e1 t1
  rw[Gab q2] at e2
  exact E.dj k l b t1 t2 e1 e2
theorem aI.Cj{New:Addr→Prop}(E:aI K H₀ Bad env σ H)(s:cC H H')(h1:∀b,New b→H b=none)(h2:∀b,New b→H' b≠none):aI K H₀ (λb=>Bad b∨New b) env σ H' :=by
 have cln:∀b,Cln Bad env σ b→H b≠none→Cln (λb=>Bad b∨New b) env σ b:=λb h n=> ⟨λq=>q.elim h.1 λz=>n (h1 b z),h.2⟩
 refine⟨E.same.trans s,E.len,λb q z=>q.elim (λq=>E.bad b q (s.free z)) λq=>h2 b q z,λk dk e=> ?_,λk dk e=> ?_,λk dk e=> ?_,E.dj⟩
 ·obtain⟨u,q1,q2⟩:=E.sh k dk e
  exact⟨u,q1,q2.gen (.of_same s) cln⟩
 ·obtain⟨b,q1,q2,q3,q4,q5,q6⟩:=E.ow k dk e
  exact⟨b,q1,q2,λz=>z.elim q3 λz=>q4.there (h1 b z),q4.same s,q5,q6.gen (.of_same s) cln λc ec _ x hx=>s c x hx⟩
 ·obtain⟨b,q1,qw,q2,q3⟩:=E.bo k dk e
  exact⟨b,q1,qw.same s,q2,q3.gen (.of_same s) cln λc ec _ x hx=>s c x hx⟩
end
open PySem PyProof.Rows
noncomputable abbrev SM:=StateT SortSt Sem
noncomputable def ll:Bool→Keyed→Array Keyed→Nat→Nat→Nat→SM (Option Nat):=sortPriv%PySem.Builtin.gallop
noncomputable def Ir(far:Nat→SM (Option Bool))(n l0 r0:Nat):SM (Option Nat):=do
 let mut lo:=l0
 let mut hi:=r0
 for _ in [0:n] do
  if lo≥hi then break
  let md:=lo+(hi -lo)/2
  let some mo←far md|return none
  if mo then lo:=md+1 else hi:=md
 return some hi
noncomputable def Kx(far:Nat→SM (Option Bool))(n h0:Nat):SM (Option Nat):=do
 let some rt←far h0|return none
 if rt then
  let mut lst:=0
  let mut nxt:=1
  for _ in [0:n] do
   if nxt≥n -h0 then break
   let some mo←far (h0+nxt)|return none
   if !mo then break
   lst:=nxt
   nxt:=2*nxt+1
  Ir far n (h0+lst+1) (h0+min nxt (n -h0))
 else
  let mut lst:=0
  let mut nxt:=1
  for _ in [0:n] do
   if nxt≥h0+1 then break
   let some fd←far (h0 -nxt)|return none
   if fd then break
   lst:=nxt
   nxt:=2*nxt+1
  Ir far n (h0+1 -min nxt (h0+1)) (h0 -lst)
noncomputable def Jq(lf:Bool)(kx:Keyed)(xs:Array Keyed)(b0 u:Nat):SM (Option Bool):=do
 let y←elem' xs (b0+u)
 if lf then lt' y kx else return(←lt' kx y).map (!·)
theorem FK(lf:Bool)(kx:Keyed)(xs:Array Keyed)(b0 n h0:Nat):ll lf kx xs b0 n h0=Kx (Jq lf kx xs b0) n h0:=rfl
theorem dG{M:Model}{A:Around}{E:Value→Shared→Prop}{s:Shared}{σ α:Type}{c:Prop}{_:Decidable c}{x y:StateT σ Sem α}{Q:α→σ→Prop}{st:σ}(h1:c→wpS M A E s x Q st)(h2:¬c→wpS M A E s y Q st):wpS M A E s (if c then x else y) Q st:=by
 by_cases h:c
 ·rw[Gag h];exact h1 h
 ·rw[Gaj h];exact h2 h
section
variable{M:Model}{A:Around}{E:Value→Shared→Prop}{s:Shared}{st:SortSt}{far:Nat→SM (Option Bool)}{n:Nat}{B:Nat→Bool}{Q:Option Nat→SortSt→Prop}
noncomputable def Cut(B:Nat→Bool)(n k:Nat):Prop:=k≤n∧(∀u,u<k→B u=true)∧∀u,k≤u→u<n→B u=false
theorem Ck{lo hi:Nat}(hf:∀u,u<n→∀R:Option Bool→SortSt→Prop,R (some (B u)) st→wpS M A E s (far u) R st)(mB:∀u v,u≤v→v<n→B v=true→B u=true)(h1:lo≤hi)(h2:hi≤n)
  (hlo:∀u,u<lo→B u=true)(hhi:∀u,hi≤u→u<n→B u=false)(h:∀k,Cut B n k→Q (some k) st):wpS M A E s (Ir far n lo hi) Q st:=by
 unfold Ir
 refine Gak (Gbo (Gbd (I:=λi c z=>z=st∧∃lo hi,c=(none,lo,hi)∧lo≤hi∧hi≤n∧hi -lo≤n -i∧(∀u,u<lo→B u=true)∧(∀u,hi≤u→u<n→B u=false))
  (Q:=λc z=>z=st∧∃lo hi,c=(none,lo,hi)∧Cut B n hi) ?step ?fin ⟨rfl,lo,hi,rfl,h1,h2,by omega,hlo,hhi⟩) ?post)
 case fin=>
  rintro c z ⟨rfl,lo,hi,rfl,q1,q2,q3,q4,q5⟩
  have:lo=hi:=by
   have:max 0 n=n:=by omega
   omega
  subst this
  exact⟨rfl,_,_,rfl,q2,q4,q5⟩
 case step=>
  rintro i c z _ hi' ⟨rfl,lo,hi,rfl,q1,q2,q3,q4,q5⟩
  dsimp only
  by_cases g:lo≥hi
  ·rw[Gag g]
   have:lo=hi:=by omega
   subst this
   exact Gap ⟨rfl,_,_,rfl,q2,q4,q5⟩
  ·rw[Gaj g]
   refine Gak (hf _ (by omega) _ ?_)
   dsimp only
   cases b:B (lo+(hi -lo)/2) with
   |true=>
    simp only[Gbq]
    exact Gap ⟨rfl,_,_,rfl,by omega,q2,by omega,λu hu=>mB u _ (by omega) (by omega) b,q5⟩
   |false=>
    simp only[GaF,Gbe]
    refine Gap ⟨rfl,_,_,rfl,by omega,by omega,by omega,q4,λu hu hn=> ?_⟩
    cases b' :B u with
    |false=>rfl
    |true=>rw[mB _ u hu hn b'] at b;cases b
 case post=>
  rintro c z ⟨rfl,lo,hi,rfl,q⟩
  exact Gap (h hi q)
theorem Iu{h0:Nat}(hf:∀u,u<n→∀R:Option Bool→SortSt→Prop,R (some (B u)) st→wpS M A E s (far u) R st)(mB:∀u v,u≤v→v<n→B v=true→B u=true)(hh:h0<n)
  (h:∀k,Cut B n k→Q (some k) st):wpS M A E s (Kx far n h0) Q st:=by
 unfold Kx
 refine Gak (hf _ hh _ ?_)
 dsimp only
 cases b:B h0 with
 |true=>
  simp only[Gbq]
  refine Gak (Gbo (Gbd (I:=λi c z=>z=st∧∃l o,c=(none,l,o)∧l<o∧l<n -h0∧i+1≤o∧B (h0+l)=true)
   (Q:=λc z=>z=st∧∃l o,c=(none,l,o)∧l<o∧l<n -h0∧B (h0+l)=true∧(o≥n -h0∨B (h0+o)=false)) ?step ?fin ⟨rfl,0,1,rfl,by omega,by omega,by omega,b⟩) ?post)
  case fin=>
   rintro c z ⟨rfl,l,o,rfl,q1,q2,q3,q4⟩
   exact⟨rfl,l,o,rfl,q1,q2,q4,.inl (by omega)⟩
  case step=>
   rintro i c z _ hi' ⟨rfl,l,o,rfl,q1,q2,q3,q4⟩
   dsimp only
   by_cases g:o≥n -h0
   ·rw[Gag g]
    exact Gap ⟨rfl,l,o,rfl,q1,q2,q4,.inl g⟩
   ·rw[Gaj g]
    refine Gak (hf _ (by omega) _ ?_)
    dsimp only
    cases b' :B (h0+o) with
    |false=>
     simp only[Bool.not_false,Gbq]
     exact Gap ⟨rfl,l,o,rfl,q1,q2,q4,.inr b'⟩
    |true=>
     simp only[Gde,GaF,Gbe]
     exact Gap ⟨rfl,o,2*o+1,rfl,by omega,by omega,by omega,b'⟩
  case post=>
   rintro c z ⟨rfl,l,o,rfl,q1,q2,q3,q4⟩
   dsimp only
   refine Ck hf mB (by omega) (by omega) (λu hu=>mB u (h0+l) (by omega) (by omega) q3) (λu hu hn=> ?_) h
   rcases q4 with q4|q4
   ·omega
   ·by_cases w:o≥n -h0
    ·omega
    ·cases b' :B u with
     |false=>rfl
     |true=>rw[mB (h0+o) u (by omega) hn b'] at q4;cases q4
 |false=>
  simp only[GaF,Gbe]
  refine Gak (Gbo (Gbd (I:=λi c z=>z=st∧∃l o,c=(none,l,o)∧l<o∧l<h0+1∧i+1≤o∧B (h0 -l)=false)
   (Q:=λc z=>z=st∧∃l o,c=(none,l,o)∧l<o∧l<h0+1∧B (h0 -l)=false∧(o≥h0+1∨B (h0 -o)=true)) ?step ?fin ⟨rfl,0,1,rfl,by omega,by omega,by omega,b⟩) ?post)
  case fin=>
   rintro c z ⟨rfl,l,o,rfl,q1,q2,q3,q4⟩
   exact⟨rfl,l,o,rfl,q1,q2,q4,.inl (by omega)⟩
  case step=>
   rintro i c z _ hi' ⟨rfl,l,o,rfl,q1,q2,q3,q4⟩
   dsimp only
   by_cases g:o≥h0+1
   ·rw[Gag g]
    exact Gap ⟨rfl,l,o,rfl,q1,q2,q4,.inl g⟩
   ·rw[Gaj g]
    refine Gak (hf _ (by omega) _ ?_)
    dsimp only
    cases b' :B (h0 -o) with
    |true=>
     simp only[Gbq]
     exact Gap ⟨rfl,l,o,rfl,q1,q2,q4,.inr b'⟩
    |false=>
     simp only[GaF,Gbe]
     exact Gap ⟨rfl,o,2*o+1,rfl,by omega,by omega,by omega,b'⟩
  case post=>
   rintro c z ⟨rfl,l,o,rfl,q1,q2,q3,q4⟩
   dsimp only
   refine Ck hf mB (by omega) (by omega) (λu hu=> ?_) (λu hu hn=> ?_) h
   ·rcases q4 with q4|q4
    ·omega
    ·by_cases w:o≥h0+1
     ·omega
     ·exact mB u (h0 -o) (by omega) (by omega) q4
   ·cases b' :B u with
    |false=>rfl
    |true=>rw[mB (h0 -l) u (by omega) hn b'] at q3;cases q3
end
open PySem.W (kas_item)
noncomputable def rQ:Nat→SM Unit:=sortPriv%PySem.Builtin.setMinGallop
theorem oA(g:Nat):rQ g=modify (λz=>SortSt.mk' (kindOf z) (arrOf z) (pendingOf z) g (failedOf z)):=rfl
noncomputable def Srt(rk:Nat→Int)(p:List Nat):Prop:=p.Pairwise λx y=>rk x≤rk y
noncomputable def iF(prog:Program)(w:World)(A:Around)(s:Shared)(κ:SortKind)(it:Array Keyed)(rk:Nat→Int):Prop:=
 ∀i j,i<it.size→j<it.size→∀C:Bool→Shared→Prop,C (decide (rk i<rk j)) s→wpAny (model prog w) A (keyLt' κ (kas_item it i).1 (kas_item it j).1) C (λ_ _=>False) s
noncomputable def bh(it:Array Keyed)(a:Array Keyed)(p:List Nat):Prop:=a=(p.map (kas_item it)).toArray∧∀i∈p,i<it.size
noncomputable def bH(z z' :SortSt):Prop:=kindOf z' =kindOf z∧arrOf z' =arrOf z∧pendingOf z' =pendingOf z∧failedOf z' =failedOf z
theorem bH.refl{z:SortSt}:bH z z:=⟨rfl,rfl,rfl,rfl⟩
theorem bH.trans{x y z:SortSt}(a:bH x y)(b:bH y z):bH x z:=⟨b.1.trans a.1,b.2.1.trans a.2.1,b.2.2.1.trans a.2.2.1,b.2.2.2.trans a.2.2.2⟩
section
variable{it:Array Keyed}{a b:Array Keyed}{p q:List Nat}
theorem bh.size(R:bh it a p):a.size=p.length:=by rw[R.1];simp
theorem bh.get{k i:Nat}(R:bh it a p)(h:p[k]? =some i):a[k]? =some (kas_item it i):=by rw[R.1];simp[h]
theorem bh.lt{k i:Nat}(R:bh it a p)(h:p[k]? =some i):i<it.size:=R.2 i (GaP h)
theorem bh.push{i:Nat}(R:bh it a p)(hi:i<it.size):bh it (a.push (kas_item it i)) (p++[i]):=⟨by rw[R.1];simp,λj hj=>by
 rcases Gav.mp hj with h|h
 ·exact R.2 j h
 ·simp at h;subst h;exact hi⟩
theorem bh.append(R:bh it a p)(S:bh it b q):bh it (a++b) (p++q):=⟨by rw[R.1,S.1];simp,λj hj=>(Gav.mp hj).elim (R.2 j) (S.2 j)⟩
theorem bh.sub(R:bh it a p){l:List Nat}(h:∀x∈l,x∈p){c:Array Keyed}(e:c=(l.map (kas_item it)).toArray):bh it c l:=⟨e,λj hj=>R.2 j (h j hj)⟩
theorem bh.extract(R:bh it a p)(i j:Nat):bh it (a.extract i j) ((p.drop i).take (j -i)):=by
 refine R.sub (λx hx=>Gbp (Gbh hx)) ?_
 apply Gcp.mp
 rw[R.1]
 simp[List.map_take,Gdv,List.extract_eq_take_drop]
theorem bh.drop(R:bh it a p)(i:Nat):bh it (a.extract i a.size) (p.drop i):=by
 have:=R.extract i a.size
 rw[R.size,Gbs (by simp)] at this
 rw[R.size];exact this
theorem bh.reverse(R:bh it a p):bh it a.reverse p.reverse:=by
 refine R.sub (λx hx=>GbL.mp hx) ?_
 rw[R.1];simp
end
section
variable{prog:Program}{w:World}{A:Around}{E:Value→Shared→Prop}{s:Shared}{st:SortSt}{κ:SortKind}{it:Array Keyed}{rk:Nat→Int}
theorem A5{i j:Nat}{Q:Option Bool→SortSt→Prop}(hA:iF prog w A s κ it rk)(hk:kindOf st=κ)(hi:i<it.size)(hj:j<it.size)(h:Q (some (decide (rk i<rk j))) st):wpS (model prog w) A E s (lt' (kas_item it i) (kas_item it j)) Q st:=by
 rw[lt'_eq]
 refine Gak (GcE ?_)
 rw[hk]
 refine Gak (wpS_lift (wpAny_attempt (GbX (hA i j hi hj (λb z=>z=s∧b=decide (rk i<rk j)) ⟨rfl,rfl⟩) (λb z hb=> ⟨hb.1, ?_⟩) λ_ _ f=>f.elim)))
 rw[hb.2]
 exact Gap h
theorem bI{a:Array Keyed}{p:List Nat}{k i:Nat}{Q:Keyed→SortSt→Prop}(R:bh it a p)(hk:p[k]? =some i)(h:Q (kas_item it i) st):wpS (model prog w) A E s (elem' a k) Q st:=by
 rw[elem'_eq,R.get hk]
 exact Gap h
theorem qV{l:List Nat}(h:Srt rk l):∀{u v x y:Nat},u≤v→l[u]? =some x→l[v]? =some y→rk x≤rk y:=by
 intro u v x y huv hx hy
 rcases Nat.lt_or_ge u v with c|c
 ·obtain⟨h1,rfl⟩:=Gae.mp hx
  obtain⟨h2,rfl⟩:=Gae.mp hy
  exact Gck.mp h u v h1 h2 c
 ·have:u=v:=by omega
  subst this
  rw[hx] at hy;cases hy;exact GbO _
theorem pI{lf:Bool}{xs:Array Keyed}{ps:List Nat}{ik b0 n h0:Nat}{Q:Option Nat→SortSt→Prop}(hA:iF prog w A s κ it rk)(hk:kindOf st=κ)(R:bh it xs ps)(hi:ik<it.size)(hn:b0+n≤ps.length)(hs:Srt rk ((ps.drop b0).take n))(hh:h0<n)
  (h:∀k,k≤n→(∀x∈((ps.drop b0).take n).take k,if lf=true then rk x<rk ik else rk x≤rk ik)→(∀x∈((ps.drop b0).take n).drop k,if lf=true then rk ik≤rk x else rk ik<rk x)→Q (some k) st):
  wpS (model prog w) A E s (ll lf (kas_item it ik) xs b0 n h0) Q st:=by
 rw[FK]
 have len:((ps.drop b0).take n).length=n:=by simp;omega
 have at_:∀u,u<n→∃x,((ps.drop b0).take n)[u]? =some x∧ps[b0+u]? =some x:=λu hu=>by
  have h1:u<((ps.drop b0).take n).length:=by rw[len];exact hu
  refine⟨((ps.drop b0).take n)[u],Gaa h1, ?_⟩
  have:=Gaa h1
  rw[GaV hu,Gbf] at this
  exact this
 have fin:∀B:Nat→Bool,(∀u x,((ps.drop b0).take n)[u]? =some x→B u=if lf=true then decide (rk x<rk ik) else !decide (rk ik<rk x))→∀k,Cut B n k→Q (some k) st:=by
  intro B hB k ⟨c1,c2,c3⟩
  refine h k c1 (λx hx=> ?_) (λx hx=> ?_)
  ·obtain⟨u,hu⟩:=Gce.mp hx
   have hu' :u<k:=by have:=(Gae.mp hu).1;simp at this;omega
   rw[GaV hu'] at hu
   have b:=c2 u hu'
   rw[hB u x hu] at b
   cases lf with
   |true=>simpa using b
   |false=>simpa using b
  ·obtain⟨u,hu⟩:=Gce.mp hx
   rw[Gbf] at hu
   have hu' :k+u<n:=by have:=(Gae.mp hu).1;rw[len] at this;exact this
   have b:=c3 (k+u) (by omega) hu'
   rw[hB _ x hu] at b
   cases lf with
   |true=>simpa using b
   |false=>simpa using b
 refine Iu (B:=λu=>if lf=true then decide (rk (((ps.drop b0).take n).getD u 0)<rk ik) else !decide (rk ik<rk (((ps.drop b0).take n).getD u 0))) (λu hu R' hR=> ?_) (λu v huv hv b=> ?_) hh (fin _ λu x hx=>by simp[List.getD,hx])
 ·obtain⟨x,h1,h2⟩:=at_ u hu
  have e:((ps.drop b0).take n).getD u 0=x:=by simp[List.getD,h1]
  simp only[e] at hR
  unfold Jq
  refine Gak (bI R h2 ?_)
  cases lf with
  |true=>
   simp only[Gbq] at hR⊢
   exact A5 hA hk (R.lt h2) hi hR
  |false=>
   simp only[GaF,Gbe] at hR⊢
   exact Gak (A5 hA hk hi (R.lt h2) (Gap hR))
 ·obtain⟨x,h1,_⟩:=at_ u (by omega)
  obtain⟨y,h2,_⟩:=at_ v hv
  have e1:((ps.drop b0).take n).getD u 0=x:=by simp[List.getD,h1]
  have e2:((ps.drop b0).take n).getD v 0=y:=by simp[List.getD,h2]
  have le:=qV hs huv h1 h2
  simp only[e1,e2] at b⊢
  cases lf with
  |true=>simp at b⊢;omega
  |false=>simp at b⊢;omega
end
noncomputable def Ky:Array Keyed→Array Keyed→SM (Array Keyed):=sortPriv%PySem.Builtin.mergeLo
theorem Iv(a b:Array Keyed):Ky a b=(do
 rule "list.sort.merge-lo"
 let tot:=a.size+b.size
 let fin (o:Array Keyed) (u v:Nat):=o++a.extract u a.size++b.extract v b.size
 let las (o:Array Keyed) (u v:Nat):=o++b.extract v b.size++a.extract u a.size
 let mut o:Array Keyed:=#[←elem' b 0]
 let mut u:=0
 let mut v:=1
 if v==b.size then return fin o u v
 if u+1==a.size then return las o u v
 let mut mg:=gallopOf (←get)
 for _ in [0:tot] do
  let mut ca:=0
  let mut cb:=0
  for _ in [0:tot] do
   let some w←lt' (←elem' b v) (←elem' a u)|return fin o u v
   if w then
    o:=o.push (←elem' b v);v:=v+1;cb:=cb+1;ca:=0
    if v==b.size then return fin o u v
    if cb≥mg then break
   else
    o:=o.push (←elem' a u);u:=u+1;ca:=ca+1;cb:=0
    if u+1==a.size then return las o u v
    if ca≥mg then break
  rule "list.sort.gallop"
  mg:=mg+1
  for _ in [0:tot] do
   if mg>1 then mg:=mg -1
   rQ mg
   let some k←ll false (←elem' b v) a u (a.size -u) 0|return fin o u v
   ca:=k
   if k>0 then
    o:=o++a.extract u (u+k);u:=u+k
    if u+1==a.size then return las o u v
    if u==a.size then return fin o u v
   o:=o.push (←elem' b v);v:=v+1
   if v==b.size then return fin o u v
   let some k←ll true (←elem' a u) b v (b.size -v) 0|return fin o u v
   cb:=k
   if k>0 then
    o:=o++b.extract v (v+k);v:=v+k
    if v==b.size then return fin o u v
   o:=o.push (←elem' a u);u:=u+1
   if u+1==a.size then return las o u v
   if ca<7&&cb<7 then break
  mg:=mg+1
  rQ mg
 unsupported "internal:list.sort.merge-bound"):=rfl
noncomputable abbrev Bi:=Option (Array Keyed)×Array Keyed×Nat×Nat×Nat×Nat×Nat
noncomputable def loC(a b:Array Keyed)(mg ca cb:Nat)(o:Array Keyed)(u v:Nat):SM (ForInStep Bi):=do
 let e←elem' a u
 if(u+1+1==a.size)=true then pure (.done (some (o.push e++b.extract v b.size++a.extract (u+1) a.size),o.push e,u+1,v,mg,ca,cb))
 else if(decide (ca<7)&&decide (cb<7))=true then pure (.done (none,o.push e,u+1,v,mg,ca,cb))
 else pure (.yield (none,o.push e,u+1,v,mg,ca,cb))
noncomputable def loB(a b:Array Keyed)(mg ca cb:Nat)(o:Array Keyed)(u v:Nat):SM (ForInStep Bi):=do
 let e←elem' b v
 if(v+1==b.size)=true then pure (.done (some (o.push e++a.extract u a.size++b.extract (v+1) b.size),o.push e,u,v+1,mg,ca,cb))
 else do
  let e2←elem' a u
  let f←ll true e2 b (v+1) (b.size -(v+1)) 0
  match f with
  |some k=>
   if k>0 then
    if(v+1+k==b.size)=true then pure (.done (some (o.push e++b.extract (v+1) (v+1+k)++a.extract u a.size++b.extract (v+1+k) b.size),o.push e++b.extract (v+1) (v+1+k),u,v+1+k,mg,ca,k))
    else loC a b mg ca k (o.push e++b.extract (v+1) (v+1+k)) u (v+1+k)
   else loC a b mg ca k (o.push e) u (v+1)
  |_=>pure (.done (some (o.push e++a.extract u a.size++b.extract (v+1) b.size),o.push e,u,v+1,mg,ca,cb))
noncomputable def loA(a b:Array Keyed)(mg ca cb:Nat)(o:Array Keyed)(u v:Nat):SM (ForInStep Bi):=do
 rQ mg
 let e←elem' b v
 let f←ll false e a u (a.size -u) 0
 match f with
 |some k=>
  if k>0 then
   if(u+k+1==a.size)=true then pure (.done (some (o++a.extract u (u+k)++b.extract v b.size++a.extract (u+k) a.size),o++a.extract u (u+k),u+k,v,mg,k,cb))
   else if(u+k==a.size)=true then pure (.done (some (o++a.extract u (u+k)++a.extract (u+k) a.size++b.extract v b.size),o++a.extract u (u+k),u+k,v,mg,k,cb))
   else loB a b mg k cb (o++a.extract u (u+k)) (u+k) v
  else loB a b mg k cb o u v
 |_=>pure (.done (some (o++a.extract u a.size++b.extract v b.size),o,u,v,mg,ca,cb))
structure LoI(rk:Nat→Int)(p q o:List Nat)(u v:Nat):Prop where
 pm:o.Perm (p.take u++q.take v)
 so:Srt rk o
 oa:∀x∈o,∀y∈p.drop u,rk x≤rk y
 ob:∀x∈o,∀y∈q.drop v,rk x≤rk y
section
variable{rk:Nat→Int}{p q o:List Nat}{u v k:Nat}
theorem dH{l m:List Nat}(h:Srt rk l)(h2:Srt rk m)(h3:∀x∈l,∀y∈m,rk x≤rk y):Srt rk (l++m):=List.pairwise_append.mpr ⟨h,h2,h3⟩
theorem fC{l:List Nat}(h:Srt rk l)(n:Nat):Srt rk (l.drop n):=h.sublist (List.drop_sublist _ _)
theorem gk{l:List Nat}(h:Srt rk l)(n:Nat):Srt rk (l.take n):=h.sublist (List.take_sublist _ _)
theorem qW{l:List Nat}(h:Srt rk l)(n:Nat):∀x∈l.take n,∀y∈l.drop n,rk x≤rk y:=by
 have:=h
 rw[←Gbb n l] at this
 exact(List.pairwise_append.mp this).2.2
theorem Dz{l:List Nat}{n k:Nat}{x:Nat}(h:x∈l.drop (n+k)):x∈l.drop n:=by
 rw[←GbN] at h
 exact Gbp h
theorem LoI.Bj(I:LoI rk p q o u v)(sp:Srt rk p)(h:∀x∈(p.drop u).take k,∀y∈q.drop v,rk x≤rk y):LoI rk p q (o++(p.drop u).take k) (u+k) v:=by
 refine⟨?_,dH I.so (gk (fC sp u) k) λx hx y hy=>I.oa x hx y (Gbh hy),λx hx y hy=> ?_,λx hx y hy=> ?_⟩
 ·rw[List.take_add]
  refine(I.pm.append_right _).trans ?_
  rw[Gay,Gay]
  exact Gbl.append_left _
 ·rcases Gav.mp hx with hx|hx
  ·exact I.oa x hx y (Dz hy)
  ·rw[←GbN] at hy
   exact qW (fC sp u) k x hx y hy
 ·rcases Gav.mp hx with hx|hx
  ·exact I.ob x hx y hy
  ·exact h x hx y hy
theorem LoI.swap(I:LoI rk p q o u v):LoI rk q p o v u:=⟨I.pm.trans Gbl,I.so,I.ob,I.oa⟩
theorem LoI.Kz(I:LoI rk p q o u v)(sq:Srt rk q)(h:∀x∈(q.drop v).take k,∀y∈p.drop u,rk x≤rk y):LoI rk p q (o++(q.drop v).take k) u (v+k):=(I.swap.Bj sq h).swap
theorem take1{l:List Nat}{n x:Nat}(h:l[n]? =some x):(l.drop n).take 1=[x]:=by
 obtain⟨h1,rfl⟩:=Gae.mp h
 rw[Gbu h1]
 rfl
theorem LoI.rR{x:Nat}(I:LoI rk p q o u v)(sp:Srt rk p)(hx:p[u]? =some x)(h:∀y∈q.drop v,rk x≤rk y):LoI rk p q (o++[x]) (u+1) v:=by
 have:=I.Bj (k:=1) sp (by rw[take1 hx];intro z hz;simp at hz;subst hz;exact h)
 rw[take1 hx] at this
 exact this
theorem LoI.A6{x:Nat}(I:LoI rk p q o u v)(sq:Srt rk q)(hx:q[v]? =some x)(h:∀y∈p.drop u,rk x≤rk y):LoI rk p q (o++[x]) u (v+1):=(I.swap.rR sq hx h).swap
theorem LoI.done(I:LoI rk p q o u v)(sp:Srt rk p)(sq:Srt rk q)(h:v=q.length∨u=p.length):(o++p.drop u++q.drop v).Perm (p++q)∧Srt rk (o++p.drop u++q.drop v):=by
 constructor
 ·refine(Gbi _ (Gbi _ I.pm)).trans ?_
  have e:p++q=(p.take u++p.drop u)++(q.take v++q.drop v):=by rw[Gbb,Gbb]
  rw[e,Gay,Gay,Gay]
  refine Gcf _ ?_
  rw[←Gay,←Gay]
  exact Gbi _ Gbl
 ·rcases h with rfl|rfl
  ·rw[GbK,Gbg]
   exact dH I.so (fC sp u) I.oa
  ·rw[GbK,Gbg]
   exact dH I.so (fC sq v) I.ob
theorem LoI.last(I:LoI rk p q o u v)(sq:Srt rk q)(h:u+1=p.length)(hl:∀x,p[u]? =some x→∀y∈q,rk y≤rk x):(o++q.drop v++p.drop u).Perm (p++q)∧Srt rk (o++q.drop v++p.drop u):=by
 have hu:u<p.length:=by omega
 have e:p.drop u=[p[u]]:=by rw[Gbu hu,h,GbK]
 constructor
 ·have pm:=I.pm
  refine(Gbi _ (Gbi _ pm)).trans ?_
  rw[Gay,Gay,←Gay (List.take v q),Gbb]
  refine(Gcf _ Gbl).trans ?_
  rw[←Gay,Gbb]
 ·refine dH (dH I.so (fC sq v) I.ob) (by rw[e];exact GbT _ _) λx hx y hy=> ?_
  rw[e] at hy
  simp at hy
  subst hy
  rcases Gav.mp hx with hx|hx
  ·exact I.oa x hx _ (by rw[e];simp)
  ·exact hl _ (Gaa hu) x (Gbp hx)
end
section
variable{prog:Program}{w:World}{A:Around}{E:Value→Shared→Prop}{s:Shared}{st:SortSt}{κ:SortKind}{it:Array Keyed}{rk:Nat→Int}{a b:Array Keyed}{p q:List Nat}
noncomputable def dB(it:Array Keyed)(rk:Nat→Int)(p q:List Nat)(r:Array Keyed):Prop:=∃l,bh it r l∧l.Perm (p++q)∧Srt rk l
theorem mO{l:List Nat}{x y n:Nat}(h:Srt rk l)(hx:l[n]? =some x)(hy:y∈l.drop n):rk x≤rk y:=by
 obtain⟨k,hk⟩:=Gce.mp hy
 rw[Gbf] at hk
 exact qV h (by omega) hx hk
structure LoP(it:Array Keyed)(rk:Nat→Int)(p q:List Nat)(o:Array Keyed)(u v:Nat):Prop where
 ex:∃l,bh it o l∧LoI rk p q l u v
 bu:u+1<p.length
 bv:v<q.length
noncomputable def Cm(it:Array Keyed)(rk:Nat→Int)(p q:List Nat)(N:Nat):ForInStep Bi→Prop
 | .done c=>(∃r t,c=(some r,t)∧dB it rk p q r)∨∃o u v mg ca cb,c=(none,o,u,v,mg,ca,cb)∧LoP it rk p q o u v∧N≤u+v
 | .yield c=>∃o u v mg ca cb,c=(none,o,u,v,mg,ca,cb)∧LoP it rk p q o u v∧N≤u+v
structure LoX(prog:Program)(w:World)(A:Around)(s:Shared)(κ:SortKind)(it:Array Keyed)(rk:Nat→Int)(a b:Array Keyed)(p q:List Nat):Prop where
 hA:iF prog w A s κ it rk
 Ra:bh it a p
 Rb:bh it b q
 sp:Srt rk p
 sq:Srt rk q
 hl:∀x,p[p.length -1]? =some x→∀y∈q,rk y≤rk x
theorem LoX.done{o:Array Keyed}{l:List Nat}{u v:Nat}(X:LoX prog w A s κ it rk a b p q)(Ro:bh it o l)(I:LoI rk p q l u v)(hh:v=q.length∨u=p.length):dB it rk p q (o++a.extract u a.size++b.extract v b.size):=
 ⟨_,(Ro.append (X.Ra.drop _)).append (X.Rb.drop _),(I.done X.sp X.sq hh).1,(I.done X.sp X.sq hh).2⟩
theorem LoX.last{o:Array Keyed}{l:List Nat}{u v:Nat}(X:LoX prog w A s κ it rk a b p q)(Ro:bh it o l)(I:LoI rk p q l u v)(hh:u+1=p.length):dB it rk p q (o++b.extract v b.size++a.extract u a.size):=by
 have hl' :∀x,p[u]? =some x→∀y∈q,rk y≤rk x:=by
  have:=X.hl
  rw[show p.length -1=u by omega] at this;exact this
 exact⟨_,(Ro.append (X.Rb.drop _)).append (X.Ra.drop _),(I.last X.sq hh hl').1,(I.last X.sq hh hl').2⟩
theorem FL{mg ca cb u v N:Nat}{o:Array Keyed}{l:List Nat}{R:ForInStep Bi→SortSt→Prop}(X:LoX prog w A s κ it rk a b p q)(Ro:bh it o l)(I:LoI rk p q l u v)(bu:u+1<p.length)(bv:v<q.length)
  (hx:∀x,p[u]? =some x→∀y∈q.drop v,rk x≤rk y)(hN:N≤u+v+1)(h:∀r,Cm it rk p q N r→R r st):wpS (model prog w) A E s (loC a b mg ca cb o u v) R st:=by
 have sza:=X.Ra.size
 unfold loC
 obtain⟨x,ex⟩:∃x,p[u]? =some x:=⟨_,Gaa (by omega)⟩
 refine Gak (bI X.Ra ex ?_)
 have I' :=I.rR X.sp ex (hx x ex)
 have Ro' :=Ro.push (X.Ra.lt ex)
 by_cases e:(u+1+1==a.size)=true
 ·rw[Gag e]
  have:u+1+1=a.size:=by simpa using e
  exact Gap (h _ (.inl ⟨_,_,rfl,X.last Ro' I' (by omega)⟩))
 ·rw[Gaj e]
  have e' :u+1+1≠a.size:=by simpa using e
  by_cases e2:(decide (ca<7)&&decide (cb<7))=true
  ·rw[Gag e2]
   exact Gap (h _ (.inr ⟨_,_,_,_,_,_,rfl,⟨⟨_,Ro',I'⟩,by omega,bv⟩,by omega⟩))
  ·rw[Gaj e2]
   exact Gap (h _ ⟨_,_,_,_,_,_,rfl,⟨⟨_,Ro',I'⟩,by omega,bv⟩,by omega⟩)
theorem FN{mg ca cb u v N:Nat}{o:Array Keyed}{l:List Nat}{R:ForInStep Bi→SortSt→Prop}(X:LoX prog w A s κ it rk a b p q)(hk:kindOf st=κ)(Ro:bh it o l)(I:LoI rk p q l u v)(bu:u+1<p.length)(bv:v<q.length)
  (hx:∀x,q[v]? =some x→∀y∈p.drop u,rk x≤rk y)(hN:N≤u+v+2)(h:∀r,Cm it rk p q N r→R r st):wpS (model prog w) A E s (loB a b mg ca cb o u v) R st:=by
 have szb:=X.Rb.size
 unfold loB
 obtain⟨y,ey⟩:∃x,q[v]? =some x:=⟨_,Gaa bv⟩
 obtain⟨x,ex⟩:∃x,p[u]? =some x:=⟨_,Gaa (by omega)⟩
 refine Gak (bI X.Rb ey ?_)
 have I1:=I.A6 X.sq ey (hx y ey)
 have Ro1:=Ro.push (X.Rb.lt ey)
 by_cases e:(v+1==b.size)=true
 ·rw[Gag e]
  have:v+1=b.size:=by simpa using e
  exact Gap (h _ (.inl ⟨_,_,rfl,X.done Ro1 I1 (.inl (by omega))⟩))
 rw[Gaj e]
 have e' :v+1≠b.size:=by simpa using e
 refine Gak (bI X.Ra ex ?_)
 have full:(q.drop (v+1)).take (b.size -(v+1))=q.drop (v+1):=Gbs (by simp;omega)
 refine Gak (pI X.hA hk X.Rb (X.Ra.lt ex) (by omega) (by rw[full];exact fC X.sq _) (by omega) λk hk1 t1 t2=> ?_)
 rw[full] at t1 t2
 simp only[Gbq] at t1 t2
 dsimp only
 have I2:=I1.Kz (k:=k) X.sq λz hz t ht=>by have:=t1 z hz;have:=mO X.sp ex ht;omega
 have Ro2:=Ro1.append (X.Rb.extract (v+1) (v+1+k))
 rw[show v+1+k -(v+1)=k by omega] at Ro2
 have hx2:∀z,p[u]? =some z→∀t∈q.drop (v+1+k),rk z≤rk t:=λz hz t ht=>by
  rw[ex] at hz;cases hz
  rw[←GbN] at ht
  exact t2 t ht
 by_cases g:k>0
 ·rw[Gag g]
  by_cases e2:(v+1+k==b.size)=true
  ·rw[Gag e2]
   have:v+1+k=b.size:=by simpa using e2
   exact Gap (h _ (.inl ⟨_,_,rfl,X.done Ro2 I2 (.inl (by omega))⟩))
  ·rw[Gaj e2]
   have e2' :v+1+k≠b.size:=by simpa using e2
   exact FL X Ro2 I2 bu (by omega) hx2 (by omega) h
 ·rw[Gaj g]
  have k0:k=0:=by omega
  subst k0
  exact FL X Ro1 I1 bu (by omega) hx2 (by omega) h
theorem KA{mg ca cb u v N:Nat}{o:Array Keyed}{l:List Nat}{R:ForInStep Bi→SortSt→Prop}(X:LoX prog w A s κ it rk a b p q)(hk:kindOf st=κ)(Ro:bh it o l)(I:LoI rk p q l u v)(bu:u+1<p.length)(bv:v<q.length)
  (hN:N≤u+v+2)(h:∀r z,bH st z→Cm it rk p q N r→R r z):wpS (model prog w) A E s (loA a b mg ca cb o u v) R st:=by
 have sza:=X.Ra.size
 unfold loA
 rw[oA]
 refine Gak (GbJ ?_)
 generalize hz:SortSt.mk' (kindOf st) (arrOf st) (pendingOf st) mg (failedOf st)=z
 have sz:bH st z:=by rw[←hz];exact⟨rfl,rfl,rfl,rfl⟩
 have hkz:kindOf z=κ:=sz.1.trans hk
 have h' :∀r,Cm it rk p q N r→R r z:=λr hr=>h r z sz hr
 obtain⟨y,ey⟩:∃x,q[v]? =some x:=⟨_,Gaa bv⟩
 refine Gak (bI X.Rb ey ?_)
 have full:(p.drop u).take (a.size -u)=p.drop u:=Gbs (by simp;omega)
 refine Gak (pI X.hA hkz X.Ra (X.Rb.lt ey) (by omega) (by rw[full];exact fC X.sp _) (by omega) λk hk1 t1 t2=> ?_)
 rw[full] at t1 t2
 simp only[GaF,Gbe] at t1 t2
 dsimp only
 have I1:=I.Bj (k:=k) X.sp λz hz t ht=>by have:=t1 z hz;have:=mO X.sq ey ht;omega
 have Ro1:=Ro.append (X.Ra.extract u (u+k))
 rw[show u+k -u=k by omega] at Ro1
 have hx:∀z,q[v]? =some z→∀t∈p.drop (u+k),rk z≤rk t:=λz hz t ht=>by
  rw[ey] at hz;cases hz
  rw[←GbN] at ht
  have:=t2 t ht;omega
 by_cases g:k>0
 ·rw[Gag g]
  by_cases e1:(u+k+1==a.size)=true
  ·rw[Gag e1]
   have:u+k+1=a.size:=by simpa using e1
   exact Gap (h' _ (.inl ⟨_,_,rfl,X.last Ro1 I1 (by omega)⟩))
  rw[Gaj e1]
  have e1' :u+k+1≠a.size:=by simpa using e1
  by_cases e2:(u+k==a.size)=true
  ·rw[Gag e2]
   have:u+k=a.size:=by simpa using e2
   exact Gap (h' _ (.inl ⟨_,_,rfl,X.done Ro1 I1 (.inr (by omega))⟩))
  rw[Gaj e2]
  have e2' :u+k≠a.size:=by simpa using e2
  exact FN X hkz Ro1 I1 (by omega) bv hx (by omega) h'
 ·rw[Gaj g]
  have k0:k=0:=by omega
  subst k0
  exact FN X hkz Ro I bu bv hx (by omega) h'
theorem Iw{G:Nat→Option (Array Keyed)×Array Keyed×Nat×Nat×Nat→SortSt→Prop}{n m:Nat}(h:∀i z o u v mg l,i<m→bH st z→bh it o l→LoI rk p q l u v→u+1<p.length→v<q.length→i+1≤u+v→G i (none,o,u,v,mg) z):∀i c z,n≤i→i<m→(bH st z∧∃o u v mg l,c=(none,o,u,v,mg)∧bh it o l∧LoI rk p q l u v∧u+1<p.length∧v<q.length∧i+1≤u+v)→G i c z:=by
 rintro i c z _ hi ⟨hz,o,u,v,mg,l,rfl,Ro,I,g1,g2,g3⟩
 exact h i z o u v mg l hi hz Ro I g1 g2 g3
theorem N9{G:Nat→Option (Array Keyed)×Array Keyed×Nat×Nat×Nat×Nat→SortSt→Prop}{n m t:Nat}{z:SortSt}(h:∀j o u v ca cb l,j<m→bh it o l→LoI rk p q l u v→u+1<p.length→v<q.length→t+j≤u+v→G j (none,o,u,v,ca,cb) z):∀j c z',n≤j→j<m→(z' =z∧∃o u v ca cb l,c=(none,o,u,v,ca,cb)∧bh it o l∧LoI rk p q l u v∧u+1<p.length∧v<q.length∧t+j≤u+v)→G j c z' :=by
 rintro j c z' _ hj ⟨rfl,o,u',v',ca,cb,l,rfl,Ro,I,k1,k2,k3⟩
 exact h j o u' v' ca cb l hj Ro I k1 k2 k3
theorem Na{G:Option (Array Keyed)×Array Keyed×Nat×Nat×Nat×Nat→SortSt→Prop}{n:Nat}{z:SortSt}(h1:∀r t,dB it rk p q r→G (some r,t) z)(h2:∀o u v ca cb l,bh it o l→LoI rk p q l u v→u+1<p.length→v<q.length→n≤u+v→G (none,o,u,v,ca,cb) z):∀c z',(z' =z∧((∃r t,c=(some r,t)∧dB it rk p q r)∨∃o u v ca cb l,c=(none,o,u,v,ca,cb)∧bh it o l∧LoI rk p q l u v∧u+1<p.length∧v<q.length∧n≤u+v))→G c z' :=by
 rintro c z' ⟨rfl,⟨r,t,rfl,g⟩| ⟨o1,u1,v1,ca1,cb1,l1,rfl,Ro1,I1,k1,k2,k3⟩⟩
 ·exact h1 r t g
 ·exact h2 o1 u1 v1 ca1 cb1 l1 Ro1 I1 k1 k2 k3
theorem Nb{G:Nat→Option (Array Keyed)×Array Keyed×Nat×Nat×Nat×Nat×Nat→SortSt→Prop}{n m t:Nat}(h:∀j y o u v mg ca cb l,j<m→bH st y→bh it o l→LoI rk p q l u v→u+1<p.length→v<q.length→t+j≤u+v→G j (none,o,u,v,mg,ca,cb) y):∀j c y,n≤j→j<m→(bH st y∧∃o u v mg ca cb l,c=(none,o,u,v,mg,ca,cb)∧bh it o l∧LoI rk p q l u v∧u+1<p.length∧v<q.length∧t+j≤u+v)→G j c y:=by
 rintro j c y _ hj ⟨hy,o,u',v',mg',ca,cb,l,rfl,Ro,I,n1,n2,n3⟩
 exact h j y o u' v' mg' ca cb l hj hy Ro I n1 n2 n3
theorem Nc{G:Option (Array Keyed)×Array Keyed×Nat×Nat×Nat×Nat×Nat→SortSt→Prop}{n:Nat}(h1:∀y r t,bH st y→dB it rk p q r→G (some r,t) y)(h2:∀y o u v mg ca cb l,bH st y→bh it o l→LoI rk p q l u v→u+1<p.length→v<q.length→n≤u+v→G (none,o,u,v,mg,ca,cb) y):∀c y,(bH st y∧((∃r t,c=(some r,t)∧dB it rk p q r)∨∃o u v mg ca cb l,c=(none,o,u,v,mg,ca,cb)∧bh it o l∧LoI rk p q l u v∧u+1<p.length∧v<q.length∧n≤u+v))→G c y:=by
 rintro c y ⟨hy,⟨r,t,rfl,g⟩| ⟨o1,u1,v1,mg1,ca1,cb1,l1,rfl,Ro1,I1,k1,k2,k3⟩⟩
 ·exact h1 y r t hy g
 ·exact h2 y o1 u1 v1 mg1 ca1 cb1 l1 hy Ro1 I1 k1 k2 k3
theorem Nd{Q:Array Keyed→SortSt→Prop}(hA:iF prog w A s κ it rk)(hk:kindOf st=κ)(Ra:bh it a p)(Rb:bh it b q)(sp:Srt rk p)(sq:Srt rk q)(hp:0<p.length)(hq:0<q.length)
  (h0:∀x,q[0]? =some x→∀y∈p,rk x≤rk y)(hl:∀x,p[p.length -1]? =some x→∀y∈q,rk y≤rk x)(h:∀r z,bH st z→dB it rk p q r→Q r z):wpS (model prog w) A E s (Ky a b) Q st:=by
 rw[Iv]
 refine Gak (wpS_lift (Gcj ⟨rfl, ?_⟩))
 obtain⟨x0,hx0⟩:∃x,q[0]? =some x:=⟨_,Gaa hq⟩
 refine Gak (bI Rb hx0 ?_)
 have I0:LoI rk p q [x0] 0 1:=by
  refine⟨?_,GbT _ _,λx hx y hy=> ?_,λx hx y hy=> ?_⟩
  ·have:=take1 hx0
   rw[GbF] at this
   rw[this];simp
  ·simp at hx;subst hx;exact h0 _ hx0 y (Gbp hy)
  ·simp at hx;subst hx;exact mO sq hx0 (Gbp hy)
 have R0:bh it #[kas_item it x0] [x0]:=⟨rfl,λj hj=>by simp at hj;subst hj;exact Rb.lt hx0⟩
 have sza:=Ra.size
 have szb:=Rb.size
 have X:LoX prog w A s κ it rk a b p q:=⟨hA,Ra,Rb,sp,sq,hl⟩
 refine dG (λc1=> ?_) λc1=> ?_
 ·have:1=b.size:=by simpa using c1
  exact Gap (h _ _ .refl (X.done R0 I0 (.inl (by omega))))
 have c1' :1≠b.size:=by simpa using c1
 refine dG (λc2=> ?_) λc2=> ?_
 ·have:0+1=a.size:=by simpa using c2
  exact Gap (h _ _ .refl (X.last R0 I0 (by omega)))
 have c2' :0+1≠a.size:=by simpa using c2
 refine Gak (GcE ?_)
 refine Gak (Gbo (Gbd (I:=λi c z=>bH st z∧∃o u v mg l,c=(none,o,u,v,mg)∧bh it o l∧LoI rk p q l u v∧u+1<p.length∧v<q.length∧i+1≤u+v)
  (Q:=λc z=>bH st z∧∃r t,c=(some r,t)∧dB it rk p q r) ?step ?fin ⟨.refl,_,0,1,_,[x0],rfl,R0,I0,by omega,by omega,by omega⟩) ?post)
 case fin=>
  rintro c z ⟨_,o,u,v,mg,l,rfl,_,_,g1,g2,g3⟩
  exfalso
  omega
 case post=>
  rintro c z ⟨hz,r,t,rfl,g⟩
  exact Gap (h r z hz g)
 case step=>
  refine Iw λi z o u v mg l hi hz Ro I g1 g2 g3=> ?_
  have hkz:kindOf z=κ:=hz.1.trans hk
  refine Gak (Gbo (Gbd (I:=λj c z' =>z' =z∧∃o u' v' ca cb l,c=(none,o,u',v',ca,cb)∧bh it o l∧LoI rk p q l u' v' ∧u' +1<p.length∧v' <q.length∧u+v+j≤u' +v')
   (Q:=λc z' =>z' =z∧((∃r t,c=(some r,t)∧dB it rk p q r)∨∃o u' v' ca cb l,c=(none,o,u',v',ca,cb)∧bh it o l∧LoI rk p q l u' v' ∧u' +1<p.length∧v' <q.length∧u+v+1≤u' +v')) ?s1 ?f1 ⟨rfl,o,u,v,0,0,l,rfl,Ro,I,g1,g2,by omega⟩) ?p1)
  case f1=>
   rintro c z' ⟨_,o,u',v',ca,cb,l,rfl,_,_,k1,k2,k3⟩
   exfalso
   omega
  case s1=>
   refine N9 λj o u' v' ca cb l hj Ro I k1 k2 k3=> ?_
   obtain⟨y,hy⟩:∃x,q[v']? =some x:=⟨_,Gaa k2⟩
   obtain⟨x,hx⟩:∃x,p[u']? =some x:=⟨_,Gaa (by omega)⟩
   refine Gak (bI Rb hy (Gak (bI Ra hx (Gak (A5 hA hkz (Rb.lt hy) (Ra.lt hx) ?_)))))
   dsimp only
   refine dG (λlt=> ?_) λlt=> ?_
   ·replace lt:=GaD lt
    refine Gak (bI Rb hy ?_)
    have I' :=I.A6 sq hy λt ht=>by have:=mO sp hx ht;omega
    have Ro' :=Ro.push (Rb.lt hy)
    refine dG (λe=> ?_) λe=> ?_
    ·have:v' +1=b.size:=by simpa using e
     exact Gap ⟨rfl,.inl ⟨_,_,rfl,X.done Ro' I' (.inl (by omega))⟩⟩
    ·have e' :v' +1≠b.size:=by simpa using e
     refine dG (λe2=> ?_) λe2=> ?_
     ·exact Gap ⟨rfl,.inr ⟨_,_,_,_,_,_,rfl,Ro',I',k1,by omega,by omega⟩⟩
     ·exact Gap ⟨rfl,_,_,_,_,_,_,rfl,Ro',I',k1,by omega,by omega⟩
   ·replace lt:=of_decide_eq_false (Bool.eq_false_iff.mpr lt)
    refine Gak (bI Ra hx ?_)
    have I' :=I.rR sp hx λt ht=>by have:=mO sq hy ht;omega
    have Ro' :=Ro.push (Ra.lt hx)
    refine dG (λe=> ?_) λe=> ?_
    ·have:u' +1+1=a.size:=by simpa using e
     exact Gap ⟨rfl,.inl ⟨_,_,rfl,X.last Ro' I' (by omega)⟩⟩
    ·have e' :u' +1+1≠a.size:=by simpa using e
     refine dG (λe2=> ?_) λe2=> ?_
     ·exact Gap ⟨rfl,.inr ⟨_,_,_,_,_,_,rfl,Ro',I',by omega,k2,by omega⟩⟩
     ·exact Gap ⟨rfl,_,_,_,_,_,_,rfl,Ro',I',by omega,k2,by omega⟩
  case p1=>
   refine Na (λr t g=>Gap ⟨hz,r,_,rfl,g⟩) λo1 u1 v1 ca1 cb1 l1 Ro1 I1 k1 k2 k3=> ?_
   refine Gak (wpS_lift (Gcj ⟨rfl, ?_⟩))
   refine Gak (Gbo (Gbd (I:=λj c y=>bH st y∧∃o u' v' mg ca cb l,c=(none,o,u',v',mg,ca,cb)∧bh it o l∧LoI rk p q l u' v' ∧u' +1<p.length∧v' <q.length∧u1+v1+j≤u' +v')
    (Q:=λc y=>bH st y∧((∃r t,c=(some r,t)∧dB it rk p q r)∨∃o u' v' mg ca cb l,c=(none,o,u',v',mg,ca,cb)∧bh it o l∧LoI rk p q l u' v' ∧u' +1<p.length∧v' <q.length∧u1+v1≤u' +v')) ?s2 ?f2 ⟨hz,o1,u1,v1,_,ca1,cb1,l1,rfl,Ro1,I1,k1,k2,by omega⟩) ?p2)
   case f2=>
    rintro c y ⟨_,o,u',v',mg,ca,cb,l,rfl,_,_,n1,n2,n3⟩
    exfalso
    omega
   case p2=>
    refine Nc (λy r t hy g=>Gap ⟨hy,r,_,rfl,g⟩) λy o2 u2 v2 mg2 ca2 cb2 l2 hy Ro2 I2 n1 n2 n3=> ?_
    dsimp only
    rw[oA]
    refine Gak (GbJ (Gap ⟨hy.trans ⟨rfl,rfl,rfl,rfl⟩,o2,u2,v2,_,l2,rfl,Ro2,I2,n1,n2,by omega⟩))
   case s2=>
    refine Nb λj y o u' v' mg' ca cb l hj hy Ro I n1 n2 n3=> ?_
    have fin:∀g,wpS (model prog w) A E s (loA a b g ca cb o u' v') (λr y' =>match r with
      | .done c=>bH st y' ∧((∃r t,c=(some r,t)∧dB it rk p q r)∨∃o u' v' mg ca cb l,c=(none,o,u',v',mg,ca,cb)∧bh it o l∧LoI rk p q l u' v' ∧u' +1<p.length∧v' <q.length∧u1+v1≤u' +v')
      | .yield c=>bH st y' ∧∃o u' v' mg ca cb l,c=(none,o,u',v',mg,ca,cb)∧bh it o l∧LoI rk p q l u' v' ∧u' +1<p.length∧v' <q.length∧u1+v1+(j+1)≤u' +v') y:=λg=>by
     refine KA X (hy.1.trans hk) Ro I n1 n2 (N:=u' +v' +2) (Gaq _) λr z' sz hr=> ?_
     cases r with
     |done c=>
      rcases hr with hr| ⟨o,u,v,mg,ca,cb,e,P,hn⟩
      ·exact⟨hy.trans sz,.inl hr⟩
      ·obtain⟨l,h1,h2⟩:=P.ex
       exact⟨hy.trans sz,.inr ⟨o,u,v,mg,ca,cb,l,e,h1,h2,P.bu,P.bv,by omega⟩⟩
     |yield c=>
      obtain⟨o,u,v,mg,ca,cb,e,P,hn⟩:=hr
      obtain⟨l,h1,h2⟩:=P.ex
      exact⟨hy.trans sz,o,u,v,mg,ca,cb,l,e,h1,h2,P.bu,P.bv,by omega⟩
    show wpS (model prog w) A E s (if mg' >1 then loA a b (mg' -1) ca cb o u' v' else loA a b mg' ca cb o u' v') _ y
    split
    ·exact Gbo (fin _) λr y' hr=>by cases r<;>exact hr
    ·exact Gbo (fin _) λr y' hr=>by cases r<;>exact hr
end
noncomputable def KC:Array Keyed→Array Keyed→SM (Array Keyed):=sortPriv%PySem.Builtin.mergeHi
theorem Iy(a b:Array Keyed):KC a b=(do
 rule "list.sort.merge-hi"
 let tot:=a.size+b.size
 let fin (o:Array Keyed) (u v:Nat):=a.extract 0 u++b.extract 0 v++o.reverse
 let fst (o:Array Keyed) (u v:Nat):=b.extract 0 v++a.extract 0 u++o.reverse
 let mut u:=a.size -1
 let mut v:=b.size
 let mut o:Array Keyed:=#[←elem' a u]
 if u==0 then return fin o u v
 if v==1 then return fst o u v
 let mut mg:=gallopOf (←get)
 for _ in [0:tot] do
  let mut ca:=0
  let mut cb:=0
  for _ in [0:tot] do
   let some w←lt' (←elem' b (v -1)) (←elem' a (u -1))|return fin o u v
   if w then
    u:=u -1;o:=o.push (←elem' a u);ca:=ca+1;cb:=0
    if u==0 then return fin o u v
    if ca≥mg then break
   else
    v:=v -1;o:=o.push (←elem' b v);cb:=cb+1;ca:=0
    if v==1 then return fst o u v
    if cb≥mg then break
  rule "list.sort.gallop"
  mg:=mg+1
  for _ in [0:tot] do
   if mg>1 then mg:=mg -1
   rQ mg
   let some c←ll false (←elem' b (v -1)) a 0 u (u -1)|return fin o u v
   let k:=u -c
   ca:=k
   if k>0 then
    o:=o++(a.extract c u).reverse;u:=c
    if u==0 then return fin o u v
   v:=v -1;o:=o.push (←elem' b v)
   if v==1 then return fst o u v
   let some c←ll true (←elem' a (u -1)) b 0 v (v -1)|return fin o u v
   let k:=v -c
   cb:=k
   if k>0 then
    o:=o++(b.extract c v).reverse;v:=c
    if v==1 then return fst o u v
    if v==0 then return fin o u v
   u:=u -1;o:=o.push (←elem' a u)
   if u==0 then return fin o u v
   if ca<7&&cb<7 then break
  mg:=mg+1
  rQ mg
 unsupported "internal:list.sort.merge-bound"):=rfl
noncomputable abbrev Bk:=Option (Array Keyed)×Nat×Nat×Array Keyed×Nat×Nat×Nat
noncomputable def hiC(a b:Array Keyed)(mg ca cb:Nat)(o:Array Keyed)(u v:Nat):SM (ForInStep Bk):=do
 let e←elem' a (u -1)
 if(u -1==0)=true then pure (.done (some (a.extract 0 (u -1)++b.extract 0 v++(o.push e).reverse),u -1,v,o.push e,mg,ca,cb))
 else if(decide (ca<7)&&decide (cb<7))=true then pure (.done (none,u -1,v,o.push e,mg,ca,cb))
 else pure (.yield (none,u -1,v,o.push e,mg,ca,cb))
noncomputable def hiB(a b:Array Keyed)(mg ca cb:Nat)(o:Array Keyed)(u v:Nat):SM (ForInStep Bk):=do
 let e←elem' b (v -1)
 if(v -1==1)=true then pure (.done (some (b.extract 0 (v -1)++a.extract 0 u++(o.push e).reverse),u,v -1,o.push e,mg,ca,cb))
 else do
  let e2←elem' a (u -1)
  let f←ll true e2 b 0 (v -1) (v -1 -1)
  match f with
  |some c=>
   if v -1 -c>0 then
    if(c==1)=true then pure (.done (some (b.extract 0 c++a.extract 0 u++(o.push e++(b.extract c (v -1)).reverse).reverse),u,c,o.push e++(b.extract c (v -1)).reverse,mg,ca,v -1 -c))
    else if(c==0)=true then pure (.done (some (a.extract 0 u++b.extract 0 c++(o.push e++(b.extract c (v -1)).reverse).reverse),u,c,o.push e++(b.extract c (v -1)).reverse,mg,ca,v -1 -c))
    else hiC a b mg ca (v -1 -c) (o.push e++(b.extract c (v -1)).reverse) u c
   else hiC a b mg ca (v -1 -c) (o.push e) u (v -1)
  |_=>pure (.done (some (a.extract 0 u++b.extract 0 (v -1)++(o.push e).reverse),u,v -1,o.push e,mg,ca,cb))
noncomputable def hiA(a b:Array Keyed)(mg ca cb:Nat)(o:Array Keyed)(u v:Nat):SM (ForInStep Bk):=do
 rQ mg
 let e←elem' b (v -1)
 let f←ll false e a 0 u (u -1)
 match f with
 |some c=>
  if u -c>0 then
   if(c==0)=true then pure (.done (some (a.extract 0 c++b.extract 0 v++(o++(a.extract c u).reverse).reverse),c,v,o++(a.extract c u).reverse,mg,u -c,cb))
   else hiB a b mg (u -c) cb (o++(a.extract c u).reverse) c v
  else hiB a b mg (u -c) cb o u v
 |_=>pure (.done (some (a.extract 0 u++b.extract 0 v++o.reverse),u,v,o,mg,ca,cb))
structure HiI(rk:Nat→Int)(p q o:List Nat)(u v:Nat):Prop where
 pm:o.Perm (p.drop u++q.drop v)
 so:Srt rk o.reverse
 oa:∀x∈o,∀y∈p.take u,rk y≤rk x
 ob:∀x∈o,∀y∈q.take v,rk y≤rk x
section
variable{rk:Nat→Int}{p q o:List Nat}{u v c:Nat}
theorem DB{l:List Nat}{m n:Nat}{x:Nat}(h:m≤n)(hx:x∈l.take m):x∈l.take n:=by
 have:l.take m=(l.take n).take m:=by rw[Gcn,Gcw h]
 rw[this] at hx
 exact Gbh hx
theorem FP{l:List Nat}{m n:Nat}{x:Nat}(h:m≤n)(hx:x∈(l.drop m).take (n -m)):x∈l.take n:=by
 rw[←GcF] at hx
 exact Gbp hx
theorem FQ{l:List Nat}{m n:Nat}(h:m≤n):l.drop m=(l.drop m).take (n -m)++l.drop n:=by
 conv=>lhs;rw[←Gbb (n -m) (l.drop m)]
 rw[GbN,show m+(n -m)=n by omega]
theorem HiI.Bj(I:HiI rk p q o u v)(sp:Srt rk p)(hc:c≤u)(h:∀x∈(p.drop c).take (u -c),∀y∈q.take v,rk y≤rk x):HiI rk p q (o++((p.drop c).take (u -c)).reverse) c v:=by
 refine⟨?_, ?_,λx hx y hy=> ?_,λx hx y hy=> ?_⟩
 ·have e:p.drop c++q.drop v=((p.drop c).take (u -c)++p.drop u)++q.drop v:=by rw[←FQ hc]
  rw[e]
  refine(Gbl.trans ?_)
  rw[Gay]
  exact(List.reverse_perm _).append I.pm
 ·rw[List.reverse_append,List.reverse_reverse]
  exact dH (gk (fC sp c) _) I.so λx hx y hy=>I.oa y (GbL.mp hy) x (FP hc hx)
 ·rcases Gav.mp hx with hx|hx
  ·exact I.oa x hx y (DB hc hy)
  ·exact qW sp c y hy x (Gbh (GbL.mp hx))
 ·rcases Gav.mp hx with hx|hx
  ·exact I.ob x hx y hy
  ·exact h x (GbL.mp hx) y hy
theorem HiI.swap(I:HiI rk p q o u v):HiI rk q p o v u:=⟨I.pm.trans Gbl,I.so,I.ob,I.oa⟩
theorem HiI.Kz(I:HiI rk p q o u v)(sq:Srt rk q)(hc:c≤v)(h:∀x∈(q.drop c).take (v -c),∀y∈p.take u,rk y≤rk x):HiI rk p q (o++((q.drop c).take (v -c)).reverse) u c:=(I.swap.Bj sq hc h).swap
theorem HiI.rR{x:Nat}(I:HiI rk p q o u v)(sp:Srt rk p)(hu:0<u)(hx:p[u -1]? =some x)(h:∀y∈q.take v,rk y≤rk x):HiI rk p q (o++[x]) (u -1) v:=by
 have e:(p.drop (u -1)).take (u -(u -1))=[x]:=by rw[show u -(u -1)=1 by omega];exact take1 hx
 have:=I.Bj (c:=u -1) sp (by omega) (by rw[e];intro z hz;simp at hz;subst hz;exact h)
 rw[e] at this
 exact this
theorem HiI.A6{x:Nat}(I:HiI rk p q o u v)(sq:Srt rk q)(hv:0<v)(hx:q[v -1]? =some x)(h:∀y∈p.take u,rk y≤rk x):HiI rk p q (o++[x]) u (v -1):=(I.swap.rR sq hv hx h).swap
theorem HiI.perm(I:HiI rk p q o u v):(p.take u++q.take v++o.reverse).Perm (p++q):=by
 refine(Gcf _ ((List.reverse_perm _).trans I.pm)).trans ?_
 have e:p++q=(p.take u++p.drop u)++(q.take v++q.drop v):=by rw[Gbb,Gbb]
 rw[e,Gay,Gay]
 refine Gcf _ ?_
 rw[←Gay,←Gay]
 exact Gbi _ Gbl
theorem HiI.done(I:HiI rk p q o u v)(sp:Srt rk p)(sq:Srt rk q)(h:u=0∨v=0):(p.take u++q.take v++o.reverse).Perm (p++q)∧Srt rk (p.take u++q.take v++o.reverse):=by
 refine⟨I.perm, ?_⟩
 rcases h with rfl|rfl
 ·rw[List.take_zero,List.nil_append]
  exact dH (gk sq v) I.so λx hx y hy=>I.ob y (GbL.mp hy) x hx
 ·rw[List.take_zero,Gbg]
  exact dH (gk sp u) I.so λx hx y hy=>I.oa y (GbL.mp hy) x hx
theorem HiI.first(I:HiI rk p q o u v)(sp:Srt rk p)(h:v=1)(h0:∀x,q[0]? =some x→∀y∈p,rk x≤rk y):(q.take v++p.take u++o.reverse).Perm (p++q)∧Srt rk (q.take v++p.take u++o.reverse):=by
 refine⟨(Gbi _ Gbl).trans I.perm, ?_⟩
 subst h
 refine dH (dH ?_ (gk sp u) λx hx y hy=> ?_) I.so λx hx y hy=> ?_
 ·cases q with
  |nil=>exact List.Pairwise.nil
  |cons z t=>exact GbT _ _
 ·cases q with
  |nil=>cases hx
  |cons z t=>
   have:x=z:=by simpa using hx
   subst this
   exact h0 x rfl y (Gbh hy)
 ·rcases Gav.mp hx with hx|hx
  ·exact I.ob y (GbL.mp hy) x hx
  ·exact I.oa y (GbL.mp hy) x hx
end
section
variable{prog:Program}{w:World}{A:Around}{E:Value→Shared→Prop}{s:Shared}{st:SortSt}{κ:SortKind}{it:Array Keyed}{rk:Nat→Int}{a b:Array Keyed}{p q:List Nat}
theorem bh.take{a:Array Keyed}{p:List Nat}(R:bh it a p)(n:Nat):bh it (a.extract 0 n) (p.take n):=by
 have:=R.extract 0 n
 rw[GbF,Nat.sub_zero] at this
 exact this
theorem mP{l:List Nat}{x y n:Nat}(h:Srt rk l)(hx:l[n -1]? =some x)(hy:y∈l.take n):rk y≤rk x:=by
 obtain⟨k,hk⟩:=Gce.mp hy
 have hkn:k<n:=by have:=(Gae.mp hk).1;simp at this;omega
 rw[GaV hkn] at hk
 exact qV h (by omega) hk hx
structure HiP(it:Array Keyed)(rk:Nat→Int)(p q:List Nat)(o:Array Keyed)(u v:Nat):Prop where
 ex:∃l,bh it o l∧HiI rk p q l u v
 bu:0<u
 bv:1<v
 cu:u≤p.length
 cv:v≤q.length
noncomputable def Cn(it:Array Keyed)(rk:Nat→Int)(p q:List Nat)(N:Nat):ForInStep Bk→Prop
 | .done c=>(∃r t,c=(some r,t)∧dB it rk p q r)∨∃o u v mg ca cb,c=(none,u,v,o,mg,ca,cb)∧HiP it rk p q o u v∧u+v≤N
 | .yield c=>∃o u v mg ca cb,c=(none,u,v,o,mg,ca,cb)∧HiP it rk p q o u v∧u+v≤N
structure HiX(prog:Program)(w:World)(A:Around)(s:Shared)(κ:SortKind)(it:Array Keyed)(rk:Nat→Int)(a b:Array Keyed)(p q:List Nat):Prop where
 hA:iF prog w A s κ it rk
 Ra:bh it a p
 Rb:bh it b q
 sp:Srt rk p
 sq:Srt rk q
 h0:∀x,q[0]? =some x→∀y∈p,rk x≤rk y
theorem HiX.done{o:Array Keyed}{l:List Nat}{u v:Nat}(X:HiX prog w A s κ it rk a b p q)(Ro:bh it o l)(I:HiI rk p q l u v)(hh:u=0∨v=0):dB it rk p q (a.extract 0 u++b.extract 0 v++o.reverse):=
 ⟨_,((X.Ra.take _).append (X.Rb.take _)).append Ro.reverse,(I.done X.sp X.sq hh).1,(I.done X.sp X.sq hh).2⟩
theorem HiX.first{o:Array Keyed}{l:List Nat}{u v:Nat}(X:HiX prog w A s κ it rk a b p q)(Ro:bh it o l)(I:HiI rk p q l u v)(hh:v=1):dB it rk p q (b.extract 0 v++a.extract 0 u++o.reverse):=
 ⟨_,((X.Rb.take _).append (X.Ra.take _)).append Ro.reverse,(I.first X.sp hh X.h0).1,(I.first X.sp hh X.h0).2⟩
theorem FR{mg ca cb u v N:Nat}{o:Array Keyed}{l:List Nat}{R:ForInStep Bk→SortSt→Prop}(X:HiX prog w A s κ it rk a b p q)(Ro:bh it o l)(I:HiI rk p q l u v)(bu:0<u)(bv:1<v)(cu:u≤p.length)(cv:v≤q.length)
  (hx:∀x,p[u -1]? =some x→∀y∈q.take v,rk y≤rk x)(hN:u+v≤N+1)(h:∀r,Cn it rk p q N r→R r st):wpS (model prog w) A E s (hiC a b mg ca cb o u v) R st:=by
 unfold hiC
 obtain⟨x,ex⟩:∃x,p[u -1]? =some x:=⟨_,Gaa (by omega)⟩
 refine Gak (bI X.Ra ex ?_)
 have I' :=I.rR X.sp bu ex (hx x ex)
 have Ro' :=Ro.push (X.Ra.lt ex)
 by_cases e:(u -1==0)=true
 ·rw[Gag e]
  have:u -1=0:=by simpa using e
  exact Gap (h _ (.inl ⟨_,_,rfl,X.done Ro' I' (.inl this)⟩))
 ·rw[Gaj e]
  have e' :u -1≠0:=by simpa using e
  by_cases e2:(decide (ca<7)&&decide (cb<7))=true
  ·rw[Gag e2]
   exact Gap (h _ (.inr ⟨_,_,_,_,_,_,rfl,⟨⟨_,Ro',I'⟩,by omega,bv,by omega,cv⟩,by omega⟩))
  ·rw[Gaj e2]
   exact Gap (h _ ⟨_,_,_,_,_,_,rfl,⟨⟨_,Ro',I'⟩,by omega,bv,by omega,cv⟩,by omega⟩)
theorem FT{mg ca cb u v N:Nat}{o:Array Keyed}{l:List Nat}{R:ForInStep Bk→SortSt→Prop}(X:HiX prog w A s κ it rk a b p q)(hk:kindOf st=κ)(Ro:bh it o l)(I:HiI rk p q l u v)(bu:0<u)(bv:1<v)(cu:u≤p.length)(cv:v≤q.length)
  (hx:∀x,q[v -1]? =some x→∀y∈p.take u,rk y≤rk x)(hN:u+v≤N+2)(h:∀r,Cn it rk p q N r→R r st):wpS (model prog w) A E s (hiB a b mg ca cb o u v) R st:=by
 unfold hiB
 obtain⟨y,ey⟩:∃x,q[v -1]? =some x:=⟨_,Gaa (by omega)⟩
 obtain⟨x,ex⟩:∃x,p[u -1]? =some x:=⟨_,Gaa (by omega)⟩
 refine Gak (bI X.Rb ey ?_)
 have I1:=I.A6 X.sq (by omega) ey (hx y ey)
 have Ro1:=Ro.push (X.Rb.lt ey)
 by_cases e:(v -1==1)=true
 ·rw[Gag e]
  have:v -1=1:=by simpa using e
  exact Gap (h _ (.inl ⟨_,_,rfl,X.first Ro1 I1 this⟩))
 rw[Gaj e]
 have e' :v -1≠1:=by simpa using e
 refine Gak (bI X.Ra ex ?_)
 refine Gak (pI X.hA hk X.Rb (X.Ra.lt ex) (by omega) (by rw[GbF];exact gk X.sq _) (by omega) λc hc1 t1 t2=> ?_)
 rw[GbF] at t1 t2
 simp only[Gbq] at t1 t2
 dsimp only
 have t2' :∀z∈(q.drop c).take (v -1 -c),rk x≤rk z:=λz hz=>t2 z (by rw[GcF];exact hz)
 have t1' :∀z∈q.take c,rk z<rk x:=λz hz=>t1 z (by rw[Gcn,Gcw hc1];exact hz)
 have I2:=I1.Kz (c:=c) X.sq hc1 λz hz t ht=>by have:=t2' z hz;have:=mP X.sp ex ht;omega
 have Ro2:=Ro1.append (X.Rb.extract c (v -1)).reverse
 have hx2:∀z,p[u -1]? =some z→∀t∈q.take c,rk t≤rk z:=λz hz t ht=>by
  rw[ex] at hz;cases hz
  have:=t1' t ht;omega
 by_cases g:v -1 -c>0
 ·rw[Gag g]
  by_cases e2:(c==1)=true
  ·rw[Gag e2]
   have:c=1:=by simpa using e2
   exact Gap (h _ (.inl ⟨_,_,rfl,X.first Ro2 I2 this⟩))
  rw[Gaj e2]
  have e2' :c≠1:=by simpa using e2
  by_cases e3:(c==0)=true
  ·rw[Gag e3]
   have:c=0:=by simpa using e3
   exact Gap (h _ (.inl ⟨_,_,rfl,X.done Ro2 I2 (.inr this)⟩))
  rw[Gaj e3]
  have e3' :c≠0:=by simpa using e3
  exact FR X Ro2 I2 bu (by omega) cu (by omega) hx2 (by omega) h
 ·rw[Gaj g]
  have k0:c=v -1:=by omega
  rw[k0] at hx2
  exact FR X Ro1 I1 bu (by omega) cu (by omega) hx2 (by omega) h
theorem KD{mg ca cb u v N:Nat}{o:Array Keyed}{l:List Nat}{R:ForInStep Bk→SortSt→Prop}(X:HiX prog w A s κ it rk a b p q)(hk:kindOf st=κ)(Ro:bh it o l)(I:HiI rk p q l u v)(bu:0<u)(bv:1<v)(cu:u≤p.length)(cv:v≤q.length)
  (hN:u+v≤N+2)(h:∀r z,bH st z→Cn it rk p q N r→R r z):wpS (model prog w) A E s (hiA a b mg ca cb o u v) R st:=by
 unfold hiA
 rw[oA]
 refine Gak (GbJ ?_)
 generalize hz:SortSt.mk' (kindOf st) (arrOf st) (pendingOf st) mg (failedOf st)=z
 have sz:bH st z:=by rw[←hz];exact⟨rfl,rfl,rfl,rfl⟩
 have hkz:kindOf z=κ:=sz.1.trans hk
 have h' :∀r,Cn it rk p q N r→R r z:=λr hr=>h r z sz hr
 obtain⟨y,ey⟩:∃x,q[v -1]? =some x:=⟨_,Gaa (by omega)⟩
 refine Gak (bI X.Rb ey ?_)
 refine Gak (pI X.hA hkz X.Ra (X.Rb.lt ey) (by omega) (by rw[GbF];exact gk X.sp _) (by omega) λc hc1 t1 t2=> ?_)
 rw[GbF] at t1 t2
 simp only[GaF,Gbe] at t1 t2
 dsimp only
 have t2' :∀z∈(p.drop c).take (u -c),rk y<rk z:=λz hz=>t2 z (by rw[GcF];exact hz)
 have t1' :∀z∈p.take c,rk z≤rk y:=λz hz=>t1 z (by rw[Gcn,Gcw hc1];exact hz)
 have I1:=I.Bj (c:=c) X.sp hc1 λz hz t ht=>by have:=t2' z hz;have:=mP X.sq ey ht;omega
 have Ro1:=Ro.append (X.Ra.extract c u).reverse
 have hx:∀z,q[v -1]? =some z→∀t∈p.take c,rk t≤rk z:=λz hz t ht=>by
  rw[ey] at hz;cases hz
  exact t1' t ht
 by_cases g:u -c>0
 ·rw[Gag g]
  by_cases e1:(c==0)=true
  ·rw[Gag e1]
   have:c=0:=by simpa using e1
   exact Gap (h' _ (.inl ⟨_,_,rfl,X.done Ro1 I1 (.inl this)⟩))
  rw[Gaj e1]
  have e1' :c≠0:=by simpa using e1
  exact FT X hkz Ro1 I1 (by omega) bv (by omega) cv hx (by omega) h'
 ·rw[Gaj g]
  have k0:c=u:=by omega
  rw[k0] at hx
  exact FT X hkz Ro I bu bv cu cv hx (by omega) h'
theorem Iz{G:Nat→Option (Array Keyed)×Nat×Nat×Array Keyed×Nat→SortSt→Prop}{n m:Nat}(h:∀i z o u v mg,i<m→bH st z→HiP it rk p q o u v→u+v+i+1≤p.length+q.length→G i (none,u,v,o,mg) z):∀i c z,n≤i→i<m→(bH st z∧∃o u v mg,c=(none,u,v,o,mg)∧HiP it rk p q o u v∧u+v+i+1≤p.length+q.length)→G i c z:=by
 rintro i c z _ hi ⟨hz,o,u,v,mg,rfl,P,g3⟩
 exact h i z o u v mg hi hz P g3
theorem Nf{G:Nat→Option (Array Keyed)×Nat×Nat×Array Keyed×Nat×Nat→SortSt→Prop}{n m t:Nat}{z:SortSt}(h:∀j o u v ca cb,j<m→HiP it rk p q o u v→u+v+j≤t→G j (none,u,v,o,ca,cb) z):∀j c z',n≤j→j<m→(z' =z∧∃o u v ca cb,c=(none,u,v,o,ca,cb)∧HiP it rk p q o u v∧u+v+j≤t)→G j c z' :=by
 rintro j c z' _ hj ⟨rfl,o,u',v',ca,cb,rfl,P,k3⟩
 exact h j o u' v' ca cb hj P k3
theorem Ng{G:Option (Array Keyed)×Nat×Nat×Array Keyed×Nat×Nat→SortSt→Prop}{n:Nat}{z:SortSt}(h1:∀r t,dB it rk p q r→G (some r,t) z)(h2:∀o u v ca cb,HiP it rk p q o u v→u+v+1≤n→G (none,u,v,o,ca,cb) z):∀c z',(z' =z∧((∃r t,c=(some r,t)∧dB it rk p q r)∨∃o u v ca cb,c=(none,u,v,o,ca,cb)∧HiP it rk p q o u v∧u+v+1≤n))→G c z' :=by
 rintro c z' ⟨rfl,⟨r,t,rfl,g⟩| ⟨o1,u1,v1,ca1,cb1,rfl,P1,k3⟩⟩
 ·exact h1 r t g
 ·exact h2 o1 u1 v1 ca1 cb1 P1 k3
theorem Nh{G:Nat→Option (Array Keyed)×Nat×Nat×Array Keyed×Nat×Nat×Nat→SortSt→Prop}{n m t:Nat}(h:∀j y o u v mg ca cb,j<m→bH st y→HiP it rk p q o u v→u+v+j≤t→G j (none,u,v,o,mg,ca,cb) y):∀j c y,n≤j→j<m→(bH st y∧∃o u v mg ca cb,c=(none,u,v,o,mg,ca,cb)∧HiP it rk p q o u v∧u+v+j≤t)→G j c y:=by
 rintro j c y _ hj ⟨hy,o,u',v',mg',ca,cb,rfl,P,n3⟩
 exact h j y o u' v' mg' ca cb hj hy P n3
theorem Nj{G:Option (Array Keyed)×Nat×Nat×Array Keyed×Nat×Nat×Nat→SortSt→Prop}{n:Nat}(h1:∀y r t,bH st y→dB it rk p q r→G (some r,t) y)(h2:∀y o u v mg ca cb,bH st y→HiP it rk p q o u v→u+v≤n→G (none,u,v,o,mg,ca,cb) y):∀c y,(bH st y∧((∃r t,c=(some r,t)∧dB it rk p q r)∨∃o u v mg ca cb,c=(none,u,v,o,mg,ca,cb)∧HiP it rk p q o u v∧u+v≤n))→G c y:=by
 rintro c y ⟨hy,⟨r,t,rfl,g⟩| ⟨o1,u1,v1,mg1,ca1,cb1,rfl,P1,k3⟩⟩
 ·exact h1 y r t hy g
 ·exact h2 y o1 u1 v1 mg1 ca1 cb1 hy P1 k3
theorem Nk{Q:Array Keyed→SortSt→Prop}(hA:iF prog w A s κ it rk)(hk:kindOf st=κ)(Ra:bh it a p)(Rb:bh it b q)(sp:Srt rk p)(sq:Srt rk q)(hp:0<p.length)(hq:0<q.length)
  (h0:∀x,q[0]? =some x→∀y∈p,rk x≤rk y)(hl:∀x,p[p.length -1]? =some x→∀y∈q,rk y≤rk x)(h:∀r z,bH st z→dB it rk p q r→Q r z):wpS (model prog w) A E s (KC a b) Q st:=by
 rw[Iy]
 refine Gak (wpS_lift (Gcj ⟨rfl, ?_⟩))
 have sza:=Ra.size
 have szb:=Rb.size
 obtain⟨x0,hx0⟩:∃x,p[p.length -1]? =some x:=⟨_,Gaa (by omega)⟩
 rw[sza,szb]
 refine Gak (bI Ra hx0 ?_)
 have I0:HiI rk p q [x0] (p.length -1) q.length:=by
  refine⟨?_,GbT _ _,λx hx y hy=> ?_,λx hx y hy=> ?_⟩
  ·have:=take1 hx0
   rw[GbK,Gbg]
   have e:p.drop (p.length -1)=[x0]:=by
    rw[←this,Gbs (by simp;omega)]
   rw[e]
  ·simp at hx;subst hx;exact mP sp hx0 (by rw[List.take_length];exact Gbh hy)
  ·simp at hx;subst hx;exact hl _ hx0 y (Gbh hy)
 have R0:bh it #[kas_item it x0] [x0]:=⟨rfl,λj hj=>by simp at hj;subst hj;exact Ra.lt hx0⟩
 have X:HiX prog w A s κ it rk a b p q:=⟨hA,Ra,Rb,sp,sq,h0⟩
 refine dG (λc1=> ?_) λc1=> ?_
 ·have:p.length -1=0:=by simpa using c1
  exact Gap (h _ _ .refl (X.done R0 I0 (.inl this)))
 have c1' :p.length -1≠0:=by simpa using c1
 refine dG (λc2=> ?_) λc2=> ?_
 ·have:q.length=1:=by simpa using c2
  exact Gap (h _ _ .refl (X.first R0 I0 this))
 have c2' :q.length≠1:=by simpa using c2
 refine Gak (GcE ?_)
 refine Gak (Gbo (Gbd (I:=λi c z=>bH st z∧∃o u v mg,c=(none,u,v,o,mg)∧HiP it rk p q o u v∧u+v+i+1≤p.length+q.length)
  (Q:=λc z=>bH st z∧∃r t,c=(some r,t)∧dB it rk p q r) ?step ?fin ⟨.refl,_,_,_,_,rfl,⟨⟨_,R0,I0⟩,by omega,by omega,by omega,by omega⟩,by omega⟩) ?post)
 case fin=>
  rintro c z ⟨_,o,u,v,mg,rfl,P,g3⟩
  have:=P.bu
  exfalso
  omega
 case post=>
  rintro c z ⟨hz,r,t,rfl,g⟩
  exact Gap (h r z hz g)
 case step=>
  refine Iz λi z o u v mg hi hz P g3=> ?_
  have hkz:kindOf z=κ:=hz.1.trans hk
  refine Gak (Gbo (Gbd (I:=λj c z' =>z' =z∧∃o u' v' ca cb,c=(none,u',v',o,ca,cb)∧HiP it rk p q o u' v' ∧u' +v' +j≤u+v)
   (Q:=λc z' =>z' =z∧((∃r t,c=(some r,t)∧dB it rk p q r)∨∃o u' v' ca cb,c=(none,u',v',o,ca,cb)∧HiP it rk p q o u' v' ∧u' +v' +1≤u+v)) ?s1 ?f1 ⟨rfl,o,u,v,0,0,rfl,P,by omega⟩) ?p1)
  case f1=>
   rintro c z' ⟨_,o,u',v',ca,cb,rfl,P',k3⟩
   have:=P'.bu
   have:=P.cu
   have:=P.cv
   exfalso
   omega
  case s1=>
   refine Nf λj o u' v' ca cb hj P' k3=> ?_
   have⟨⟨l,Ro,I⟩,bu,bv,cu,cv⟩:=P'
   obtain⟨y,hy⟩:∃x,q[v' -1]? =some x:=⟨_,Gaa (by omega)⟩
   obtain⟨x,hx⟩:∃x,p[u' -1]? =some x:=⟨_,Gaa (by omega)⟩
   refine Gak (bI Rb hy (Gak (bI Ra hx (Gak (A5 hA hkz (Rb.lt hy) (Ra.lt hx) ?_)))))
   dsimp only
   refine dG (λlt=> ?_) λlt=> ?_
   ·replace lt:=GaD lt
    refine Gak (bI Ra hx ?_)
    have I' :=I.rR sp bu hx λt ht=>by have:=mP sq hy ht;omega
    have Ro' :=Ro.push (Ra.lt hx)
    refine dG (λe=> ?_) λe=> ?_
    ·have:u' -1=0:=by simpa using e
     exact Gap ⟨rfl,.inl ⟨_,_,rfl,X.done Ro' I' (.inl this)⟩⟩
    ·have e' :u' -1≠0:=by simpa using e
     refine dG (λe2=> ?_) λe2=> ?_
     ·exact Gap ⟨rfl,.inr ⟨_,_,_,_,_,rfl,⟨⟨_,Ro',I'⟩,by omega,bv,by omega,cv⟩,by omega⟩⟩
     ·exact Gap ⟨rfl,_,_,_,_,_,rfl,⟨⟨_,Ro',I'⟩,by omega,bv,by omega,cv⟩,by omega⟩
   ·replace lt:=of_decide_eq_false (Bool.eq_false_iff.mpr lt)
    refine Gak (bI Rb hy ?_)
    have I' :=I.A6 sq (by omega) hy λt ht=>by have:=mP sp hx ht;omega
    have Ro' :=Ro.push (Rb.lt hy)
    refine dG (λe=> ?_) λe=> ?_
    ·have:v' -1=1:=by simpa using e
     exact Gap ⟨rfl,.inl ⟨_,_,rfl,X.first Ro' I' this⟩⟩
    ·have e' :v' -1≠1:=by simpa using e
     refine dG (λe2=> ?_) λe2=> ?_
     ·exact Gap ⟨rfl,.inr ⟨_,_,_,_,_,rfl,⟨⟨_,Ro',I'⟩,bu,by omega,cu,by omega⟩,by omega⟩⟩
     ·exact Gap ⟨rfl,_,_,_,_,_,rfl,⟨⟨_,Ro',I'⟩,bu,by omega,cu,by omega⟩,by omega⟩
  case p1=>
   refine Ng (λr t g=>Gap ⟨hz,r,_,rfl,g⟩) λo1 u1 v1 ca1 cb1 P1 k3=> ?_
   refine Gak (wpS_lift (Gcj ⟨rfl, ?_⟩))
   refine Gak (Gbo (Gbd (I:=λj c y=>bH st y∧∃o u' v' mg ca cb,c=(none,u',v',o,mg,ca,cb)∧HiP it rk p q o u' v' ∧u' +v' +j≤u1+v1)
    (Q:=λc y=>bH st y∧((∃r t,c=(some r,t)∧dB it rk p q r)∨∃o u' v' mg ca cb,c=(none,u',v',o,mg,ca,cb)∧HiP it rk p q o u' v' ∧u' +v' ≤u1+v1)) ?s2 ?f2 ⟨hz,o1,u1,v1,_,ca1,cb1,rfl,P1,by omega⟩) ?p2)
   case f2=>
    rintro c y ⟨_,o,u',v',mg,ca,cb,rfl,P',n3⟩
    have:=P'.bu
    have:=P1.cu
    have:=P1.cv
    exfalso
    omega
   case p2=>
    refine Nj (λy r t hy g=>Gap ⟨hy,r,_,rfl,g⟩) λy o2 u2 v2 mg2 ca2 cb2 hy P2 n3=> ?_
    dsimp only
    rw[oA]
    exact Gak (GbJ (Gap ⟨hy.trans ⟨rfl,rfl,rfl,rfl⟩,o2,u2,v2,_,rfl,P2,by omega⟩))
   case s2=>
    refine Nh λj y o u' v' mg' ca cb hj hy P' n3=> ?_
    have⟨⟨l,Ro,I⟩,bu,bv,cu,cv⟩:=P'
    have fin:∀g,wpS (model prog w) A E s (hiA a b g ca cb o u' v') (λr y' =>match r with
      | .done c=>bH st y' ∧((∃r t,c=(some r,t)∧dB it rk p q r)∨∃o u' v' mg ca cb,c=(none,u',v',o,mg,ca,cb)∧HiP it rk p q o u' v' ∧u' +v' ≤u1+v1)
      | .yield c=>bH st y' ∧∃o u' v' mg ca cb,c=(none,u',v',o,mg,ca,cb)∧HiP it rk p q o u' v' ∧u' +v' +(j+1)≤u1+v1) y:=λg=>by
     refine KD X (hy.1.trans hk) Ro I bu bv cu cv (N:=u' +v' -2) (by omega) λr z' sz hr=> ?_
     cases r with
     |done c=>
      rcases hr with hr| ⟨o,u,v,mg,ca,cb,e,P,hn⟩
      ·exact⟨hy.trans sz,.inl hr⟩
      ·exact⟨hy.trans sz,.inr ⟨o,u,v,mg,ca,cb,e,P,by omega⟩⟩
     |yield c=>
      obtain⟨o,u,v,mg,ca,cb,e,P,hn⟩:=hr
      exact⟨hy.trans sz,o,u,v,mg,ca,cb,e,P,by omega⟩
    show wpS (model prog w) A E s (if mg' >1 then hiA a b (mg' -1) ca cb o u' v' else hiA a b mg' ca cb o u' v') _ y
    split
    ·exact Gbo (fin _) λr y' hr=>by cases r<;>exact hr
    ·exact Gbo (fin _) λr y' hr=>by cases r<;>exact hr
end
open PySem.W (kas_item kas_swaps_map)
noncomputable abbrev KG:=Option (Option Nat)×Nat
noncomputable abbrev KH:=Option (Option Nat)×Nat×Nat
noncomputable def FU(lo a nrem:Nat):SM KG:=forIn [a:nrem] ((none,a):KG) λ_ z=>do
 let x←ltAt' (lo+z.2) (lo+z.2 -1)
 match x with
 |some c=>if c=true then pure (.done (none,z.2)) else pure (.yield (none,z.2+1))
 |_=>pure (.done (some none,z.2))
noncomputable def A7(lo n nrem:Nat):SM (Option Nat):=do
 reverseSlice' lo (lo+n)
 let z←FU lo n nrem
 match z.1 with
 |some r=>pure r
 |none=>pure (some z.2)
noncomputable def Co(lo n nrem:Nat):SM KH:=forIn [n:nrem] ((none,n,0):KH) λ_ z=>do
 let x←ltAt' (lo+z.2.1) (lo+z.2.1 -1)
 match x with
 |some c=>
  if c=true then
   if z.2.2>0 then do
    reverseSlice' (lo+z.2.1 -(z.2.2+1)) (lo+z.2.1)
    pure (.yield (none,z.2.1+1,0))
   else pure (.yield (none,z.2.1+1,0))
  else do
   let y←ltAt' (lo+z.2.1 -1) (lo+z.2.1)
   match y with
   |some d=>if d=true then pure (.done (none,z.2.1,z.2.2)) else pure (.yield (none,z.2.1+1,z.2.2+1))
   |_=>pure (.done (some none,z.2.1,z.2.2))
 |_=>pure (.done (some none,z.2.1,z.2.2))
noncomputable def rT(lo n nrem:Nat):SM (Option Nat):=do
 rule "list.sort.descending-run"
 let z←Co lo (n+1) nrem
 match z.1 with
 |some r=>pure r
 |none=>
  if z.2.2>0 then
   reverseSlice' (lo+z.2.1 -(z.2.2+1)) (lo+z.2.1)
   A7 lo z.2.1 nrem
  else A7 lo z.2.1 nrem
noncomputable def KI(lo nrem:Nat):SM (Option Nat):=do
 let z←FU lo 1 nrem
 match z.1 with
 |some r=>pure r
 |none=>
  if(z.2==nrem)=true then pure (some z.2)
  else if z.2>1 then
   let x←ltAt' lo (lo+z.2 -1)
   match x with
   |some c=>
    if c=true then pure (some z.2)
    else
     reverseSlice' lo (lo+z.2)
     rT lo z.2 nrem
   |_=>pure none
  else rT lo z.2 nrem
theorem vA(lo nrem:Nat):countRun' lo nrem=KI lo nrem:=by
 rw[countRun'_eq]
 dsimp only
 unfold KI rT A7 Co FU
 refine congrArg (bind _) (funext λz=> ?_)
 obtain⟨r,n⟩:=z
 cases r with
 |some r=>rfl
 |none=>
  dsimp only
  split
  ·rfl
  ·split
   ·congr 1
    funext x
    cases x with
    |none=>rfl
    |some c=>
     dsimp only
     split
     ·rfl
     ·congr 1
      funext _r
      congr 1
      funext _u
      congr 1
      congr 1
      funext z2
      obtain⟨r2,n2,q2⟩:=z2
      cases r2 with
      |some r2=>rfl
      |none=>
       dsimp only
       split
       ·congr 1
        funext _v
        congr 1
        funext _w
        congr 1
        funext z3
        obtain⟨r3,n3⟩:=z3
        cases r3<;>rfl
       ·congr 1
        funext _w
        congr 1
        funext z3
        obtain⟨r3,n3⟩:=z3
        cases r3<;>rfl
   ·congr 1
    funext _u
    congr 1
    congr 1
    funext z2
    obtain⟨r2,n2,q2⟩:=z2
    cases r2 with
    |some r2=>rfl
    |none=>
     dsimp only
     split
     ·congr 1
      funext _v
      congr 1
      funext _w
      congr 1
      funext z3
      obtain⟨r3,n3⟩:=z3
      cases r3<;>rfl
     ·congr 1
      funext _w
      congr 1
      funext z3
      obtain⟨r3,n3⟩:=z3
      cases r3<;>rfl
structure SS(κ:SortKind)(it:Array Keyed)(z:SortSt)(p:Array Nat):Prop where
 kind:kindOf z=κ
 arr:arrOf z=p.map (kas_item it)
 fail:failedOf z=none
 ok:∀i∈p.toList,i<it.size
noncomputable def lX(z z' :SortSt):Prop:=pendingOf z' =pendingOf z
noncomputable def Rk(rk:Nat→Int)(p:Array Nat)(i:Nat):Int:=rk (p.getD i 0)
noncomputable def Up'(rk:Nat→Int)(p:Array Nat)(lo hi:Nat):Prop:=∀u v,lo≤u→u≤v→v<hi→Rk rk p u≤Rk rk p v
noncomputable def Dn'(rk:Nat→Int)(p:Array Nat)(lo hi:Nat):Prop:=∀u v,lo≤u→u≤v→v<hi→Rk rk p v≤Rk rk p u
structure Ag(lo hi:Nat)(p p' :Array Nat):Prop where
 perm:p'.Perm p
 out:∀k,k<lo∨hi≤k→p'[k]? =p[k]?
theorem Ag.refl{lo hi:Nat}{p:Array Nat}:Ag lo hi p p:=⟨Array.Perm.refl _,λ_ _=>rfl⟩
theorem Ag.trans{lo hi:Nat}{p q r:Array Nat}(a:Ag lo hi p q)(b:Ag lo hi q r):Ag lo hi p r:=⟨b.perm.trans a.perm,λk h=>(b.out k h).trans (a.out k h)⟩
theorem Ag.size{lo hi:Nat}{p q:Array Nat}(a:Ag lo hi p q):q.size=p.size:=by
 have:=a.perm.toList.length_eq
 simpa using this
theorem Ag.mono{lo hi hi' :Nat}{p q:Array Nat}(a:Ag lo hi p q)(h:hi≤hi'):Ag lo hi' p q:=⟨a.perm,λk z=>a.out k (by omega)⟩
theorem Ag.rk{rk:Nat→Int}{lo hi k:Nat}{p q:Array Nat}(a:Ag lo hi p q)(h:k<lo∨hi≤k):Rk rk q k=Rk rk p k:=by
 unfold Rk
 have:=a.out k h
 simp only[GbZ,this]
theorem mQ{lo hi:Nat}{p:Array Nat}(h:hi≤p.size):Ag lo hi p (mirror p lo hi ((hi -lo)/2)):=⟨mirror_perm _ _ _ _,λk z=>by
 rw[getElem?_mirror_all h,Gaj (by omega)]⟩
theorem pJ{rk:Nat→Int}{i j k:Nat}{p:Array Nat}(h:j≤p.size):Rk rk (mirror p i j ((j -i)/2)) k=if i≤k∧k<j then Rk rk p (i+j -1 -k) else Rk rk p k:=by
 unfold Rk
 simp only[GbZ,getElem?_mirror_all h]
 split<;>rfl
theorem gm{rk:Nat→Int}{i j k:Nat}{p:Array Nat}(h:j≤p.size)(e:∀u,i≤u→u<j→Rk rk p u=Rk rk p (j -1)):Rk rk (mirror p i j ((j -i)/2)) k=Rk rk p k:=by
 rw[pJ h]
 split
 ·rename_i z
  rw[e _ (by omega) (by omega),e k z.1 z.2]
 ·rfl
section
variable{prog:Program}{w:World}{A:Around}{E:Value→Shared→Prop}{s:Shared}{st:SortSt}{κ:SortKind}{it:Array Keyed}{rk:Nat→Int}{p:Array Nat}
theorem SS.rep(S:SS κ it st p):bh it (arrOf st) p.toList:=⟨by rw[S.arr];apply Gcp.mp;simp,S.ok⟩
theorem SS.move{p' :Array Nat}{xs:Array Keyed}(S:SS κ it st p)(pm:p'.Perm p)(e:xs=p'.map (kas_item it)):SS κ it (setArr st xs) p' :=⟨S.kind,e,S.fail,λi hi=>S.ok i (by
 have:=pm.toList.mem_iff (a:=i)
 exact this.mp hi)⟩
theorem wp_at{i j:Nat}{Q:Option Bool→SortSt→Prop}(hA:iF prog w A s κ it rk)(S:SS κ it st p)(hi:i<p.size)(hj:j<p.size)(h:Q (some (decide (Rk rk p i<Rk rk p j))) st):wpS (model prog w) A E s (ltAt' i j) Q st:=by
 rw[ltAt'_eq]
 refine Gak (GcE ?_)
 have gi:p.toList[i]? =some (p.getD i 0):=by simp[Array.getD,hi]
 have gj:p.toList[j]? =some (p.getD j 0):=by simp[Array.getD,hj]
 exact Gak (bI S.rep gi (Gak (bI S.rep gj (A5 hA S.kind (S.rep.lt gi) (S.rep.lt gj) h))))
theorem vB{i j:Nat}{Q:Unit→SortSt→Prop}(S:SS κ it st p)(h:∀z,SS κ it z (mirror p i j ((j -i)/2))→lX st z→Q () z):wpS (model prog w) A E s (reverseSlice' i j) Q st:=by
 rw[reverseSlice'_eq]
 refine GbJ (h _ (S.move (mirror_perm _ _ _ _) ?_) rfl)
 rw[S.arr]
 exact kas_swaps_map (kas_item it) (λk=>i+k) (λk=>j -1 -k) _ p
theorem Cp{lo a nrem:Nat}{Q:KG→SortSt→Prop}(hA:iF prog w A s κ it rk)(S:SS κ it st p)(h1:1≤a)(ha:a≤nrem)(hz:lo+nrem≤p.size)(hu:Up' rk p lo (lo+a))
  (h:∀m,a≤m→m≤nrem→Up' rk p lo (lo+m)→(m=nrem∨Rk rk p (lo+m)<Rk rk p (lo+m -1))→Q (none,m) st):wpS (model prog w) A E s (FU lo a nrem) Q st:=by
 unfold FU
 refine Gbd (I:=λx c z=>z=st∧c=(none,x)∧Up' rk p lo (lo+x)) ?step ?fin ⟨rfl,rfl,hu⟩
 case fin=>
  rintro c z ⟨rfl,rfl,q⟩
  rw[show max a nrem=nrem by omega] at q⊢
  exact h nrem ha (Gaq _) q (.inl rfl)
 case step=>
  rintro x c z h2 h3 ⟨rfl,rfl,q⟩
  dsimp only
  refine Gak (wp_at hA S (by omega) (by omega) ?_)
  dsimp only
  by_cases lt:Rk rk p (lo+x)<Rk rk p (lo+x -1)
  ·rw[GaL lt]
   simp only[Gbq]
   exact Gap (h x h2 (by omega) q (.inr lt))
  ·rw[GaO lt]
   simp only[GaF,Gbe]
   refine Gap ⟨rfl,rfl,λu v a1 a2 a3=> ?_⟩
   by_cases hv:v<lo+x
   ·exact q u v a1 a2 hv
   ·have e:v=lo+x:=by omega
    subst e
    by_cases hu:u=lo+x
    ·subst hu;exact GbO _
    ·have:=q u (lo+x -1) a1 (by omega) (by omega)
     omega
theorem A8{lo n nrem:Nat}{Q:Option Nat→SortSt→Prop}(hA:iF prog w A s κ it rk)(S:SS κ it st p)(h1:1≤n)(hn:n≤nrem)(hz:lo+nrem≤p.size)(hd:Dn' rk p lo (lo+n))
  (h:∀m z p',SS κ it z p' →lX st z→Ag lo (lo+nrem) p p' →1≤m→m≤nrem→Up' rk p' lo (lo+m)→Q (some m) z):wpS (model prog w) A E s (A7 lo n nrem) Q st:=by
 unfold A7
 refine Gak (vB S λz S' hp=> ?_)
 have ag:Ag lo (lo+n) p (mirror p lo (lo+n) ((lo+n -lo)/2)):=mQ (by omega)
 refine Gak (Cp hA S' h1 hn (by rw[ag.size];exact hz) (λu v a1 a2 a3=> ?_) λm m1 m2 m3 _=> ?_)
 ·rw[pJ (by omega),pJ (by omega),Gag (by omega),Gag (by omega)]
  exact hd _ _ (by omega) (by omega) (by omega)
 ·exact Gap (h m z _ S' hp (ag.mono (by omega)) (by omega) m2 m3)
theorem FV{lo n nrem:Nat}{Q:KH→SortSt→Prop}(hA:iF prog w A s κ it rk)(S:SS κ it st p)(h1:1≤n)(hn:n≤nrem)(hz:lo+nrem≤p.size)(hd:Dn' rk p lo (lo+n))
  (h:∀m e z p',SS κ it z p' →lX st z→Ag lo (lo+nrem) p p' →n≤m→m≤nrem→Dn' rk p' lo (lo+m)→e+1≤m→(∀u,lo+m -(e+1)≤u→u<lo+m→Rk rk p' u=Rk rk p' (lo+m -1))→Q (none,m,e) z):wpS (model prog w) A E s (Co lo n nrem) Q st:=by
 unfold Co
 refine Gbd (I:=λx c z=>∃e p',c=(none,x,e)∧SS κ it z p' ∧lX st z∧Ag lo (lo+nrem) p p' ∧Dn' rk p' lo (lo+x)∧e+1≤x∧(∀u,lo+x -(e+1)≤u→u<lo+x→Rk rk p' u=Rk rk p' (lo+x -1))) ?step ?fin
  ⟨0,p,rfl,S,rfl,.refl,hd,by omega,λu a1 a2=>by rw[show u=lo+n -1 by omega]⟩
 case fin=>
  rintro c z ⟨e,p',rfl,S',hp,ag,d,e1,e2⟩
  rw[show max n nrem=nrem by omega] at d e1 e2⊢
  exact h nrem e z p' S' hp ag hn (Gaq _) d e1 e2
 case step=>
  rintro x c z h2 h3 ⟨e,p',rfl,S',hp,ag,d,e1,e2⟩
  have sz:=ag.size
  dsimp only
  refine Gak (wp_at hA S' (by omega) (by omega) ?_)
  dsimp only
  by_cases lt:Rk rk p' (lo+x)<Rk rk p' (lo+x -1)
  ·rw[GaL lt]
   simp only[Gbq]
   have dn:∀r:Array Nat,(∀k,Rk rk r k=Rk rk p' k)→Dn' rk r lo (lo+(x+1)):=λr hr u v a1 a2 a3=>by
    rw[hr,hr]
    by_cases hv:v<lo+x
    ·exact d u v a1 a2 hv
    ·have ev:v=lo+x:=by omega
     subst ev
     by_cases hu:u=lo+x
     ·subst hu;exact GbO _
     ·have:=d u (lo+x -1) a1 (by omega) (by omega)
      omega
   by_cases g:e>0
   ·rw[Gag g]
    refine Gak (vB S' λz' S2 hp2=>Gap ⟨0,_,rfl,S2,hp2.trans hp,ag.trans ?_,dn _ λk=>gm (by omega) e2,by omega,λu a1 a2=>by rw[show u=lo+(x+1)-1 by omega]⟩)
    have am:Ag (lo+x -(e+1)) (lo+x) p' (mirror p' (lo+x -(e+1)) (lo+x) ((lo+x -(lo+x -(e+1)))/2)):=mQ (by omega)
    exact⟨am.perm,λk hk=>am.out k (by omega)⟩
   ·rw[Gaj g]
    exact Gap ⟨0,p',rfl,S',hp,ag,dn p' λ_=>rfl,by omega,λu a1 a2=>by rw[show u=lo+(x+1)-1 by omega]⟩
  ·rw[GaO lt]
   simp only[GaF,Gbe]
   refine Gak (wp_at hA S' (by omega) (by omega) ?_)
   dsimp only
   by_cases gt:Rk rk p' (lo+x -1)<Rk rk p' (lo+x)
   ·rw[GaL gt]
    simp only[Gbq]
    exact Gap (h x e z p' S' hp ag h2 (by omega) d e1 e2)
   ·rw[GaO gt]
    simp only[GaF,Gbe]
    have eq:Rk rk p' (lo+x)=Rk rk p' (lo+x -1):=by omega
    refine Gap ⟨e+1,p',rfl,S',hp,ag,λu v a1 a2 a3=> ?_,by omega,λu a1 a2=> ?_⟩
    ·by_cases hv:v<lo+x
     ·exact d u v a1 a2 hv
     ·have ev:v=lo+x:=by omega
      subst ev
      by_cases hu:u=lo+x
      ·subst hu;exact GbO _
      ·have:=d u (lo+x -1) a1 (by omega) (by omega)
       omega
    ·rw[show lo+(x+1)-1=lo+x by omega,eq]
     by_cases hu:u=lo+x
     ·subst hu;exact eq
     ·exact e2 u (by omega) (by omega)
theorem uu{lo n nrem:Nat}{Q:Option Nat→SortSt→Prop}(hA:iF prog w A s κ it rk)(S:SS κ it st p)(h1:1≤n)(hn:n+1≤nrem)(hz:lo+nrem≤p.size)(hd:Dn' rk p lo (lo+(n+1)))
  (h:∀m z p',SS κ it z p' →lX st z→Ag lo (lo+nrem) p p' →1≤m→m≤nrem→Up' rk p' lo (lo+m)→Q (some m) z):wpS (model prog w) A E s (rT lo n nrem) Q st:=by
 unfold rT
 refine Gak (wpS_lift (Gcj ⟨rfl, ?_⟩))
 refine Gak (FV hA S (by omega) hn hz hd λm e z p' S' hp ag m1 m2 d e1 e2=> ?_)
 have sz:=ag.size
 dsimp only
 by_cases g:e>0
 ·rw[Gag g]
  refine Gak (vB S' λz2 S2 hp2=> ?_)
  have am:Ag (lo+m -(e+1)) (lo+m) p' (mirror p' (lo+m -(e+1)) (lo+m) ((lo+m -(lo+m -(e+1)))/2)):=mQ (by omega)
  have am' :Ag lo (lo+nrem) p' (mirror p' (lo+m -(e+1)) (lo+m) ((lo+m -(lo+m -(e+1)))/2)):=⟨am.perm,λk hk=>am.out k (by omega)⟩
  refine A8 hA S2 (by omega) m2 (by rw[am.size];omega) (λu v a1 a2 a3=> ?_) λm' z3 p3 S3 hp3 ag3=>h m' z3 p3 S3 ((hp3.trans hp2).trans hp) ((ag.trans am').trans ag3)
  rw[gm (by omega) e2,gm (by omega) e2]
  exact d u v a1 a2 a3
 ·rw[Gaj g]
  exact A8 hA S' (by omega) m2 (by omega) d λm' z3 p3 S3 hp3 ag3=>h m' z3 p3 S3 (hp3.trans hp) (ag.trans ag3)
theorem FW{lo nrem:Nat}{Q:Option Nat→SortSt→Prop}(hA:iF prog w A s κ it rk)(S:SS κ it st p)(h1:1≤nrem)(hz:lo+nrem≤p.size)
  (h:∀m z p',SS κ it z p' →lX st z→Ag lo (lo+nrem) p p' →1≤m→m≤nrem→Up' rk p' lo (lo+m)→Q (some m) z):wpS (model prog w) A E s (countRun' lo nrem) Q st:=by
 rw[vA]
 unfold KI
 refine Gak (Cp hA S (Gaq _) h1 hz (λu v a1 a2 a3=>by rw[show u=v by omega];exact GbO _) λn n1 n2 up stop=> ?_)
 dsimp only
 by_cases c1:(n==nrem)=true
 ·rw[Gag c1]
  exact Gap (h n st p S rfl .refl n1 n2 up)
 rw[Gaj c1]
 have c1' :n≠nrem:=by simpa using c1
 have lt:Rk rk p (lo+n)<Rk rk p (lo+n -1):=stop.resolve_left c1'
 by_cases c2:n>1
 ·rw[Gag c2]
  refine Gak (wp_at hA S (by omega) (by omega) ?_)
  dsimp only
  by_cases ro:Rk rk p lo<Rk rk p (lo+n -1)
  ·rw[GaL ro]
   simp only[Gbq]
   exact Gap (h n st p S rfl .refl n1 n2 up)
  ·rw[GaO ro]
   simp only[GaF,Gbe]
   have eq:∀u,lo≤u→u<lo+n→Rk rk p u=Rk rk p (lo+n -1):=λu a1 a2=>by
    have b1:=up lo u (Gaq _) a1 a2
    have b2:=up u (lo+n -1) a1 (by omega) (by omega)
    omega
   refine Gak (vB S λz S' hp=> ?_)
   have am:Ag lo (lo+n) p (mirror p lo (lo+n) ((lo+n -lo)/2)):=mQ (by omega)
   refine uu hA S' n1 (by omega) (by rw[am.size];exact hz) (λu v a1 a2 a3=> ?_) λm' z3 p3 S3 hp3 ag3=>h m' z3 p3 S3 (hp3.trans hp) ((am.mono (by omega)).trans ag3)
   rw[gm (by omega) eq,gm (by omega) eq]
   by_cases hv:v<lo+n
   ·rw[eq u a1 (by omega),eq v (by omega) hv];exact GbO _
   ·rw[show v=lo+n by omega]
    by_cases hu:u=lo+n
    ·subst hu;exact GbO _
    ·rw[eq u a1 (by omega)];omega
 ·rw[Gaj c2]
  have n1' :n=1:=by omega
  subst n1'
  refine uu hA S (Gaq _) (by omega) hz (λu v a1 a2 a3=> ?_) h
  by_cases e1:u=v
  ·subst e1;exact GbO _
  ·rw[show v=lo+1 by omega,show u=lo+1 -1 by omega];omega
end
theorem uw{rk:Nat→Int}{src d k:Nat}{p:Array Nat}(h:src<p.size)(hd:d≤src):Rk rk (bubble p src d) k=if k=src -d then Rk rk p src else if src -d<k∧k≤src then Rk rk p (k -1) else Rk rk p k:=by
 unfold Rk
 simp only[GbZ,getElem?_bubble h d hd]
 split
 ·rfl
 ·split<;>rfl
section
variable{prog:Program}{w:World}{A:Around}{E:Value→Shared→Prop}{s:Shared}{st:SortSt}{κ:SortKind}{it:Array Keyed}{rk:Nat→Int}{p:Array Nat}
theorem IA{src dst:Nat}{Q:Unit→SortSt→Prop}(S:SS κ it st p)(h:∀z,SS κ it z (bubble p src (src -dst))→lX st z→Q () z):wpS (model prog w) A E s (moveDown' src dst) Q st:=by
 rw[moveDown'_eq]
 refine GbJ (h _ (S.move (bubble_perm _ _ _) ?_) rfl)
 rw[S.arr]
 exact kas_swaps_map (kas_item it) (λk=>src -k) (λk=>src -k -1) _ p
theorem KJ{lo n ok:Nat}{Q:Bool→SortSt→Prop}(hA:iF prog w A s κ it rk)(S:SS κ it st p)(hz:lo+n≤p.size)(h1:1≤ok)(hok:ok≤n)(hu:Up' rk p lo (lo+ok))
  (h:∀z p',SS κ it z p' →lX st z→Ag lo (lo+n) p p' →Up' rk p' lo (lo+n)→Q true z):wpS (model prog w) A E s (binarySort' lo n ok) Q st:=by
 rw[binarySort'_eq]
 refine Gak (Gbo (Gbd (I:=λk c z=>∃p',c=(none,())∧SS κ it z p' ∧lX st z∧Ag lo (lo+n) p p' ∧Up' rk p' lo (lo+k))
  (Q:=λc z=>∃p',c=(none,())∧SS κ it z p' ∧lX st z∧Ag lo (lo+n) p p' ∧Up' rk p' lo (lo+n)) ?step ?fin ⟨p,rfl,S,rfl,.refl,by rw[show max ok 1=ok by omega];exact hu⟩) ?post)
 case post=>
  rintro c z ⟨p',rfl,S',hp,ag,up⟩
  exact Gap (h z p' S' hp ag up)
 case fin=>
  rintro c z ⟨p',rfl,S',hp,ag,up⟩
  rw[show max (max ok 1) n=n by omega] at up
  exact⟨p',rfl,S',hp,ag,up⟩
 case step=>
  rintro k c z k1 k2 ⟨p',rfl,S',hp,ag,up⟩
  have sz:=ag.size
  refine Gak (Gbo (Gbd (I:=λi c z' =>z' =z∧∃l r,c=(none,l,r)∧l≤r∧r≤k∧r -l≤k -i∧(∀u,u<l→Rk rk p' (lo+u)≤Rk rk p' (lo+k))∧(∀u,r≤u→u<k→Rk rk p' (lo+k)≤Rk rk p' (lo+u)))
   (Q:=λc z' =>z' =z∧∃l,c=(none,l,l)∧l≤k∧(∀u,u<l→Rk rk p' (lo+u)≤Rk rk p' (lo+k))∧(∀u,l≤u→u<k→Rk rk p' (lo+k)≤Rk rk p' (lo+u))) ?s1 ?f1 ⟨rfl,0,k,rfl,by omega,by omega,by omega,λu hu=>by omega,λu a1 a2=>by omega⟩) ?p1)
  case f1=>
   rintro c z' ⟨rfl,l,r,rfl,q1,q2,q3,q4,q5⟩
   have:l=r:=by omega
   subst this
   exact⟨rfl,l,rfl,q2,q4,q5⟩
  case s1=>
   rintro i c z' _ hi ⟨rfl,l,r,rfl,q1,q2,q3,q4,q5⟩
   dsimp only
   by_cases g:l≥r
   ·rw[Gag g]
    have:l=r:=by omega
    subst this
    exact Gap ⟨rfl,l,rfl,q2,q4,q5⟩
   rw[Gaj g]
   refine Gak (wp_at hA S' (by omega) (by omega) ?_)
   by_cases lt:Rk rk p' (lo+k)<Rk rk p' (lo+(l+r)/2)
   ·rw[GaL lt]
    simp only[Gbq]
    refine Gap ⟨rfl,l,(l+r)/2,rfl,by omega,by omega,by omega,q4,λu a1 a2=> ?_⟩
    have:=up (lo+(l+r)/2) (lo+u) (by omega) (by omega) (by omega)
    omega
   ·rw[GaO lt]
    simp only[GaF,Gbe]
    refine Gap ⟨rfl,(l+r)/2+1,r,rfl,by omega,by omega,by omega,λu a1=> ?_,q5⟩
    have:=up (lo+u) (lo+(l+r)/2) (by omega) (by omega) (by omega)
    omega
  case p1=>
   rintro c z' ⟨rfl,l,rfl,l1,l2,l3⟩
   refine Gak (IA S' λz2 S2 hp2=>Gap ⟨_,rfl,S2,hp2.trans hp,ag.trans ⟨bubble_perm _ _ _,λj hj=> ?_⟩,λu v a1 a2 a3=> ?_⟩)
   ·rw[getElem?_bubble (by omega) _ (by omega),Gaj (by omega),Gaj (by omega)]
   ·rw[uw (by omega) (by omega),uw (by omega) (by omega)]
    have e:lo+k -(lo+k -(lo+l))=lo+l:=by omega
    rw[e]
    by_cases u1:u=lo+l
    ·rw[Gag u1]
     by_cases v1:v=lo+l
     ·rw[Gag v1];exact GbO _
     ·rw[Gaj v1,Gag (by omega)]
      have:=l3 (v -1 -lo) (by omega) (by omega)
      rw[show lo+(v -1 -lo)=v -1 by omega] at this
      exact this
    ·rw[Gaj u1]
     by_cases u2:lo+l<u∧u≤lo+k
     ·rw[Gag u2,Gaj (by omega),Gag (by omega)]
      exact up _ _ (by omega) (by omega) (by omega)
     ·rw[Gaj u2]
      have hu' :u<lo+l:=by omega
      by_cases v1:v=lo+l
      ·rw[Gag v1]
       have:=l2 (u -lo) (by omega)
       rw[show lo+(u -lo)=u by omega] at this
       exact this
      ·rw[Gaj v1]
       by_cases v2:lo+l<v∧v≤lo+k
       ·rw[Gag v2]
        exact up _ _ (by omega) (by omega) (by omega)
       ·rw[Gaj v2]
        exact up _ _ a1 a2 (by omega)
end
theorem KN{rk:Nat→Int}{p:Array Nat}{k x:Nat}(h:p.toList[k]? =some x):Rk rk p k=rk x:=by
 unfold Rk
 have h' :p[k]? =some x:=by simpa using h
 simp[GbZ,h']
theorem vC{rk:Nat→Int}{p:Array Nat}{lo n:Nat}(hz:lo+n≤p.size):Up' rk p lo (lo+n)↔Srt rk ((p.toList.drop lo).take n):=by
 have len:((p.toList.drop lo).take n).length=n:=by simp;omega
 have at_:∀u,u<n→∃x,((p.toList.drop lo).take n)[u]? =some x∧Rk rk p (lo+u)=rk x:=λu hu=>by
  have h1:u<((p.toList.drop lo).take n).length:=by rw[len];exact hu
  refine⟨((p.toList.drop lo).take n)[u],Gaa h1, ?_⟩
  have:=Gaa h1
  rw[GaV hu,Gbf] at this
  exact KN this
 constructor
 ·intro h
  unfold Srt
  rw[Gck]
  intro i j hi hj hij
  rw[len] at hi hj
  obtain⟨x,e1,e2⟩:=at_ i hi
  obtain⟨y,e3,e4⟩:=at_ j hj
  obtain⟨_,e5⟩:=Gae.mp e1
  obtain⟨_,e6⟩:=Gae.mp e3
  rw[e5,e6,←e2,←e4]
  exact h _ _ (by omega) (by omega) (by omega)
 ·intro h u v a1 a2 a3
  obtain⟨x,e1,e2⟩:=at_ (u -lo) (by omega)
  obtain⟨y,e3,e4⟩:=at_ (v -lo) (by omega)
  rw[show lo+(u -lo)=u by omega] at e2
  rw[show lo+(v -lo)=v by omega] at e4
  rw[e2,e4]
  exact qV h (by omega) e1 e3
theorem A9{α:Type}(c:Nat):∀(m:List α) (n:Nat) (a:Array α),c+n+m.length≤a.size→((m.zipIdx n).foldl (λa (x:α×Nat)=>a.setIfInBounds (c+x.2) x.1) a).toList=a.toList.take (c+n)++m++a.toList.drop (c+n+m.length)
 |[],n,a,_=>by simp
 |x::m,n,a,h=>by
  rw[List.zipIdx_cons,GbH]
  simp only[GaB] at h
  rw[A9 c m (n+1) _ (by rw[Array.size_setIfInBounds];omega),Array.toList_setIfInBounds]
  have hc:c+n<a.toList.length:=by simp;omega
  have e1:(a.toList.set (c+n) x).take (c+(n+1))=a.toList.take (c+n)++[x]:=by
   rw[show c+(n+1)=c+n+1 by omega,List.take_succ,List.take_set_of_le (Gaq _),GaT hc]
   rfl
  have e2:(a.toList.set (c+n) x).drop (c+(n+1)+m.length)=a.toList.drop (c+n+(x::m).length):=by
   rw[List.drop_set_of_lt (by omega)]
   congr 1
   simp only[GaB];omega
  rw[e1,e2]
  simp
theorem IB{M:Model}{A:Around}{E:Value→Shared→Prop}{s:Shared}{σ:Type}{x st:σ}{Q:PUnit→σ→Prop}(h:Q ⟨⟩ x):wpS M A E s (set x:StateT σ Sem PUnit) Q st:=by
 unfold wpS;rw[StateT.run_set];exact Gao ⟨rfl,h⟩
theorem IC(i:Nat):mergeAt' i=(do
 let z←get
 let(some (sa,na,w0),some (sb,nb,_)):=((pendingOf z)[i]?,(pendingOf z)[i+1]?)|unsupported "internal:list.sort.pending"
 set (setPending z (((pendingOf z).setIfInBounds i (sa,na+nb,w0)).eraseIdxIfInBounds (i+1)))
 let some k←ll false (←elem' (arrOf z) sb) (arrOf z) sa na 0|return false
 let(sc,nc):=(sa+k,na -k)
 if nc==0 then return true
 let some nd←ll true (←elem' (arrOf z) (sc+nc -1)) (arrOf z) sb nb (nb -1)|return false
 if nd==0 then return true
 let x:=(arrOf z).extract sc sb
 let y:=(arrOf z).extract sb (sb+nd)
 let mm←if nc≤nd then Ky x y else KC x y
 modify λz=>setArr z (mm.toList.zipIdx.foldl (λa (q,j)=>a.setIfInBounds (sc+j) q) (arrOf z))
 return(failedOf (←get)).isNone):=rfl
section
variable{prog:Program}{w:World}{A:Around}{E:Value→Shared→Prop}{s:Shared}{st:SortSt}{κ:SortKind}{it:Array Keyed}{rk:Nat→Int}{p:Array Nat}
theorem ID{l:List Nat}{a b:Nat}(h:a≤b):l=l.take a++(l.drop a).take (b -a)++l.drop b:=by
 rw[Gay,←FQ h,Gbb]
theorem Bl{i sa na sb nb w0 w1:Nat}{Q:Bool→SortSt→Prop}(hA:iF prog w A s κ it rk)(S:SS κ it st p)(e1:(pendingOf st)[i]? =some (sa,na,w0))(e2:(pendingOf st)[i+1]? =some (sb,nb,w1))(hb:sb=sa+na)(ha0:0<na)(hb0:0<nb)(hz:sb+nb≤p.size)
  (ua:Up' rk p sa sb)(ub:Up' rk p sb (sb+nb))
  (h:∀z p',SS κ it z p' →pendingOf z=((pendingOf st).setIfInBounds i (sa,na+nb,w0)).eraseIdxIfInBounds (i+1)→Ag sa (sb+nb) p p' →Up' rk p' sa (sb+nb)→Q true z):wpS (model prog w) A E s (mergeAt' i) Q st:=by
 rw[IC]
 refine Gak (GcE ?_)
 rw[e1,e2]
 refine Gak (IB ?_)
 generalize hz1:setPending st (((pendingOf st).setIfInBounds i (sa,na+nb,w0)).eraseIdxIfInBounds (i+1))=z1
 have S1:SS κ it z1 p:=by rw[←hz1];exact⟨S.kind,S.arr,S.fail,S.ok⟩
 have pe:pendingOf z1=((pendingOf st).setIfInBounds i (sa,na+nb,w0)).eraseIdxIfInBounds (i+1):=by rw[←hz1]
 have R:=S.rep
 have szl:p.toList.length=p.size:=by simp
 subst hb
 have sA:Srt rk ((p.toList.drop sa).take na):=(vC (by omega)).mp ua
 have sB:Srt rk ((p.toList.drop (sa+na)).take nb):=(vC (by omega)).mp ub
 have whole:∀l:List Nat,(p.toList.drop sa).take (na+nb)=l→Srt rk l→Up' rk p sa (sa+na+nb):=λl hl hs=>by
  rw[Gdw]
  exact(vC (by omega)).mpr (by rw[hl];exact hs)
 have split:(p.toList.drop sa).take (na+nb)=(p.toList.drop sa).take na++(p.toList.drop (sa+na)).take nb:=by
  rw[List.take_add,GbN]
 obtain⟨y0,ey0⟩:∃x,p.toList[sa+na]? =some x:=⟨_,Gaa (by omega)⟩
 refine Gak (bI R ey0 ?_)
 refine Gak (pI hA S1.kind R (R.lt ey0) (by omega) sA ha0 λk k1 t1 t2=> ?_)
 simp only[GaF,Gbe] at t1 t2
 dsimp only
 have hB0:((p.toList.drop (sa+na)).take nb)[0]? =some y0:=by
  rw[GaV hb0,Gbf];exact ey0
 have leB:∀y∈(p.toList.drop (sa+na)).take nb,rk y0≤rk y:=λy hy=>mO sB hB0 (by rw[GbF];exact hy)
 by_cases c1:(na -k==0)=true
 ·rw[Gag c1]
  have:na -k=0:=by simpa using c1
  have kk:k=na:=by omega
  subst kk
  refine Gap (h z1 p S1 pe .refl (whole _ split (dH sA sB λx hx y hy=> ?_)))
  have q1:=t1 x (by rw[Gcn,GdC];exact hx)
  have q2:=leB y hy
  omega
 rw[Gaj c1]
 have c1' :na -k≠0:=by simpa using c1
 obtain⟨x1,ex1⟩:∃x,p.toList[sa+k+(na -k)-1]? =some x:=⟨_,Gaa (by omega)⟩
 refine Gak (bI R ex1 ?_)
 refine Gak (pI hA S1.kind R (R.lt ex1) (by omega) sB (by omega) λnd d1 t3 t4=> ?_)
 simp only[Gbq] at t3 t4
 dsimp only
 have hAl:((p.toList.drop sa).take na)[na -1]? =some x1:=by
  rw[GaV (by omega),Gbf,show sa+(na -1)=sa+k+(na -k)-1 by omega]
  exact ex1
 have leA:∀x∈(p.toList.drop sa).take na,rk x≤rk x1:=λx hx=>by
  refine mP (n:=na) sA hAl ?_
  rw[Gcn,GdC];exact hx
 by_cases c2:(nd==0)=true
 ·rw[Gag c2]
  have nd0:nd=0:=by simpa using c2
  subst nd0
  refine Gap (h z1 p S1 pe .refl (whole _ split (dH sA sB λx hx y hy=> ?_)))
  have q1:=leA x hx
  have q2:=t4 y (by rw[GbF];exact hy)
  omega
 rw[Gaj c2]
 have c2' :nd≠0:=by simpa using c2
 have Rx:bh it ((arrOf st).extract (sa+k) (sa+na)) ((p.toList.drop (sa+k)).take (na -k)):=by
  have:=R.extract (sa+k) (sa+na)
  rw[show sa+na -(sa+k)=na -k by omega] at this
  exact this
 have Ry:bh it ((arrOf st).extract (sa+na) (sa+na+nd)) ((p.toList.drop (sa+na)).take nd):=by
  have:=R.extract (sa+na) (sa+na+nd)
  rw[show sa+na+nd -(sa+na)=nd by omega] at this
  exact this
 have ePx:(p.toList.drop (sa+k)).take (na -k)=((p.toList.drop sa).take na).drop k:=by rw[GcF,GbN]
 have ePy:(p.toList.drop (sa+na)).take nd=((p.toList.drop (sa+na)).take nb).take nd:=by rw[Gcn,Gcw d1]
 have sx:Srt rk ((p.toList.drop (sa+k)).take (na -k)):=by rw[ePx];exact fC sA k
 have sy:Srt rk ((p.toList.drop (sa+na)).take nd):=by rw[ePy];exact gk sB nd
 have lx:((p.toList.drop (sa+k)).take (na -k)).length=na -k:=by simp;omega
 have ly:((p.toList.drop (sa+na)).take nd).length=nd:=by simp;omega
 have f0:∀x,((p.toList.drop (sa+na)).take nd)[0]? =some x→∀y∈(p.toList.drop (sa+k)).take (na -k),rk x≤rk y:=λx hx y hy=>by
  rw[GaV (by omega),Gbf] at hx
  have:p.toList[sa+na]? =some x:=hx
  rw[ey0] at this;cases this
  rw[ePx] at hy
  have:=t2 y hy
  omega
 have fl:∀x,((p.toList.drop (sa+k)).take (na -k))[((p.toList.drop (sa+k)).take (na -k)).length -1]? =some x→∀y∈(p.toList.drop (sa+na)).take nd,rk y≤rk x:=λx hx y hy=>by
  rw[lx,GaV (by omega),Gbf,show sa+k+(na -k -1)=sa+k+(na -k)-1 by omega,ex1] at hx
  cases hx
  rw[ePy] at hy
  have:=t3 y hy
  omega
 have fin:∀mm z,bH z1 z→dB it rk ((p.toList.drop (sa+k)).take (na -k)) ((p.toList.drop (sa+na)).take nd) mm→
   wpS (model prog w) A E s (do
    modify λz=>setArr z (mm.toList.zipIdx.foldl (λa (x:Keyed×Nat)=>a.setIfInBounds (sa+k+x.2) x.1) (arrOf z))
    let z' ←get
    pure (failedOf z').isNone) Q z:=by
  rintro mm z sg ⟨m,Rm,pm,sm⟩
  have lm:m.length=na -k+nd:=by have:=pm.length_eq;rw[Gax,lx,ly] at this;exact this
  refine Gak (GbJ (Gak (GcE (Gap ?_))))
  have ea:arrOf z=arrOf st:=sg.2.1.trans (by rw[S1.arr,S.arr])
  have hmm:mm.toList=m.map (kas_item it):=by rw[Rm.1]
  have hw:((mm.toList.zipIdx.foldl (λa (x:Keyed×Nat)=>a.setIfInBounds (sa+k+x.2) x.1) (arrOf z))).toList=(p.toList.take (sa+k)++m++p.toList.drop (sa+na+nd)).map (kas_item it):=by
   rw[hmm,ea]
   have:=A9 (sa+k) (m.map (kas_item it)) 0 (arrOf st) (by rw[Gad,lm,R.size,szl];omega)
   rw[this,R.1]
   simp only[GaN,List.map_take,Gdv,Gad,lm,Nat.add_zero]
   rw[show sa+k+(na -k+nd)=sa+na+nd by omega]
  have fz:failedOf (setArr z (mm.toList.zipIdx.foldl (λa (x:Keyed×Nat)=>a.setIfInBounds (sa+k+x.2) x.1) (arrOf z)))=none:=sg.2.2.2.trans S1.fail
  have pieces:p.toList=p.toList.take (sa+k)++((p.toList.drop (sa+k)).take (na -k)++(p.toList.drop (sa+na)).take nd)++p.toList.drop (sa+na+nd):=by
   conv=>lhs;rw[ID (l:=p.toList) (show sa+k≤sa+na+nd by omega)]
   congr 2
   rw[show sa+na+nd -(sa+k)=(na -k)+nd by omega,List.take_add,GbN,show sa+k+(na -k)=sa+na by omega]
  generalize hl' :p.toList.take (sa+k)++m++p.toList.drop (sa+na+nd)=l' at hw
  have pl:l'.Perm p.toList:=by
   rw[←hl']
   conv=>rhs;rw[pieces]
   exact Gbi _ (Gcf _ pm)
  have S2:SS κ it (setArr z (mm.toList.zipIdx.foldl (λa (x:Keyed×Nat)=>a.setIfInBounds (sa+k+x.2) x.1) (arrOf z))) l'.toArray:=by
   refine⟨sg.1.trans S1.kind, ?_,fz,λj hj=>S.ok j (pl.mem_iff.mp hj)⟩
   apply Gcp.mp
   show(mm.toList.zipIdx.foldl (λa (x:Keyed×Nat)=>a.setIfInBounds (sa+k+x.2) x.1) (arrOf z)).toList=_
   rw[hw];simp
  have lt1:(p.toList.take (sa+k)).length=sa+k:=by simp;omega
  have ag:Ag sa (sa+na+nb) p l'.toArray:=by
   refine⟨⟨pl⟩,λj hj=> ?_⟩
   show l'.toArray[j]? =p[j]?
   have g1:l'.toArray[j]? =l'[j]? :=by simp
   have g2:p[j]? =p.toList[j]? :=by simp
   rw[g1,g2,←hl']
   rcases hj with hj|hj
   ·rw[Gay,GaU (by rw[lt1];omega),GaV (by omega)]
   ·rw[GaJ (by rw[Gax,lt1,lm];omega),Gax,lt1,lm,Gbf]
    congr 1;omega
  have nn:failedOf (setArr z (mm.toList.zipIdx.foldl (λa (x:Keyed×Nat)=>a.setIfInBounds (sa+k+x.2) x.1) (arrOf z)))=none:=fz
  have goal:=h _ l'.toArray S2 (sg.2.2.1.trans pe) ag ?_
  ·rw[nn];exact goal
  ·rw[Gdw]
   refine(vC (by rw[Gan,pl.length_eq,szl];omega)).mpr ?_
   have seg:(l'.drop sa).take (na+nb)=((p.toList.drop sa).take na).take k++m++((p.toList.drop (sa+na)).take nb).drop nd:=by
    rw[←hl',Gay,List.drop_append_of_le_length (by rw[lt1];omega)]
    have q1:(p.toList.take (sa+k)).drop sa=((p.toList.drop sa).take na).take k:=by rw[GcF,Gcn,show sa+k -sa=k by omega,Gcw k1]
    rw[q1]
    have lk:(((p.toList.drop sa).take na).take k).length=k:=by simp;omega
    rw[←Gay,List.take_append,Gax,lk,lm,Gbs (by rw[Gax,lk,lm];omega)]
    congr 1
    rw[GcF,GbN]
    congr 1
    omega
   show Srt rk ((l'.toArray.toList.drop sa).take (na+nb))
   show Srt rk ((l'.drop sa).take (na+nb))
   rw[seg]
   refine dH (dH (gk sA k) sm λx hx y hy=> ?_) (fC sB nd) λx hx y hy=> ?_
   ·rcases Gav.mp (pm.mem_iff.mp hy) with hy|hy
    ·rw[ePx] at hy
     exact qW sA k x hx y hy
    ·rw[ePy] at hy
     have b1:=t1 x hx
     have b2:=leB y (Gbh hy)
     omega
   ·rcases Gav.mp hx with hx|hx
    ·have b1:=leA x (Gbh hx)
     have b2:=t4 y hy
     omega
    ·rcases Gav.mp (pm.mem_iff.mp hx) with hx|hx
     ·rw[ePx] at hx
      have b1:=leA x (Gbp hx)
      have b2:=t4 y hy
      omega
     ·rw[ePy] at hx
      exact qW sB nd x hx y hy
 by_cases c3:na -k≤nd
 ·rw[Gag c3]
  exact Gak (Nd hA S1.kind Rx Ry sx sy (by omega) (by omega) f0 fl fin)
 ·rw[Gaj c3]
  exact Gak (Nk hA S1.kind Rx Ry sx sy (by omega) (by omega) f0 fl fin)
end
noncomputable abbrev Run:=Nat×Nat×Nat
noncomputable def chain:Nat→List Run→Nat→Prop
 |a,[],b=>a=b
 |a,r::t,b=>r.1=a∧0<r.2.1∧chain (a+r.2.1) t b
theorem oB:∀{l:List Run} {a b:Nat},chain a l b→a+l.length≤b
 |[],a,b,h=>by have:a=b:=h;simp;omega
 |r::t,a,b,h=>by
  have:=oB h.2.2
  have:=h.2.1
  simp only[GaB];omega
theorem pK:∀{l:List Run} {a b:Nat} {r:Run},chain a l b→r∈l→a≤r.1∧r.1+r.2.1≤b∧0<r.2.1
 |q::t,a,b,r,h,hr=>by
  rcases Gaw.mp hr with e|e
  ·subst e
   have:=oB h.2.2
   have:=h.1
   exact⟨by omega,by omega,h.2.1⟩
  ·have:=pK h.2.2 e
   exact⟨by omega,this.2.1,this.2.2⟩
theorem rV:∀{l:List Run} {a b:Nat} {n w0:Nat},chain a l b→0<n→chain a (l++[(b,n,w0)]) (b+n)
 |[],a,b,n,w0,h,hn=>by have:a=b:=h;subst this;exact⟨rfl,hn,rfl⟩
 |r::t,a,b,n,w0,h,hn=> ⟨h.1,h.2.1,rV h.2.2 hn⟩
theorem oC{f:Run→Run}(hf:∀r,(f r).1=r.1∧(f r).2.1=r.2.1):∀{l:List Run} {a b:Nat} (i:Nat),chain a l b→chain a (l.modify i f) b
 |[],a,b,i,h=>by simpa using h
 |r::t,a,b,0,h=>by
  rw[List.modify_zero_cons]
  exact⟨(hf r).1.trans h.1,by rw[(hf r).2];exact h.2.1,by rw[(hf r).2];exact h.2.2⟩
 |r::t,a,b,i+1,h=>by
  rw[List.modify_succ_cons]
  exact⟨h.1,h.2.1,oC hf i h.2.2⟩
theorem mem_modify{f:Run→Run}(hf:∀r,(f r).1=r.1∧(f r).2.1=r.2.1):∀{l:List Run} {i:Nat} {r:Run},r∈l.modify i f→∃r' ∈l,r'.1=r.1∧r'.2.1=r.2.1
 |[],i,r,h=>by simp at h
 |q::t,0,r,h=>by
  rw[List.modify_zero_cons] at h
  rcases Gaw.mp h with e|e
  ·subst e;exact⟨q,Gam,(hf q).1.symm,(hf q).2.symm⟩
  ·exact⟨r,Gai _ e,rfl,rfl⟩
 |q::t,i+1,r,h=>by
  rw[List.modify_succ_cons] at h
  rcases Gaw.mp h with e|e
  ·subst e;exact⟨r,Gam,rfl,rfl⟩
  ·obtain⟨r',h1,h2⟩:=mem_modify hf e
   exact⟨r',Gai _ h1,h2⟩
theorem qi:∀{l:List Run} {a b:Nat} {i sa na w0 sb nb w1:Nat},chain a l b→l[i]? =some (sa,na,w0)→l[i+1]? =some (sb,nb,w1)→
  sb=sa+na∧0<na∧0<nb∧a≤sa∧sb+nb≤b∧chain a ((l.set i (sa,na+nb,w0)).eraseIdx (i+1)) b∧∀r∈(l.set i (sa,na+nb,w0)).eraseIdx (i+1),r=(sa,na+nb,w0)∨(r∈l∧(r.1+r.2.1≤sa∨sb+nb≤r.1))
 |r::r2::t,a,b,0,sa,na,w0,sb,nb,w1,h,e1,e2=>by
  simp at e1 e2
  subst e1 e2
  obtain⟨h1,h2,h3,h4,h5⟩:=h
  have h1' :sa=a:=h1
  have h3' :sb=a+na:=h3
  have h2' :0<na:=h2
  have h4' :0<nb:=h4
  have le:=oB h5
  refine⟨by omega,h2',h4',by omega, ?_, ?_,λq hq=> ?_⟩
  ·have:a+na+nb≤b:=by
    have:a+(sa,na,w0).2.1+(sb,nb,w1).2.1+t.length≤b:=le
    have:a+na+nb+t.length≤b:=this
    omega
   omega
  ·show chain a ((sa,na+nb,w0)::t) b
   refine⟨h1,by show 0<na+nb;omega, ?_⟩
   show chain (a+(na+nb)) t b
   rw[←Gdw]
   exact h5
  ·have hq' :q=(sa,na+nb,w0)∨q∈t:=by simpa using hq
   rcases hq' with e|e
   ·exact .inl e
   ·refine .inr ⟨Gai _ (Gai _ e),.inr ?_⟩
    have:=(pK h5 e).1
    have:a+na+nb≤q.1:=this
    omega
 |r::t,a,b,i+1,sa,na,w0,sb,nb,w1,h,e1,e2=>by
  rw[GcU] at e1 e2
  obtain⟨g1,g2,g3,g4,g5,g6,g7⟩:=qi h.2.2 e1 e2
  have:=h.2.1
  refine⟨g1,g2,g3,by omega,g5,⟨h.1,h.2.1, ?_⟩,λq hq=> ?_⟩
  ·exact g6
  ·have hq' :q=r∨q∈(t.set i (sa,na+nb,w0)).eraseIdx (i+1):=by simpa using hq
   rcases hq' with e|e
   ·subst e
    refine .inr ⟨Gam,.inl ?_⟩
    have:=h.1
    omega
   ·rcases g7 q e with z| ⟨z1,z2⟩
    ·exact .inl z
    ·exact .inr ⟨Gai _ z1,z2⟩
section
variable{prog:Program}{w:World}{A:Around}{E:Value→Shared→Prop}{s:Shared}{st:SortSt}{κ:SortKind}{it:Array Keyed}{rk:Nat→Int}{p0 p:Array Nat}
structure Pd(κ:SortKind)(it:Array Keyed)(rk:Nat→Int)(p0:Array Nat)(lo:Nat)(z:SortSt)(p:Array Nat):Prop where
 ss:SS κ it z p
 perm:p.Perm p0
 ch:chain 0 (pendingOf z).toList lo
 up:∀r∈(pendingOf z).toList,Up' rk p r.1 (r.1+r.2.1)
 le:lo≤p0.size
theorem Pd.size{lo:Nat}{z:SortSt}(P:Pd κ it rk p0 lo z p):p.size=p0.size:=by
 have:=P.perm.toList.length_eq
 simpa using this
theorem rW{lo i:Nat}{Q:Bool→SortSt→Prop}(hA:iF prog w A s κ it rk)(P:Pd κ it rk p0 lo st p)(hi:i+1<(pendingOf st).size)
  (h:∀z p',Pd κ it rk p0 lo z p' →Ag 0 lo p p' →(pendingOf z).size+1=(pendingOf st).size→Q true z):wpS (model prog w) A E s (mergeAt' i) Q st:=by
 obtain⟨⟨sa,na,w0⟩,e1⟩:∃x,(pendingOf st)[i]? =some x:=⟨_,Gcl (by omega)⟩
 obtain⟨⟨sb,nb,w1⟩,e2⟩:∃x,(pendingOf st)[i+1]? =some x:=⟨_,Gcl hi⟩
 have e1' :(pendingOf st).toList[i]? =some (sa,na,w0):=by simpa using e1
 have e2' :(pendingOf st).toList[i+1]? =some (sb,nb,w1):=by simpa using e2
 obtain⟨g1,g2,g3,g4,g5,g6,g7⟩:=qi P.ch e1' e2'
 have le:=P.le
 have sz:=P.size
 have u1:=P.up _ (GaP e1')
 have u2:=P.up _ (GaP e2')
 refine Bl hA P.ss e1 e2 g1 g2 g3 (by omega) (by rw[g1];exact u1) u2 λz p' S' pe ag up' => ?_
 have tl:(pendingOf z).toList=((pendingOf st).toList.set i (sa,na+nb,w0)).eraseIdx (i+1):=by
  rw[pe]
  simp[Array.toList_eraseIdxIfInBounds,Array.toList_setIfInBounds]
 have aL:Ag 0 lo p p' :=⟨ag.perm,λk hk=>ag.out k (by omega)⟩
 refine h z p' ⟨S',ag.perm.trans P.perm,by rw[tl];exact g6,λr hr=> ?_,P.le⟩ aL ?_
 ·rw[tl] at hr
  rcases g7 r hr with e| ⟨hr1,hr2⟩
  ·subst e
   show Up' rk p' sa (sa+(na+nb))
   rw[←Gdw,←g1];exact up'
  ·intro u v a1 a2 a3
   rw[ag.rk (by omega),ag.rk (by omega)]
   exact P.up r hr1 u v a1 a2 a3
 ·have l1:(pendingOf z).size=(pendingOf z).toList.length:=by simp
  have l2:(pendingOf st).size=(pendingOf st).toList.length:=by simp
  rw[l1,l2,tl,List.length_eraseIdx_of_lt (by rw[Gdl,←l2];exact hi),Gdl]
  omega
end
section
variable{prog:Program}{w:World}{A:Around}{E:Value→Shared→Prop}{s:Shared}{st:SortSt}{κ:SortKind}{it:Array Keyed}{rk:Nat→Int}{p0 p:Array Nat}
theorem Pd.push{lo n:Nat}{z:SortSt}(P:Pd κ it rk p0 lo z p)(hn:0<n)(hz:lo+n≤p0.size)(hu:Up' rk p lo (lo+n)):Pd κ it rk p0 (lo+n) (setPending z ((pendingOf z).push (lo,n,0))) p:=by
 refine⟨⟨P.ss.kind,P.ss.arr,P.ss.fail,P.ss.ok⟩,P.perm, ?_,λr hr=> ?_,hz⟩
 ·show chain 0 ((pendingOf z).push (lo,n,0)).toList (lo+n)
  rw[Gdz]
  exact rV P.ch hn
 ·have hr' :r∈((pendingOf z).push (lo,n,0)).toList:=hr
  rw[Gdz] at hr'
  rcases Gav.mp hr' with e|e
  ·exact P.up r e
  ·simp at e;subst e;exact hu
theorem Pd.modify{lo i:Nat}{z:SortSt}{f:Run→Run}(P:Pd κ it rk p0 lo z p)(hf:∀r,(f r).1=r.1∧(f r).2.1=r.2.1):Pd κ it rk p0 lo (setPending z ((pendingOf z).modify i f)) p:=by
 refine⟨⟨P.ss.kind,P.ss.arr,P.ss.fail,P.ss.ok⟩,P.perm, ?_,λr hr=> ?_,P.le⟩
 ·show chain 0 ((pendingOf z).modify i f).toList lo
  rw[Array.toList_modify]
  exact oC hf i P.ch
 ·have hr' :r∈((pendingOf z).modify i f).toList:=hr
  rw[Array.toList_modify] at hr'
  obtain⟨r',h1,h2,h3⟩:=mem_modify hf hr'
  rw[←h2,←h3]
  exact P.up r' h1
theorem IE{Q:Unit→SortSt→Prop}(hA:iF prog w A s κ it rk)(S:SS κ it st p0)(hp:pendingOf st=#[])(h1:1≤p0.size)
  (h:∀z p,SS κ it z p→p.Perm p0→Up' rk p 0 p0.size→Q () z):wpS (model prog w) A E s sortRuns' Q st:=by
 rw[sortRuns'_eq]
 refine Gak (GcE ?_)
 dsimp only
 have sz:(arrOf st).size=p0.size:=by rw[S.arr];simp
 rw[sz]
 generalize minRun' p0.size p0.size 0=mr
 have P0:Pd κ it rk p0 0 st p0:=⟨S,Array.Perm.refl _,by rw[hp];rfl,λr hr=>(by rw[hp] at hr;cases hr),by omega⟩
 refine Gak (Gbo (Gbd (I:=λx c z=>∃lo p,c=(none,lo)∧Pd κ it rk p0 lo z p∧(x≤lo))
  (Q:=λc z=>∃p,c=(none,p0.size)∧Pd κ it rk p0 p0.size z p) ?step ?fin ⟨0,p0,rfl,P0,Gaq _⟩) ?post)
 case fin=>
  rintro c z ⟨lo,p,rfl,P,hx⟩
  have:=P.le
  have e:lo=p0.size:=by
   have:max 0 p0.size=p0.size:=by omega
   omega
  subst e
  exact⟨p,rfl,P⟩
 case step=>
  rintro x c z _ hx ⟨lo,p,rfl,P,hlo⟩
  have le:=P.le
  have szp:=P.size
  by_cases c1:lo≥p0.size
  ·rw[Gag c1]
   have e:lo=p0.size:=by omega
   subst e
   exact Gap ⟨p,rfl,P⟩
  rw[Gaj c1]
  refine Gak (FW hA P.ss (by omega) (by omega) λm z1 p1 S1 hp1 ag1 m1 m2 up1=> ?_)
  dsimp only
  have carry:∀{n:Nat} {z2:SortSt} {p2:Array Nat},SS κ it z2 p2→lX z z2→Ag lo (lo+n) p p2→lo+n≤p0.size→Pd κ it rk p0 lo z2 p2:=λ{n z2 p2} S2 hp2 ag2 hn=>by
   have hp2' :pendingOf z2=pendingOf z:=hp2
   refine⟨S2,ag2.perm.trans P.perm,by rw[hp2'];exact P.ch,λr hr=> ?_,le⟩
   rw[hp2'] at hr
   have:=(pK P.ch hr).2.1
   intro u v a1 a2 a3
   rw[ag2.rk (by omega),ag2.rk (by omega)]
   exact P.up r hr u v a1 a2 a3
  by_cases c2:m<mr
  ·rw[Gag c2]
   refine Gak (wpS_lift (Gcj ⟨rfl, ?_⟩))
   have sz1:=ag1.size
   refine Gak (KJ hA S1 (by omega) m1 (by omega) up1 λz2 p2 S2 hp2 ag2 up2=> ?_)
   simp only[Gde,GaF,Gbe]
   obtain⟨n,hnn⟩:∃n,n=min (p0.size -lo) mr:=⟨_,rfl⟩
   have P2:Pd κ it rk p0 lo z2 p2:=carry S2 (hp2.trans hp1) (ag1.trans (ag2.mono (by omega))|>.mono (hi' :=lo+(p0.size -lo)) (by omega)) (by omega)
   rw[←hnn] at up2⊢
   have n0:0<n:=by omega
   have hn:lo+n≤p0.size:=by omega
   refine Gak (GcE ?_)
   cases hb:(pendingOf z2).back? with
   |none=>
    exact Gak (GbJ (Gap ⟨lo+n,p2,rfl,P2.push n0 hn up2,by omega⟩))
   |some r=>
    obtain⟨s1,n1,w1⟩:=r
    refine Gak (Gbo (Gbd (I:=λ_ c y=>c=(none,⟨⟩)∧∃p3,Pd κ it rk p0 lo y p3∧Up' rk p3 lo (lo+n)) (Q:=λc y=>c=(none,⟨⟩)∧∃p3,Pd κ it rk p0 lo y p3∧Up' rk p3 lo (lo+n)) ?s1 (λ_ _ z=>z) ⟨rfl,p2,P2,up2⟩) ?p1)
    case p1=>
     rintro c y ⟨rfl,p3,P3,up3⟩
     refine Gak (GbJ (Gak (GbJ (Gap ⟨lo+n,p3,rfl, ?_,by omega⟩))))
     exact(P3.modify (f:=λx=>(x.1,x.2.1,power' p0.size (2*s1+n1) (2*s1+n1+n1+n) p0.size)) (λr=> ⟨rfl,rfl⟩)).push n0 hn up3
    case s1=>
     rintro i c y _ _ ⟨rfl,p3,P3,up3⟩
     refine Gak (GcE ?_)
     by_cases g:(pendingOf y).size>1
     ·rw[Gag g]
      obtain⟨⟨t1,t2,t3⟩,ht⟩:∃x,(pendingOf y)[(pendingOf y).size -2]? =some x:=⟨_,Gcl (by omega)⟩
      rw[ht]
      dsimp only
      split
      ·exact Gap ⟨rfl,p3,P3,up3⟩
      ·refine Gak (rW hA P3 (by omega) λy2 p4 P4 ag4 _=> ?_)
       simp only[Gde,GaF,Gbe]
       refine Gap ⟨rfl,p4,P4,λu v a1 a2 a3=> ?_⟩
       rw[ag4.rk (by omega),ag4.rk (by omega)]
       exact up3 u v a1 a2 a3
     ·rw[Gaj g]
      exact Gap ⟨rfl,p3,P3,up3⟩
  ·rw[Gaj c2]
   obtain⟨n,hnn⟩:∃n,n=m:=⟨_,rfl⟩
   rw[←hnn] at up1⊢
   have P2:Pd κ it rk p0 lo z1 p1:=carry S1 hp1 (ag1.mono (hi' :=lo+(p0.size -lo)) (by omega)) (by omega)
   have n0:0<n:=by omega
   have hn:lo+n≤p0.size:=by omega
   refine Gak (GcE ?_)
   cases hb:(pendingOf z1).back? with
   |none=>
    exact Gak (GbJ (Gap ⟨lo+n,p1,rfl,P2.push n0 hn up1,by omega⟩))
   |some r=>
    obtain⟨s1,n1,w1⟩:=r
    refine Gak (Gbo (Gbd (I:=λ_ c y=>c=(none,⟨⟩)∧∃p3,Pd κ it rk p0 lo y p3∧Up' rk p3 lo (lo+n)) (Q:=λc y=>c=(none,⟨⟩)∧∃p3,Pd κ it rk p0 lo y p3∧Up' rk p3 lo (lo+n)) ?s1 (λ_ _ z=>z) ⟨rfl,p1,P2,up1⟩) ?pp)
    case pp=>
     rintro c y ⟨rfl,p3,P3,up3⟩
     refine Gak (GbJ (Gak (GbJ (Gap ⟨lo+n,p3,rfl, ?_,by omega⟩))))
     exact(P3.modify (f:=λx=>(x.1,x.2.1,power' p0.size (2*s1+n1) (2*s1+n1+n1+n) p0.size)) (λr=> ⟨rfl,rfl⟩)).push n0 hn up3
    case s1=>
     rintro i c y _ _ ⟨rfl,p3,P3,up3⟩
     refine Gak (GcE ?_)
     by_cases g:(pendingOf y).size>1
     ·rw[Gag g]
      obtain⟨⟨t1,t2,t3⟩,ht⟩:∃x,(pendingOf y)[(pendingOf y).size -2]? =some x:=⟨_,Gcl (by omega)⟩
      rw[ht]
      dsimp only
      split
      ·exact Gap ⟨rfl,p3,P3,up3⟩
      ·refine Gak (rW hA P3 (by omega) λy2 p4 P4 ag4 _=> ?_)
       simp only[Gde,GaF,Gbe]
       refine Gap ⟨rfl,p4,P4,λu v a1 a2 a3=> ?_⟩
       rw[ag4.rk (by omega),ag4.rk (by omega)]
       exact up3 u v a1 a2 a3
     ·rw[Gaj g]
      exact Gap ⟨rfl,p3,P3,up3⟩
 case post=>
  rintro c z ⟨p,rfl,P⟩
  refine Gak (Gbo (Gbd (I:=λx c y=>c=(none,())∧∃p,Pd κ it rk p0 p0.size y p∧(pendingOf y).size+x≤p0.size) (Q:=λc y=>c=(none,())∧∃p,Pd κ it rk p0 p0.size y p∧(pendingOf y).size≤1) ?s2 ?f2 ⟨rfl,p,P, ?i2⟩) ?p2)
  case i2=>
   have:=oB P.ch
   simp at this
   omega
  case f2=>
   rintro c y ⟨rfl,p,P,hs⟩
   refine⟨rfl,p,P, ?_⟩
   have:max 0 p0.size=p0.size:=by omega
   omega
  case p2=>
   rintro c y ⟨rfl,p,P,hs⟩
   refine Gap (h y p P.ss P.perm ?_)
   have ch:=P.ch
   have up:=P.up
   have l1:(pendingOf y).toList.length≤1:=by simpa using hs
   generalize (pendingOf y).toList=l at ch up l1
   match l,l1 with
   |[],_=>
    have:0=p0.size:=ch
    omega
   |[r],_=>
    obtain⟨c1,c2,c3⟩:=ch
    have c3' :0+r.2.1=p0.size:=c3
    have:=up r (by simp)
    rw[c1,c3'] at this
    exact this
  case s2=>
   rintro x c y _ hx ⟨rfl,p,P,hs⟩
   refine Gak (GcE ?_)
   by_cases g:(pendingOf y).size≤1
   ·rw[Gag g]
    exact Gap ⟨rfl,p,P,g⟩
   rw[Gaj g]
   have go:∀i,i+1<(pendingOf y).size→wpS (model prog w) A E s (do
     let b←mergeAt' i
     if(!b)=true then pure (ForInStep.done ((some ⟨⟩,()):Option PUnit×PUnit)) else pure (ForInStep.yield (none,()))) (λr z' =>match r with
     | .done c=>c=(none,())∧∃p,Pd κ it rk p0 p0.size z' p∧(pendingOf z').size≤1
     | .yield c=>c=(none,())∧∃p,Pd κ it rk p0 p0.size z' p∧(pendingOf z').size+(x+1)≤p0.size) y:=λi hi=>by
    refine Gak (rW hA P hi λy2 p4 P4 ag4 hs4=> ?_)
    simp only[Gde,GaF,Gbe]
    exact Gap ⟨rfl,p4,P4,by omega⟩
   refine Gbo (go _ ?_) λr z' hr=>by cases r<;>exact hr
   by_cases i0:(pendingOf y).size -2>0
   ·rw[Gag i0]
    split<;>omega
   ·rw[Gaj i0]
    simp only[Option.any_none,GaF,Gbe]
    omega
end
section
variable{prog:Program}{w:World}{A:Around}{E:Value→Shared→Prop}{s:Shared}
theorem tm{a:Addr}{vs:List Value}{cs:List (List (List Int))}{n:Nat}{P:PySem.Fin→Shared→Prop}(ho:s.heap.get? a=some (seqObj "list" vs.toArray n))(h64:vs.length<1000000)
  (hK:∀G:Heap,(∀b o,b≠a→s.heap.get? b=some o→G.get? b=some o)→vo prog w A E {s with heap:=G} cs vs)
  (h:∀p:Array Nat,Ord vs.length p→Up (rank cs) p vs.length→P (.done (.ret .none)) {s with heap:=sortedHeap s.heap a vs (List.toArray (p.toList.map λi=>vs.getD i Value.none))}):wpAny (model prog w) A (Builtin.«list.sort» ⟨[.ref a],[]⟩) P E s:=by
 have hz:(vs.toArray.zip vs.toArray).size=vs.length:=by simp
 have zr:(List.toArray (List.range vs.length)).size=vs.length:=by simp
 refine B7 (Ok:=kJ cs vs) ho (by rw[GbC];omega) kJ.one (λ_ q=>q.len) (λG kp c=>hK G kp c _ λκ hκ=> ?_) λ_ ⟨p,h1,h2,e⟩=>e▸h p h1 h2
 refine GbX (IE (prog:=prog) (w:=w) (A:=A) (κ:=κ) (E:=E) (s:={s with heap:=G}) (st:=SortSt.mk' κ (vs.toArray.zip vs.toArray) #[] 7 none) (it:=vs.toArray.zip vs.toArray) (rk:=rank cs) (p0:=List.toArray (List.range vs.length))
  (Q:=λ_ st=>failedOf st=none∧kJ cs vs ((arrOf st).map (·.2))) (λi j hi hj C hc=> ?_) ⟨rfl, ?_,rfl,λi hi=> ?_⟩ rfl (by omega) λz p S pm up=> ?_) (λr s' q=> ?_) λ_ _ e=>e
 ·have:=hκ i j C (by omega) (by omega) hc
  rwa[PySem.W.kat_ask_eq (ks:=vs) (vs:=vs) rfl] at this
 ·have e:=PySem.W.kas_range (vs.toArray.zip vs.toArray)
  rw[hz] at e
  exact e.symm
 ·simpa using hi
 ·rw[zr] at up
  exact⟨S.fail,p,pm.toList,λu v q r=>up u v (GbD _) q r,kat_snds rfl S.arr⟩
 ·exact q
theorem Bm{l:Addr}{o:Obj}{vs:List Value}{cs:List (List (List Int))}{n:Nat}{T:String}{Q:Value→Shared→Prop}(ho:s.heap.get? l=some o)(hc:o.cls= .type T)(hT:T="list"∨T="tuple")(hd:o.data= .seq vs.toArray n)(h64:vs.length<1000000)
  (hK:∀G:Heap,(∀b o,s.heap.get? b=some o→G.get? b=some o)→∀A' :Around,A'.units=A.units+2→vo prog w A' E {s with heap:=G} cs vs)
  (h:∀p:Array Nat,Ord vs.length p→Up (rank cs) p vs.length→Q (.ref (s.heap.objs.size+1)) {s with heap:=sortedAll s.heap vs (List.toArray (p.toList.map λi=>vs.getD i Value.none))}):wpAny (model prog w) A (call (.builtin "sorted") [.ref l]) Q E s:=by
 have szl:vs.length≤sizeLine:=by rw[GbC];omega
 refine Calls.call_function_entry kind_sorted plain_sorted entry_sorted (args_sorted1 _) ?_
 unfold Builtin.«sorted»
 refine Gac (m:=checkCount "sorted" 1 1 _) (Gao (Gac (wZ ho hc hT hd ?_ szl)))
 refine Gac (wpAny_newList ?_ szl)
 generalize hG:(s.heap.push (seqObj "list" #[] 0)).update s.heap.objs.size (Obj.mapSeq (· ++vs.toArray))=G
 have hsz:G.objs.size=s.heap.objs.size+1:=by rw[←hG,Heap.size_update,size_push']
 have hoL:(G.push (seqObj "list" vs.toArray 0)).get? (s.heap.objs.size+1)=some (seqObj "list" vs.toArray 0):=by rw[←hsz];exact GaA _ rfl
 have keep:∀b o,s.heap.get? b=some o→(G.push (seqObj "list" vs.toArray 0)).get? b=some o:=λb o e=>by
  have hlt:=Gat e
  refine Gaf _ ?_
  rw[←hG,Heap.get?_update_ne _ _ _ _ (GaK hlt)]
  exact Gaf _ e
 show wpAny _ _ _ _ _ {s with heap:=G.push (seqObj "list" vs.toArray 0)}
 rw[hsz]
 refine Gac (GcJ (Gbx slot_list_sort ⟨_,hoL,rfl⟩ entry_list_sort (tm (cs:=cs) (s:={s with heap:=G.push (seqObj "list" vs.toArray 0)}) hoL h64 (λG' kG=> ?_) λp h1 h2=> ⟨_,rfl, ?_⟩) (args_list_sort _)))
 ·exact hK G' (λb o e=>kG b o (GaK (GcW (Gat e))) (keep b o e)) _ rfl
 ·have:=h p h1 h2
  unfold sortedAll at this
  rw[hG] at this
  exact Gao ⟨_,rfl,this⟩
theorem vD{ds:List D}{vs:List Value}(hK:Paired (rH s.heap) ds vs)(hok:keysOk ds=true):vo prog w A E s (ds.map code) vs:=λh2 Q hQ=>by
 have hl:=hK.length
 exact Dp hK hok (by omega) λκ hκ=>hQ κ λi j C hi hj hc=>Fs hK hok hκ i j C (by omega) (by omega) hc
theorem DC{h G:Heap}(kG:∀b o,h.get? b=some o→G.get? b=some o){d:D}{v:Value}(k:rH h d v):rH G d v:=by
 cases d with
 |int i=>exact k
 |tup fs=>
  obtain⟨b,o,m,us,h1,h2,h3,h4⟩:=k
  exact⟨b,o,m,us,h1,kG b o h2,h3,h4⟩
 |_=>exact k
end
section
variable{X:Cx}{e a b c:Expr}{f g h:DE}{pos:Pos}
noncomputable def rX(K:aE):List V→Hp→VK→Prop:=λxs H Q=>∃(p:Addr) (ds:List D) (vs:List V) (F:Addr→Prop),xs=[.ref p]∧(SqL K H p vs∨SqT K H p vs)∧b8 K F H ds vs∧ds.length<1000000∧keysOk ds=true∧
 ∀l out,H l=none→(∀F',b8 K F' H ds vs→b8 K F' H (cS ds) out)→Q (.ref l) (upd H l (.lst out))
theorem f9:gY X (.builtin "sorted") (rX X.K):=by
 intro pins s σ H xs us Q I rv h
 obtain⟨p,ds,vs,F,rfl,hq,hr,h64,hok,q⟩:=h
 obtain⟨u,rfl,ru⟩:=rv.one
 cases ru
 obtain⟨o,T,n,its,ho,hc,hT,hd,rvs⟩:∃(o:Obj) (T:String) (n:Nat) (its:List Value),s.heap.get? p=some o∧o.cls= .type T∧(T="list"∨T="tuple")∧o.data= .seq its.toArray n∧Vals vs its:=by
  rcases hq with hq|hq
  ·obtain⟨its,rvs,pl,_⟩:=I.list hq
   obtain⟨o,h1,h2,n,h3⟩:=pl.isList
   exact⟨o,"list",n,its,h1,h2,.inl rfl,h3,rvs⟩
  ·obtain⟨its,rvs,⟨o,h1,h2,n,h3⟩,_⟩:=I.tuple hq
   exact⟨o,"tuple",n,its,h1,h2,.inr rfl,h3,rvs⟩
 have e1:its.length=ds.length:=by rw[←rvs.length,hr.1]
 have hK:=Cc I hr (Fv hok) rvs
 refine Bm (cs:=ds.map code) ho hc hT hd (by omega) (λG kG A' _=>vD (qh (λd v kv=>DC kG kv) hK) hok) λod h1 h2=> ?_
 have h1' :Ord ds.length od:=by rw[←e1];exact h1
 have h2' :Up (rank (ds.map code)) od ds.length:=by rw[←e1];exact h2
 have uniq:(od.toList.map λi=>ds.getD i .non)=cS ds:=jW ((rJ h1').trans (fO ds).symm) (B8 h1' h2') (g9 ds) λa ha b hb=>Fp hok a ((rJ h1').mem_iff.mp ha) b ((rJ h1').mem_iff.mp hb)
 obtain⟨c,hat⟩:=sortedAll_at s.heap its (List.toArray (od.toList.map λi=>its.getD i Value.none))
 have fresh:H (s.heap.objs.size+1)=none:=I.hok.fresh (GcZ _)
 have h1v:Ord vs.length od:=by rw[←hr.1];exact h1'
 refine⟨.ref (s.heap.objs.size+1),_,I.laid (a:=s.heap.objs.size+1) (o:= .lst (od.toList.map λi=>vs.getD i .non)) (t' :=s.toks) (λb ob e=>sortedAll_old e) (GcZ _) ?_,rfl,q _ _ fresh λF' r=> ?_⟩
 ·refine⟨?_,_,c,Fy h1v rvs,hat⟩
  rw[Gad,GbI,h1v.size,←hr.1,GbC]
  omega
 ·rw[←uniq]
  exact Fx h1' r
theorem jZ:CallD X gc (rX X.K):=by
 intro F H ds vs rv Q ps e k
 obtain⟨d,xs,rfl,h1,h2⟩:=B6 e
 split at h2
 ·rename_i c
  rw[Gau] at c
  cases h2
  obtain⟨v,rfl,i⟩:=gL ps
  obtain⟨p,vs,rfl,hs,r⟩:=B5 i h1
  exact⟨p,xs,vs,F,rfl,hs,r,GaD c.1,c.2,λl out hl hr=>k _ _ (bG hl) ⟨l,rfl,hl,pC,rfl,gG hl (hr F r)⟩⟩
 ·cases h2
end
open PySem
noncomputable def Ris(xs:Array Nat):Prop:=∀i j:Nat,i<j→∀x y,xs[i]? =some x→xs[j]? =some y→x<y
noncomputable def Tb(bt:Bool)(t:SetTable):Prop:=t.led= !bt∧(t.plain=true→Ris t.place)
open PySem PySem.Spec PyProof.Rows
noncomputable def kOf(e:Int×Value):Int:=match e.2 with
 | .int k _=>k
 |_=>0
section
variable{prog:Program}{w:World}{A:Around}{E:Value→Shared→Prop}{z:Shared}
noncomputable def OK(prog:Program)(w:World)(es:Array (Int×Value))(ks:List Int):Prop:=(∀e∈es.toList,∃k t,e=((intKind prog w).hash k,Value.int k t))∧(es.toList.map kOf).Perm ks
noncomputable def SetT(prog:Program)(w:World)(bt:Bool)(g:Heap)(a:Addr)(ks:List Int):Prop:=
 ∃o es ep t,g.get? a=some o∧o.ExactSet∧o.data= .set es ep t∧OK prog w es ks∧es.size<scanBound∧t.fits es.size=true∧Tb bt t
end
noncomputable def Nl(w:World):Bool:=w.params.followText "set-order"
section
variable{prog:Program}{w:World}{A:Around}{E:Value→Shared→Prop}{z:Shared}
theorem after{c:Code}{Q:Value→Shared→Prop}{R:Result→Shared→Prop}(h:codeAny (model prog w) A c (wants Q E) z)(k:∀v s',Q v s' →R (.ok (.ret v)) s')(e:∀x s',E x s' →R (.error x) s'):codeAny (model prog w) A c R z:=by
 refine codeAny_mono h ?_
 rintro(x|(v|_|_|_)) s' q
 ·exact e x s' q
 all_goals first|exact k _ s' q|exact q.elim
end
namespace Fr
end Fr
section
variable{prog:Program}{w:World}{A:Around}{E:Value→Shared→Prop}{z:Shared}
noncomputable def OX(h:Heap)(a:Addr)(es:Array (Int×Value))(ep:Nat)(t:SetTable):Prop:=∃o,h.get? a=some o∧o.ExactSet∧o.data= .set es ep t
inductive Way (w:World) (a:Addr) (es:Array (Int×Value)) (ep:Nat) (t:SetTable) (h:Heap) (tp:Addr):Value→Nat→List (Int×Value)→Prop
 |text {i:Nat}:Nl w=true→Way w a es ep t h tp (rawInt 0) i (pickOrder (w.params.setOrder a ep) es).toList
 |drawn {i:Nat} {ps:List Nat}:IsTup h tp (ps.map λ(j:Nat)=>rawInt j).toArray→ps.Perm (List.range es.size)→Way w a es ep t h tp (.ref tp) i (ps.map λj=>es.getD j (0,.none))
 |plain {i:Nat} {s:Nat}:Nl w=false→¬(t.plain=false∧es.size>1)→Ris t.place→t.led=true→(s=if i=0 then 0 else t.place.getD (i -1) 0+1)→Way w a es ep t h tp (rawInt s) i es.toList
noncomputable def O2(w:World)(h:Heap)(it a tp:Addr)(es:Array (Int×Value))(ep:Nat)(t:SetTable)(xs:List (Int×Value))(i:Nat):Prop:=
 ∃o first,h.get? it=some o∧o.cls= .type "set_iterator"∧o.data= .fields #[first,rawInt i,.ref a,rawInt es.size,rawInt ep]∧Way w a es ep t h tp first i xs
end
open PySem PySem.Spec PyProof.Rows
open PySem PySem.Spec PyProof.Rows L2
section
variable{X:Cx}{e a b c:Expr}{f g h:DE}{pos:Pos}{pins:List (Addr×Obj)}{σ:St}{H:Hp}{s:Shared}
theorem mK:∀{ns:List Int} {us:List Value},Vals (ns.map V.int) us→IntsAre us ns
 |[],_,.nil=> .nil
 |n::ns,_,.cons h t=>by
  obtain⟨k,rfl⟩:=h
  exact .cons n k (mK t)
end
namespace Fr
end Fr
section
variable{X:Cx}{e a b c:Expr}{f g h:DE}{pos:Pos}{pins:List (Addr×Obj)}{σ:St}{H:Hp}{s:Shared}
noncomputable def gone(H:Hp)(it l:Addr)(o:HO):Hp:=λb=>if b=it then none else upd H l o b
end
open PySem PySem.Spec PyProof.Rows L2
section
variable{prog:Program}{w:World}{K:Type} [DecidableEq K]{knd:HeapKind prog w K}{A:Around}{E:Value→Shared→Prop}{s:Shared}
theorem FX{d:Addr}{o:Obj}{es:Array DictEntry}{ep:Nat}{ys:List (K×Addr×Value)}{f:Array DictEntry→Array DictEntry}{p:Option Value}{Q:Unit→Shared→Prop}(ho:s.heap.get? d=some o)(hc:o.ExactDict)(hd:o.data= .dict es ep)(he:(f es).toList=ys.map (entryOfKey knd))
  (his:∀x∈ys,knd.is s.heap x.1 x.2.1)(hn:(ys.map (·.1)).Nodup)(hz:es.size≤sizeLine)(hf:(f es).size≤es.size+1)(h:∀h',h'.DictOfH knd d ys→Heap.SameBut d s.heap h' →Q () {s with heap:=h' }):wpAny (model prog w) A (updateDictKeys d f p) Q E s:=by
 have sb:=Heap.SameBut.update s.heap d (Obj.mapDictKeys f)
 refine wpAny_updateDictKeys ho hd (h _ ⟨_,f es,ep+1,Gbv _ ho ?_,hc.mapDictKeys _,Obj.data_mapDictKeys hd _,he,λx m=>knd.keeps (his x m) ho hd sb,hn⟩ sb) hz hf
 exact Obj.isFreed_of_dict (Obj.data_mapDictKeys hd _)
theorem qL{d a:Addr}{xs:List (K×Addr×Value)}{k:K}{v:Value}{Q:Value→Shared→Prop}(hu:knd.room A)(hkey:knd.is s.heap k a)(hm:s.heap.DictOfH knd d xs)
  (hthere:∀p,atKey xs k=some p→Q p.2 {s with toks:=s.toks+knd.draws k})
  (hnew:atKey xs k=none→∀h',h'.DictOfH knd d (storedH xs k a v)→Heap.SameBut d s.heap h' →Q v {s with heap:=h',toks:=s.toks+knd.draws k})
  (hsz:xs.length≤sizeLine):
  wpAny (model prog w) A (dictSetDefault d (.ref a) v) Q E s:=by
 obtain⟨o,es,ep,ho,hc,hd,he,his,hn⟩:=hm
 have sz:=size_of_entries he
 wp_walk using knd.pyHash hu hkey,wpAny_dictFind_heap (s:={s with toks:=s.toks+knd.draws k}) hu hkey ho hd he his hn
 ·intro no
  have none' :=atKey_none_of_get no
  have ys:=storedH_new none' a v
  refine Gac (Gcj (Gac (FX (knd:=knd) (ys:=storedH xs k a v) (s:={s with toks:=s.toks+knd.draws k}) ho hc hd ?_ ?_ ?_ (by omega) (by simp) λh' q1 q2=>Gao (hnew none' h' q1 q2))))
  ·rw[ys,Gdz,he,GaN];rfl
  ·rw[ys]
   intro x m
   rcases Gav.mp m with m|m
   ·exact his x m
   ·rw[GbA.mp m];exact hkey
  ·rw[ys,GaN,GbQ]
   exact⟨hn,by simp,λx m y n=>by simp at n;rw[n];exactλe=>not_mem_keys_of_get no (e▸m)⟩
 ·intro j p at_
  have e:=entry_at he j
  rw[at_] at e
  wp_walk using wpAny_dictEntries (s:={s with toks:=s.toks+knd.draws k}) ho hd
  rw[e]
  wp_walk
  exact hthere p (atKey_of_get hn at_)
theorem oD(d a:Addr)(hd:(d==sysModules)=false)(dflt:Value):
  MeetsIn prog w (Builtin.«dict.setdefault» ⟨[.ref d,.ref a,dflt],[]⟩) (λA R s=>knd.room A.in1∧∃k xs,knd.is s.heap k a∧s.heap.DictOfH knd d xs∧xs.length≤sizeLine∧
   (∀p,atKey xs k=some p→R (.ok (.ret p.2)) {s with toks:=s.toks+knd.draws k})∧
   (atKey xs k=none→∀h',h'.DictOfH knd d (storedH xs k a dflt)→Heap.SameBut d s.heap h' →R (.ok (.ret dflt)) {s with heap:=h',toks:=s.toks+knd.draws k})):=by
 apply MeetsIn.of_wp
 rintro A R s ⟨hu,k,xs,hkey,hm,hsz,h1,h2⟩
 wp_walk using Gdi hm.typeIs,qL hu hkey hm
 ·exactλp q=>Gao ⟨_,rfl,h1 p q⟩
 ·exactλq h' q1 q2=>Gao ⟨_,rfl,h2 q h' q1 q2⟩
 ·exact hsz
end
section
variable{X:Cx}{pins:List (Addr×Obj)}{σ:St}{H:Hp}{s:Shared}{a b:Addr}{d:V}{u r:Value}{o:Option V}{A:Around}{E:Value→Shared→Prop}
theorem vF{kvs:List (List Key×V)}{k:List Key}{Q:Value→Shared→Prop}(hu:A.units+1<cLine)(I:Inv X pins σ H s)(e:H a=some (.dT kvs))(eb:H b=some (.tup (k.map kV)))(hl:kvs.length<sizeLine)(rd:RelV d r)
  (h1:∀v w' s',iI kvs k=some v→Inv X pins σ H s' →RelV v w' →Q w' s')(h2:∀s',iI kvs k=none→Inv X pins σ (upd H a (.dT (putK kvs k d))) s' →Q r s'):
  wpAny (model X.prog X.w) A (call (.builtin "dict.setdefault") [.ref a,.ref b,r]) Q E s:=by
 obtain⟨z,hd,xs,rel,dd⟩:=BP I.hok e
 have hz:xs.length≤sizeLine:=by rw[←Paired.length rel];exact z
 refine call_meetsIn PySem.F.slot_dict_setdefault dd.typeIs PySem.F.entry_dict_setdefault (PySem.F.args_dict_setdefault_3 _ _ _) (oD (knd:=tupleKind (cA X.prog X.w)) a b hd r) ⟨GcN hu,k,xs,L2.nM I.hok eb,dd,hz,λp hp=> ?_,λhn h' dd' hs=> ?_⟩
 ·have rv:=rel.val k
  rw[hp] at rv
  cases hv:iI kvs k with
  |none=>rw[hv] at rv;exact rv.elim
  |some v=>rw[hv] at rv;exact h1 v _ _ hv (I.tok _) rv
 ·have rv:=rel.val k
  rw[hn] at rv
  cases hv:iI kvs k with
  |some v=>rw[hv] at rv;exact rv.elim
  |none=>
   refine h2 _ hv ?_
   have hl' :(putK kvs k d).length≤sizeLine:=by have:=lJ kvs k d;omega
   obtain⟨q,es,ep,hq,g2,g3,g4,_,g5⟩:=dd'
   refine qQ I (by rw[e];exact True.intro) hs ⟨q,hq⟩ ⟨hl',hd,_,(rel.put k eb rd).keeps λc ys ec=> ?_,q,es,ep,hq,g2,g3,g4,g5⟩
   rw[az (BF ec e (λz=>nomatch z))]
   exact ec
end
noncomputable def KO(td ty tx:TE):TE:=λσ H Q=>td σ H λx H1=>∃a,x= .ref a∧IsD H1 a∧ty σ H1 λy H2=>tx σ H2 λz H3=>∃kvs k b,H3 a=some (.dT kvs)∧y= .ref b∧H3 b=some (.tup (k.map kV))∧kvs.length<sizeLine∧
 (∀v,iI kvs k=some v→Q v H3)∧(iI kvs k=none→Q z (upd H3 a (.dT (putK kvs k z))))
section
variable{X:Cx}{o e f:Expr}{apos cpos:Pos}{td ty tx:TE}
theorem FY(hu:X.A.units+1<cLine)(ho:PE X o td)(he:PE X e ty)(hf:PE X f tx)(m:M2 X o "setdefault" apos e f cpos):PE X (.Call (.Attribute o "setdefault" apos) [e,f] [] cpos) (KO td ty tx):=by
 intro pins s σ H Q I h
 refine wpAny_Call_method m.base m.few m.line GcT PySem.F.slot_dict_setdefault PySem.F.type_dict_setdefault (thn (ho pins s σ H _ I h) λu s1 ⟨x,H1,I1,rx,a,ex,d,q1⟩=> ?_)
 subst ex
 obtain rfl:u=Value.ref a:=rx
 obtain⟨t1,t2,_⟩:=B0 I1 d
 refine⟨t1,t2, ?_⟩
 rw[m.trees]
 refine Gcy rfl (Gdm (Gct (thn (he pins s1 σ H1 _ I1 q1) λiv s2 ⟨y,H2,I2,ry,q2⟩=>
  Gct (thn (hf pins s2 σ H2 _ I2 q2) λfv s3 ⟨z,H3,I3,rz,kvs,k,b,e1,e2,e3,e4,e5,e6⟩=>Calls.spliced_nil ?_))))
 subst e2
 cases(show iv=Value.ref b from ry)
 exact vF hu I3 e1 e3 e4 rz (λv w' s4 hv I4 rv=> ⟨_,H3,I4,rv,e5 v hv⟩) λs4 hv I4=> ⟨_,_,I4,rz,e6 hv⟩
end
noncomputable def i7(Bad:Addr→Prop)(p:Addr)(ws:List (List Key×V))(b:Addr):Prop:=Bad b∨b=p∨V.ref b∈ws.map (·.2)
structure fq(K:aE)(Bad:Addr→Prop)(env:Env)(σ:St)(H:Hp)(i:Nat)(p:Addr)(ws:List (List Key×V))(kvs:Rws):Prop where
 at_:σ[i]? =some (some (.ref p))
 hid:env[i]? =some none
 top:H p=some (.dT ws)
 keys:kvs.map (·.1)=ws.map (·.1)
 row:∀(j:Nat) k v d,ws[j]? =some (k,v)→kvs[j]? =some (k,d)→∃a ds vs,v= .ref a∧d= .lst ds∧a≠p∧H a=some (.lst vs)∧b8 K (λ_=>False) H ds vs
 inj:∀(j j' :Nat) k k' a,ws[j]? =some (k,V.ref a)→ws[j']? =some (k',V.ref a)→j=j'
noncomputable def nV(H H' :Hp):Prop:=∀b o,H b=some o→isT o→H' b=some o
theorem nV.trans{H H1 H2:Hp}(a:nV H H1)(b:nV H1 H2):nV H H2:=λc o e t=>b c o (a c o e t) t
theorem nV.same{H H1:Hp}(s:cC H H1):nV H H1:=λc o e _=>s c o e
theorem nV.upd{H:Hp}{a:Addr}{o o' :HO}(h:H a=some o)(n:¬isT o):nV H (upd H a o'):=λc x e t=>by
 have:c≠a:=by rintro rfl;rw[h] at e;cases e;exact n t
 rw[az this];exact e
section
variable{K:aE}{H₀ H H' H1:Hp}{Bad Bad' :Addr→Prop}{env env' :Env}{σ σ' :St}{d:D}{v:V}{a p:Addr}{i j:Nat}{ws:List (List Key×V)}{kvs:Rws}
theorem fq.mono(N:fq K Bad env σ H i p ws kvs)(s:cC H H'):fq K Bad env σ H' i p ws kvs where
 at_:=N.at_
 hid:=N.hid
 top:=s _ _ N.top
 keys:=N.keys
 row:=λj k v d h1 h2=>let⟨a,ds,vs,e1,e2,e3,e4,e5⟩:=N.row j k v d h1 h2;⟨a,ds,vs,e1,e2,e3,s _ _ e4,e5.gen (.of_same s) λ_ f _=>f⟩
 inj:=N.inj
theorem fq.n4(N:fq K Bad env σ H i p ws kvs)(hij:i≠j):fq K Bad (env.set j (some (.sh d))) (σ.set j (some v)) H i p ws kvs where
 at_:=by rw[Gab (GaZ hij)];exact N.at_
 hid:=by rw[Gab (GaZ hij)];exact N.hid
 top:=N.top
 keys:=N.keys
 row:=λj k v d h1 h2=>let⟨a,ds,vs,e1,e2,e3,e4,e5⟩:=N.row j k v d h1 h2;⟨a,ds,vs,e1,e2,e3,e4,e5⟩
 inj:=N.inj
theorem fq.KP(N:fq K Bad env σ H i p ws kvs):fq K Bad' env σ H i p ws kvs:=⟨N.at_,N.hid,N.top,N.keys,N.row,N.inj⟩
theorem fq.app{vs:List V}{ds:List D}{k:List Key}(N:fq K Bad env σ H i p ws kvs)(ba:Bad a)(ha:ws[j]? =some (k,.ref a))(hd:kvs[j]? =some (k,.lst ds))(hv:H a=some (.lst vs))(rp:b8 K (λ_=>False) H (ds++[d]) (vs++[v])):
  fq K Bad env σ (upd H a (.lst (vs++[v]))) i p ws (kvs.set j (k,.lst (ds++[d]))):=by
 have fu:jA (λ_=>False) H (upd H a (.lst (vs++[v]))):=λb x hx q=>by
  have:b≠a:=by
   rintro rfl
   rcases q with q|q
   ·exact q
   ·rw[hv] at hx;cases hx;exact q
  rw[az this];exact hx
 have hpa:p≠a:=by
  obtain⟨a',_,_,e1,_,e3,_⟩:=N.row j k _ _ ha hd
  cases e1
  exact GaZ e3
 have hjl:=(Gae.mp hd).1
 refine⟨N.at_,N.hid,by rw[az hpa];exact N.top, ?_,λj' k' v' d' h1 h2=> ?_,N.inj⟩
 ·rw[List.map_set,←N.keys]
  apply GcV
  intro m
  by_cases q:j=m
  ·subst q
   rw[GaT (by simpa using hjl),Gah,hd];rfl
  ·rw[Gab q]
 ·by_cases q:j=j'
  ·subst q
   rw[ha] at h1;cases h1
   rw[GaT hjl] at h2
   cases h2
   exact⟨a,_,_,rfl,rfl,GaZ hpa,aM,rp.gen fu λ_ f _=>f⟩
  ·rw[Gab q] at h2
   obtain⟨a',ds',us,e1,e2,e3,e4,e5⟩:=N.row j' k' v' d' h1 h2
   subst e1
   have na:a' ≠a:=by
    rintro rfl
    exact q (N.inj j j' _ _ _ ha h1)
   exact⟨a',ds',us,rfl,e2,e3,by rw[az na];exact e4,e5.gen fu λ_ f _=>f⟩
theorem fq.make{k:List Key}(N:fq K Bad env σ H i p ws kvs)(bp:Bad p)(ba:Bad a)(hn:V.ref a∉ws.map (·.2))(hpa:a≠p)(hv:H a=some (.lst [])):fq K Bad env σ (upd H p (.dT (ws++[(k,.ref a)]))) i p (ws++[(k,.ref a)]) (kvs++[(k,.lst [])]):=by
 have fu:jA (λ_=>False) H (upd H p (.dT (ws++[(k,.ref a)]))):=λb x hx q=>by
  have:b≠p:=by
   rintro rfl
   rcases q with q|q
   ·exact q
   ·rw[N.top] at hx;cases hx;exact q
  rw[az this];exact hx
 have hlen:kvs.length=ws.length:=by have:=congrArg List.length N.keys;simpa using this
 refine⟨N.at_,N.hid,aM,by rw[GaN,GaN,N.keys];rfl,λj' k' v' d' h1 h2=> ?_,λj1 j2 k1 k2 b h1 h2=> ?_⟩
 ·by_cases q:j' <ws.length
  ·rw[GaU q] at h1
   rw[GaU (by omega)] at h2
   obtain⟨a',ds',us,e1,e2,e3,e4,e5⟩:=N.row j' k' v' d' h1 h2
   exact⟨a',ds',us,e1,e2,e3,by rw[az e3];exact e4,e5.gen fu λ_ f _=>f⟩
  ·rw[GaJ (by omega)] at h1
   rw[GaJ (by omega)] at h2
   rw[hlen] at h2
   cases hz:j' -ws.length with
   |zero=>
    rw[hz] at h1 h2
    cases h1;cases h2
    exact⟨a,[],[],rfl,rfl,hpa,by rw[az hpa];exact hv,.nil⟩
   |succ n=>rw[hz] at h1;simp at h1
 ·by_cases q1:j1<ws.length
  ·rw[GaU q1] at h1
   by_cases q2:j2<ws.length
   ·rw[GaU q2] at h2
    exact N.inj j1 j2 _ _ _ h1 h2
   ·rw[GaJ (by omega)] at h2
    cases hz:j2 -ws.length with
    |zero=>
     rw[hz] at h2;cases h2
     exact absurd (GaE.mpr ⟨_,GaP h1,rfl⟩) hn
    |succ n=>rw[hz] at h2;simp at h2
  ·rw[GaJ (by omega)] at h1
   cases hz:j1 -ws.length with
   |succ n=>rw[hz] at h1;simp at h1
   |zero=>
    rw[hz] at h1;cases h1
    by_cases q2:j2<ws.length
    ·rw[GaU q2] at h2
     exact absurd (GaE.mpr ⟨_,GaP h2,rfl⟩) hn
    ·rw[GaJ (by omega)] at h2
     cases hz2:j2 -ws.length with
     |succ n=>rw[hz2] at h2;simp at h2
     |zero=>omega
end
noncomputable def FrW(H₀:Hp)(Bad:Addr→Prop)(p:Addr)(ws:List (List Key×V)):Prop:=∀b,(b=p∨V.ref b∈ws.map (·.2))→H₀ b=none∧¬Bad b
theorem vG{kvs:Rws}{ws:List (List Key×V)}{k:List Key}(h:kvs.map (·.1)=ws.map (·.1)):kvs.findIdx? (λp=>decide (p.1=k))=ws.findIdx? (λp=>decide (p.1=k)):=by
 have h1:(kvs.map (·.1)).findIdx? (λq=>decide (q=k))=kvs.findIdx? (λp=>decide (p.1=k)):=by rw[GdA];rfl
 have h2:(ws.map (·.1)).findIdx? (λq=>decide (q=k))=ws.findIdx? (λp=>decide (p.1=k)):=by rw[GdA];rfl
 rw[←h1,←h2,h]
theorem find_some:∀{ws:List (List Key×V)} {k:List Key} {j:Nat},ws.findIdx? (λp=>decide (p.1=k))=some j→∃v,ws[j]? =some (k,v)∧iI ws k=some v
 |[],k,j,h=>by simp at h
 |p::ws,k,j,h=>by
  rw[List.findIdx?_cons] at h
  by_cases c:p.1=k
  ·rw[GaL c] at h
   cases h
   exact⟨p.2,by rw[←c];rfl,lI c⟩
  ·rw[GaO c] at h
   simp only[GaF,Gbe] at h
   obtain⟨j',hj,rfl⟩:=Gal.mp h
   obtain⟨v,h1,h2⟩:=find_some hj
   exact⟨v,by rw[GcU];exact h1,by rw[j9 c];exact h2⟩
theorem find_none:∀{ws:List (List Key×V)} {k:List Key},ws.findIdx? (λp=>decide (p.1=k))=none→iI ws k=none
 |[],k,h=>rfl
 |p::ws,k,h=>by
  rw[List.findIdx?_cons] at h
  by_cases c:p.1=k
  ·rw[GaL c] at h;cases h
  ·rw[GaO c] at h
   simp only[GaF,Gbe] at h
   rw[j9 c]
   exact find_none (Option.map_eq_none_iff.mp h)
theorem Bn{kvs:Rws}{ws:List (List Key×V)}{j:Nat}{k:List Key}{v:V}{q:List Key×D}(h:kvs.map (·.1)=ws.map (·.1))(h1:kvs[j]? =some q)(h2:ws[j]? =some (k,v)):q.1=k:=by
 have e1:(kvs.map (·.1))[j]? =some q.1:=by rw[Gah,h1];rfl
 have e2:(ws.map (·.1))[j]? =some k:=by rw[Gah,h2];rfl
 rw[h,e2] at e1
 cases e1;rfl
noncomputable def tM(X:Cx)(i:Nat)(f:DM):TS:=λD σ H=>∃H₀ Bad env p ws kvs q,aI X.K H₀ (i7 Bad p ws) env σ H∧fq X.K (i7 Bad p ws) env σ H i p ws kvs∧FrW H₀ Bad p ws∧f env kvs=some q∧
 ∀σ' H' ws',aI X.K H₀ (i7 Bad p ws') q.1 σ' H' →fq X.K (i7 Bad p ws') q.1 σ' H' i p ws' q.2→FrW H₀ Bad p ws' →nV H H' →D.nx σ' H'
section
variable{X:Cx}{e a b c:Expr}{f g h:DE}{t u:DT}{pos:Pos}{st:Stmt}{rest body:List Stmt}{i j:Nat}{x:Str}{n1 n2:DM}
theorem IF(h1:PS X st (tM X i n1)):PSs X [st] (tM X i n1):=uR h1
theorem FZ(h1:PS X st (tM X i n1))(h2:PSs X rest (tM X i n2)):PSs X (st::rest) (tM X i (MP n1 n2)):=by
 refine(nZ h1 h2).aU ?_
 rintro D σ H ⟨H₀,Bad,env,p,ws,kvs,q,E,N,h0,e,k⟩
 obtain⟨q1,hq,e⟩:=bind_some e
 exact⟨H₀,Bad,env,p,ws,kvs,q1,E,N,h0,hq,λσ' H' ws' E' N' f' t' => ⟨H₀,Bad,q1.1,p,ws',q1.2,q,E',N',f',e,λσ2 H2 ws2 E2 N2 f2 t2=>k σ2 H2 ws2 E2 N2 f2 (t'.trans t2)⟩⟩
theorem KQ{pos' :Pos}(hN:X.N.Nodup)(hj:X.N[j]? =some x)(hx:Loc X.env.scope x)(hij:i≠j)(he:PEd X e f)(hs:swapsWith e (some (.Name x pos')) pos.line X.env=pure false:=by rfl)
  (hf:X.fn x=true∨X.env.scope.names.lookup x=some .local:=by first|exact .inl rfl|exact .inr rfl|assumption):PS X (.Assign [.Name x pos'] e pos) (tM X i (setM j f)):=by
 refine(AQ hN hj hx he hs hf).aU ?_
 rintro D σ H ⟨H₀,Bad,env,p,ws,kvs,q,E,N,h0,e,k⟩
 obtain⟨⟨kr,d⟩,hr,e⟩:=bind_some e
 cases kr with
 |c=>
  cases e
  refine⟨H₀,_,env,_,E,hr,λv H1 s1 R=> ?_⟩
  exact k _ _ ws ((E.mono s1).n4 R) ((N.mono s1).n4 hij) h0 (.same s1)
 |tn=>cases e
 |to=>cases e
 |tb=>cases e
theorem bindM{α β:Type}{o:Option α}{f:α→Option β}{b:β}(h:o.bind f=some b):∃a,o=some a∧f a=some b:=bind_some h
theorem KR{px ap cp apos cpos lp:Pos}{ke:Expr}(hu:X.A.units+1<cLine)(hN:X.N[i]? =some x)(hv:Vis X.env.scope x)(hk:PEd X ke g)(he:PEd X e f)(hd:(x==("__debug__":Str))=false:=by decide)(hcd:(x==("__classdict__":Str))=false:=by decide)
  (m:M2 X (.Name x px) "setdefault" ap ke (.List [] lp) cp:=by exact⟨rfl,rfl,rfl,rfl⟩)
  (hs1:starEach [e] X.env=[(false,eval e X.env)]:=by rfl)
  (hbase:attributeBase (.Call (.Attribute (.Name x px) "setdefault" ap) [ke,.List [] lp] [] cp) "append" X.env (eval (.Call (.Attribute (.Name x px) "setdefault" ap) [ke,.List [] lp] [] cp) X.env)=eval (.Call (.Attribute (.Name x px) "setdefault" ap) [ke,.List [] lp] [] cp) X.env:=by rfl)
  (hfew:((backTo cpos (starEach [e] X.env)).all (λx=> !x.1)&&(backToKw cpos (keywordEach [] X.env)).all (λx=>x.1.isSome)
   &&decide (([e]:List Expr).length+([]:List Keyword).length+(if([]:List Keyword).isEmpty then 0 else 1)<30))=true:=by rfl)
  (hline:(apos.endLine==cpos.line)=true:=by rfl)(hs:swapsWith (.Call (.Attribute (.Call (.Attribute (.Name x px) "setdefault" ap) [ke,.List [] lp] [] cp) "append" apos) [e] [] cpos) none pos.line X.env=pure false:=by rfl):
  PS X (.Expr (.Call (.Attribute (.Call (.Attribute (.Name x px) "setdefault" ap) [ke,.List [] lp] [] cp) "append" apos) [e] [] cpos) pos) (tM X i (MQ g f)):=by
 refine(qO (BM Gcs PySem.F.slot_list_append PySem.F.type_list_append pv (FY hu (lF hN hv hd hcd) hk (EB AV) m) (a4 he aa hs1) hbase hfew hline hs1 rfl) hs).aU ?_
 rintro D σ H ⟨H₀,Bad,env,p,ws,kvs,q,E,N,h0,e,kk⟩
 obtain⟨⟨ky,dy⟩,hy,e⟩:=bindM e
 obtain⟨r,hr,e⟩:=bindM e
 cases dy with
 |tup ks=>
  dsimp only at e
  split at e
  ·rename_i z
   rw[Gau] at z
   obtain⟨key,hkey,e⟩:=bindM e
   obtain⟨kvs',hsd,e⟩:=Gal.mp e
   cases e
   have bp:i7 Bad p ws p:= .inr (.inl rfl)
   refine⟨_,N.at_,p,rfl,.inr ⟨ws,.inl N.top⟩,H₀,_,env,_,E,hy,λvy H1 s1 Ry=> ?_⟩
   have iy:Inn X.K (Cln (i7 Bad p ws) env σ) H1 (.tup ks) vy:=Ry.inn
   cases iy with
   | @tup bk kv _ hb rb=>
    have ekv:=jD rb hkey
    subst ekv
    have E1:=E.mono s1
    have N1:=N.mono s1
    refine⟨GbD _,λa1 n1' => ?_⟩
    have sA:cC H1 (upd H1 a1 (.lst [])):=bG n1'
    have hbA:upd H1 a1 (.lst []) bk=some (.tup (key.map kV)):=sA _ _ hb
    have N2:=N1.mono sA
    have E2:=E1.mono sA
    have hlen:kvs.length=ws.length:=by have:=congrArg List.length N.keys;simpa using this
    have szk:kvs.length<ai∧((∃jj ds k0,kvs.findIdx? (λp=>decide (p.1=key))=some jj∧kvs[jj]? =some (k0,.lst ds)∧ds.length<ai∧kvs' =kvs.set jj (key,.lst (ds++[r.d])))∨(kvs.findIdx? (λp=>decide (p.1=key))=none∧kvs' =kvs++[(key,.lst [r.d])])):=by
     unfold ER at hsd
     split at hsd
     ·rename_i hz
      refine⟨hz, ?_⟩
      split at hsd
      ·rename_i jj hjj
       split at hsd
       ·rename_i k0 ds hds
        split at hsd
        ·rename_i hl
         cases hsd
         exact .inl ⟨jj,ds,k0,hjj,hds,hl,rfl⟩
        ·cases hsd
       ·cases hsd
      ·rename_i hjj
       cases hsd
       exact .inr ⟨hjj,rfl⟩
     ·cases hsd
    have fin:∀(H2:Hp) (ws2:List (List Key×V)) (kvs2:Rws) (jj:Nat) (a:Addr) (ds:List DL.D),aI X.K H₀ (i7 Bad p ws2) env σ H2→fq X.K (i7 Bad p ws2) env σ H2 i p ws2 kvs2→FrW H₀ Bad p ws2→nV H H2→ws2[jj]? =some (key,.ref a)→kvs2[jj]? =some (key,.lst ds)→ds.length<ai→kvs' =kvs2.set jj (key,.lst (ds++[r.d]))→
      tyV X.K "list" (.ref a) H2∧tA X (a5 f aq) σ H2 λvs H3=>BN (.ref a) vs H3 λ_ H4=>D.nx σ H4:=by
     intro H2 ws2 kvs2 jj a ds E2 N2 F2 T2 hw hkv hl ek
     obtain⟨a',ds',vs,e1,e2,e3,hvs,rp⟩:=N2.row jj _ _ _ hw hkv
     cases e1;cases e2
     have ba:i7 Bad p ws2 a:= .inr (.inr (GaE.mpr ⟨_,GaP hw,rfl⟩))
     refine⟨.inl ⟨rfl,vs,.inl (.inl hvs)⟩,H₀,_,env,[r],E2,by unfold a5 aq;rw[hr];rfl,λus H3 s3 Rs=> ?_⟩
     cases Rs with
     | @cons _ v _ _ R1 tl=>
      cases tl
      have hvs3:=s3 _ _ hvs
      have N3:=N2.mono s3
      have E3:=E2.mono s3
      refine⟨_,vs,v,rfl,rfl,hvs3,by rw[←rp.1,←size_eq];exact hl, ?_⟩
      have rep1:Rep X.K (λ_=>False) H3 r.d v:=R1.inn.imm z.1
      have rp3:b8 X.K (λ_=>False) H3 (ds++[r.d]) (vs++[v]):=(rp.gen (.of_same s3) λ_ f _=>f).append (.cons rep1 .nil)
      have N4:=N3.app ba hw hkv hvs3 rp3
      rw[←ek] at N4
      exact kk σ _ ws2 (E3.FJ ba (F2 a (.inr (GaE.mpr ⟨_,GaP hw,rfl⟩))).1 hvs3 (λz=>z) z.2) N4 F2 ((T2.trans (.same s3)).trans (.upd hvs3 λz=>z))
    refine⟨ws,key,bk,N2.top,rfl,hbA,by rw[←hlen,←size_eq];exact szk.1,λv hv=> ?_,λhv=> ?_⟩
    ·rcases szk.2 with⟨jj,ds,k0,hjj,hds,hl,ek⟩| ⟨hjj,_⟩
     ·rw[vG N.keys] at hjj
      obtain⟨v',hw,hv'⟩:=find_some hjj
      rw[hv] at hv';cases hv'
      have hk0:k0=key:=Bn N.keys hds hw
      subst hk0
      obtain⟨a',_,_,e1,_⟩:=N.row jj _ _ _ hw hds
      subst e1
      exact fin _ ws kvs jj a' ds E2 N2 h0 ((nV.same s1).trans (.same sA)) hw hds hl ek
     ·rw[vG N.keys] at hjj
      rw[find_none hjj] at hv;cases hv
    ·rcases szk.2 with⟨jj,ds,k0,hjj,hds,hl,ek⟩| ⟨hjj,ek⟩
     ·rw[vG N.keys] at hjj
      obtain⟨v',hw,hv'⟩:=find_some hjj
      rw[hv] at hv';cases hv'
     ·have hn:V.ref a1∉ws.map (·.2):=λhm=>by
       obtain⟨⟨k1,v1⟩,hm1,hm2⟩:=GaE.mp hm
       have hm2' :v1=V.ref a1:=hm2
       subst hm2'
       obtain⟨j1,hj1⟩:=Gce.mp hm1
       have hj1' :j1<kvs.length:=by rw[hlen];exact(Gae.mp hj1).1
       have hk1:kvs[j1]? =some kvs[j1]:=Gaa hj1'
       have hk2:kvs[j1].1=k1:=Bn N.keys hk1 hj1
       obtain⟨a',_,us,e1,_,_,e4,_⟩:=N1.row j1 k1 _ kvs[j1].2 hj1 (by rw[hk1,←hk2])
       cases e1
       rw[n1'] at e4;cases e4
      have hpa:a1≠p:=λq=>by subst q;rw[N1.top] at n1';cases n1'
      rw[EG _ hv]
      have eB:(λb=>i7 Bad p ws b∨b=a1)=i7 Bad p (ws++[(key,V.ref a1)]):=by
       funext b
       apply propext
       unfold i7
       rw[GaN,Gav]
       simp only[Gar,GdB,GbA,V.ref.injEq]
       constructor
       ·rintro((h|h|h)|h)
        ·exact .inl h
        ·exact .inr (.inl h)
        ·exact .inr (.inr (.inl h))
        ·exact .inr (.inr (.inr h))
       ·rintro(h|h|h|h)
        ·exact .inl (.inl h)
        ·exact .inl (.inr (.inl h))
        ·exact .inl (.inr (.inr h))
        ·exact .inr h
      have E3:aI X.K H₀ (i7 Bad p (ws++[(key,V.ref a1)])) env σ (upd H1 a1 (.lst [])):=by
       rw[←eB]
       exact E1.Cj (New:=λb=>b=a1) sA (λb hb=>by rw[hb];exact n1') λb hb=>by rw[hb,aM];simp
      have N3:fq X.K (i7 Bad p (ws++[(key,V.ref a1)])) env σ (upd H1 a1 (.lst [])) i p ws kvs:=by
       exact N1.KP.mono sA
      have F3:FrW H₀ Bad p (ws++[(key,V.ref a1)]):=λb hb=>by
       rw[GaN,Gav] at hb
       simp only[Gar,GdB,GbA,V.ref.injEq] at hb
       rcases hb with h|h|h
       ·exact h0 b (.inl h)
       ·exact h0 b (.inr h)
       ·subst h
        exact⟨E1.same.free n1',λq=>E1.bad b (.inl q) n1'⟩
      have bp' :i7 Bad p (ws++[(key,V.ref a1)]) p:= .inr (.inl rfl)
      have ba' :i7 Bad p (ws++[(key,V.ref a1)]) a1:= .inr (.inr (by rw[GaN,Gav];exact .inr Gam))
      have N4:=N3.make (k:=key) bp' ba' hn hpa aM
      have E4:=E3.FJ (o' := .dT (ws++[(key,V.ref a1)])) bp' (F3 p (.inl rfl)).1 N3.top (λz=>z) z.2
      have lw:(ws++[(key,V.ref a1)])[ws.length]? =some (key,V.ref a1):=by rw[GaJ (Gaq _),Nat.sub_self];rfl
      have lk:(kvs++[(key,DL.D.lst [])])[ws.length]? =some (key,DL.D.lst []):=by rw[←hlen,GaJ (Gaq _),Nat.sub_self];rfl
      refine fin _ _ (kvs++[(key,DL.D.lst [])]) ws.length a1 [] E4 N4 F3 (((nV.same s1).trans (.same sA)).trans (.upd N3.top λz=>z)) lw lk (by rw[size_eq,GbC];exact(by decide:(0:Nat)<16777216)) ?_
      rw[ek,←hlen,List.set_append_right _ _ (Gaq _),Nat.sub_self]
      rfl
  ·cases e
 |_=>cases e
theorem KS{px:Pos}(hp:PassesOwn (model X.prog X.w) X.A X.env X.xe)(hc:X.calm=true)(he:PEd X e f)(hN:X.N.Nodup)(hj:X.N[j]? =some x)(hx:Loc X.env.scope x)(hij:i≠j)(hb:PSs X body (tM X i n1))
  (hs:∀x,foldedSetIterable e X.env x=pure x:=by intro _;rfl)
  (hf:X.fn x=true∨X.env.scope.names.lookup x=some .local:=by first|exact .inl rfl|exact .inr rfl|assumption):
  PS X (.For (.Name x px) e body [] pos) (tM X i (Ji j f n1)):=by
 refine(Ey hp hc (F6 he) (BI hN hj hx hf) hb hs).aU ?_
 rintro D σ H ⟨H₀,Bad,env,p,ws,kvs,q,E,N,h0,e,k⟩
 obtain⟨⟨kr,d⟩,hr,e⟩:=bindM e
 split at e
 ·rename_i xs hd
  have hd' :d= .tup xs:=hd
  subst hd'
  split at e
  ·rename_i him
   refine⟨H₀,_,env,_,E,hr,λv H1 s1 R=> ?_⟩
   have i1:Inn X.K (Cln (i7 Bad p ws) env σ) H1 (.tup xs) v:=R.inn
   cases i1 with
   | @tup la lv _ hla rr=>
    have hll:xs.length=lv.length:=rr.1
    refine⟨_,rfl,.inr ⟨⟨_,SqT.of hla⟩, ?_⟩⟩
    refine⟨λc n σ' H' =>n=xs.length -c∧c≤xs.length∧nV H1 H' ∧∃envi wsi kvi,aI X.K H₀ (i7 Bad p wsi) envi σ' H' ∧fq X.K (i7 Bad p wsi) envi σ' H' i p wsi kvi∧FrW H₀ Bad p wsi∧oe j n1 (xs.drop c) envi kvi=some q,
     ⟨xs.length,by simp,GbD _,λ_ _ e _=>e,env,ws,kvs,E.mono s1,N.mono s1,h0,by simpa using e⟩, ?_⟩
    rintro c n σ' H' ⟨rfl,hle,tS,envi,wsi,kvi,Ei,Ni,Fi,ei⟩
    have hla' :H' la=some (.tup lv):=tS _ _ hla trivial
    by_cases hlt:c<xs.length
    ·have hd:xs.drop c=xs[c]::xs.drop (c+1):=Gbu hlt
     rw[hd] at ei
     unfold oe at ei
     obtain⟨q1,hq,ei⟩:=bindM ei
     have hlv:lv[c]? =some (lv[c]'(by omega)):=Gaa _
     refine .inr ⟨⟨lv,_,SqT.of hla',hlv⟩,λσ2 H2=>nV H1 H2∧∃envi wsi kvi,aI X.K H₀ (i7 Bad p wsi) envi σ2 H2∧fq X.K (i7 Bad p wsi) envi σ2 H2 i p wsi kvi∧FrW H₀ Bad p wsi∧oe j n1 (xs.drop (c+1)) envi kvi=some q,λσ2 H2 z=> ⟨xs.length -(c+1),by omega,rfl,hlt,z⟩,λy H2 ⟨e2,e3⟩=> ?_⟩
     subst e2
     have ey:=e3 _ (SqT.of hla')
     rw[hlv] at ey
     cases ey
     have rep0:=rr.2 c _ _ (Gaa hlt) hlv
     have rep1:Rep X.K (λ_=>False) H1 xs[c] lv[c]:=rep0.imm (qR him c _ (Gaa hlt))
     have rep2:Rep X.K (Cln (i7 Bad p wsi) envi σ') H2 xs[c] lv[c]:=rep1.gen (λb o hb w=>w.elim (λz=>z.elim) λw=>tS b o hb w) λ_ z _=>z.elim
     refine⟨H₀,Bad,envi.set j (some (.sh xs[c])),p,wsi,kvi,q1,Ei.n4 rep2,Ni.n4 hij,Fi,hq,λσ3 H3 ws3 E3 N3 F3 t3=> ?_⟩
     exact⟨tS.trans t3,q1.1,ws3,q1.2,E3,N3,F3,ei⟩
    ·have hc' :c=xs.length:=by omega
     subst hc'
     rw[GbK] at ei
     cases ei
     exact .inl ⟨⟨lv,SqT.of hla',by omega⟩,k σ' H' wsi Ei Ni Fi ((nV.same s1).trans tS)⟩
  ·cases e
 ·cases e
theorem DD{pos' dp px rp:Pos}(hN:X.N.Nodup)(hi:X.N[i]? =some x)(hx:Loc X.env.scope x)(hv:Vis X.env.scope x)(h1:PS X st (tM X i n1))(hd:(x==("__debug__":Str))=false:=by decide)(hcd:(x==("__classdict__":Str))=false:=by decide)
  (hs:swapsWith (.Dict [] [] dp) (some (.Name x pos')) pos.line X.env=pure false:=by rfl)
  (hf:X.fn x=true∨X.env.scope.names.lookup x=some .local:=by first|exact .inl rfl|exact .inr rfl|assumption):
  lE X [.Assign [.Name x pos'] (.Dict [] [] dp) pos,st,.Return (some (.Name x px)) rp] (ES i n1):=by
 intro pins z σ H D I hw
 have hl:=I.len
 refine(nZ (AQ hN hi hx wB hs hf) (nZ h1 (uR (Et (lF hi hv hd hcd))))) pins z σ H D I ?_
 obtain⟨H₀,Bad,env,o,E,e,k⟩:=hw
 obtain⟨q,hq,e⟩:=bindM e
 cases e
 have hie:i<env.length:=F4 E hl hi
 have hie' :i<σ.length:=by rw[←E.len];exact hie
 intro p np
 have eB:(λb=>Bad b∨b=p)=i7 Bad p []:=by
  funext b
  apply propext
  unfold i7
  simp
 have E1:aI X.K H₀ (i7 Bad p []) (env.set i none) (σ.set i (some (.ref p))) (upd H p (.dT [])):=by
  rw[←eB]
  exact(E.hide i (.ref p)).Cj (New:=λb=>b=p) (bG np) (λb hb=>by rw[hb];exact np) λb hb=>by rw[hb,aM];simp
 have N1:fq X.K (i7 Bad p []) (env.set i none) (σ.set i (some (.ref p))) (upd H p (.dT [])) i p [] []:=
  ⟨cB hie',cB hie,aM,rfl,λj k v d h=>by simp at h,λj j' k k' a h=>by simp at h⟩
 have F1:FrW H₀ Bad p []:=λb hb=>by
  rcases hb with rfl|hb
  ·exact⟨E.same.free np,λq=>E.bad b q np⟩
  ·simp at hb
 refine⟨H₀,Bad,env.set i none,p,[],[],q,E1,N1,F1,hq,λσ' H' ws' E' N' F' _=> ?_⟩
 refine⟨.ref p,N'.at_,k (.ref p) H' E'.same ⟨λ_=> ⟨p,rfl,(F' p (.inl rfl)).1,⟨_,N'.top,trivial⟩⟩,.dT N'.top ⟨N'.keys,λj pd wd e1 e2=> ?_⟩⟩⟩
 obtain⟨kd,dd⟩:=pd
 obtain⟨kw,vw⟩:=wd
 have ek:kd=kw:=Bn N'.keys e1 e2
 subst ek
 obtain⟨a,ds,vs,r1,r2,r3,r4,r5⟩:=N'.row j kd vw dd e2 e1
 subst r1 r2
 have fa:=F' a (.inr (GaE.mpr ⟨_,GaP e2,rfl⟩))
 exact .lst ⟨fa.1,λz=>r3 (by cases z;rfl)⟩ (.inl r4) r5.1 λj' d v h1 h2=>(r5.2 j' d v h1 h2).imp λ_ z=>z.elim
end
section
variable{X:Cx}
theorem DF{ds:List D}{r:RV}(h:sortedS ds=some r):gc ds=some r:=by
 obtain⟨d,xs,rfl,h1,h2⟩:=B6 h
 split at h2
 ·rename_i c
  rw[Gau] at c
  have c1:=GaD c.1
  unfold gc one
  simp only[h1,Option.bind_some]
  rw[GaL (by omega:xs.length<1000000),c.2]
  exact h2
 ·cases h2
theorem gM:CallD X sortedS (rX X.K):=λF H ds vs rv Q ps e k=>jZ F H ds vs rv Q ps (DF e) k
end
theorem fT{N P:List Str}{sc:Scope}(a:sc.kind= .function:=by rfl)(b:sc.isCoroutine=false:=by rfl)(c:sc.isGenerator=false:=by rfl)(d:N.Nodup:=by decide+kernel)(e:N.take P.length=P:=by rfl)(f:∀x∈P,sc.names.lookup x=some .local∨sc.names.lookup x=some .cell:=by decide+kernel)(g:∀y∈sc.names,y.2≠ .free:=by decide+kernel):aW N P sc:=⟨a,b,c,d,e,f,g⟩
end DL
namespace Den
open DL PySem
noncomputable def kL:DS:=
 (aG (ifS (aZ eqB (ixE (vE 0) (kE (.int 0))) (kE (.str "ever")))
  (retS (ixE (vE 0) (kE (.int 1))))
  bf)
 (aG (ifS (aZ eqB (ixE (vE 0) (kE (.int 0))) (kE (.str "flat")))
  (retS (ixE (vE 0) (kE (.int 2))))
  bf)
 (aG (ifS (aZ o7 (vE 1) (kE .non))
  (retS (kE .non))
  bf)
 (retS (opE lK (opE dE (vE 1) (ixE (vE 0) (kE (.int 2)))) (ixE (vE 0) (kE (.int 3))))))))
noncomputable def jF:List D→Option D:=dQ 2 2 kL
noncomputable def kf:DS:=
 (aG (aR 2 (ixE (vE 0) (kE (.int 4))))
 (aG (ifS (aZ eqB (ixE (vE 2) (kE (.int 0))) (kE (.str "asked")))
  (retS (kE .non))
  bf)
 (aG (aR 3 (opE k6 (vE 1) (opE k6 (ixE (vE 2) (kE (.int 1))) (ixE (vE 2) (kE (.int 4))))))
 (aG (aR 4 (opE lK (vE 3) (ixE (vE 2) (kE (.int 2)))))
 (aG (ifS (orT (uW (EK leB ltB (kE (.int 0)) (vE 4) (ixE (vE 2) (kE (.int 3))))) (aZ gtB (opE k6 (vE 3) (opE dE (vE 4) (ixE (vE 2) (kE (.int 2))))) (opE aT (ixE (vE 2) (kE (.int 4))) (ixE (vE 2) (kE (.int 5))))))
  (retS (kE .non))
  bf)
 (retS (vE 4)))))))
noncomputable def jk:List D→Option D:=dQ 5 2 kf
noncomputable def lY:DS:=
 (aG (aR 2 (ixE (vE 0) (kE (.int 4))))
 (aG (ifS (aZ eqB (ixE (vE 2) (kE (.int 0))) (kE (.str "asked")))
  (retS (bE (aZ ltB (vE 1) (ixE (vE 2) (kE (.int 1))))))
  bf)
 (retS (bE (aZ o7 (aH jk (a5 (vE 0) (a5 (vE 1) aq))) (kE .non))))))
noncomputable def lZ:List D→Option D:=dQ 3 2 lY
noncomputable def jm:DS:=
 (ifS (jz (aZ eqB (ixE (vE 4) (kE (.int 0))) (vE 1)) (aZ leB (ixE (vE 4) (kE (.int 1))) (vE 2)))
  (aR 3 (ixE (vE 4) (kE (.int 2))))
  bf)
noncomputable def i8:DS:=
 (aG (aR 3 (kE .non))
 (aG (gZ (some 0) (lD (vE 0)) (gN 4)
  jm)
 (retS (vE 3))))
noncomputable def i9:List D→Option D:=dQ 5 3 i8
noncomputable def fV:DT:=
 (jz (aZ iE (vE 1) (kE .non)) (aZ leB (ixE (ixE (vE 2) (vE 5)) (kE (.int 0))) (opE k6 (ixE (vE 7) (kE (.int 0))) (vE 1))))
noncomputable def j8:DS:=
 (aG (aR 4 (opE k6 (vE 4) (ixE (ixE (vE 2) (vE 5)) (kE (.int 1)))))
 (aR 5 (opE aT (vE 5) (kE (.int 1)))))
noncomputable def cZ:DS:=
 (aG (aR 4 (opE aT (vE 4) (ixE (vE 7) (kE (.int 1)))))
 (aG (uY fV
  j8)
 (ifS (orT (aZ eqB (opE aT (vE 6) (kE (.int 1))) (dN cN (a5 (vE 2) aq))) (aZ gtB (ixE (ixE (vE 2) (opE aT (vE 6) (kE (.int 1)))) (kE (.int 0))) (ixE (vE 7) (kE (.int 0)))))
  (mT 3 (bM (a5 (ixE (vE 7) (kE (.int 0))) (a5 (vE 4) aq))))
  bf)))
noncomputable def rY:DS:=
 (aG (aR 2 (dN sortedS (a5 (vE 0) aq)))
 (aG (aR 3 (gF aq))
 (aG (aR 4 (kE (.int 0)))
 (aG (aR 5 (kE (.int 0)))
 (aG (gZ (some 2) (BU (vE 2)) (gT [6,7])
  cZ)
 (retS (vE 3)))))))
noncomputable def k4:List D→Option D:=dQ 8 2 rY
noncomputable def fb:DS:=
 (retS (dN anyS (a5 (rq none 1 [] (lD (ixE (vE 0) (kE (.int 2)))) (gN 0) jc (bE (aZ eqB (ixE (vE 0) (kE (.int 0))) (kE (.str "kilo"))))) aq)))
noncomputable def fc:List D→Option D:=dQ 1 1 fb
noncomputable def gO:DS:=
 (aG (aR 3 (ixE (vE 2) (kE (.int 0))))
 (aG (aR 4 (ixE (vE 2) (kE (.int 1))))
 (aG (aR 5 (ixE (vE 2) (kE (.int 2))))
 (aG (aR 6 (ixE (ixE (vE 0) (kE (.int 3))) (vE 3)))
 (aG (aR 7 (ixE (ixE (vE 0) (kE (.int 1))) (ixE (vE 6) (kE (.int 2)))))
 (aG (aR 8 (gF aq))
 (aG (ifS (wD (aH lZ (a5 (vE 6) (a5 (vE 4) aq))))
  (mT 8 (kE (.str "astray")))
  bf)
 (aG (ifS (aZ gtB (vE 5) (ixE (ixE (vE 6) (kE (.int 3))) (kE (.int 3))))
  (mT 8 (kE (.str "most")))
  bf)
 (aG (ifS (orT (aZ ltB (vE 5) (kE (.int 1))) (aZ neB (opE rm (vE 5) (ixE (ixE (vE 7) (kE (.int 1))) (kE (.int 0)))) (kE (.int 0))))
  (mT 8 (kE (.str "part")))
  bf)
 (aG (ifS (jz (wD (aH fc (a5 (vE 7) aq))) (aZ o7 (aH i9 (a5 (vE 1) (a5 (ixE (vE 6) (kE (.int 1))) (a5 (vE 4) aq)))) (kE .non)))
  (mT 8 (kE (.str "weight")))
  bf)
 (aG (ifS (aZ ltB (vE 4) (opE aT (ixE (ixE (ixE (vE 0) (kE (.int 0))) (ixE (vE 6) (kE (.int 1)))) (kE (.int 1))) (ixE (vE 7) (kE (.int 3)))))
  (mT 8 (kE (.str "young")))
  bf)
 (retS (rq (some 8) 1 [3,4] (lD (vE 8)) (gN 0) jc (bM (a5 (vE 0) (a5 (vE 1) (a5 (vE 2) aq)))))))))))))))))
noncomputable def fD:List D→Option D:=dQ 9 3 gO
noncomputable def bU:DM:=
 (MP (setM 4 (ixE (ixE (vE 0) (kE (.int 3))) (ixE (vE 3) (kE (.int 0)))))
 (MQ (bM (a5 (ixE (vE 4) (kE (.int 1))) (a5 (ixE (vE 4) (kE (.int 2))) aq))) (bM (a5 (ixE (vE 3) (kE (.int 1))) (a5 (ixE (vE 3) (kE (.int 2))) aq)))))
noncomputable def dI:DS:=
 (ES 2 (Ji 3 (vE 1) bU))
noncomputable def cO:List D→Option D:=dQ 5 2 dI
noncomputable def cG:DS:=
 (aG (aR 11 (aH jF (a5 (vE 8) (a5 (aH i9 (a5 (vE 1) (a5 (vE 6) (a5 (ixE (vE 10) (kE (.int 0))) aq)))) aq))))
 (ifS (jz (aZ iE (vE 11) (kE .non)) (aZ gtB (ixE (vE 10) (kE (.int 1))) (vE 11)))
  (mT 3 (bM (a5 (kE (.str "cap")) (a5 (vE 6) (a5 (ixE (vE 4) (kE (.int 1))) (a5 (vE 7) (a5 (ixE (vE 10) (kE (.int 0))) (a5 (ixE (vE 10) (kE (.int 1))) (a5 (vE 11) aq)))))))))
  bf))
noncomputable def cH:DS:=
 (aG (aR 9 (ifE (aZ eqB (ixE (vE 8) (kE (.int 0))) (kE (.str "ever"))) (kE .non) (ixE (vE 8) (kE (.int 1)))))
 (gZ none (lD (aH k4 (a5 (vE 5) (a5 (vE 9) aq)))) (gN 10)
  cG))
noncomputable def dC:DS:=
 (aG (aR 6 (ixE (vE 4) (kE (.int 0))))
 (gZ none (BU (ixE (ixE (ixE (vE 0) (kE (.int 1))) (ixE (vE 4) (kE (.int 1)))) (kE (.int 2)))) (gT [7,8])
  cH))
noncomputable def iM:DS:=
 (aG (aR 3 (gF aq))
 (aG (gZ none (EO bN (aH cO (a5 (vE 0) (a5 (vE 2) aq)))) (gT [4,5])
  dC)
 (retS (vE 3))))
noncomputable def gn:List D→Option D:=dQ 12 3 iM
noncomputable def cX:DS:=
 (aG (t9 1 (bM (a5 (ixE (vE 2) (kE (.int 0))) (a5 (ixE (vE 2) (kE (.int 1))) aq))) (ixE (vE 2) (kE (.int 2))))
 (t9 1 (bM (a5 (ixE (vE 2) (kE (.int 1))) (a5 (ixE (vE 2) (kE (.int 0))) aq))) (ixE (vE 2) (kE (.int 2)))))
noncomputable def ff:DS:=
 (aG (aR 1 (pz))
 (aG (gZ (some 0) (lD (vE 0)) (gN 2)
  cX)
 (retS (vE 1))))
noncomputable def fg:List D→Option D:=dQ 3 1 ff
noncomputable def gP:DS:=
 (aG (ifS (aZ neB (ixE (vE 1) (kE (.int 1))) (ixE (vE 2) (kE (.int 1))))
  (retS (kE (.int 0)))
  bf)
 (retS (HF (vE 0) (bM (a5 (ixE (vE 1) (kE (.int 2))) (a5 (ixE (vE 2) (kE (.int 2))) aq))) (kE (.int 0)))))
noncomputable def gQ:List D→Option D:=dQ 3 3 gP
noncomputable def bL:DS:=
 (aG (aR 9 (opE k6 (ixE (vE 8) (kE (.int 0))) (ixE (vE 7) (kE (.int 0)))))
 (aG (ifS (aZ geB (vE 9) (vE 3))
  bkS
  bf)
 (ifS (aZ ltB (vE 9) (aH gQ (a5 (vE 2) (a5 (ixE (ixE (vE 0) (kE (.int 3))) (ixE (vE 7) (kE (.int 1)))) (a5 (ixE (ixE (vE 0) (kE (.int 3))) (ixE (vE 8) (kE (.int 1)))) aq)))))
  (mT 5 (bM (a5 (kE (.str "gap")) (a5 (ixE (vE 7) (kE (.int 1))) (a5 (ixE (vE 7) (kE (.int 0))) (a5 (ixE (vE 8) (kE (.int 1))) (a5 (ixE (vE 8) (kE (.int 0))) aq)))))))
  bf)))
noncomputable def cI:DS:=
 (gZ none (lD (slE (vE 4) (fX (opE aT (vE 6) (kE (.int 1)))) noO)) (gN 8)
  bL)
noncomputable def iN:DS:=
 (aG (aR 2 (aH fg (a5 (ixE (vE 0) (kE (.int 2))) aq)))
 (aG (aR 3 (mmE B1 (.int 0) (rq none 1 [] (lD (ixE (vE 0) (kE (.int 2)))) (gN 0) jc (ixE (vE 0) (kE (.int 2))))))
 (aG (aR 4 (dN sortedS (a5 (rq (some 1) 1 [] (lD (vE 1)) (gN 0) jc (bM (a5 (ixE (vE 0) (kE (.int 1))) (a5 (ixE (vE 0) (kE (.int 0))) aq)))) aq)))
 (aG (aR 5 (gF aq))
 (aG (gZ (some 4) (BU (vE 4)) (gT [6,7])
  cI)
 (retS (vE 5)))))))
noncomputable def gp:List D→Option D:=dQ 10 2 iN
noncomputable def bZ:DS:=
 (aG (aR 4 (aH jk (a5 (ixE (ixE (vE 0) (kE (.int 3))) (ixE (vE 3) (kE (.int 0)))) (a5 (ixE (vE 3) (kE (.int 1))) aq))))
 (ifS (aZ iE (vE 4) (kE .non))
  (t9 2 (bM (a5 (ixE (vE 3) (kE (.int 0))) (a5 (vE 4) aq))) (opE aT (HF (vE 2) (bM (a5 (ixE (vE 3) (kE (.int 0))) (a5 (vE 4) aq))) (kE (.int 0))) (kE (.int 1))))
  bf))
noncomputable def gq:DS:=
 (aG (aR 2 (pz))
 (aG (gZ (some 1) (lD (vE 1)) (gN 3)
  bZ)
 (retS (pB bN 2 2 [] (gT [0,1]) (aZ gtB (vE 1) (kE (.int 1))) (bM (a5 (kE (.str "twice")) (a5 (ixE (vE 0) (kE (.int 0))) (a5 (ixE (vE 0) (kE (.int 1))) aq))))))))
noncomputable def dS:List D→Option D:=dQ 5 2 gq
noncomputable def ie:DS:=
 (Mj 4 (aH fD (a5 (vE 0) (a5 (vE 2) (a5 (vE 5) aq)))))
noncomputable def oE:DS:=
 (aG (aR 2 (ixE (vE 1) (kE (.int 0))))
 (aG (aR 3 (ixE (vE 1) (kE (.int 1))))
 (aG (aR 4 (opE aT (opE aT (aH gn (a5 (vE 0) (a5 (vE 2) (a5 (vE 3) aq)))) (aH gp (a5 (vE 0) (a5 (vE 3) aq)))) (aH dS (a5 (vE 0) (a5 (vE 3) aq)))))
 (aG (gZ (some 3) (lD (vE 3)) (gN 5)
  ie)
 (retS (dN gc (a5 (vE 4) aq)))))))
noncomputable def m6:List D→Option D:=dQ 6 2 oE
noncomputable def ao:DS:=
 (aG (aR 3 (kE (.int 0)))
 (aG (ifS (aZ gtB (dN cN (a5 (vE 0) aq)) (kE (.int 0)))
  (aR 3 (opE rm (ixE (vE 0) (opE rm (vE 1) (dN cN (a5 (vE 0) aq)))) (kE (.int 1000003))))
  bf)
 (retS (opE rm (opE lK (opE rm (opE dE (opE rm (opE dE (opE aT (vE 3) (kE (.int 1))) (opE aT (opE aT (opE dE (vE 1) (vE 1)) (vE 1)) (kE (.int 41)))) (kE (.int 999983))) (kE (.int 48271))) (kE (.int 2147483647))) (kE (.int 11))) (vE 2)))))
noncomputable def a9:List D→Option D:=dQ 4 3 ao
noncomputable def fE:DS:=
 (aG (aR 6 (opE aT (opE aT (vE 1) (kE (.int 1))) (opE dE (kE (.int 4)) (vE 5))))
 (aG (aR 7 (opE dE (vE 3) (opE aT (kE (.int 1)) (aH a9 (a5 (vE 0) (a5 (vE 6) (a5 (kE (.int 30)) aq)))))))
 (aG (aR 8 (aH a9 (a5 (vE 0) (a5 (opE aT (vE 6) (kE (.int 2))) (a5 (kE (.int 3)) aq)))))
 (aG (ifS (aZ eqB (vE 8) (kE (.int 0)))
  (mT 4 (bM (a5 (kE (.str "flat")) (a5 (vE 7) (a5 (opE dE (vE 2) (opE aT (kE (.int 1)) (aH a9 (a5 (vE 0) (a5 (opE aT (vE 6) (kE (.int 1))) (a5 (kE (.int 30)) aq)))))) aq)))))
  bf)
 (aG (ifS (aZ eqB (vE 8) (kE (.int 1)))
  (aG (aR 9 (opE dE (vE 2) (opE aT (kE (.int 1)) (aH a9 (a5 (vE 0) (a5 (opE aT (vE 6) (kE (.int 1))) (a5 (kE (.int 9)) aq)))))))
 (mT 4 (bM (a5 (kE (.str "kilo")) (a5 (vE 7) (a5 (vE 9) (a5 (opE aT (kE (.int 1)) (aH a9 (a5 (vE 0) (a5 (opE aT (vE 6) (kE (.int 3))) (a5 (kE (.int 40)) aq))))) aq)))))))
  bf)
 (ifS (aZ eqB (vE 8) (kE (.int 2)))
  (mT 4 (bM (a5 (kE (.str "ever")) (a5 (opE dE (vE 2) (opE aT (kE (.int 2)) (aH a9 (a5 (vE 0) (a5 (opE aT (vE 6) (kE (.int 1))) (a5 (kE (.int 60)) aq)))))) aq))))
  bf))))))
noncomputable def kM:DS:=
 (aG (aR 4 (gF aq))
 (aG (gZ none (iJ (ixE (gF (a5 (kE (.int 0)) (a5 (kE (.int 1)) (a5 (kE (.int 1)) (a5 (kE (.int 2)) (a5 (kE (.int 3)) (a5 (kE (.int 4)) aq))))))) (aH a9 (a5 (vE 0) (a5 (vE 1) (a5 (kE (.int 6)) aq)))))) (gN 5)
  fE)
 (retS (dN ja (a5 (vE 4) aq)))))
noncomputable def jn:List D→Option D:=dQ 10 4 kM
noncomputable def cJ:DS:=
 (aG (aR 4 (opE aT (kE (.int 100)) (opE dE (kE (.int 30)) (vE 3))))
 (aG (aR 5 (ixE (gF (a5 (kE (.int 1)) (a5 (kE (.int 2)) (a5 (kE (.int 5)) (a5 (kE (.int 12)) (a5 (opE pw (kE (.int 10)) (kE (.int 5))) aq)))))) (aH a9 (a5 (vE 0) (a5 (vE 4) (a5 (kE (.int 5)) aq))))))
 (aG (aR 6 (ixE (gF (a5 (bM (a5 (vE 5) aq)) (a5 (bM (a5 (vE 5) (a5 (opE dE (kE (.int 2)) (vE 5)) aq))) (a5 (bM (a5 (vE 5) (a5 (opE dE (kE (.int 3)) (vE 5)) (a5 (opE dE (kE (.int 7)) (vE 5)) aq)))) aq)))) (aH a9 (a5 (vE 0) (a5 (opE aT (vE 4) (kE (.int 1))) (a5 (kE (.int 3)) aq))))))
 (aG (aR 7 (opE dE (ixE (gF (a5 (kE (.int 0)) (a5 (vE 1) aq))) (aH a9 (a5 (vE 0) (a5 (opE aT (vE 4) (kE (.int 2))) (a5 (kE (.int 2)) aq))))) (aH a9 (a5 (vE 0) (a5 (opE aT (vE 4) (kE (.int 3))) (a5 (kE (.int 20)) aq))))))
 (mT 2 (bM (a5 (opE aT (kE (.str "stuff")) (ixE (kE (.str "abcdef")) (vE 3))) (a5 (vE 6) (a5 (aH jn (a5 (vE 0) (a5 (opE aT (vE 4) (kE (.int 5))) (a5 (vE 5) (a5 (vE 1) aq))))) (a5 (vE 7) aq))))))))))
noncomputable def iP:DS:=
 (aG (aR 2 (gF aq))
 (aG (gZ none (iJ (ixE (gF (a5 (kE (.int 1)) (a5 (kE (.int 2)) (a5 (kE (.int 3)) (a5 (kE (.int 3)) (a5 (kE (.int 2)) (a5 (kE (.int 6)) aq))))))) (aH a9 (a5 (vE 0) (a5 (kE (.int 21)) (a5 (kE (.int 6)) aq)))))) (gN 3)
  cJ)
 (retS (dN ja (a5 (vE 2) aq)))))
noncomputable def gr:List D→Option D:=dQ 8 2 iP
noncomputable def fF:DS:=
 (aG (aR 6 (opE aT (opE aT (kE (.int 3000)) (opE dE (kE (.int 18)) (vE 4))) (opE dE (kE (.int 3)) (vE 5))))
 (ifS (jz (aZ ltB (dN cN (a5 (vE 3) aq)) (kE (.int 12))) (aZ eqB (aH a9 (a5 (vE 0) (a5 (vE 6) (a5 (kE (.int 3)) aq)))) (kE (.int 0))))
  (aG (aR 7 (bM (a5 (vE 4) (a5 (vE 5) (a5 (opE dE (vE 2) (opE aT (kE (.int 1)) (aH a9 (a5 (vE 0) (a5 (opE aT (vE 6) (kE (.int 1))) (a5 (kE (.int 10)) aq)))))) aq)))))
 (MN 3 (aH a9 (a5 (vE 0) (a5 (opE aT (vE 6) (kE (.int 2))) (a5 (opE aT (dN cN (a5 (vE 3) aq)) (kE (.int 1))) aq)))) (vE 7)))
  bf))
noncomputable def fG:DS:=
 (gZ none (BR (vE 4) (vE 1)) (gN 5)
  fF)
noncomputable def kN:DS:=
 (aG (aR 3 (gF aq))
 (aG (gZ none (iJ (vE 1)) (gN 4)
  fG)
 (retS (dN ja (a5 (vE 3) aq)))))
noncomputable def jo:List D→Option D:=dQ 8 3 kN
noncomputable def jq:DS:=
 (aG (ifS (aZ eqB (aH a9 (a5 (vE 0) (a5 (vE 1) (a5 (kE (.int 3)) aq)))) (kE (.int 0)))
  (retS (bM (a5 (kE (.str "asked")) (a5 (opE dE (vE 2) (aH a9 (a5 (vE 0) (a5 (opE aT (vE 1) (kE (.int 1))) (a5 (kE (.int 20)) aq))))) aq))))
  bf)
 (aG (aR 3 (opE dE (vE 2) (opE aT (kE (.int 1)) (aH a9 (a5 (vE 0) (a5 (opE aT (vE 1) (kE (.int 2))) (a5 (kE (.int 12)) aq)))))))
 (aG (aR 4 (opE dE (vE 2) (aH a9 (a5 (vE 0) (a5 (opE aT (vE 1) (kE (.int 3))) (a5 (opE lK (vE 3) (vE 2)) aq))))))
 (aG (aR 5 (opE dE (vE 2) (aH a9 (a5 (vE 0) (a5 (opE aT (vE 1) (kE (.int 4))) (a5 (opE lK (opE k6 (vE 3) (vE 4)) (vE 2)) aq))))))
 (aG (aR 6 (opE aT (vE 4) (opE dE (vE 2) (aH a9 (a5 (vE 0) (a5 (opE aT (vE 1) (kE (.int 5))) (a5 (kE (.int 10)) aq)))))))
 (retS (bM (a5 (kE (.str "due")) (a5 (vE 6) (a5 (vE 3) (a5 (ixE (gF (a5 (kE (.int 1)) (a5 (kE (.int 2)) (a5 (kE (.int 4)) (a5 (kE (.int 6)) (a5 (kE (.int 60)) aq)))))) (aH a9 (a5 (vE 0) (a5 (opE aT (vE 1) (kE (.int 6))) (a5 (kE (.int 5)) aq))))) (a5 (vE 4) (a5 (vE 5) aq)))))))))))))
noncomputable def jr:List D→Option D:=dQ 7 3 jq
noncomputable def dU:DS:=
 (mT 2 (bM (a5 (opE aT (kE (.str "guest")) (ixE (kE (.str "abcdef")) (vE 3))) (a5 (opE dE (vE 1) (aH a9 (a5 (vE 0) (a5 (opE aT (kE (.int 30)) (vE 3)) (a5 (kE (.int 15)) aq))))) aq))))
noncomputable def d9:DS:=
 (aG (aR 7 (opE aT (kE (.int 300)) (opE dE (kE (.int 20)) (vE 6))))
 (aG (aR 8 (aH a9 (a5 (vE 0) (a5 (vE 7) (a5 (dN cN (a5 (vE 4) aq)) aq)))))
 (aG (aR 9 (opE dE (ixE (ixE (ixE (vE 4) (vE 8)) (kE (.int 1))) (kE (.int 0))) (ixE (gF (a5 (kE (.int 4)) (a5 (kE (.int 15)) (a5 (kE (.int 2000)) aq)))) (aH a9 (a5 (vE 0) (a5 (opE aT (vE 7) (kE (.int 1))) (a5 (kE (.int 3)) aq)))))))
 (aG (aR 10 (bM (a5 (ixE (gF (a5 (kE (.str "down")) (a5 (kE (.str "up")) (a5 (kE (.str "near")) aq)))) (opE rm (vE 6) (kE (.int 3)))) (a5 (opE aT (kE (.int 1)) (aH a9 (a5 (vE 0) (a5 (opE aT (vE 7) (kE (.int 2))) (a5 (kE (.int 90)) aq))))) (a5 (aH a9 (a5 (vE 0) (a5 (opE aT (vE 7) (kE (.int 3))) (a5 (kE (.int 9)) aq)))) (a5 (vE 9) aq))))))
 (aG (aR 11 (aH jr (a5 (vE 0) (a5 (opE aT (vE 7) (kE (.int 4))) (a5 (vE 1) aq)))))
 (aG (aR 12 (bM aq))
 (aG (ifS (jz (aZ eqB (ixE (vE 11) (kE (.int 0))) (kE (.str "due"))) (aZ gtB (ixE (vE 11) (kE (.int 3))) (kE (.int 2))))
  (aR 12 (bM (a5 (bM (a5 (kE (.int 1)) (a5 (kE (.int 1)) (a5 (kE (.int 2)) aq)))) (a5 (bM (a5 (kE (.int 2)) (a5 (kE (.int 1)) (a5 (kE (.int 3)) aq)))) aq))))
  bf)
 (mT 5 (bM (a5 (opE aT (kE (.str "order")) (ixE (kE (.str "abcdefghijkl")) (vE 6))) (a5 (aH a9 (a5 (vE 0) (a5 (opE aT (vE 7) (kE (.int 12))) (a5 (dN cN (a5 (vE 2) aq)) aq)))) (a5 (vE 8) (a5 (vE 10) (a5 (vE 11) (a5 (vE 12) aq)))))))))))))))
noncomputable def jG:DS:=
 (aG (aR 1 (ixE (gF (a5 (kE (.int 1)) (a5 (kE (.int 1)) (a5 (kE (.int 1)) (a5 (kE (.int 1)) (a5 (kE (.int 1)) (a5 (opE pw (kE (.int 10)) (kE (.int 6))) aq))))))) (aH a9 (a5 (vE 0) (a5 (kE (.int 1)) (a5 (kE (.int 6)) aq))))))
 (aG (aR 2 (gF aq))
 (aG (gZ none (iJ (ixE (gF (a5 (kE (.int 1)) (a5 (kE (.int 2)) (a5 (kE (.int 3)) (a5 (kE (.int 2)) (a5 (kE (.int 3)) (a5 (kE (.int 6)) aq))))))) (aH a9 (a5 (vE 0) (a5 (kE (.int 20)) (a5 (kE (.int 6)) aq)))))) (gN 3)
  dU)
 (aG (aR 4 (aH gr (a5 (vE 0) (a5 (vE 1) aq))))
 (aG (aR 5 (gF aq))
 (aG (gZ none (iJ (ixE (gF (a5 (kE (.int 1)) (a5 (kE (.int 2)) (a5 (kE (.int 3)) (a5 (kE (.int 4)) (a5 (kE (.int 4)) (a5 (kE (.int 12)) aq))))))) (aH a9 (a5 (vE 0) (a5 (kE (.int 22)) (a5 (kE (.int 6)) aq)))))) (gN 6)
  d9)
 (retS (bM (a5 (dN ja (a5 (vE 2) aq)) (a5 (vE 4) (a5 (aH jo (a5 (vE 0) (a5 (dN cN (a5 (vE 4) aq)) (a5 (vE 1) aq)))) (a5 (dN ja (a5 (vE 5) aq)) aq))))))))))))
noncomputable def ij:List D→Option D:=dQ 13 1 jG
noncomputable def kO:DS:=
 (aG (aR 4 (ixE (gF (a5 (kE (.int 1)) (a5 (kE (.int 1)) (a5 (kE (.int 1)) (a5 (kE (.int 1)) (a5 (kE (.int 1)) (a5 (opE pw (kE (.int 10)) (kE (.int 6))) aq))))))) (aH a9 (a5 (vE 0) (a5 (kE (.int 1)) (a5 (kE (.int 6)) aq))))))
 (aG (aR 5 (ixE (ixE (ixE (vE 1) (kE (.int 3))) (vE 2)) (kE (.int 4))))
 (aG (aR 6 (opE dE (vE 4) (aH a9 (a5 (vE 0) (a5 (vE 3) (a5 (kE (.int 70)) aq))))))
 (aG (ifS (jz (aZ eqB (ixE (vE 5) (kE (.int 0))) (kE (.str "due"))) (aZ gtB (aH a9 (a5 (vE 0) (a5 (opE aT (vE 3) (kE (.int 3000))) (a5 (kE (.int 4)) aq)))) (kE (.int 0))))
  (aG (aR 7 (opE aT (ixE (vE 5) (kE (.int 1))) (opE dE (aH a9 (a5 (vE 0) (a5 (vE 3) (a5 (dN o8 (a5 (ixE (vE 5) (kE (.int 3))) (a5 (kE (.int 6)) aq))) aq)))) (ixE (vE 5) (kE (.int 2))))))
 (aG (aR 8 (gF (a5 (vE 7) (a5 (opE k6 (vE 7) (ixE (vE 5) (kE (.int 4)))) (a5 (opE aT (vE 7) (ixE (vE 5) (kE (.int 5)))) (a5 (opE k6 (opE k6 (vE 7) (ixE (vE 5) (kE (.int 4)))) (kE (.int 1))) (a5 (opE aT (opE aT (vE 7) (ixE (vE 5) (kE (.int 5)))) (kE (.int 1))) (a5 (vE 7) aq))))))))
 (aR 6 (dN wF (a5 (kE (.int 0)) (a5 (ixE (vE 8) (aH a9 (a5 (vE 0) (a5 (opE aT (vE 3) (kE (.int 4000))) (a5 (kE (.int 6)) aq))))) aq))))))
  bf)
 (aG (ifS (aZ eqB (aH a9 (a5 (vE 0) (a5 (opE aT (vE 3) (kE (.int 5000))) (a5 (kE (.int 12)) aq)))) (kE (.int 0)))
  (aR 6 (opE aT (vE 6) (kE (.int 1))))
  bf)
 (aG (ifS (aZ eqB (aH a9 (a5 (vE 0) (a5 (opE aT (vE 3) (kE (.int 5500))) (a5 (kE (.int 25)) aq)))) (kE (.int 0)))
  (aR 6 (opE pw (kE (.int 10)) (kE (.int 9))))
  bf)
 (retS (vE 6))))))))
noncomputable def js:List D→Option D:=dQ 9 4 kO
noncomputable def iQ:DS:=
 (aG (aR 4 (ixE (ixE (ixE (ixE (vE 1) (kE (.int 1))) (ixE (ixE (ixE (vE 1) (kE (.int 3))) (vE 2)) (kE (.int 2)))) (kE (.int 1))) (kE (.int 0))))
 (aG (aR 5 (opE dE (vE 4) (opE aT (kE (.int 1)) (aH a9 (a5 (vE 0) (a5 (opE aT (vE 3) (kE (.int 6000))) (a5 (kE (.int 8)) aq)))))))
 (aG (aR 6 (gF (a5 (kE (.int 0)) (a5 (unE D7 (vE 5)) (a5 (opE aT (vE 5) (kE (.int 1))) (a5 (opE pw (kE (.int 10)) (kE (.int 9))) (a5 (opE dE (vE 4) (kE (.int 2001))) (a5 (unE D7 (kE (.int 1))) aq))))))))
 (aG (ifS (aZ eqB (aH a9 (a5 (vE 0) (a5 (opE aT (vE 3) (kE (.int 7000))) (a5 (kE (.int 14)) aq)))) (kE (.int 0)))
  (retS (ixE (vE 6) (aH a9 (a5 (vE 0) (a5 (opE aT (vE 3) (kE (.int 8000))) (a5 (kE (.int 6)) aq))))))
  bf)
 (retS (vE 5))))))
noncomputable def fh:List D→Option D:=dQ 7 4 iQ
noncomputable def cq:DS:=
 (aG (aR 6 (bM (a5 (aH a9 (a5 (vE 0) (a5 (opE aT (kE (.int 900)) (vE 5)) (a5 (dN cN (a5 (ixE (vE 1) (kE (.int 0))) aq)) aq)))) (a5 (opE dE (vE 3) (aH a9 (a5 (vE 0) (a5 (opE aT (kE (.int 920)) (vE 5)) (a5 (kE (.int 50)) aq))))) aq))))
 (aG (ifS (jz (aZ ltB (vE 5) (dN cN (a5 (ixE (vE 1) (kE (.int 0))) aq))) (aZ eqB (aH a9 (a5 (vE 0) (a5 (kE (.int 980)) (a5 (kE (.int 2)) aq)))) (kE (.int 0))))
  (aR 6 (bM (a5 (vE 5) (a5 (kE (.int 0)) aq))))
  bf)
 (t9 4 (vE 6) (ixE (gF (a5 (opE aT (kE (.int 1)) (aH a9 (a5 (vE 0) (a5 (opE aT (kE (.int 940)) (vE 5)) (a5 (kE (.int 200)) aq))))) (a5 (opE pw (kE (.int 10)) (kE (.int 6))) aq))) (opE lK (aH a9 (a5 (vE 0) (a5 (opE aT (kE (.int 960)) (vE 5)) (a5 (kE (.int 8)) aq)))) (kE (.int 7)))))))
noncomputable def gR:DS:=
 (aG (aR 3 (ixE (gF (a5 (kE (.int 1)) (a5 (kE (.int 1)) (a5 (kE (.int 1)) (a5 (kE (.int 1)) (a5 (kE (.int 1)) (a5 (opE pw (kE (.int 10)) (kE (.int 6))) aq))))))) (aH a9 (a5 (vE 0) (a5 (kE (.int 1)) (a5 (kE (.int 6)) aq))))))
 (aG (aR 4 (pz))
 (aG (gZ none (iJ (vE 2)) (gN 5)
  cq)
 (retS (dN ja (a5 (dN sortedS (a5 (pB bN 4 2 [] (gT [0,1]) jc (bM (a5 (ixE (vE 0) (kE (.int 0))) (a5 (ixE (vE 0) (kE (.int 1))) (a5 (vE 1) aq))))) aq)) aq))))))
noncomputable def fH:List D→Option D:=dQ 7 3 gR
noncomputable def cw:DS:=
 (aG (aR 5 (aH a9 (a5 (vE 0) (a5 (opE aT (kE (.int 1000)) (vE 4)) (a5 (dN cN (a5 (ixE (vE 1) (kE (.int 3))) aq)) aq)))))
 (aG (aR 6 (bM (a5 (vE 5) (a5 (aH js (a5 (vE 0) (a5 (vE 1) (a5 (vE 5) (a5 (opE aT (kE (.int 1100)) (vE 4)) aq))))) aq))))
 (aG (t9 3 (vE 6) (aH fh (a5 (vE 0) (a5 (vE 1) (a5 (vE 5) (a5 (opE aT (kE (.int 1100)) (vE 4)) aq))))))
 (ifS (aZ eqB (aH a9 (a5 (vE 0) (a5 (opE aT (kE (.int 1050)) (vE 4)) (a5 (kE (.int 40)) aq)))) (kE (.int 0)))
  (t9 3 (vE 6) (opE aT (opE pw (kE (.int 10)) (kE (.int 40))) (vE 4)))
  bf))))
noncomputable def gS:DS:=
 (aG (aR 3 (pz))
 (aG (gZ none (iJ (vE 2)) (gN 4)
  cw)
 (retS (dN ja (a5 (dN sortedS (a5 (pB bN 3 2 [] (gT [0,1]) jc (bM (a5 (ixE (vE 0) (kE (.int 0))) (a5 (ixE (vE 0) (kE (.int 1))) (a5 (vE 1) aq))))) aq)) aq)))))
noncomputable def fI:List D→Option D:=dQ 7 3 gS
noncomputable def iC:DS:=
 (ifS (jz (aZ eqB (ixE (vE 4) (kE (.int 0))) (vE 1)) (aZ leB (ixE (vE 4) (kE (.int 1))) (vE 2)))
  (aR 3 (ixE (vE 4) (kE (.int 2))))
  bf)
noncomputable def iR:DS:=
 (aG (aR 3 (kE .non))
 (aG (gZ (some 0) (lD (vE 0)) (gN 4)
  iC)
 (retS (vE 3))))
noncomputable def iU:List D→Option D:=dQ 5 3 iR
noncomputable def dW:DS:=
 (aG (ifS (aZ eqB (ixE (vE 0) (kE (.int 0))) (kE (.str "flat")))
  (retS (ixE (vE 0) (kE (.int 2))))
  bf)
 (aG (ifS (aZ eqB (ixE (vE 0) (kE (.int 0))) (kE (.str "ever")))
  (retS (ixE (vE 0) (kE (.int 1))))
  bf)
 (aG (ifS (aZ o7 (vE 1) (kE .non))
  (retS (kE .non))
  bf)
 (retS (opE lK (opE dE (vE 1) (ixE (vE 0) (kE (.int 2)))) (ixE (vE 0) (kE (.int 3))))))))
noncomputable def dm:List D→Option D:=dQ 2 2 dW
noncomputable def dX:DS:=
 (ifS (jz (aZ eqB (slE (ixE (ixE (vE 0) (kE (.int 3))) (vE 6)) (fX (kE (.int 1))) (fX (kE (.int 3)))) (slE (vE 2) (fX (kE (.int 1))) (fX (kE (.int 3))))) (jz (aZ leB (vE 7) (vE 4)) (orT (aZ eqB (ixE (vE 3) (kE (.int 0))) (kE (.str "ever"))) (aZ gtB (vE 7) (opE k6 (vE 4) (ixE (vE 3) (kE (.int 1))))))))
  (aR 5 (opE aT (vE 5) (vE 8)))
  bf)
noncomputable def jH:DS:=
 (aG (aR 5 (kE (.int 0)))
 (aG (gZ none (lD (ixE (vE 1) (kE (.int 1)))) (gT [6,7,8])
  dX)
 (retS (vE 5))))
noncomputable def il:List D→Option D:=dQ 9 5 jH
noncomputable def fJ:DS:=
 (aG (aR 9 (aH dm (a5 (ixE (vE 7) (vE 8)) (a5 (aH iU (a5 (ixE (vE 1) (kE (.int 0))) (a5 (ixE (vE 6) (kE (.int 1))) (a5 (vE 4) aq)))) aq))))
 (aG (aR 10 (aH il (a5 (vE 0) (a5 (vE 1) (a5 (vE 6) (a5 (ixE (vE 7) (vE 8)) (a5 (vE 4) aq)))))))
 (ifS (jz (aZ iE (vE 9) (kE .non)) (aZ gtB (vE 10) (vE 9)))
  (t9 2 (bM (a5 (kE (.str "cap")) (a5 (ixE (vE 6) (kE (.int 1))) (a5 (ixE (vE 6) (kE (.int 2))) (a5 (vE 8) (a5 (vE 4) (a5 (vE 10) (a5 (vE 9) aq)))))))) (kE (.bl true)))
  bf)))
noncomputable def fK:DS:=
 (aG (aR 6 (ixE (ixE (vE 0) (kE (.int 3))) (vE 3)))
 (aG (aR 7 (ixE (ixE (ixE (vE 0) (kE (.int 1))) (ixE (vE 6) (kE (.int 2)))) (kE (.int 2))))
 (gZ none (iJ (dN cN (a5 (vE 7) aq))) (gN 8)
  fJ)))
noncomputable def kP:DS:=
 (aG (aR 2 (pz))
 (aG (gZ none (lD (ixE (vE 1) (kE (.int 1)))) (gT [3,4,5])
  fK)
 (retS (dN BV (a5 (vE 2) aq)))))
noncomputable def kQ:List D→Option D:=dQ 11 2 kP
noncomputable def jI:DS:=
 (retS (bE (jz (D8 "int" (vE 0)) (uW (D8 "bool" (vE 0))))))
noncomputable def jJ:List D→Option D:=dQ 1 1 jI
noncomputable def dD:DS:=
 (ifS (uW (wD (aH jJ (a5 (vE 2) aq))))
  (retS (kE (.bl false)))
  bf)
noncomputable def fN:DS:=
 (aG (ifS (orT (uW (wD (bE (D8 "tuple" (vE 1))))) (orT (aZ ltB (dN cN (a5 (vE 1) aq)) (kE (.int 3))) (uW (wD (bE (D8 "str" (ixE (vE 1) (kE (.int 0)))))))))
  (retS (kE (.bl false)))
  bf)
 (gZ none (lD (slE (vE 1) (fX (kE (.int 1))) noO)) (gN 2)
  dD))
noncomputable def iV:DS:=
 (aG (ifS (uW (wD (bE (D8 "list" (vE 0)))))
  (retS (kE (.bl false)))
  bf)
 (aG (gZ (some 0) (lD (vE 0)) (gN 1)
  fN)
 (retS (kE (.bl true)))))
noncomputable def gw:List D→Option D:=dQ 3 1 iV
noncomputable def G0:DS:=
 (aG (aR 1 (aH ij (a5 (vE 0) aq)))
 (aG (aR 2 (aH fH (a5 (vE 0) (a5 (vE 1) (a5 (aH a9 (a5 (vE 0) (a5 (kE (.int 11)) (a5 (kE (.int 9)) aq)))) aq)))))
 (aG (aR 3 (bM (a5 (vE 2) (a5 (aH fI (a5 (vE 0) (a5 (vE 1) (a5 (opE aT (dN o8 (a5 (dN cN (a5 (vE 0) aq)) (a5 (kE (.int 30)) aq))) (aH a9 (a5 (vE 0) (a5 (kE (.int 12)) (a5 (kE (.int 4)) aq))))) aq)))) aq))))
 (aG (aR 4 (aH m6 (a5 (vE 1) (a5 (vE 3) aq))))
 (aG (ifS (uW (wD (aH gw (a5 (vE 4) aq))))
  (retS (kE (.bl false)))
  bf)
 (retS (bE (aZ eqB (rq (some 4) 1 [] (lD (vE 4)) (gN 0) (aZ eqB (ixE (vE 0) (kE (.int 0))) (kE (.str "cap"))) (vE 0)) (dN gc (a5 (aH kQ (a5 (vE 1) (a5 (vE 3) aq))) aq))))))))))
noncomputable def rZ:List D→Option D:=dQ 5 1 G0
end Den
namespace Maths
open DL Den PySem
noncomputable def cell(ns:List Int)(k:Int):Int:=if ns.length=0 then 0 else ns[(k%ns.length).toNat]?.getD 0%1000003
noncomputable def draw(ns:List Int)(k m:Int):Int:=(cell ns k+1)*(k*k+k+41)%999983*48271%2147483647/11%m
theorem IG(ns:List Int)(k:Int):0≤cell ns k∧cell ns k<1000003:=by
 unfold cell
 split
 ·omega
 ·exact⟨Int.emod_nonneg _ (by omega),Gdu _ (by omega)⟩
theorem aX(ns:List Int)(k m:Int)(hm:0<m):0≤draw ns k m∧draw ns k m<m:=⟨Int.emod_nonneg _ (by omega),Gdu _ hm⟩
theorem IH{ns:List Int}{k:Int}(h:0<ns.length):atD ns (k%ns.length)=some (ns[(k%ns.length).toNat]?.getD 0):=by
 unfold atD
 have h1:0≤k%(ns.length:Int):=Int.emod_nonneg _ (by omega)
 have h2:k%(ns.length:Int)<ns.length:=Gdu _ (by omega)
 rw[Gag h1]
 have h3:(k%(ns.length:Int)).toNat<ns.length:=by omega
 simp[h3]
theorem bR{i j:Int}(h: -18446744073709551616<i)(h2:i<18446744073709551616):cf i j=true:=by
 unfold cf
 rw[GaW]
 exact .inl (GaL (by omega))
theorem oF{i j:Int}(h: -18446744073709551616<j)(h2:j<18446744073709551616):cf i j=true:=by
 unfold cf
 rw[GaW]
 exact .inr (GaL (by omega))
theorem aS{ns:List Int}{k m:Int}(hk:0≤k)(hk2:k<1000000)(hm:0<m):a9 [.scr ns,.int k,.int m]=some (.int (draw ns k m)):=by
 have c:=IG ns k
 have e1:cf k k=true:=bR (by omega) (by omega)
 have e2:∀j,cf (cell ns k+1) j=true:=λj=>bR (by omega) (by omega)
 have e3:∀i,cf i 48271=true:=λi=>oF (by omega) (by omega)
 unfold a9 ao
 by_cases h:0<ns.length
 ·have hc:cell ns k=ns[(k%ns.length).toNat]?.getD 0%1000003:=by unfold cell;rw[Gaj (by omega)]
  have h' :(0:Int)<ns.length:=by omega
  simp[h,h',IH h,e1,e3,hm,←hc]
  simp[e2,e3,hm,draw]
 ·have hc:cell ns k=0:=by unfold cell;rw[Gag (by omega)]
  have h' :¬(0:Int)<ns.length:=by omega
  simp[h,h',e1,e3,hm]
  have:=e2 (k*k+k+41)
  rw[hc] at this
  simp at this
  simp[this,e3,hm,draw,hc]
theorem cz{i:Int}(h1: -4611686018427387904≤i)(h2:i<4611686018427387904):bV i=true:=by
 unfold bV
 rw[Gau]
 exact⟨GaL h1,GaL h2⟩
theorem gx{g:DG}{body:DS}(I:Nat→DL.Env→Prop):∀(ds:List D) (k:Nat) (env:DL.Env),I k env→(∀(i:Nat) d e,ds[i]? =some d→I (k+i) e→∃e1 e2,g d e=some e1∧body e1=some (.nx e2)∧I (k+i+1) e2)→∃e,forL g body ds env=some (.nx e)∧I (k+ds.length) e
 |[],k,env,h,_=> ⟨env,rfl,h⟩
 |d::ds,k,env,h,st=>by
  obtain⟨e1,e2,h1,h2,h3⟩:=st 0 d env rfl h
  obtain⟨e,h4,h5⟩:=gx I ds (k+1) e2 h3 λi d' e' hd hI=>by
   have:=st (i+1) d' e' (by simpa using hd) (by rw[show k+(i+1)=k+1+i by omega];exact hI)
   rw[show k+(i+1)+1=k+1+i+1 by omega] at this
   exact this
  refine⟨e,by simp[forL,h1,h2,h4], ?_⟩
  rw[show k+(d::ds).length=k+1+ds.length by simp;omega]
  exact h5
theorem dY{lo:Int}{n i:Nat}{d:D}(h:(bx lo n)[i]? =some d):i<n∧d= .int (lo+i):=by
 unfold bx at h
 rw[Gah] at h
 by_cases hi:i<n
 ·rw[List.getElem?_range hi] at h;cases h;exact⟨hi,rfl⟩
 ·rw[Gbk (by simp;omega)] at h;cases h
theorem gI{lo:Int}{n:Nat}:(bx lo n).length=n:=by simp[bx]
theorem mR{α:Type}{g:DG}{t:DT}{f:DE}(emb:α→D)(C:DL.Env→Prop)(p:α→Bool)(r:α→D):∀(xs:List α) (e:DL.Env),C e→
  (∀x∈xs,∀e,C e→∃e',g (emb x) e=some e' ∧C e' ∧t e' =some (p x)∧(p x=true→∃k,f e' =some ⟨k,r x⟩∧RV.free ⟨k,r x⟩=true))→cE g t f (xs.map emb) e=some ((xs.filter p).map r)
 |[],e,_,_=>rfl
 |d::ds,e,h,st=>by
  obtain⟨e',h1,h2,h3,h4⟩:=st d Gam e h
  have ih:=mR emb C p r ds e' h2 λd' hd=>st d' (Gai _ hd)
  cases q:p d with
  |false=>simp[cE,h1,h3,q,ih]
  |true=>
   obtain⟨k,h5,h6⟩:=h4 q
   simp[cE,h1,h3,q,h5,h6,ih]
theorem kg{α:Type}{g:DG}{f:DE}(emb:α→D)(C:DL.Env→Prop)(r:α→D)(xs:List α)(e:DL.Env)(h:C e)
  (st:∀x∈xs,∀e,C e→∃e',g (emb x) e=some e' ∧C e' ∧∃k,f e' =some ⟨k,r x⟩∧RV.free ⟨k,r x⟩=true):cE g jc f (xs.map emb) e=some (xs.map r):=by
 have:=mR (g:=g) (t:=jc) (f:=f) emb C (λ_=>true) r xs e h (λx hx e he=>by
  obtain⟨e',h1,h2,h3⟩:=st x hx e he
  exact⟨e',h1,h2,rfl,λ_=>h3⟩)
 rw[List.filter_eq_self.mpr λ_ _=>rfl] at this
 exact this
theorem DH(bs:List Bool):uX (bs.map D.bl)=some bs:=by
 induction bs with
 |nil=>rfl
 |cons b bs ih=>simp[ih]
theorem DJ(bs:List Int):BQ (bs.map D.int)=some bs:=by
 induction bs with
 |nil=>rfl
 |cons b bs ih=>simp[ih]
@[simp] theorem Nm(bs:List Bool):anyS [.lst (bs.map D.bl)]=some ⟨.c,.bl (bs.any id)⟩:=by
 simp[anyS,one,mX,DH]
theorem G1(hs:List Int):lL (hs.map D.int) (hs.map D.int)=true:=by
 induction hs with
 |nil=>rfl
 |cons b bs ih=>simp[ih]
theorem Bo(n:Nat)(hs:List Int):(hs.map D.int).all (aA n)=true:=by
 induction hs with
 |nil=>rfl
 |cons b bs ih=>simp[ih]
theorem oG(hs:List Int):aQ (hs.map D.int)=true:=by
 induction hs with
 |nil=>rfl
 |cons b bs ih=>simp[ih]
theorem av{f g:DS}{env e:DL.Env}(h:f env=some (.nx e)):aG f g env=g e:=by simp[aG,h]
theorem Cq{f g:DS}{env:DL.Env}{d:D}(h:f env=some (.ret d)):aG f g env=some (.ret d):=by simp[aG,h]
theorem bg{n np:Nat}{body:DS}{ds:List D}{d:D}(hl:ds.length=np)(h:body (bz n ds)=some (.ret d)):dQ n np body ds=some d:=by
 unfold dQ;rw[Gag hl,h];rfl
theorem KU{t:DT}{f g:DS}{env:DL.Env}(h:t env=some true):ifS t f g env=f env:=by simp[ifS,h]
theorem Np{t:DT}{f g:DS}{env:DL.Env}(h:t env=some false):ifS t f g env=g env:=by simp[ifS,h]
inductive Cap where
 |flat (h t:Int)
 |kilo (h t p:Int)
 |ever (t:Int)
noncomputable def bw:Cap→D
 | .flat h t=> .tup [.str "flat",.int h,.int t]
 | .kilo h t p=> .tup [.str "kilo",.int h,.int t,.int p]
 | .ever t=> .tup [.str "ever",.int t]
noncomputable def n8:Cap→Prop
 | .flat h t=>1≤h∧1≤t∧t≤3100000
 | .kilo h t p=>1≤h∧1≤t∧t≤3100000∧1≤p∧p≤40
 | .ever t=>1≤t∧t≤6200000
theorem G2(c:Cap):(bw c).imm=true:=by cases c<;>simp[bw]
theorem se(cs:List Cap):aQ (cs.map bw)=true:=by
 induction cs with
 |nil=>rfl
 |cons c cs ih=>
  have:=G2 c
  simp[this] at ih⊢
  exact ih
theorem pL{a b A B:Int}(h0:0≤a)(h1:a≤A)(h2:0≤b)(h3:b≤B):a*b≤A*B:=
 Int.le_trans (Int.mul_le_mul_of_nonneg_right h1 h2) (Int.mul_le_mul_of_nonneg_left h3 (by omega))
theorem gJ{a b:Int}(h0:1≤a)(h1:1≤b):1≤a*b:=by
 have:=Int.mul_le_mul h0 h1 (by omega) (by omega)
 omega
theorem DK{ns:List Int}{k part scale c:Int}{cs:List Cap}{x6 x7 x8 x9:Option Slot}(hk:0≤k)(hk2:k<10000)(hp:1≤part)(hp2:part≤100000)(hs:1≤scale)(hs2:scale≤1000000)(hc:0≤c)(hc2:c≤10)(hl:cs.length≤100):
  ∃cap y6 y7 y8 y9,n8 cap∧fE [some (.sh (.scr ns)),some (.sh (.int k)),some (.sh (.int part)),some (.sh (.int scale)),some (.own (.lst (cs.map bw))),some (.sh (.int c)),x6,x7,x8,x9]=
   some (.nx [some (.sh (.scr ns)),some (.sh (.int k)),some (.sh (.int part)),some (.sh (.int scale)),some (.own (.lst ((cs++[cap]).map bw))),some (.sh (.int c)),y6,y7,y8,y9]):=by
 have m4:cf 4 c=true:=bR (by omega) (by omega)
 generalize hat:k+1+4*c=t
 have ht:0≤t:=by omega
 have ht2:t<20000:=by omega
 have d0:=aS (ns:=ns) (k:=t) (m:=30) (by omega) (by omega) (by omega)
 have d2:=aS (ns:=ns) (k:=t+2) (m:=3) (by omega) (by omega) (by omega)
 have d1:=aS (ns:=ns) (k:=t+1) (m:=30) (by omega) (by omega) (by omega)
 have d1b:=aS (ns:=ns) (k:=t+1) (m:=9) (by omega) (by omega) (by omega)
 have d1c:=aS (ns:=ns) (k:=t+1) (m:=60) (by omega) (by omega) (by omega)
 have d3:=aS (ns:=ns) (k:=t+3) (m:=40) (by omega) (by omega) (by omega)
 have l0:=aX ns t 30 (by omega)
 have l2:=aX ns (t+2) 3 (by omega)
 have l1:=aX ns (t+1) 30 (by omega)
 have l1b:=aX ns (t+1) 9 (by omega)
 have l1c:=aX ns (t+1) 60 (by omega)
 have l3:=aX ns (t+3) 40 (by omega)
 have ms:∀j,cf scale j=true:=λj=>bR (by omega) (by omega)
 have mp:∀j,cf part j=true:=λj=>bR (by omega) (by omega)
 generalize draw ns t 30=q0 at*
 generalize draw ns (t+2) 3=q2 at*
 generalize draw ns (t+1) 30=q1 at*
 generalize draw ns (t+1) 9=q1b at*
 generalize draw ns (t+1) 60=q1c at*
 generalize draw ns (t+3) 40=q3 at*
 have hz:(cs.map bw).length<16777216:=by rw[Gad];omega
 have ih:=gJ (a:=scale) (b:=1+q0) hs (by omega)
 have e1:∀cap,(cs++[cap]).map bw=cs.map bw++[bw cap]:=λcap=>by simp
 generalize cs.map bw=C at*
 have q:q2=0∨q2=1∨q2=2:=by omega
 unfold fE
 rcases q with rfl|rfl|rfl
 ·refine⟨.flat (scale*(1+q0)) (part*(1+q1)),some (.sh (.int t)),some (.sh (.int (scale*(1+q0)))),some (.sh (.int 0)),x9,⟨ih,gJ hp (by omega), ?_⟩, ?_⟩
  ·have:=pL (a:=part) (b:=1+q1) (A:=100000) (B:=30) (by omega) hp2 (by omega) (by omega)
   omega
  ·rw[e1]
   simp[m4,hat,d0,d2,d1,ms,mp,ai,hz,bw]
 ·refine⟨.kilo (scale*(1+q0)) (part*(1+q1b)) (1+q3),some (.sh (.int t)),some (.sh (.int (scale*(1+q0)))),some (.sh (.int 1)),some (.sh (.int (part*(1+q1b)))),⟨ih,gJ hp (by omega), ?_,by omega,by omega⟩, ?_⟩
  ·have:=pL (a:=part) (b:=1+q1b) (A:=100000) (B:=9) (by omega) hp2 (by omega) (by omega)
   omega
  ·rw[e1]
   simp[m4,hat,d0,d2,d1b,d3,ms,mp,ai,hz,bw]
 ·refine⟨.ever (part*(2+q1c)),some (.sh (.int t)),some (.sh (.int (scale*(1+q0)))),some (.sh (.int 2)),x9,⟨gJ hp (by omega), ?_⟩, ?_⟩
  ·have:=pL (a:=part) (b:=2+q1c) (A:=100000) (B:=61) (by omega) hp2 (by omega) (by omega)
   omega
  ·rw[e1]
   simp[m4,hat,d0,d2,d1c,ms,mp,ai,hz,bw]
theorem at6{a b c d e f:Int}{q:Int}(h:0≤q)(h2:q<6):∃v,(v=a∨v=b∨v=c∨v=d∨v=e∨v=f)∧atD [D.int a,.int b,.int c,.int d,.int e,.int f] q=some (.int v):=by
 have:q=0∨q=1∨q=2∨q=3∨q=4∨q=5:=by omega
 rcases this with rfl|rfl|rfl|rfl|rfl|rfl
 ·exact⟨a,.inl rfl,rfl⟩
 ·exact⟨b,.inr (.inl rfl),rfl⟩
 ·exact⟨c,.inr (.inr (.inl rfl)),rfl⟩
 ·exact⟨d,.inr (.inr (.inr (.inl rfl))),rfl⟩
 ·exact⟨e,.inr (.inr (.inr (.inr (.inl rfl)))),rfl⟩
 ·exact⟨f,.inr (.inr (.inr (.inr (.inr rfl)))),rfl⟩
theorem G3{ns:List Int}{k part scale q n:Int}{C:List D}{y5 y6 y7 y8 y9:Option Slot}(d:a9 [.scr ns,.int k,.int 6]=some (.int q))(ea:atD [D.int 0,.int 1,.int 1,.int 2,.int 3,.int 4] q=some (.int n))(sm:bV n=true)
  (h1:forL (gN 5) fE (bx 0 n.toNat) [some (.sh (.scr ns)),some (.sh (.int k)),some (.sh (.int part)),some (.sh (.int scale)),some (.own (.lst [])),none,none,none,none,none]=some (.nx [some (.sh (.scr ns)),some (.sh (.int k)),some (.sh (.int part)),some (.sh (.int scale)),some (.own (.lst C)),y5,y6,y7,y8,y9]))(im:aQ C=true):
  jn [.scr ns,.int k,.int part,.int scale]=some (.tup C):=by
 refine bg rfl ?_
 unfold kM
 refine(av (e:=[some (.sh (.scr ns)),some (.sh (.int k)),some (.sh (.int part)),some (.sh (.int scale)),some (.own (.lst [])),none,none,none,none,none]) (by simp[bz,ai])).trans ?_
 refine(av (e:=[some (.sh (.scr ns)),some (.sh (.int k)),some (.sh (.int part)),some (.sh (.int scale)),some (.own (.lst C)),y5,y6,y7,y8,y9]) (by simp[-forL,d,ea,sm,h1,ai])).trans ?_
 simp[im]
theorem KW{ns:List Int}{k part scale:Int}(hk:0≤k)(hk2:k<10000)(hp:1≤part)(hp2:part≤100000)(hs:1≤scale)(hs2:scale≤1000000):∃cs:List Cap,cs.length≤4∧(∀c∈cs,n8 c)∧jn [.scr ns,.int k,.int part,.int scale]=some (.tup (cs.map bw)):=by
 have d:=aS (ns:=ns) (k:=k) (m:=6) (by omega) (by omega) (by omega)
 have l:=aX ns k 6 (by omega)
 generalize draw ns k 6=q at*
 obtain⟨n,hn,ea⟩:=at6 (a:=0) (b:=1) (c:=1) (d:=2) (e:=3) (f:=4) l.1 l.2
 obtain⟨e,h1,cs,y5,y6,y7,y8,y9,h2,h3,rfl⟩:=gx (g:=gN 5) (body:=fE) (λm env=>∃(cs:List Cap) (y5 y6 y7 y8 y9:Option Slot),cs.length=m∧(∀c∈cs,n8 c)∧env=[some (.sh (.scr ns)),some (.sh (.int k)),some (.sh (.int part)),some (.sh (.int scale)),some (.own (.lst (cs.map bw))),y5,y6,y7,y8,y9]) (bx 0 n.toNat) 0
  [some (.sh (.scr ns)),some (.sh (.int k)),some (.sh (.int part)),some (.sh (.int scale)),some (.own (.lst [])),none,none,none,none,none] ⟨[],none,none,none,none,none,rfl,by simp,rfl⟩ (by
   rintro i d e hd ⟨cs,y5,y6,y7,y8,y9,h2,h3,rfl⟩
   obtain⟨hi,rfl⟩:=dY hd
   obtain⟨cap,z6,z7,z8,z9,hc,h⟩:=DK (ns:=ns) (k:=k) (part:=part) (scale:=scale) (c:=0+(i:Int)) (cs:=cs) (x6:=y6) (x7:=y7) (x8:=y8) (x9:=y9) hk hk2 hp hp2 hs hs2 (by omega) (by omega) (by omega)
   refine⟨_,_,rfl,h,cs++[cap],some (.sh (.int (0+(i:Int)))),z6,z7,z8,z9,by simp[h2],λx hx=> ?_,rfl⟩
   rcases Gav.mp hx with hx|hx
   ·exact h3 x hx
   ·simp at hx;rw[hx];exact hc)
 rw[gI] at h2
 exact⟨cs,by omega,h3,G3 d ea (cz (by omega) (by omega)) h1 (se cs)⟩
theorem c0{d:D}(h:d.imm=true):kC d=⟨.c,d⟩:=by
 unfold kC
 have:d.top=false:=by cases d<;>simp[D.imm] at h<;>rfl
 rw[this];rfl
structure jt where
 name:Str
 part:Int
 more:List Int
 aO:List Cap
 young:Int
noncomputable def b6(s:jt):D:= .tup [.str s.name,.tup ((s.part::s.more).map .int),.tup (s.aO.map bw),.int s.young]
structure mS(s:jt):Prop where
 p1:1≤s.part
 p2:s.part≤100000
 cl:s.aO.length≤4
 ok:∀c∈s.aO,n8 c
 y0:0≤s.young
theorem kR(s:jt):(b6 s).imm=true:=by
 have h1:=se s.aO
 have h2:=oG (s.part::s.more)
 simp[b6] at h2⊢
 exact⟨h2,h1⟩
theorem gy{α:Type}{f:α→D}(h:∀a,(f a).imm=true):∀l:List α,aQ (l.map f)=true
 |[]=>rfl
 |a::l=>by
  have h1:=h a
  have h2:=gy h l
  rw[Gar]
  simp[h1,h2]
theorem G4{i:Nat}(h:i<6):∃c,atD (Str.ofString "abcdef").cps.toList (i:Int)=some c:=by
 match i,h with
 |0,_=>exact⟨_,rfl⟩
 |1,_=>exact⟨_,rfl⟩
 |2,_=>exact⟨_,rfl⟩
 |3,_=>exact⟨_,rfl⟩
 |4,_=>exact⟨_,rfl⟩
 |5,_=>exact⟨_,rfl⟩
theorem DP{i:Nat}(h:i<12):∃c,atD (Str.ofString "abcdefghijkl").cps.toList (i:Int)=some c:=by
 match i,h with
 |0,_=>exact⟨_,rfl⟩
 |1,_=>exact⟨_,rfl⟩
 |2,_=>exact⟨_,rfl⟩
 |3,_=>exact⟨_,rfl⟩
 |4,_=>exact⟨_,rfl⟩
 |5,_=>exact⟨_,rfl⟩
 |6,_=>exact⟨_,rfl⟩
 |7,_=>exact⟨_,rfl⟩
 |8,_=>exact⟨_,rfl⟩
 |9,_=>exact⟨_,rfl⟩
 |10,_=>exact⟨_,rfl⟩
 |11,_=>exact⟨_,rfl⟩
theorem at5{a b c d e:Int}{q:Int}(h:0≤q)(h2:q<5):∃v,(v=a∨v=b∨v=c∨v=d∨v=e)∧atD [D.int a,.int b,.int c,.int d,.int e] q=some (.int v):=by
 have:q=0∨q=1∨q=2∨q=3∨q=4:=by omega
 rcases this with rfl|rfl|rfl|rfl|rfl
 ·exact⟨a,.inl rfl,rfl⟩
 ·exact⟨b,.inr (.inl rfl),rfl⟩
 ·exact⟨c,.inr (.inr (.inl rfl)),rfl⟩
 ·exact⟨d,.inr (.inr (.inr (.inl rfl))),rfl⟩
 ·exact⟨e,.inr (.inr (.inr (.inr rfl))),rfl⟩
theorem at2{a b q:Int}(h:0≤q)(h2:q<2):∃v,(v=a∨v=b)∧atD [D.int a,.int b] q=some (.int v):=by
 have:q=0∨q=1:=by omega
 rcases this with rfl|rfl
 ·exact⟨a,.inl rfl,rfl⟩
 ·exact⟨b,.inr rfl,rfl⟩
theorem G5{p q:Int}(h:0≤q)(h2:q<3):∃ms:List Int,atD [D.tup [.int p],.tup [.int p,.int (2*p)],.tup [.int p,.int (3*p),.int (7*p)]] q=some (.tup ((p::ms).map .int)):=by
 have:q=0∨q=1∨q=2:=by omega
 rcases this with rfl|rfl|rfl
 ·exact⟨[],rfl⟩
 ·exact⟨[2*p],rfl⟩
 ·exact⟨[3*p,7*p],rfl⟩
theorem G6{ns:List Int}{scale j k part qa qb qc qd young y0:Int}{S C:List D}{sz:D}{ch:Nat}{x4 x5 x6 x7:Option Slot}(mk:cf 30 j=true)(hk:100+30*j=k)(da:a9 [.scr ns,.int k,.int 5]=some (.int qa))(pa:atD [D.int 1,.int 2,.int 5,.int 12,.int 100000] qa=some (.int part))(m2:cf 2 part=true)(m3:cf 3 part=true)(m7:cf 7 part=true)
  (db:a9 [.scr ns,.int (k+1),.int 3]=some (.int qb))(sb:atD [D.tup [.int part],.tup [.int part,.int (2*part)],.tup [.int part,.int (3*part),.int (7*part)]] qb=some sz)(isz:sz.imm=true)(dc:a9 [.scr ns,.int (k+2),.int 2]=some (.int qc))(yc:atD [D.int 0,.int scale] qc=some (.int y0))(dd:a9 [.scr ns,.int (k+3),.int 20]=some (.int qd))(my:cf y0 qd=true)(hy:y0*qd=young)
  (hch:atD (Str.ofString "abcdef").cps.toList j=some ch)(ec:jn [.scr ns,.int (k+5),.int part,.int scale]=some (.tup C))(ic:aQ C=true)(hz:S.length<1000):
  cJ [some (.sh (.scr ns)),some (.sh (.int scale)),some (.own (.lst S)),some (.sh (.int j)),x4,x5,x6,x7]=some (.nx [some (.sh (.scr ns)),some (.sh (.int scale)),some (.own (.lst (S++[.tup [.str ("stuff"++ ⟨#[ch]⟩),sz,.tup C,.int young]]))),some (.sh (.int j)),some (.sh (.int k)),some (.sh (.int part)),some (.sh sz),some (.sh (.int young))]):=by
 have z:S.length<16777216:=by omega
 unfold cJ
 refine(av (e:=[some (.sh (.scr ns)),some (.sh (.int scale)),some (.own (.lst S)),some (.sh (.int j)),some (.sh (.int k)),x5,x6,x7]) (by simp[mk,hk])).trans ?_
 refine(av (e:=[some (.sh (.scr ns)),some (.sh (.int scale)),some (.own (.lst S)),some (.sh (.int j)),some (.sh (.int k)),some (.sh (.int part)),x6,x7]) (by simp[da,pa,ai])).trans ?_
 refine(av (e:=[some (.sh (.scr ns)),some (.sh (.int scale)),some (.own (.lst S)),some (.sh (.int j)),some (.sh (.int k)),some (.sh (.int part)),some (.sh sz),x7]) (by simp[m2,m3,m7,db,sb,isz,ai])).trans ?_
 refine(av (e:=[some (.sh (.scr ns)),some (.sh (.int scale)),some (.own (.lst S)),some (.sh (.int j)),some (.sh (.int k)),some (.sh (.int part)),some (.sh sz),some (.sh (.int young))]) (by simp[dc,yc,dd,my,hy,ai])).trans ?_
 have rc:=c0 (d:= .tup C) (by simp[ic])
 have w1:(Str.ofString "abcdef").length≤16777216:=by decide
 have w2:(Str.ofString "stuff").length+(⟨#[ch]⟩:Str).length≤16777216:=by
  have:(⟨#[ch]⟩:Str).length=1:=rfl
  rw[this];decide
 simp[hch,w1,w2,ec,rc,isz,ic,ai,z]
theorem Bp{ns:List Int}{scale q n:Int}{S:List D}{y3 y4 y5 y6 y7:Option Slot}(d:a9 [.scr ns,.int 21,.int 6]=some (.int q))(ea:atD [D.int 1,.int 2,.int 3,.int 3,.int 2,.int 6] q=some (.int n))(sm:bV n=true)
  (h1:forL (gN 3) cJ (bx 0 n.toNat) [some (.sh (.scr ns)),some (.sh (.int scale)),some (.own (.lst [])),none,none,none,none,none]=some (.nx [some (.sh (.scr ns)),some (.sh (.int scale)),some (.own (.lst S)),y3,y4,y5,y6,y7]))(im:aQ S=true):
  gr [.scr ns,.int scale]=some (.tup S):=by
 refine bg rfl ?_
 unfold iP
 refine(av (e:=[some (.sh (.scr ns)),some (.sh (.int scale)),some (.own (.lst [])),none,none,none,none,none]) (by simp[bz,ai])).trans ?_
 refine(av (e:=[some (.sh (.scr ns)),some (.sh (.int scale)),some (.own (.lst S)),y3,y4,y5,y6,y7]) (by simp[-forL,d,ea,sm,h1,ai])).trans ?_
 simp[im]
theorem Bq{ns:List Int}{scale:Int}{i:Nat}{ss:List jt}{x4 x5 x6 x7:Option Slot}(hs:1≤scale)(hs2:scale≤1000000)(hi:i<6)(hl:ss.length≤100):
  ∃s y4 y5 y6 y7,mS s∧cJ [some (.sh (.scr ns)),some (.sh (.int scale)),some (.own (.lst (ss.map b6))),some (.sh (.int (i:Int))),x4,x5,x6,x7]=some (.nx [some (.sh (.scr ns)),some (.sh (.int scale)),some (.own (.lst ((ss++[s]).map b6))),some (.sh (.int (i:Int))),y4,y5,y6,y7]):=by
 obtain⟨ch,hch⟩:=G4 hi
 have hj:(0:Int)≤(i:Int)∧(i:Int)≤5:=by omega
 have hz:(ss.map b6).length<1000:=by rw[Gad];omega
 have e1:∀s,(ss++[s]).map b6=ss.map b6++[b6 s]:=λs=>by simp
 generalize (i:Int)=j at*
 generalize ss.map b6=S at*
 generalize hk:100+30*j=k
 have da:=aS (ns:=ns) (k:=k) (m:=5) (by omega) (by omega) (by omega)
 have la:=aX ns k 5 (by omega)
 have db:=aS (ns:=ns) (k:=k+1) (m:=3) (by omega) (by omega) (by omega)
 have lb:=aX ns (k+1) 3 (by omega)
 have dc:=aS (ns:=ns) (k:=k+2) (m:=2) (by omega) (by omega) (by omega)
 have lc:=aX ns (k+2) 2 (by omega)
 have dd:=aS (ns:=ns) (k:=k+3) (m:=20) (by omega) (by omega) (by omega)
 have ld:=aX ns (k+3) 20 (by omega)
 obtain⟨part,hp,pa⟩:=at5 (a:=1) (b:=2) (c:=5) (d:=12) (e:=100000) la.1 la.2
 obtain⟨ms,sb⟩:=G5 (p:=part) lb.1 lb.2
 obtain⟨y0,hy0,yc⟩:=at2 (a:=0) (b:=scale) lc.1 lc.2
 obtain⟨cs,c1,c2,ec⟩:=KW (ns:=ns) (k:=k+5) (part:=part) (scale:=scale) (by omega) (by omega) (by omega) (by omega) hs hs2
 have ii:=oG (part::ms)
 refine⟨⟨"stuff"++ ⟨#[ch]⟩,part,ms,cs,y0*draw ns (k+3) 20⟩,some (.sh (.int k)),some (.sh (.int part)),some (.sh (.tup ((part::ms).map .int))),some (.sh (.int (y0*draw ns (k+3) 20))),⟨by simp;omega,by simp;omega,c1,c2,GcS (by omega) ld.1⟩, ?_⟩
 rw[e1]
 exact G6 (bR (by omega) (by omega)) hk da pa (bR (by omega) (by omega)) (bR (by omega) (by omega)) (bR (by omega) (by omega)) db sb (by simpa using ii) dc yc dd (bR (by omega) (by omega)) rfl hch ec (se cs) hz
theorem G7{ns:List Int}{scale:Int}(hs:1≤scale)(hs2:scale≤1000000):∃ss:List jt,1≤ss.length∧ss.length≤6∧(∀s∈ss,mS s)∧gr [.scr ns,.int scale]=some (.tup (ss.map b6)):=by
 have d:=aS (ns:=ns) (k:=21) (m:=6) (by omega) (by omega) (by omega)
 have l:=aX ns 21 6 (by omega)
 generalize draw ns 21 6=q at*
 obtain⟨n,hn,ea⟩:=at6 (a:=1) (b:=2) (c:=3) (d:=3) (e:=2) (f:=6) l.1 l.2
 obtain⟨e,h1,ss,y3,y4,y5,y6,y7,h2,h3,rfl⟩:=gx (g:=gN 3) (body:=cJ) (λm env=>∃(ss:List jt) (y3 y4 y5 y6 y7:Option Slot),ss.length=m∧(∀s∈ss,mS s)∧env=[some (.sh (.scr ns)),some (.sh (.int scale)),some (.own (.lst (ss.map b6))),y3,y4,y5,y6,y7]) (bx 0 n.toNat) 0
  [some (.sh (.scr ns)),some (.sh (.int scale)),some (.own (.lst [])),none,none,none,none,none] ⟨[],none,none,none,none,none,rfl,by simp,rfl⟩ (by
   rintro i d e hd ⟨ss,y3,y4,y5,y6,y7,h2,h3,rfl⟩
   obtain⟨hi,rfl⟩:=dY hd
   obtain⟨s,z4,z5,z6,z7,hc,h⟩:=Bq (ns:=ns) (scale:=scale) (i:=i) (ss:=ss) (x4:=y4) (x5:=y5) (x6:=y6) (x7:=y7) hs hs2 (by omega) (by omega)
   rw[show(0:Int)+(i:Int)=(i:Int) by omega]
   refine⟨_,_,rfl,h,ss++[s],some (.sh (.int (i:Int))),z4,z5,z6,z7,by simp[h2],λx hx=> ?_,rfl⟩
   rcases Gav.mp hx with hx|hx
   ·exact h3 x hx
   ·simp at hx;rw[hx];exact hc)
 rw[gI] at h2
 exact⟨ss,by omega,by omega,h3,Bp d ea (cz (by omega) (by omega)) h1 (gy kR ss)⟩
noncomputable def trD(t:Int×Int×Int):D:= .tup [.int t.1,.int t.2.1,.int t.2.2]
theorem vH(t:Int×Int×Int):(trD t).imm=true:=by simp[trD]
noncomputable def m8(n:Int)(bs:List (Int×Int×Int)):Prop:=∀b∈bs,0≤b.1∧b.1<n∧0≤b.2.1∧b.2.1<n∧1≤b.2.2
theorem DQ{α β:Type}(f:α→β)(xs:List α)(i:Int)(y:α):(gE xs i y).map f=gE (xs.map f) i (f y):=by
 unfold gE
 simp[GaN,List.map_take,Gdv]
theorem KY{ns:List Int}{many scale i j k q0 q1 q2 L g:Int}{B:List D}{x6 x7:Option Slot}(m18:cf 18 i=true)(m3:cf 3 j=true)(hk:3000+18*i+3*j=k)(hL:cN [.lst B]=some ⟨.c,.int L⟩)(d0:a9 [.scr ns,.int k,.int 3]=some (.int q0))(d1:a9 [.scr ns,.int (k+1),.int 10]=some (.int q1))(d2:a9 [.scr ns,.int (k+2),.int (L+1)]=some (.int q2))(sm:bV q2=true)(mg:cf scale (1+q1)=true)(hg:scale*(1+q1)=g)(hz:B.length<1000):
  fF [some (.sh (.scr ns)),some (.sh (.int many)),some (.sh (.int scale)),some (.own (.lst B)),some (.sh (.int i)),some (.sh (.int j)),x6,x7]=
   some (.nx (if L<12∧q0=0 then[some (.sh (.scr ns)),some (.sh (.int many)),some (.sh (.int scale)),some (.own (.lst (gE B q2 (.tup [.int i,.int j,.int g])))),some (.sh (.int i)),some (.sh (.int j)),some (.sh (.int k)),some (.sh (.tup [.int i,.int j,.int g]))]
    else[some (.sh (.scr ns)),some (.sh (.int many)),some (.sh (.int scale)),some (.own (.lst B)),some (.sh (.int i)),some (.sh (.int j)),some (.sh (.int k)),x7])):=by
 have z:B.length<16777216:=by omega
 unfold fF
 refine(av (e:=[some (.sh (.scr ns)),some (.sh (.int many)),some (.sh (.int scale)),some (.own (.lst B)),some (.sh (.int i)),some (.sh (.int j)),some (.sh (.int k)),x7]) (by simp[m18,m3,hk])).trans ?_
 by_cases c1:L<12
 ·by_cases c2:q0=0
  ·rw[Gag ⟨c1,c2⟩]
   simp[-o9,hL,c1,c2,d0,d1,d2,mg,hg,sm,z,ai]
  ·rw[Gaj (λh=>c2 h.2)]
   simp[-o9,hL,c1,c2,d0]
 ·rw[Gaj (λh=>c1 h.1)]
  simp[-o9,hL,c1]
theorem G8{ns:List Int}{n:Nat}{scale i j:Int}{bs:List (Int×Int×Int)}{x6 x7:Option Slot}(hs:1≤scale)(hs2:scale≤1000000)(hn:n≤6)(hi:0≤i)(hi2:i<n)(hj:0≤j)(hj2:j<n)(hb:m8 n bs)(hl:bs.length≤12):
  ∃bs' y6 y7,m8 n bs' ∧bs'.length≤12∧fF [some (.sh (.scr ns)),some (.sh (.int (n:Int))),some (.sh (.int scale)),some (.own (.lst (bs.map trD))),some (.sh (.int i)),some (.sh (.int j)),x6,x7]=
   some (.nx [some (.sh (.scr ns)),some (.sh (.int (n:Int))),some (.sh (.int scale)),some (.own (.lst (bs'.map trD))),some (.sh (.int i)),some (.sh (.int j)),y6,y7]):=by
 generalize hk:3000+18*i+3*j=k
 have d0:=aS (ns:=ns) (k:=k) (m:=3) (by omega) (by omega) (by omega)
 have d1:=aS (ns:=ns) (k:=k+1) (m:=10) (by omega) (by omega) (by omega)
 have l1:=aX ns (k+1) 10 (by omega)
 have d2:=aS (ns:=ns) (k:=k+2) (m:=(bs.length:Int)+1) (by omega) (by omega) (by omega)
 have l2:=aX ns (k+2) ((bs.length:Int)+1) (by omega)
 have hL:cN [.lst (bs.map trD)]=some ⟨.c,.int (bs.length:Int)⟩:=by simp[cN]
 have ev:=KY (many:=(n:Int)) (x6:=x6) (x7:=x7) (bR (by omega) (by omega)) (bR (by omega) (by omega)) hk hL d0 d1 d2 (cz (by omega) (by omega)) (bR (i:=scale) (j:=1+draw ns (k+1) 10) (by omega) (by omega)) rfl (by rw[Gad];omega)
 rw[ev]
 by_cases c:(bs.length:Int)<12∧draw ns k 3=0
 ·rw[Gag c]
  refine⟨gE bs (draw ns (k+2) ((bs.length:Int)+1)) (i,j,scale*(1+draw ns (k+1) 10)),some (.sh (.int k)),some (.sh (.tup [.int i,.int j,.int (scale*(1+draw ns (k+1) 10))])),λb hb' => ?_,by rw[u3];omega,by rw[DQ];rfl⟩
  rcases Gaw.mp ((B2 _ _ _).mem_iff.mp hb') with h|h
  ·subst h
   exact⟨hi,hi2,hj,hj2,gJ hs (by omega)⟩
  ·exact hb b h
 ·rw[Gaj c]
  exact⟨bs,some (.sh (.int k)),x7,hb,hl,rfl⟩
theorem II{ns:List Int}{n:Nat}{scale i:Int}{bs:List (Int×Int×Int)}{x5 x6 x7:Option Slot}(hs:1≤scale)(hs2:scale≤1000000)(hn:n≤6)(hi:0≤i)(hi2:i<n)(hb:m8 n bs)(hl:bs.length≤12):
  ∃bs' y5 y6 y7,m8 n bs' ∧bs'.length≤12∧fG [some (.sh (.scr ns)),some (.sh (.int (n:Int))),some (.sh (.int scale)),some (.own (.lst (bs.map trD))),some (.sh (.int i)),x5,x6,x7]=
   some (.nx [some (.sh (.scr ns)),some (.sh (.int (n:Int))),some (.sh (.int scale)),some (.own (.lst (bs'.map trD))),some (.sh (.int i)),y5,y6,y7]):=by
 obtain⟨e,h1,bs',y5,y6,y7,h2,h3,rfl⟩:=gx (g:=gN 5) (body:=fF) (λm env=>∃(bs' :List (Int×Int×Int)) (y5 y6 y7:Option Slot),m8 n bs' ∧bs'.length≤12∧env=[some (.sh (.scr ns)),some (.sh (.int (n:Int))),some (.sh (.int scale)),some (.own (.lst (bs'.map trD))),some (.sh (.int i)),y5,y6,y7]) (bx i ((n:Int)-i).toNat) 0 _ ⟨bs,x5,x6,x7,hb,hl,rfl⟩ (by
  rintro j d e hd ⟨bs',y5,y6,y7,h2,h3,rfl⟩
  obtain⟨hj,rfl⟩:=dY hd
  obtain⟨bs2,z6,z7,q1,q2,q3⟩:=G8 (ns:=ns) (n:=n) (scale:=scale) (i:=i) (j:=i+(j:Int)) (bs:=bs') (x6:=y6) (x7:=y7) hs hs2 hn hi hi2 (by omega) (by omega) h2 h3
  exact⟨_,_,rfl,q3,bs2,some (.sh (.int (i+(j:Int)))),z6,z7,q1,q2,rfl⟩)
 refine⟨bs',y5,y6,y7,h2,h3, ?_⟩
 have sa:bV i=true:=cz (by omega) (by omega)
 have sb:bV (n:Int)=true:=cz (by omega) (by omega)
 unfold fG
 generalize (n:Int)=nn at*
 simp[-forL,sa,sb,h1]
theorem G9{ns:List Int}{n scale:Int}{B:List D}{y4 y5 y6 y7:Option Slot}(sm:bV n=true)(h1:forL (gN 4) fG (bx 0 n.toNat) [some (.sh (.scr ns)),some (.sh (.int n)),some (.sh (.int scale)),some (.own (.lst [])),none,none,none,none]=some (.nx [some (.sh (.scr ns)),some (.sh (.int n)),some (.sh (.int scale)),some (.own (.lst B)),y4,y5,y6,y7]))(im:aQ B=true):jo [.scr ns,.int n,.int scale]=some (.tup B):=by
 refine bg rfl ?_
 unfold kN
 refine(av (e:=[some (.sh (.scr ns)),some (.sh (.int n)),some (.sh (.int scale)),some (.own (.lst [])),none,none,none,none]) (by simp[bz,ai])).trans ?_
 refine(av (e:=[some (.sh (.scr ns)),some (.sh (.int n)),some (.sh (.int scale)),some (.own (.lst B)),y4,y5,y6,y7]) (by simp[-forL,sm,h1])).trans ?_
 simp[im]
theorem KZ{ns:List Int}{n:Nat}{scale:Int}(hs:1≤scale)(hs2:scale≤1000000)(hn:n≤6):∃bs:List (Int×Int×Int),m8 n bs∧bs.length≤12∧jo [.scr ns,.int (n:Int),.int scale]=some (.tup (bs.map trD)):=by
 obtain⟨e,h1,bs',y4,y5,y6,y7,h2,h3,rfl⟩:=gx (g:=gN 4) (body:=fG) (λm env=>∃(bs' :List (Int×Int×Int)) (y4 y5 y6 y7:Option Slot),m8 n bs' ∧bs'.length≤12∧env=[some (.sh (.scr ns)),some (.sh (.int (n:Int))),some (.sh (.int scale)),some (.own (.lst (bs'.map trD))),y4,y5,y6,y7]) (bx 0 (n:Int).toNat) 0 [some (.sh (.scr ns)),some (.sh (.int (n:Int))),some (.sh (.int scale)),some (.own (.lst [])),none,none,none,none] ⟨[],none,none,none,none,λb hb=>by simp at hb,by simp,rfl⟩ (by
  rintro j d e hd ⟨bs',y4,y5,y6,y7,h2,h3,rfl⟩
  obtain⟨hj,rfl⟩:=dY hd
  obtain⟨bs2,z5,z6,z7,q1,q2,q3⟩:=II (ns:=ns) (n:=n) (scale:=scale) (i:=0+(j:Int)) (bs:=bs') (x5:=y5) (x6:=y6) (x7:=y7) hs hs2 hn (by omega) (by omega) h2 h3
  exact⟨_,_,rfl,q3,bs2,some (.sh (.int (0+(j:Int)))),z5,z6,z7,q1,q2,rfl⟩)
 exact⟨bs',h2,h3,G9 (cz (by omega) (by omega)) h1 (gy vH bs')⟩
inductive tq where
 |asked (b:Int)
 |due (b e m ea la:Int)
noncomputable def df:tq→D
 | .asked b=> .tup [.str "asked",.int b]
 | .due b e m ea la=> .tup [.str "due",.int b,.int e,.int m,.int ea,.int la]
noncomputable def pM:tq→Prop
 | .asked b=>0≤b
 | .due b e m ea la=>1≤e∧e≤12000000∧(m=1∨m=2∨m=4∨m=6∨m=60)∧0≤ea∧0≤la∧ea+la<e∧ea≤b∧b≤30000000
theorem pO(u:tq):(df u).imm=true:=by cases u<;>simp[df]
theorem L0{ns:List Int}{k scale q0 w u v t b e ea la m qm:Int}(hs:1≤scale)(hs2:scale≤1000000)(d0:a9 [.scr ns,.int k,.int 3]=some (.int q0))(c:¬q0=0)(d2:a9 [.scr ns,.int (k+2),.int 12]=some (.int (w -1)))(ms:∀j,cf scale j=true)(he:scale*w=e)(hq:e/scale=w)(d3:a9 [.scr ns,.int (k+3),.int w]=some (.int u))(hea:scale*u=ea)(hq2:(e -ea)/scale=w -u)(d4:a9 [.scr ns,.int (k+4),.int (w -u)]=some (.int v))(hla:scale*v=la)(d5:a9 [.scr ns,.int (k+5),.int 10]=some (.int t))(hb:ea+scale*t=b)(d6:a9 [.scr ns,.int (k+6),.int 5]=some (.int qm))(am:atD [D.int 1,.int 2,.int 4,.int 6,.int 60] qm=some (.int m)):
  jr [.scr ns,.int k,.int scale]=some (.tup [.str "due",.int b,.int e,.int m,.int ea,.int la]):=by
 have sp:0<scale:=by omega
 have sp2:scale<1073741824:=by omega
 have w1:1+(w -1)=w:=by omega
 refine bg rfl ?_
 unfold jq
 refine(av (e:=[some (.sh (.scr ns)),some (.sh (.int k)),some (.sh (.int scale)),none,none,none,none]) (by simp[bz,d0,c])).trans ?_
 refine(av (e:=[some (.sh (.scr ns)),some (.sh (.int k)),some (.sh (.int scale)),some (.sh (.int e)),none,none,none]) (by simp[d2,ms,w1,he])).trans ?_
 refine(av (e:=[some (.sh (.scr ns)),some (.sh (.int k)),some (.sh (.int scale)),some (.sh (.int e)),some (.sh (.int ea)),none,none]) (by simp[sp,sp2,hq,d3,ms,hea])).trans ?_
 refine(av (e:=[some (.sh (.scr ns)),some (.sh (.int k)),some (.sh (.int scale)),some (.sh (.int e)),some (.sh (.int ea)),some (.sh (.int la)),none]) (by simp[sp,sp2,hq2,d4,ms,hla])).trans ?_
 refine(av (e:=[some (.sh (.scr ns)),some (.sh (.int k)),some (.sh (.int scale)),some (.sh (.int e)),some (.sh (.int ea)),some (.sh (.int la)),some (.sh (.int b))]) (by simp[d5,ms,hb])).trans ?_
 simp[d6,am,ai]
theorem L1{ns:List Int}{k scale:Int}(hk:0≤k)(hk2:k<10000)(hs:1≤scale)(hs2:scale≤1000000):∃u:tq,pM u∧jr [.scr ns,.int k,.int scale]=some (df u):=by
 have d0:=aS (ns:=ns) (k:=k) (m:=3) (by omega) (by omega) (by omega)
 have ms:∀j,cf scale j=true:=λj=>bR (by omega) (by omega)
 by_cases c:draw ns k 3=0
 ·have d1:=aS (ns:=ns) (k:=k+1) (m:=20) (by omega) (by omega) (by omega)
  have l1:=aX ns (k+1) 20 (by omega)
  refine⟨.asked (scale*draw ns (k+1) 20),GcS (by omega) l1.1, ?_⟩
  refine bg rfl ?_
  unfold jq
  refine Cq ?_
  simp[bz,d0,c,d1,ms,ai,df]
 ·have d2:=aS (ns:=ns) (k:=k+2) (m:=12) (by omega) (by omega) (by omega)
  have l2:=aX ns (k+2) 12 (by omega)
  generalize hw:1+draw ns (k+2) 12=w
  have hw' :draw ns (k+2) 12=w -1:=by omega
  rw[hw'] at d2
  have d3:=aS (ns:=ns) (k:=k+3) (m:=w) (by omega) (by omega) (by omega)
  have l3:=aX ns (k+3) w (by omega)
  generalize draw ns (k+3) w=u at*
  have d4:=aS (ns:=ns) (k:=k+4) (m:=w -u) (by omega) (by omega) (by omega)
  have l4:=aX ns (k+4) (w -u) (by omega)
  generalize draw ns (k+4) (w -u)=v at*
  have d5:=aS (ns:=ns) (k:=k+5) (m:=10) (by omega) (by omega) (by omega)
  have l5:=aX ns (k+5) 10 (by omega)
  generalize draw ns (k+5) 10=t at*
  have d6:=aS (ns:=ns) (k:=k+6) (m:=5) (by omega) (by omega) (by omega)
  have l6:=aX ns (k+6) 5 (by omega)
  obtain⟨m,hm,am⟩:=at5 (a:=1) (b:=2) (c:=4) (d:=6) (e:=60) l6.1 l6.2
  have hq:scale*w/scale=w:=Int.mul_ediv_cancel_left w (by omega)
  have hq2:(scale*w -scale*u)/scale=w -u:=by rw[←Int.mul_sub];exact Int.mul_ediv_cancel_left _ (by omega)
  refine⟨.due (scale*u+scale*t) (scale*w) m (scale*u) (scale*v),⟨gJ hs (by omega), ?_,hm,GcS (by omega) l3.1,GcS (by omega) l4.1, ?_, ?_, ?_⟩,L0 hs hs2 d0 c d2 ms rfl hq d3 rfl hq2 d4 rfl d5 rfl d6 am⟩
  ·have:=pL (a:=scale) (b:=w) (A:=1000000) (B:=12) (by omega) hs2 (by omega) (by omega)
   omega
  ·have h1:scale*u+scale*v=scale*(u+v):=by rw[Int.mul_add]
   have h2:scale*(u+v)<scale*w:=Int.mul_lt_mul_of_pos_left (by omega) (by omega)
   omega
  ·have:=GcS (a:=scale) (b:=t) (by omega) l5.1
   omega
  ·have h1:=pL (a:=scale) (b:=u) (A:=1000000) (B:=12) (by omega) hs2 (by omega) (by omega)
   have h2:=pL (a:=scale) (b:=t) (A:=1000000) (B:=10) (by omega) hs2 (by omega) (by omega)
   omega
structure Order where
 name:Str
 aY:Int
 br:Int
 way:Str
 top:Int
 per:Int
 most:Int
 jB:tq
 Bz:List D
noncomputable def aF(o:Order):D:= .tup [.str o.name,.int o.aY,.int o.br,.tup [.str o.way,.int o.top,.int o.per,.int o.most],df o.jB,.tup o.Bz]
structure oH(ng nst:Nat)(o:Order):Prop where
 g0:0≤o.aY
 g1:o.aY<ng
 s0:0≤o.br
 s1:o.br<nst
 du:pM o.jB
 ti:aQ o.Bz=true
theorem L3{u:tq}{env:DL.Env}(h:env[11]? =some (some (.sh (df u))))(hl:env.length=13):∃T:List D,aQ T=true∧∀(he:env[12]? =some (some (.sh (.tup [])))),ifS (jz (aZ eqB (ixE (vE 11) (kE (.int 0))) (kE (.str "due"))) (aZ gtB (ixE (vE 11) (kE (.int 3))) (kE (.int 2))))
  (aR 12 (bM (a5 (bM (a5 (kE (.int 1)) (a5 (kE (.int 1)) (a5 (kE (.int 2)) aq)))) (a5 (bM (a5 (kE (.int 2)) (a5 (kE (.int 1)) (a5 (kE (.int 3)) aq)))) aq))))
  bf env=some (.nx (env.set 12 (some (.sh (.tup T))))):=by
 have e0:∀(he:env[12]? =some (some (.sh (.tup [])))),env.set 12 (some (.sh (.tup [])))=env:=λhe=>by
  apply GcV
  intro i
  by_cases q:12=i
  ·subst q;rw[GaT (by omega),he]
  ·rw[Gab q]
 cases u with
 |asked b=>
  refine⟨[],rfl,λhe=> ?_⟩
  rw[e0 he]
  unfold df at h
  simp[h,eqB]
 |due b e m ea la=>
  unfold df at h
  by_cases c:m>2
  ·refine⟨[.tup [.int 1,.int 1,.int 2],.tup [.int 2,.int 1,.int 3]],rfl,λhe=> ?_⟩
   simp[h,eqB,c,ai,DL.stored]
  ·refine⟨[],rfl,λhe=> ?_⟩
   rw[e0 he]
   simp[h,eqB,c]
theorem L4{r:Int}(h:0≤r):∃w:Str,atD [D.str "down",.str "up",.str "near"] (r%3)=some (.str w):=by
 have:r%3=0∨r%3=1∨r%3=2:=by omega
 rcases this with q|q|q<;>rw[q]
 ·exact⟨"down",rfl⟩
 ·exact⟨"up",rfl⟩
 ·exact⟨"near",rfl⟩
theorem at3{a b c q:Int}(h:0≤q)(h2:q<3):∃v,(v=a∨v=b∨v=c)∧atD [D.int a,.int b,.int c] q=some (.int v):=by
 have:q=0∨q=1∨q=2:=by omega
 rcases this with rfl|rfl|rfl
 ·exact⟨a,.inl rfl,rfl⟩
 ·exact⟨b,.inr (.inl rfl),rfl⟩
 ·exact⟨c,.inr (.inr rfl),rfl⟩
theorem Ga{ns:List Int}{scale r k st part f q1 most q2 q3 LS LG g:Int}{G S O M T:List D}{nm C Y:D}{u:tq}{w:Str}{ch:Nat}{x3 x7 x8 x9 x10 x11 x12:Option Slot}(m20:cf 20 r=true)(hk:300+20*r=k)(hLS:cN [.tup S]=some ⟨.c,.int LS⟩)(d0:a9 [.scr ns,.int k,.int LS]=some (.int st))(hS:atD S st=some (.tup [nm,.tup (.int part::M),C,Y]))(d1:a9 [.scr ns,.int (k+1),.int 3]=some (.int q1))(hf:atD [D.int 4,.int 15,.int 2000] q1=some (.int f))(mm:cf part f=true)(hm:part*f=most)
  (hw:atD [D.str "down",.str "up",.str "near"] (r%3)=some (.str w))(d2:a9 [.scr ns,.int (k+2),.int 90]=some (.int q2))(d3:a9 [.scr ns,.int (k+3),.int 9]=some (.int q3))(du:jr [.scr ns,.int (k+4),.int scale]=some (df u))(hLG:cN [.lst G]=some ⟨.c,.int LG⟩)(dg:a9 [.scr ns,.int (k+12),.int LG]=some (.int g))(hch:atD (Str.ofString "abcdefghijkl").cps.toList r=some ch)(hz:O.length<1000)
  (iT:aQ T=true)(ht:∀env:DL.Env,env=[some (.sh (.scr ns)),some (.sh (.int scale)),some (.own (.lst G)),x3,some (.sh (.tup S)),some (.own (.lst O)),some (.sh (.int r)),some (.sh (.int k)),some (.sh (.int st)),some (.sh (.int most)),some (.sh (.tup [.str w,.int (1+q2),.int q3,.int most])),some (.sh (df u)),some (.sh (.tup []))]→
   ifS (jz (aZ eqB (ixE (vE 11) (kE (.int 0))) (kE (.str "due"))) (aZ gtB (ixE (vE 11) (kE (.int 3))) (kE (.int 2)))) (aR 12 (bM (a5 (bM (a5 (kE (.int 1)) (a5 (kE (.int 1)) (a5 (kE (.int 2)) aq)))) (a5 (bM (a5 (kE (.int 2)) (a5 (kE (.int 1)) (a5 (kE (.int 3)) aq)))) aq)))) bf env=some (.nx (env.set 12 (some (.sh (.tup T)))))):
  d9 [some (.sh (.scr ns)),some (.sh (.int scale)),some (.own (.lst G)),x3,some (.sh (.tup S)),some (.own (.lst O)),some (.sh (.int r)),x7,x8,x9,x10,x11,x12]=
   some (.nx [some (.sh (.scr ns)),some (.sh (.int scale)),some (.own (.lst G)),x3,some (.sh (.tup S)),some (.own (.lst (O++[.tup [.str ("order"++ ⟨#[ch]⟩),.int g,.int st,.tup [.str w,.int (1+q2),.int q3,.int most],df u,.tup T]]))),some (.sh (.int r)),some (.sh (.int k)),some (.sh (.int st)),some (.sh (.int most)),some (.sh (.tup [.str w,.int (1+q2),.int q3,.int most])),some (.sh (df u)),some (.sh (.tup T))]):=by
 have z:O.length<16777216:=by omega
 have iu:=pO u
 have ru:=c0 iu
 generalize df u=U at*
 have w1:(Str.ofString "abcdefghijkl").length≤16777216:=by decide
 have w2:(Str.ofString "order").length+(⟨#[ch]⟩:Str).length≤16777216:=by
  have:(⟨#[ch]⟩:Str).length=1:=rfl
  rw[this];decide
 unfold d9
 refine(av (e:=[some (.sh (.scr ns)),some (.sh (.int scale)),some (.own (.lst G)),x3,some (.sh (.tup S)),some (.own (.lst O)),some (.sh (.int r)),some (.sh (.int k)),x8,x9,x10,x11,x12]) (by simp[m20,hk])).trans ?_
 refine(av (e:=[some (.sh (.scr ns)),some (.sh (.int scale)),some (.own (.lst G)),x3,some (.sh (.tup S)),some (.own (.lst O)),some (.sh (.int r)),some (.sh (.int k)),some (.sh (.int st)),x9,x10,x11,x12]) (by simp[-fZ,hLS,d0])).trans ?_
 refine(av (e:=[some (.sh (.scr ns)),some (.sh (.int scale)),some (.own (.lst G)),x3,some (.sh (.tup S)),some (.own (.lst O)),some (.sh (.int r)),some (.sh (.int k)),some (.sh (.int st)),some (.sh (.int most)),x10,x11,x12]) (by simp[hS,d1,hf,mm,hm,ai])).trans ?_
 refine(av (e:=[some (.sh (.scr ns)),some (.sh (.int scale)),some (.own (.lst G)),x3,some (.sh (.tup S)),some (.own (.lst O)),some (.sh (.int r)),some (.sh (.int k)),some (.sh (.int st)),some (.sh (.int most)),some (.sh (.tup [.str w,.int (1+q2),.int q3,.int most])),x11,x12]) (by simp[hw,d2,d3,ai])).trans ?_
 refine(av (e:=[some (.sh (.scr ns)),some (.sh (.int scale)),some (.own (.lst G)),x3,some (.sh (.tup S)),some (.own (.lst O)),some (.sh (.int r)),some (.sh (.int k)),some (.sh (.int st)),some (.sh (.int most)),some (.sh (.tup [.str w,.int (1+q2),.int q3,.int most])),some (.sh U),x12]) (by simp[du,ru])).trans ?_
 refine(av (e:=[some (.sh (.scr ns)),some (.sh (.int scale)),some (.own (.lst G)),x3,some (.sh (.tup S)),some (.own (.lst O)),some (.sh (.int r)),some (.sh (.int k)),some (.sh (.int st)),some (.sh (.int most)),some (.sh (.tup [.str w,.int (1+q2),.int q3,.int most])),some (.sh U),some (.sh (.tup []))]) (by simp[ai])).trans ?_
 refine(av (ht _ rfl)).trans ?_
 simp[-o9,hLG,dg,hch,w1,w2,iu,iT,ai,z]
theorem ip(o:Order)(h:aQ o.Bz=true):(aF o).imm=true:=by
 have:=pO o.jB
 simp[aF,this,h]
theorem Br{ns:List Int}{scale:Int}{i:Nat}{G:List D}{ss:List jt}{os:List Order}{x3 x7 x8 x9 x10 x11 x12:Option Slot}(hs:1≤scale)(hs2:scale≤1000000)(hi:i<12)(hG:1≤G.length)(hG2:G.length≤100)(hS:1≤ss.length)(hS2:ss.length≤100)(hok:∀s∈ss,mS s)(hl:os.length≤100):
  ∃o y7 y8 y9 y10 y11 y12,oH G.length ss.length o∧d9 [some (.sh (.scr ns)),some (.sh (.int scale)),some (.own (.lst G)),x3,some (.sh (.tup (ss.map b6))),some (.own (.lst (os.map aF))),some (.sh (.int (i:Int))),x7,x8,x9,x10,x11,x12]=
   some (.nx [some (.sh (.scr ns)),some (.sh (.int scale)),some (.own (.lst G)),x3,some (.sh (.tup (ss.map b6))),some (.own (.lst ((os++[o]).map aF))),some (.sh (.int (i:Int))),y7,y8,y9,y10,y11,y12]):=by
 obtain⟨ch,hch⟩:=DP hi
 have hj:(0:Int)≤(i:Int)∧(i:Int)≤11:=by omega
 have hz:(os.map aF).length<1000:=by rw[Gad];omega
 have e1:∀s,(os++[s]).map aF=os.map aF++[aF s]:=λs=>by simp
 generalize (i:Int)=r at*
 generalize os.map aF=O at*
 generalize hk:300+20*r=k
 have hLS:cN [.tup (ss.map b6)]=some ⟨.c,.int (ss.length:Int)⟩:=by simp[cN]
 have hLG:cN [.lst G]=some ⟨.c,.int (G.length:Int)⟩:=rfl
 have d0:=aS (ns:=ns) (k:=k) (m:=(ss.length:Int)) (by omega) (by omega) (by omega)
 have l0:=aX ns k (ss.length:Int) (by omega)
 generalize draw ns k (ss.length:Int)=st at*
 obtain⟨n,rfl⟩:=GaG l0.1
 have hn:n<ss.length:=by omega
 have hSat:atD (ss.map b6) (n:Int)=some (.tup [.str ss[n].name,.tup (.int ss[n].part::ss[n].more.map .int),.tup (ss[n].aO.map bw),.int ss[n].young]):=by
  rw[cW,Gah,Gaa hn];rfl
 have ok:=hok ss[n] (GaC hn)
 have okp1:=ok.p1
 have okp2:=ok.p2
 have d1:=aS (ns:=ns) (k:=k+1) (m:=3) (by omega) (by omega) (by omega)
 have l1:=aX ns (k+1) 3 (by omega)
 obtain⟨f,hf0,hf⟩:=at3 (a:=4) (b:=15) (c:=2000) l1.1 l1.2
 obtain⟨w,hw⟩:=L4 (r:=r) hj.1
 have d2:=aS (ns:=ns) (k:=k+2) (m:=90) (by omega) (by omega) (by omega)
 have d3:=aS (ns:=ns) (k:=k+3) (m:=9) (by omega) (by omega) (by omega)
 obtain⟨u,u1,du⟩:=L1 (ns:=ns) (k:=k+4) (scale:=scale) (by omega) (by omega) hs hs2
 have dg:=aS (ns:=ns) (k:=k+12) (m:=(G.length:Int)) (by omega) (by omega) (by omega)
 have lg:=aX ns (k+12) (G.length:Int) (by omega)
 obtain⟨T,iT,ht⟩:=L3 (u:=u) (env:=[some (.sh (.scr ns)),some (.sh (.int scale)),some (.own (.lst G)),x3,some (.sh (.tup (ss.map b6))),some (.own (.lst O)),some (.sh (.int r)),some (.sh (.int k)),some (.sh (.int (n:Int))),some (.sh (.int (ss[n].part*f))),some (.sh (.tup [.str w,.int (1+draw ns (k+2) 90),.int (draw ns (k+3) 9),.int (ss[n].part*f)])),some (.sh (df u)),some (.sh (.tup []))]) rfl rfl
 refine⟨⟨"order"++ ⟨#[ch]⟩,draw ns (k+12) (G.length:Int),(n:Int),w,1+draw ns (k+2) 90,draw ns (k+3) 9,ss[n].part*f,u,T⟩,some (.sh (.int k)),some (.sh (.int (n:Int))),some (.sh (.int (ss[n].part*f))),some (.sh (.tup [.str w,.int (1+draw ns (k+2) 90),.int (draw ns (k+3) 9),.int (ss[n].part*f)])),some (.sh (df u)),some (.sh (.tup T)),⟨lg.1,lg.2,by simp,by simp;omega,u1,iT⟩, ?_⟩
 rw[e1]
 exact Ga (bR (by omega) (by omega)) hk hLS d0 hSat d1 hf (bR (by omega) (by omega)) rfl hw d2 d3 du hLG dg hch hz iT λenv he=>by subst he;exact ht rfl
theorem Bs{ns:List Int}{scale:Int}{i:Nat}{gs:List (Str×Int)}{x4 x5 x6 x7 x8 x9 x10 x11 x12:Option Slot}(hs:1≤scale)(hs2:scale≤1000000)(hi:i<6)(hl:gs.length≤100):
  ∃g:Str×Int,dU [some (.sh (.scr ns)),some (.sh (.int scale)),some (.own (.lst (gs.map λg=> .tup [.str g.1,.int g.2]))),some (.sh (.int (i:Int))),x4,x5,x6,x7,x8,x9,x10,x11,x12]=
   some (.nx [some (.sh (.scr ns)),some (.sh (.int scale)),some (.own (.lst ((gs++[g]).map λg=> .tup [.str g.1,.int g.2]))),some (.sh (.int (i:Int))),x4,x5,x6,x7,x8,x9,x10,x11,x12]):=by
 obtain⟨ch,hch⟩:=G4 hi
 have hj:(0:Int)≤(i:Int)∧(i:Int)≤5:=by omega
 have hz:(gs.map λg=>D.tup [.str g.1,.int g.2]).length<16777216:=by rw[Gad];omega
 have e1:∀s:Str×Int,((gs++[s]).map λg=>D.tup [.str g.1,.int g.2])=(gs.map λg=>D.tup [.str g.1,.int g.2])++[.tup [.str s.1,.int s.2]]:=λs=>by simp
 generalize (i:Int)=j at*
 generalize (gs.map λg=>D.tup [.str g.1,.int g.2])=G at*
 have d:=aS (ns:=ns) (k:=30+j) (m:=15) (by omega) (by omega) (by omega)
 have ms:∀j,cf scale j=true:=λj=>bR (by omega) (by omega)
 have w1:(Str.ofString "abcdef").length≤16777216:=by decide
 have w2:(Str.ofString "guest").length+(⟨#[ch]⟩:Str).length≤16777216:=by
  have:(⟨#[ch]⟩:Str).length=1:=rfl
  rw[this];decide
 refine⟨("guest"++ ⟨#[ch]⟩,scale*draw ns (30+j) 15), ?_⟩
 rw[e1]
 unfold dU
 simp[hch,w1,w2,d,ms,ai,hz]
structure World where
 cn:List (Str×Int)
 aB:List jt
 cU:List (Int×Int×Int)
 orders:List Order
noncomputable def cQ(g:Str×Int):D:= .tup [.str g.1,.int g.2]
noncomputable def bA(w:World):D:= .tup [.tup (w.cn.map cQ),.tup (w.aB.map b6),.tup (w.cU.map trD),.tup (w.orders.map aF)]
structure bJ(w:World):Prop where
 g1:1≤w.cn.length
 g6:w.cn.length≤6
 s1:1≤w.aB.length
 s6:w.aB.length≤6
 so:∀s∈w.aB,mS s
 b12:w.cU.length≤12
 bo:m8 w.aB.length w.cU
 o1:1≤w.orders.length
 o12:w.orders.length≤12
 oo:∀o∈w.orders,oH w.cn.length w.aB.length o
theorem sf(g:Str×Int):(cQ g).imm=true:=by simp[cQ]
theorem DR{ns:List Int}{q1 scale qg ng qo no LS:Int}{G S B O:List D}{y3 y6 y7 y8 y9 y10 y11 y12:Option Slot}(d1:a9 [.scr ns,.int 1,.int 6]=some (.int q1))(h1:atD [D.int 1,.int 1,.int 1,.int 1,.int 1,.int 1000000] q1=some (.int scale))(dg:a9 [.scr ns,.int 20,.int 6]=some (.int qg))(hg:atD [D.int 1,.int 2,.int 3,.int 2,.int 3,.int 6] qg=some (.int ng))(sg:bV ng=true)
  (lg:forL (gN 3) dU (bx 0 ng.toNat) [some (.sh (.scr ns)),some (.sh (.int scale)),some (.own (.lst [])),none,none,none,none,none,none,none,none,none,none]=some (.nx [some (.sh (.scr ns)),some (.sh (.int scale)),some (.own (.lst G)),y3,none,none,none,none,none,none,none,none,none]))
  (es:gr [.scr ns,.int scale]=some (.tup S))(iS:aQ S=true)(do' :a9 [.scr ns,.int 22,.int 6]=some (.int qo))(ho:atD [D.int 1,.int 2,.int 3,.int 4,.int 4,.int 12] qo=some (.int no))(so:bV no=true)
  (lo:forL (gN 6) d9 (bx 0 no.toNat) [some (.sh (.scr ns)),some (.sh (.int scale)),some (.own (.lst G)),y3,some (.sh (.tup S)),some (.own (.lst [])),none,none,none,none,none,none,none]=some (.nx [some (.sh (.scr ns)),some (.sh (.int scale)),some (.own (.lst G)),y3,some (.sh (.tup S)),some (.own (.lst O)),y6,y7,y8,y9,y10,y11,y12]))
  (hLS:cN [.tup S]=some ⟨.c,.int LS⟩)(eb:jo [.scr ns,.int LS,.int scale]=some (.tup B))(iB:aQ B=true)(iG:aQ G=true)(iO:aQ O=true):ij [.scr ns]=some (.tup [.tup G,.tup S,.tup B,.tup O]):=by
 have rS:=c0 (d:= .tup S) (by simp[iS])
 have rB:=c0 (d:= .tup B) (by simp[iB])
 refine bg rfl ?_
 unfold jG
 refine(av (e:=[some (.sh (.scr ns)),some (.sh (.int scale)),none,none,none,none,none,none,none,none,none,none,none]) (by simp[bz,d1,h1,ai])).trans ?_
 refine(av (e:=[some (.sh (.scr ns)),some (.sh (.int scale)),some (.own (.lst [])),none,none,none,none,none,none,none,none,none,none]) (by simp[ai])).trans ?_
 refine(av (e:=[some (.sh (.scr ns)),some (.sh (.int scale)),some (.own (.lst G)),y3,none,none,none,none,none,none,none,none,none]) (by simp[-forL,dg,hg,sg,lg,ai])).trans ?_
 refine(av (e:=[some (.sh (.scr ns)),some (.sh (.int scale)),some (.own (.lst G)),y3,some (.sh (.tup S)),none,none,none,none,none,none,none,none]) (by simp[es,rS])).trans ?_
 refine(av (e:=[some (.sh (.scr ns)),some (.sh (.int scale)),some (.own (.lst G)),y3,some (.sh (.tup S)),some (.own (.lst [])),none,none,none,none,none,none,none]) (by simp[ai])).trans ?_
 refine(av (e:=[some (.sh (.scr ns)),some (.sh (.int scale)),some (.own (.lst G)),y3,some (.sh (.tup S)),some (.own (.lst O)),y6,y7,y8,y9,y10,y11,y12]) (by simp[-forL,do',ho,so,lo,ai])).trans ?_
 simp[-fZ,hLS,eb,rB,iS,iB,iG,iO,ai]
theorem vI(ns:List Int):∃scale:Int,1≤scale∧scale≤1000000∧atD [D.int 1,.int 1,.int 1,.int 1,.int 1,.int 1000000] (draw ns 1 6)=some (.int scale):=by
 have l:=aX ns 1 6 (by omega)
 obtain⟨v,hv,e⟩:=at6 (a:=1) (b:=1) (c:=1) (d:=1) (e:=1) (f:=1000000) l.1 l.2
 exact⟨v,by omega,by omega,e⟩
theorem IJ(ns:List Int):∃w:World,bJ w∧ij [.scr ns]=some (bA w):=by
 have d1:=aS (ns:=ns) (k:=1) (m:=6) (by omega) (by omega) (by omega)
 obtain⟨scale,c1,c2,h1⟩:=vI ns
 have dg:=aS (ns:=ns) (k:=20) (m:=6) (by omega) (by omega) (by omega)
 have lg:=aX ns 20 6 (by omega)
 obtain⟨ng,hng,hg⟩:=at6 (a:=1) (b:=2) (c:=3) (d:=2) (e:=3) (f:=6) lg.1 lg.2
 have dO:=aS (ns:=ns) (k:=22) (m:=6) (by omega) (by omega) (by omega)
 have lO:=aX ns 22 6 (by omega)
 obtain⟨no,hno,hO⟩:=at6 (a:=1) (b:=2) (c:=3) (d:=4) (e:=4) (f:=12) lO.1 lO.2
 obtain⟨e,l1,gs,y3,g2,rfl⟩:=gx (g:=gN 3) (body:=dU) (λm env=>∃(gs:List (Str×Int)) (y3:Option Slot),gs.length=m∧env=[some (.sh (.scr ns)),some (.sh (.int scale)),some (.own (.lst (gs.map λg=> .tup [.str g.1,.int g.2]))),y3,none,none,none,none,none,none,none,none,none]) (bx 0 ng.toNat) 0 [some (.sh (.scr ns)),some (.sh (.int scale)),some (.own (.lst [])),none,none,none,none,none,none,none,none,none,none] ⟨[],none,rfl,rfl⟩ (by
  rintro i d e hd ⟨gs,y3,h2,rfl⟩
  obtain⟨hi,rfl⟩:=dY hd
  obtain⟨g,h⟩:=Bs (ns:=ns) (scale:=scale) (i:=i) (gs:=gs) (x4:=none) (x5:=none) (x6:=none) (x7:=none) (x8:=none) (x9:=none) (x10:=none) (x11:=none) (x12:=none) c1 c2 (by omega) (by omega)
  rw[show(0:Int)+(i:Int)=(i:Int) by omega]
  exact⟨_,_,rfl,h,gs++[g],some (.sh (.int (i:Int))),by simp[h2],rfl⟩)
 rw[gI] at g2
 obtain⟨ss,t1,t2,t3,t4⟩:=G7 (ns:=ns) c1 c2
 obtain⟨bs,b1,b2,b3⟩:=KZ (ns:=ns) (n:=ss.length) c1 c2 t2
 have hLG:(gs.map cQ).length=gs.length:=by simp
 have eG:(gs.map λg=>D.tup [.str g.1,.int g.2])=gs.map cQ:=rfl
 rw[eG] at l1
 obtain⟨e,l2,os,y6,y7,y8,y9,y10,y11,y12,o2,o3,rfl⟩:=gx (g:=gN 6) (body:=d9) (λm env=>∃(os:List Order) (y6 y7 y8 y9 y10 y11 y12:Option Slot),os.length=m∧(∀o∈os,oH gs.length ss.length o)∧env=[some (.sh (.scr ns)),some (.sh (.int scale)),some (.own (.lst (gs.map cQ))),y3,some (.sh (.tup (ss.map b6))),some (.own (.lst (os.map aF))),y6,y7,y8,y9,y10,y11,y12]) (bx 0 no.toNat) 0 [some (.sh (.scr ns)),some (.sh (.int scale)),some (.own (.lst (gs.map cQ))),y3,some (.sh (.tup (ss.map b6))),some (.own (.lst [])),none,none,none,none,none,none,none] ⟨[],none,none,none,none,none,none,none,rfl,by simp,rfl⟩ (by
  rintro i d e hd ⟨os,y6,y7,y8,y9,y10,y11,y12,h2,h3,rfl⟩
  obtain⟨hi,rfl⟩:=dY hd
  obtain⟨o,z7,z8,z9,z10,z11,z12,k1,k2⟩:=Br (ns:=ns) (scale:=scale) (i:=i) (G:=gs.map cQ) (ss:=ss) (os:=os) (x3:=y3) (x7:=y7) (x8:=y8) (x9:=y9) (x10:=y10) (x11:=y11) (x12:=y12) c1 c2 (by omega) (by omega) (by omega) t1 (by omega) t3 (by omega)
  rw[hLG] at k1
  rw[show(0:Int)+(i:Int)=(i:Int) by omega]
  refine⟨_,_,rfl,k2,os++[o],some (.sh (.int (i:Int))),z7,z8,z9,z10,z11,z12,by simp[h2],λx hx=> ?_,rfl⟩
  rcases Gav.mp hx with hx|hx
  ·exact h3 x hx
  ·simp at hx;rw[hx];exact k1)
 rw[gI] at o2
 have iO:aQ (os.map aF)=true:=by
  have:∀l:List Order,(∀o∈l,oH gs.length ss.length o)→aQ (l.map aF)=true:=by
   intro l
   induction l with
   |nil=>intro _;rfl
   |cons o l ih=>
    intro h
    have h1:=ip o (h o Gam).ti
    have h2:=ih λx hx=>h x (Gai _ hx)
    rw[Gar]
    simp[h1,h2]
  exact this os o3
 refine⟨⟨gs,ss,bs,os⟩,⟨by simp;omega,by simp;omega,t1,t2,t3,b2,b1,by simp;omega,by simp;omega,o3⟩, ?_⟩
 exact DR d1 h1 dg hg (cz (by omega) (by omega)) l1 t4 (gy kR ss) dO hO (cz (by omega) (by omega)) l2 (by simp[cN]) b3 (gy vH bs) (gy sf gs) iO
theorem Aa{w:World}{o:Int}(h0:0≤o)(h1:o<w.orders.length):∃x∈w.orders,atD (w.orders.map aF) o=some (aF x):=by
 obtain⟨n,rfl⟩:=GaG h0
 have hn:n<w.orders.length:=by omega
 exact⟨w.orders[n],GaC hn,by rw[cW,Gah,Gaa hn];rfl⟩
theorem Gb{w:World}{o:Int}(h0:0≤o)(h1:o<w.aB.length):∃x∈w.aB,atD (w.aB.map b6) o=some (b6 x):=by
 obtain⟨n,rfl⟩:=GaG h0
 have hn:n<w.aB.length:=by omega
 exact⟨w.aB[n],GaC hn,by rw[cW,Gah,Gaa hn];rfl⟩
theorem DU{ns:List Int}{k q5 q6 h:Int}{x1 x2 x4 x5 x7 x8:Option Slot}(d5:a9 [.scr ns,.int (k+5000),.int 12]=some (.int q5))(d6:a9 [.scr ns,.int (k+5500),.int 25]=some (.int q6)):∃h' :Int,
  aG (ifS (aZ eqB (aH a9 (a5 (vE 0) (a5 (opE aT (vE 3) (kE (.int 5000))) (a5 (kE (.int 12)) aq)))) (kE (.int 0))) (aR 6 (opE aT (vE 6) (kE (.int 1)))) bf)
   (aG (ifS (aZ eqB (aH a9 (a5 (vE 0) (a5 (opE aT (vE 3) (kE (.int 5500))) (a5 (kE (.int 25)) aq)))) (kE (.int 0))) (aR 6 (opE pw (kE (.int 10)) (kE (.int 9)))) bf) (retS (vE 6)))
   [some (.sh (.scr ns)),x1,x2,some (.sh (.int k)),x4,x5,some (.sh (.int h)),x7,x8]=some (.ret (.int h')):=by
 by_cases c5:q5=0
 ·by_cases c6:q6=0
  ·exact⟨1000000000,by simp[d5,d6,c5,c6]⟩
  ·exact⟨h+1,by simp[d5,d6,c5,c6]⟩
 ·by_cases c6:q6=0
  ·exact⟨1000000000,by simp[d5,d6,c5,c6]⟩
  ·exact⟨h,by simp[d5,d6,c5,c6]⟩
theorem IK{ns:List Int}{k o q1 scale q0 q3 q4:Int}{A B C O:List D}{nm g st ru tp:D}{u:tq}(d1:a9 [.scr ns,.int 1,.int 6]=some (.int q1))(h1:atD [D.int 1,.int 1,.int 1,.int 1,.int 1,.int 1000000] q1=some (.int scale))(hs:1≤scale)(hs2:scale≤1000000)(hO:atD O o=some (.tup [nm,g,st,ru,df u,tp]))(du:pM u)(d0:a9 [.scr ns,.int k,.int 70]=some (.int q0))(d3:a9 [.scr ns,.int (k+3000),.int 4]=some (.int q3))(d4:a9 [.scr ns,.int (k+4000),.int 6]=some (.int q4))(l4:0≤q4)(l4' :q4<6)(hk:0≤k)(hk2:k<10000):
  ∃h:Int,js [.scr ns,.tup [.tup A,.tup B,.tup C,.tup O],.int o,.int k]=some (.int h):=by
 have d5:=aS (ns:=ns) (k:=k+5000) (m:=12) (by omega) (by omega) (by omega)
 have d6:=aS (ns:=ns) (k:=k+5500) (m:=25) (by omega) (by omega) (by omega)
 have ms:∀j,cf scale j=true:=λj=>bR (by omega) (by omega)
 have iu:=pO u
 suffices hmid:∃(x7 x8:Option Slot) (h0:Int),ifS (jz (aZ eqB (ixE (vE 5) (kE (.int 0))) (kE (.str "due"))) (aZ gtB (aH a9 (a5 (vE 0) (a5 (opE aT (vE 3) (kE (.int 3000))) (a5 (kE (.int 4)) aq)))) (kE (.int 0))))
  (aG (aR 7 (opE aT (ixE (vE 5) (kE (.int 1))) (opE dE (aH a9 (a5 (vE 0) (a5 (vE 3) (a5 (dN o8 (a5 (ixE (vE 5) (kE (.int 3))) (a5 (kE (.int 6)) aq))) aq)))) (ixE (vE 5) (kE (.int 2))))))
 (aG (aR 8 (gF (a5 (vE 7) (a5 (opE k6 (vE 7) (ixE (vE 5) (kE (.int 4)))) (a5 (opE aT (vE 7) (ixE (vE 5) (kE (.int 5)))) (a5 (opE k6 (opE k6 (vE 7) (ixE (vE 5) (kE (.int 4)))) (kE (.int 1))) (a5 (opE aT (opE aT (vE 7) (ixE (vE 5) (kE (.int 5)))) (kE (.int 1))) (a5 (vE 7) aq))))))))
 (aR 6 (dN wF (a5 (kE (.int 0)) (a5 (ixE (vE 8) (aH a9 (a5 (vE 0) (a5 (opE aT (vE 3) (kE (.int 4000))) (a5 (kE (.int 6)) aq))))) aq))))))
  bf [some (.sh (.scr ns)),some (.sh (.tup [.tup A,.tup B,.tup C,.tup O])),some (.sh (.int o)),some (.sh (.int k)),some (.sh (.int scale)),some (.sh (df u)),some (.sh (.int (scale*q0))),none,none]=some (.nx [some (.sh (.scr ns)),some (.sh (.tup [.tup A,.tup B,.tup C,.tup O])),some (.sh (.int o)),some (.sh (.int k)),some (.sh (.int scale)),some (.sh (df u)),some (.sh (.int h0)),x7,x8]) by
  obtain⟨x7,x8,h0,hm⟩:=hmid
  obtain⟨h',ht⟩:=DU (ns:=ns) (k:=k) (h:=h0) (x1:=some (.sh (.tup [.tup A,.tup B,.tup C,.tup O]))) (x2:=some (.sh (.int o))) (x4:=some (.sh (.int scale))) (x5:=some (.sh (df u))) (x7:=x7) (x8:=x8) d5 d6
  refine⟨h',bg rfl ?_⟩
  unfold kO
  generalize df u=U at*
  refine(av (e:=[some (.sh (.scr ns)),some (.sh (.tup [.tup A,.tup B,.tup C,.tup O])),some (.sh (.int o)),some (.sh (.int k)),some (.sh (.int scale)),none,none,none,none]) (by simp[bz,d1,h1,ai])).trans ?_
  refine(av (e:=[some (.sh (.scr ns)),some (.sh (.tup [.tup A,.tup B,.tup C,.tup O])),some (.sh (.int o)),some (.sh (.int k)),some (.sh (.int scale)),some (.sh U),none,none,none]) (by simp[hO,iu])).trans ?_
  refine(av (e:=[some (.sh (.scr ns)),some (.sh (.tup [.tup A,.tup B,.tup C,.tup O])),some (.sh (.int o)),some (.sh (.int k)),some (.sh (.int scale)),some (.sh U),some (.sh (.int (scale*q0))),none,none]) (by simp[d0,ms])).trans ?_
  exact(av hm).trans ht
 cases u with
 |asked b=>
  refine⟨none,none,scale*q0, ?_⟩
  simp[df,eqB]
 |due b e m ea la=>
  obtain⟨e1,e2,hm,_⟩:=du
  by_cases c:q3>0
  ·have mm:∃mn:Int,0<mn∧(if(6:Int)<m then 6 else m)=mn:=⟨_,by split<;>omega,rfl⟩
   obtain⟨mn,mn0,emn⟩:=mm
   have dn:=aS (ns:=ns) (k:=k) (m:=mn) (by omega) (by omega) mn0
   have me:∀j,cf j e=true:=λj=>oF (by omega) (by omega)
   generalize hnear:b+draw ns k mn*e=near
   obtain⟨v,hv,ev⟩:=at6 (a:=near) (b:=near -ea) (c:=near+la) (d:=near -ea -1) (e:=near+la+1) (f:=near) l4 l4'
   refine⟨some (.sh (.int near)),some (.own (.lst [.int near,.int (near -ea),.int (near+la),.int (near -ea -1),.int (near+la+1),.int near])),(if v>0 then v else 0), ?_⟩
   have mi:o8 [.int m,.int 6]=some ⟨.c,.int mn⟩:=by rw[←emn];rfl
   have mx:wF [.int 0,.int v]=some ⟨.c,.int (if v>0 then v else 0)⟩:=rfl
   have cc:q3>0:=c
   generalize (if v>0 then v else 0:Int)=vm at*
   unfold df
   refine(KU (by simp[eqB,d3,cc])).trans ?_
   refine(av (e:=[some (.sh (.scr ns)),some (.sh (.tup [.tup A,.tup B,.tup C,.tup O])),some (.sh (.int o)),some (.sh (.int k)),some (.sh (.int scale)),some (.sh (.tup [.str "due",.int b,.int e,.int m,.int ea,.int la])),some (.sh (.int (scale*q0))),some (.sh (.int near)),none]) (by simp[mi,dn,me,hnear])).trans ?_
   refine(av (e:=[some (.sh (.scr ns)),some (.sh (.tup [.tup A,.tup B,.tup C,.tup O])),some (.sh (.int o)),some (.sh (.int k)),some (.sh (.int scale)),some (.sh (.tup [.str "due",.int b,.int e,.int m,.int ea,.int la])),some (.sh (.int (scale*q0))),some (.sh (.int near)),some (.own (.lst [.int near,.int (near -ea),.int (near+la),.int (near -ea -1),.int (near+la+1),.int near]))]) (by simp[ai])).trans ?_
   simp[d4,ev,mx]
  ·refine⟨none,none,scale*q0, ?_⟩
   simp[df,eqB,d3,c]
theorem L5{ns:List Int}{w:World}{k o:Int}(W:bJ w)(h0:0≤o)(h1:o<w.orders.length)(hk:0≤k)(hk2:k<10000):∃h:Int,js [.scr ns,bA w,.int o,.int k]=some (.int h):=by
 obtain⟨x,hx,hO⟩:=Aa h0 h1
 have d1:=aS (ns:=ns) (k:=1) (m:=6) (by omega) (by omega) (by omega)
 obtain⟨scale,c1,c2,e1⟩:=vI ns
 exact IK d1 e1 c1 c2 hO (W.oo x hx).du (aS (by omega) (by omega) (by omega)) (aS (by omega) (by omega) (by omega)) (aS (by omega) (by omega) (by omega)) (aX ns (k+4000) 6 (by omega)).1 (aX ns (k+4000) 6 (by omega)).2 hk hk2
theorem DV{ns:List Int}{k o st part q6 q7 q8:Int}{A B C O M:List D}{nm g ru dd tp n2 cp yg:D}(hO:atD O o=some (.tup [nm,g,.int st,ru,dd,tp]))(hS:atD B st=some (.tup [n2,.tup (.int part::M),cp,yg]))(hp:1≤part)(hp2:part≤100000)(d6:a9 [.scr ns,.int (k+6000),.int 8]=some (.int q6))(d7:a9 [.scr ns,.int (k+7000),.int 14]=some (.int q7))(d8:a9 [.scr ns,.int (k+8000),.int 6]=some (.int q8))(l8:0≤q8)(l8' :q8<6):
  ∃a:Int,fh [.scr ns,.tup [.tup A,.tup B,.tup C,.tup O],.int o,.int k]=some (.int a):=by
 have mp:∀j,cf part j=true:=λj=>bR (by omega) (by omega)
 generalize hmany:part*(1+q6)=many
 obtain⟨v,hv,ev⟩:=at6 (a:=0) (b:= -many) (c:=many+1) (d:=1000000000) (e:=part*2001) (f:= -1) l8 l8'
 have pre:∀r,(∃a,r=some (Out.ret (.int a)))→aG (ifS (aZ eqB (aH a9 (a5 (vE 0) (a5 (opE aT (vE 3) (kE (.int 7000))) (a5 (kE (.int 14)) aq)))) (kE (.int 0))) (retS (ixE (vE 6) (aH a9 (a5 (vE 0) (a5 (opE aT (vE 3) (kE (.int 8000))) (a5 (kE (.int 6)) aq)))))) bf) (retS (vE 5)) [some (.sh (.scr ns)),some (.sh (.tup [.tup A,.tup B,.tup C,.tup O])),some (.sh (.int o)),some (.sh (.int k)),some (.sh (.int part)),some (.sh (.int many)),some (.own (.lst [.int 0,.int (-many),.int (many+1),.int 1000000000,.int (part*2001),.int (-1)]))]=r→∃a:Int,fh [.scr ns,.tup [.tup A,.tup B,.tup C,.tup O],.int o,.int k]=some (.int a):=by
  rintro r ⟨a,rfl⟩ h
  refine⟨a,bg rfl ?_⟩
  unfold iQ
  refine(av (e:=[some (.sh (.scr ns)),some (.sh (.tup [.tup A,.tup B,.tup C,.tup O])),some (.sh (.int o)),some (.sh (.int k)),some (.sh (.int part)),none,none]) (by simp[bz,hO,hS])).trans ?_
  refine(av (e:=[some (.sh (.scr ns)),some (.sh (.tup [.tup A,.tup B,.tup C,.tup O])),some (.sh (.int o)),some (.sh (.int k)),some (.sh (.int part)),some (.sh (.int many)),none]) (by simp[d6,mp,hmany])).trans ?_
  exact(av (e:=[some (.sh (.scr ns)),some (.sh (.tup [.tup A,.tup B,.tup C,.tup O])),some (.sh (.int o)),some (.sh (.int k)),some (.sh (.int part)),some (.sh (.int many)),some (.own (.lst [.int 0,.int (-many),.int (many+1),.int 1000000000,.int (part*2001),.int (-1)]))]) (by simp[mp,ai])).trans h
 by_cases c:q7=0
 ·exact pre _ ⟨v,rfl⟩ (by simp[d7,c,d8,ev])
 ·exact pre _ ⟨many,rfl⟩ (by simp[d7,c])
theorem Gd{ns:List Int}{w:World}{k o:Int}(W:bJ w)(h0:0≤o)(h1:o<w.orders.length)(hk:0≤k)(hk2:k<10000):∃a:Int,fh [.scr ns,bA w,.int o,.int k]=some (.int a):=by
 obtain⟨x,hx,hO⟩:=Aa h0 h1
 have ok:=W.oo x hx
 obtain⟨s,hs,hS⟩:=Gb (w:=w) ok.s0 ok.s1
 have so:=W.so s hs
 exact DV hO hS so.p1 so.p2 (aS (by omega) (by omega) (by omega)) (aS (by omega) (by omega) (by omega)) (aS (by omega) (by omega) (by omega)) (aX ns (k+8000) 6 (by omega)).1 (aX ns (k+8000) 6 (by omega)).2
noncomputable abbrev Tr:=Int×Int×Int
noncomputable def kvT(ts:List Tr):List (List Key×D):=ts.map λt=>([Sum.inl t.1,Sum.inl t.2.1],D.int t.2.2)
theorem Cr(ts:List Tr)(o h:Int):((kvT ts).any λkv=>decide (kv.1=[Sum.inl o,Sum.inl h]))=true↔∃v,(o,h,v)∈ts:=by
 rw[List.any_eq_true]
 constructor
 ·rintro⟨kv,hk,e⟩
  obtain⟨t,ht,rfl⟩:=GaE.mp hk
  have e' :=GaD e
  simp at e'
  exact⟨t.2.2,by rw[←e'.1,←e'.2];exact ht⟩
 ·rintro⟨v,hv⟩
  exact⟨_,GaE.mpr ⟨_,hv,rfl⟩,by simp⟩
theorem qX(ts:List Tr)(o h v:Int):∃ts' :List Tr,DL.put (kvT ts) [Sum.inl o,Sum.inl h] (.int v)=kvT ts' ∧ts'.length≤ts.length+1∧(∀t∈ts',t∈ts∨t=(o,h,v))∧((∃v,(o,h,v)∈ts)→ts'.length=ts.length)∧∃v,(o,h,v)∈ts' :=by
 unfold DL.put
 by_cases c:((kvT ts).any λkv=>decide (kv.1=[Sum.inl o,Sum.inl h]))=true
 ·rw[Gag c]
  refine⟨ts.map λt=>if t.1=o∧t.2.1=h then(o,h,v) else t, ?_,by simp,λt ht=> ?_,λ_=>by simp,v, ?_⟩
  ·unfold kvT
   rw[GaM,GaM]
   refine GaI λt _=> ?_
   simp only[Function.comp]
   by_cases c:t.1=o∧t.2.1=h
   ·have e:([Sum.inl t.1,Sum.inl t.2.1]:List Key)=[Sum.inl o,Sum.inl h]:=by rw[c.1,c.2]
    rw[Gag e,Gag c,c.1,c.2]
   ·have e:¬([Sum.inl t.1,Sum.inl t.2.1]:List Key)=[Sum.inl o,Sum.inl h]:=λz=>by
     simp at z
     exact c z
    rw[Gaj e,Gaj c]
  ·obtain⟨s,hs,rfl⟩:=GaE.mp ht
   split
   ·exact .inr rfl
   ·exact .inl hs
  ·obtain⟨v',hv'⟩:=(Cr ts o h).mp c
   exact GaE.mpr ⟨_,hv',by simp⟩
 ·rw[Gaj c]
  refine⟨ts++[(o,h,v)],by simp[kvT],by simp,λt ht=> ?_,λq=>absurd ((Cr ts o h).mpr q) c,v,by simp⟩
  rcases Gav.mp ht with h|h
  ·exact .inl h
  ·exact .inr (by simpa using h)
theorem kh(ts:List Tr):bN (kvT ts)=ts.map λt=>D.tup [.tup [.int t.1,.int t.2.1],.int t.2.2]:=by
 unfold bN kvT
 rw[GaM]
 rfl
theorem Ab(ts:List Tr):cE (gT [0,1]) jc (bM (a5 (ixE (vE 0) (kE (.int 0))) (a5 (ixE (vE 0) (kE (.int 1))) (a5 (vE 1) aq)))) (bN (kvT ts)) [none,none]=some (ts.map trD):=by
 rw[kh]
 refine kg (g:=gT [0,1]) (λt:Tr=>D.tup [.tup [.int t.1,.int t.2.1],.int t.2.2]) (λenv=>∃y z,env=[y,z]) trD ts _ ⟨none,none,rfl⟩ ?_
 rintro t ht env ⟨y,z,rfl⟩
 refine⟨[some (.sh (.tup [.int t.1,.int t.2.1])),some (.sh (.int t.2.2))],by simp,⟨_,_,rfl⟩,.c, ?_,rfl⟩
 simp[ai,trD]
theorem IL(ts:List Tr):keysOk (ts.map trD)=true:=by
 have h1:(ts.map trD).all (mV 1)=true:=by
  rw[Gbz,Gas]
  intro p _
  simp[trD,mV,tyD,mU]
 have h2:((ts.map trD).all λx=>(ts.map trD).all λy=>wH x y)=true:=by
  rw[Gbz,Gas]
  intro p _
  simp only[GcK]
  rw[Gbz,Gas]
  intro q _
  simp[trD,wH,mY,tyD,b7]
 unfold keysOk
 rw[h1,h2];simp
noncomputable def IM:D→Tr
 | .tup [.int a,.int b,.int c]=>(a,b,c)
 |_=>(0,0,0)
theorem Ct(ts:List Tr)(hl:ts.length<64):∃rs:List Tr,sortedS [.lst (ts.map trD)]=some ⟨.tn,.lst (rs.map trD)⟩∧rs.Perm ts:=by
 have hp:=fO (ts.map trD)
 have all:∀x∈cS (ts.map trD),∃p,x=trD p:=λx hx=>by
  obtain⟨p,_,e⟩:=GaE.mp (hp.mem_iff.mp hx)
  exact⟨p,e.symm⟩
 have e:cS (ts.map trD)=((cS (ts.map trD)).map IM).map trD:=by
  rw[GaM]
  conv=>lhs;rw[←Gcm (cS (ts.map trD))]
  apply GaI
  intro x hx
  obtain⟨p,rfl⟩:=all x hx
  rfl
 refine⟨(cS (ts.map trD)).map IM, ?_, ?_⟩
 ·rw[←e]
  have h1:((ts.map trD).length<64):=by simpa using hl
  unfold sortedS one mX
  simp only[Option.bind_some]
  rw[IL,GaL h1];rfl
 ·have:=Gdd IM hp
  rw[GaM] at this
  have e2:ts.map (IM∘trD)=ts:=by
   conv=>rhs;rw[←Gcm ts]
   exact GaI λp _=>rfl
  rw[e2] at this
  exact this
theorem ux{ns:List Int}{scale many n LG qa qb qc qd qe g h v:Int}{A B C O:List D}{ts ts' :List Tr}{x6:Option Slot}(hLG:cN [.tup A]=some ⟨.c,.int LG⟩)(da:a9 [.scr ns,.int (900+n),.int LG]=some (.int qa))(db:a9 [.scr ns,.int (920+n),.int 50]=some (.int qb))(ms:∀j,cf scale j=true)(dc:a9 [.scr ns,.int 980,.int 2]=some (.int qc))(hgh:(n<LG∧qc=0∧g=n∧h=0)∨(¬(n<LG∧qc=0)∧g=qa∧h=scale*qb))(dd:a9 [.scr ns,.int (940+n),.int 200]=some (.int qd))(de:a9 [.scr ns,.int (960+n),.int 8]=some (.int qe))(hv:atD [D.int (1+qd),.int 1000000] (qe/7)=some (.int v))
  (hp:DL.put (kvT ts) [Sum.inl g,Sum.inl h] (.int v)=kvT ts')(hz:(kvT ts).length<1000):
  ∃y6,cq [some (.sh (.scr ns)),some (.sh (.tup [.tup A,B',C',O'])),some (.sh (.int many)),some (.sh (.int scale)),some (.own (.dT (kvT ts))),some (.sh (.int n)),x6]=
   some (.nx [some (.sh (.scr ns)),some (.sh (.tup [.tup A,B',C',O'])),some (.sh (.int many)),some (.sh (.int scale)),some (.own (.dT (kvT ts'))),some (.sh (.int n)),y6]):=by
 have z:(kvT ts).length<16777216:=by omega
 generalize hkv:kvT ts=kv at*
 refine⟨some (.sh (.tup [.int g,.int h])), ?_⟩
 unfold cq
 refine(av (e:=[some (.sh (.scr ns)),some (.sh (.tup [.tup A,B',C',O'])),some (.sh (.int many)),some (.sh (.int scale)),some (.own (.dT kv)),some (.sh (.int n)),some (.sh (.tup [.int qa,.int (scale*qb)]))]) (by simp[-fZ,hLG,da,db,ms,ai])).trans ?_
 refine(av (e:=[some (.sh (.scr ns)),some (.sh (.tup [.tup A,B',C',O'])),some (.sh (.int many)),some (.sh (.int scale)),some (.own (.dT kv)),some (.sh (.int n)),some (.sh (.tup [.int g,.int h]))]) ?_).trans ?_
 ·rcases hgh with⟨c1,c2,rfl,rfl⟩| ⟨c,rfl,rfl⟩
  ·simp[-fZ,hLG,c1,c2,dc,ai]
  ·by_cases c1:n<LG
   ·have c2:¬qc=0:=λz=>c ⟨c1,z⟩
    simp[-fZ,hLG,c1,c2,dc]
   ·simp[-fZ,hLG,c1]
 ·simp[dd,de,hv,putD,keyOf,z,ai,hp]
theorem Ac{ns:List Int}{w:World}{scale many n:Int}{ts:List Tr}{x6:Option Slot}(W:bJ w)(hs:1≤scale)(hs2:scale≤1000000)(hn:0≤n)(hn2:n<100)(hl:ts.length≤100):
  ∃(ts' :List Tr) (y6:Option Slot),ts'.length≤ts.length+1∧cq [some (.sh (.scr ns)),some (.sh (bA w)),some (.sh (.int many)),some (.sh (.int scale)),some (.own (.dT (kvT ts))),some (.sh (.int n)),x6]=
   some (.nx [some (.sh (.scr ns)),some (.sh (bA w)),some (.sh (.int many)),some (.sh (.int scale)),some (.own (.dT (kvT ts'))),some (.sh (.int n)),y6]):=by
 have g1:=W.g1
 have g6:=W.g6
 have hLG:cN [.tup (w.cn.map cQ)]=some ⟨.c,.int (w.cn.length:Int)⟩:=by simp[cN]
 have da:=aS (ns:=ns) (k:=900+n) (m:=(w.cn.length:Int)) (by omega) (by omega) (by omega)
 have db:=aS (ns:=ns) (k:=920+n) (m:=50) (by omega) (by omega) (by omega)
 have dc:=aS (ns:=ns) (k:=980) (m:=2) (by omega) (by omega) (by omega)
 have dd:=aS (ns:=ns) (k:=940+n) (m:=200) (by omega) (by omega) (by omega)
 have de:=aS (ns:=ns) (k:=960+n) (m:=8) (by omega) (by omega) (by omega)
 have le:=aX ns (960+n) 8 (by omega)
 obtain⟨v,_,hv⟩:=at2 (a:=1+draw ns (940+n) 200) (b:=1000000) (q:=draw ns (960+n) 8/7) (by omega) (by omega)
 have hz:(kvT ts).length<1000:=by unfold kvT;rw[Gad];omega
 by_cases c:n<(w.cn.length:Int)∧draw ns 980 2=0
 ·obtain⟨ts',p1,p2,_⟩:=qX ts n 0 v
  obtain⟨y6,e⟩:=ux (scale:=scale) (many:=many) (x6:=x6) (B:=[]) (C:=[]) (O:=[]) hLG da db (λj=>bR (by omega) (by omega)) dc (.inl ⟨c.1,c.2,rfl,rfl⟩) dd de hv p1 hz
  exact⟨ts',y6,p2,e⟩
 ·obtain⟨ts',p1,p2,_⟩:=qX ts (draw ns (900+n) (w.cn.length:Int)) (scale*draw ns (920+n) 50) v
  obtain⟨y6,e⟩:=ux (many:=many) (x6:=x6) (B:=[]) (C:=[]) (O:=[]) hLG da db (λj=>bR (by omega) (by omega)) dc (.inr ⟨c,rfl,rfl⟩) dd de hv p1 hz
  exact⟨ts',y6,p2,e⟩
theorem jK(ts:List Tr):aQ (ts.map trD)=true:=gy vH ts
theorem Ad{ns:List Int}{q1 scale many:Int}{wd:D}{kv:List (List Key×D)}{R Rs:List D}{y5 y6:Option Slot}(d1:a9 [.scr ns,.int 1,.int 6]=some (.int q1))(h1:atD [D.int 1,.int 1,.int 1,.int 1,.int 1,.int 1000000] q1=some (.int scale))(sm:bV many=true)
  (l1:forL (gN 5) cq (bx 0 many.toNat) [some (.sh (.scr ns)),some (.sh wd),some (.sh (.int many)),some (.sh (.int scale)),some (.own (.dT [])),none,none]=some (.nx [some (.sh (.scr ns)),some (.sh wd),some (.sh (.int many)),some (.sh (.int scale)),some (.own (.dT kv)),y5,y6]))
  (hz:(bN kv).length≤16777216)(hc:cE (gT [0,1]) jc (bM (a5 (ixE (vE 0) (kE (.int 0))) (a5 (ixE (vE 0) (kE (.int 1))) (a5 (vE 1) aq)))) (bN kv) [none,none]=some R)(hs:sortedS [.lst R]=some ⟨.tn,.lst Rs⟩)(im:aQ Rs=true):fH [.scr ns,wd,.int many]=some (.tup Rs):=by
 refine bg rfl ?_
 unfold gR
 refine(av (e:=[some (.sh (.scr ns)),some (.sh wd),some (.sh (.int many)),some (.sh (.int scale)),none,none,none]) (by simp[bz,d1,h1,ai])).trans ?_
 refine(av (e:=[some (.sh (.scr ns)),some (.sh wd),some (.sh (.int many)),some (.sh (.int scale)),some (.own (.dT [])),none,none]) (by simp)).trans ?_
 refine(av (e:=[some (.sh (.scr ns)),some (.sh wd),some (.sh (.int many)),some (.sh (.int scale)),some (.own (.dT kv)),y5,y6]) (by simp[-forL,sm,l1])).trans ?_
 simp[-cE,ai,DL.compEnv,fY,hz,hc,hs,im]
theorem DW{ns:List Int}{w:World}{n:Nat}(W:bJ w)(hn:n≤60):∃ws:List Tr,ws.length≤60∧fH [.scr ns,bA w,.int (n:Int)]=some (.tup (ws.map trD)):=by
 have d1:=aS (ns:=ns) (k:=1) (m:=6) (by omega) (by omega) (by omega)
 obtain⟨scale,c1,c2,h1⟩:=vI ns
 obtain⟨e,l1,ts,y5,y6,t1,rfl⟩:=gx (g:=gN 5) (body:=cq) (λm env=>∃(ts:List Tr) (y5 y6:Option Slot),ts.length≤m∧env=[some (.sh (.scr ns)),some (.sh (bA w)),some (.sh (.int (n:Int))),some (.sh (.int scale)),some (.own (.dT (kvT ts))),y5,y6]) (bx 0 (n:Int).toNat) 0 [some (.sh (.scr ns)),some (.sh (bA w)),some (.sh (.int (n:Int))),some (.sh (.int scale)),some (.own (.dT [])),none,none] ⟨[],none,none,by simp,rfl⟩ (by
  rintro i d e hd ⟨ts,y5,y6,t1,rfl⟩
  obtain⟨hi,rfl⟩:=dY hd
  obtain⟨ts',z6,p1,p2⟩:=Ac (ns:=ns) (w:=w) (scale:=scale) (many:=(n:Int)) (n:=0+(i:Int)) (ts:=ts) (x6:=y6) W c1 c2 (by omega) (by omega) (by omega)
  exact⟨_,_,rfl,p2,ts',some (.sh (.int (0+(i:Int)))),z6,by omega,rfl⟩)
 rw[gI] at t1
 obtain⟨rs,r1,r2⟩:=Ct ts (by omega)
 have hz:(bN (kvT ts)).length≤16777216:=by rw[kh,Gad];omega
 exact⟨rs,by rw[r2.length_eq];omega,Ad d1 h1 (cz (by omega) (by omega)) l1 hz (Ab ts) r1 (jK rs)⟩
theorem DX{ns:List Int}{many n LO o h a q:Int}{A B C O:List D}{ts t1 t2:List Tr}{x5 x6:Option Slot}(hLO:cN [.tup O]=some ⟨.c,.int LO⟩)(d0:a9 [.scr ns,.int (1000+n),.int LO]=some (.int o))(eh:js [.scr ns,.tup [.tup A,.tup B,.tup C,.tup O],.int o,.int (1100+n)]=some (.int h))(ea:fh [.scr ns,.tup [.tup A,.tup B,.tup C,.tup O],.int o,.int (1100+n)]=some (.int a))(dq:a9 [.scr ns,.int (1050+n),.int 40]=some (.int q))(p1:DL.put (kvT ts) [Sum.inl o,Sum.inl h] (.int a)=kvT t1)(p2:DL.put (kvT t1) [Sum.inl o,Sum.inl h] (.int (10000000000000000000000000000000000000000+n))=kvT t2)(hz:(kvT ts).length<1000)(hz2:(kvT t1).length<1000):
  cw [some (.sh (.scr ns)),some (.sh (.tup [.tup A,.tup B,.tup C,.tup O])),some (.sh (.int many)),some (.own (.dT (kvT ts))),some (.sh (.int n)),x5,x6]=
   some (.nx [some (.sh (.scr ns)),some (.sh (.tup [.tup A,.tup B,.tup C,.tup O])),some (.sh (.int many)),some (.own (.dT (if q=0 then kvT t2 else kvT t1))),some (.sh (.int n)),some (.sh (.int o)),some (.sh (.tup [.int o,.int h]))]):=by
 have z:(kvT ts).length<16777216:=by omega
 have z2:(kvT t1).length<16777216:=by omega
 generalize kvT ts=k0 at*
 generalize kvT t1=k1 at*
 generalize kvT t2=k2 at*
 unfold cw
 refine(av (e:=[some (.sh (.scr ns)),some (.sh (.tup [.tup A,.tup B,.tup C,.tup O])),some (.sh (.int many)),some (.own (.dT k0)),some (.sh (.int n)),some (.sh (.int o)),x6]) (by simp[-fZ,hLO,d0])).trans ?_
 refine(av (e:=[some (.sh (.scr ns)),some (.sh (.tup [.tup A,.tup B,.tup C,.tup O])),some (.sh (.int many)),some (.own (.dT k0)),some (.sh (.int n)),some (.sh (.int o)),some (.sh (.tup [.int o,.int h]))]) (by simp[eh,ai])).trans ?_
 refine(av (e:=[some (.sh (.scr ns)),some (.sh (.tup [.tup A,.tup B,.tup C,.tup O])),some (.sh (.int many)),some (.own (.dT k1)),some (.sh (.int n)),some (.sh (.int o)),some (.sh (.tup [.int o,.int h]))]) (by simp[ea,putD,keyOf,z,ai,p1])).trans ?_
 by_cases c:q=0
 ·rw[Gag c]
  simp[dq,c,putD,keyOf,z2,ai,p2]
 ·rw[Gaj c]
  simp[dq,c]
noncomputable def fW(n:Nat)(gv:List Tr):Prop:=∀t∈gv,0≤t.1∧t.1<n
theorem Ae{ns:List Int}{w:World}{many n:Int}{ts:List Tr}{x5 x6:Option Slot}(W:bJ w)(hn:0≤n)(hn2:n<100)(hl:ts.length≤100)(hg:fW w.orders.length ts):
  ∃(ts' :List Tr) (y5 y6:Option Slot),ts'.length≤ts.length+1∧fW w.orders.length ts' ∧cw [some (.sh (.scr ns)),some (.sh (bA w)),some (.sh (.int many)),some (.own (.dT (kvT ts))),some (.sh (.int n)),x5,x6]=
   some (.nx [some (.sh (.scr ns)),some (.sh (bA w)),some (.sh (.int many)),some (.own (.dT (kvT ts'))),some (.sh (.int n)),y5,y6]):=by
 have o1:=W.o1
 have o12:=W.o12
 have hLO:cN [.tup (w.orders.map aF)]=some ⟨.c,.int (w.orders.length:Int)⟩:=by simp[cN]
 have d0:=aS (ns:=ns) (k:=1000+n) (m:=(w.orders.length:Int)) (by omega) (by omega) (by omega)
 have l0:=aX ns (1000+n) (w.orders.length:Int) (by omega)
 generalize draw ns (1000+n) (w.orders.length:Int)=o at*
 obtain⟨h,eh⟩:=L5 (ns:=ns) (w:=w) (k:=1100+n) (o:=o) W l0.1 l0.2 (by omega) (by omega)
 obtain⟨a,ea⟩:=Gd (ns:=ns) (w:=w) (k:=1100+n) (o:=o) W l0.1 l0.2 (by omega) (by omega)
 have dq:=aS (ns:=ns) (k:=1050+n) (m:=40) (by omega) (by omega) (by omega)
 obtain⟨t1,p1,p2,p3,_,p4⟩:=qX ts o h a
 obtain⟨t2,r1,r2,r3,r4,_⟩:=qX t1 o h (10000000000000000000000000000000000000000+n)
 have hz:(kvT ts).length<1000:=by unfold kvT;rw[Gad];omega
 have hz2:(kvT t1).length<1000:=by unfold kvT;rw[Gad];omega
 have ev:=DX (many:=many) (x5:=x5) (x6:=x6) hLO d0 eh ea dq p1 r1 hz hz2
 have g1:fW w.orders.length t1:=λt ht=>by
  rcases p3 t ht with q|q
  ·exact hg t q
  ·rw[q];exact l0
 have g2:fW w.orders.length t2:=λt ht=>by
  rcases r3 t ht with q|q
  ·exact g1 t q
  ·rw[q];exact l0
 by_cases c:draw ns (1050+n) 40=0
 ·rw[Gag c] at ev
  exact⟨t2,_,_,by have:=r4 p4;omega,g2,ev⟩
 ·rw[Gaj c] at ev
  exact⟨t1,_,_,by omega,g1,ev⟩
theorem Af{ns:List Int}{many:Int}{wd:D}{kv:List (List Key×D)}{R Rs:List D}{y4 y5 y6:Option Slot}(sm:bV many=true)
  (l1:forL (gN 4) cw (bx 0 many.toNat) [some (.sh (.scr ns)),some (.sh wd),some (.sh (.int many)),some (.own (.dT [])),none,none,none]=some (.nx [some (.sh (.scr ns)),some (.sh wd),some (.sh (.int many)),some (.own (.dT kv)),y4,y5,y6]))
  (hz:(bN kv).length≤16777216)(hc:cE (gT [0,1]) jc (bM (a5 (ixE (vE 0) (kE (.int 0))) (a5 (ixE (vE 0) (kE (.int 1))) (a5 (vE 1) aq)))) (bN kv) [none,none]=some R)(hs:sortedS [.lst R]=some ⟨.tn,.lst Rs⟩)(im:aQ Rs=true):fI [.scr ns,wd,.int many]=some (.tup Rs):=by
 refine bg rfl ?_
 unfold gS
 refine(av (e:=[some (.sh (.scr ns)),some (.sh wd),some (.sh (.int many)),some (.own (.dT [])),none,none,none]) (by simp[bz])).trans ?_
 refine(av (e:=[some (.sh (.scr ns)),some (.sh wd),some (.sh (.int many)),some (.own (.dT kv)),y4,y5,y6]) (by simp[-forL,sm,l1])).trans ?_
 simp[-cE,ai,DL.compEnv,fY,hz,hc,hs,im]
theorem DY{ns:List Int}{w:World}{n:Nat}(W:bJ w)(hn:n<64):∃gv:List Tr,gv.length<64∧fW w.orders.length gv∧fI [.scr ns,bA w,.int (n:Int)]=some (.tup (gv.map trD)):=by
 obtain⟨e,l1,ts,y4,y5,y6,t1,t2,rfl⟩:=gx (g:=gN 4) (body:=cw) (λm env=>∃(ts:List Tr) (y4 y5 y6:Option Slot),ts.length≤m∧fW w.orders.length ts∧env=[some (.sh (.scr ns)),some (.sh (bA w)),some (.sh (.int (n:Int))),some (.own (.dT (kvT ts))),y4,y5,y6]) (bx 0 (n:Int).toNat) 0 [some (.sh (.scr ns)),some (.sh (bA w)),some (.sh (.int (n:Int))),some (.own (.dT [])),none,none,none] ⟨[],none,none,none,by simp,λt ht=>by simp at ht,rfl⟩ (by
  rintro i d e hd ⟨ts,y4,y5,y6,t1,t2,rfl⟩
  obtain⟨hi,rfl⟩:=dY hd
  obtain⟨ts',z5,z6,p1,p2,p3⟩:=Ae (ns:=ns) (w:=w) (many:=(n:Int)) (n:=0+(i:Int)) (ts:=ts) (x5:=y5) (x6:=y6) W (by omega) (by omega) (by omega) t2
  exact⟨_,_,rfl,p3,ts',some (.sh (.int (0+(i:Int)))),z5,z6,by omega,p2,rfl⟩)
 rw[gI] at t1
 obtain⟨rs,r1,r2⟩:=Ct ts (by omega)
 have hz:(bN (kvT ts)).length≤16777216:=by rw[kh,Gad];omega
 exact⟨rs,by rw[r2.length_eq];omega,λt ht=>t2 t (r2.mem_iff.mp ht),Af (cz (by omega) (by omega)) l1 hz (Ab ts) r1 (jK rs)⟩
noncomputable def fL:Option Int→D
 |some k=> .int k
 |none=> .non
@[simp] theorem DZ{k:Int}:fL (some k)= .int k:=rfl
@[simp] theorem uy:fL none= .non:=rfl
theorem gz(o:Option Int):(fL o).imm=true:=by cases o<;>rfl
noncomputable def Ge(b e m ea la h:Int):Option Int:=
 if(0≤(h -(b -ea))/e∧(h -(b -ea))/e<m)∧h -(b -ea)-(h -(b -ea))/e*e≤ea+la then some ((h -(b -ea))/e) else none
noncomputable def si:tq→Int→Option Int
 | .asked _,_=>none
 | .due b e m ea la,h=>Ge b e m ea la h
theorem qj{o:Order}{h:Int}(ok:pM o.jB):jk [aF o,.int h]=some (fL (si o.jB h)):=by
 obtain⟨name,g,st,way,top,per,most,u,ts⟩:=o
 unfold aF
 cases u with
 |asked b=>
  unfold jk kf df si
  simp
 |due b e m ea la=>
  obtain⟨e1,e2,hm,a0,l0,al,ab,b3⟩:=ok
  have p1:∀i,cf i e=true:=λi=>oF (by omega) (by omega)
  have p2:0<e∧e<1073741824:=by omega
  unfold jk kf df si Ge
  simp[p1,p2]
  generalize hk:(h -(b -ea))/e=k
  by_cases c1:0≤k
  ·by_cases c2:k<m
   ·by_cases c3:h -(b -ea)-k*e≤ea+la
    ·have c4:¬ea+la<h -(b -ea)-k*e:=by omega
     simp[c1,c2,c3,c4]
    ·have c4:ea+la<h -(b -ea)-k*e:=by omega
     simp[c1,c2,c3,c4]
   ·simp[c1,c2]
  ·simp[c1]
noncomputable def dJ:tq→Int→Bool
 | .asked b,h=>decide (h<b)
 | .due b e m ea la,h=>(Ge b e m ea la h).isNone
theorem Ah{o:Order}{h:Int}(ok:pM o.jB):lZ [aF o,.int h]=some (.bl (dJ o.jB h)):=by
 have d:=qj (h:=h) ok
 obtain⟨name,g,st,way,top,per,most,u,ts⟩:=o
 unfold aF at d⊢
 cases u with
 |asked b=>
  unfold lZ lY df dJ
  simp
 |due b e m ea la=>
  unfold si at d
  unfold lZ lY dJ
  unfold df at d⊢
  have rv:=c0 (gz (Ge b e m ea la h))
  simp[d,rv]
  cases Ge b e m ea la h<;>simp[o7,cD]
noncomputable def wgt(g h:Int):List Tr→Option Int→Option Int
 |[],f=>f
 |t::ts,f=>wgt g h ts (if t.1=g∧t.2.1≤h then some t.2.2 else f)
theorem m9{body:DS}{wd:D}{g h:Int}(st:∀(t:Tr) (f:Option Int),body [some (.sh wd),some (.sh (.int g)),some (.sh (.int h)),some (.sh (fL f)),some (.sh (trD t))]=some (.nx [some (.sh wd),some (.sh (.int g)),some (.sh (.int h)),some (.sh (fL (if t.1=g∧t.2.1≤h then some t.2.2 else f))),some (.sh (trD t))])):
  ∀(ts:List Tr) (f:Option Int) (x4:Option Slot),∃y4,forL (gN 4) body (ts.map trD) [some (.sh wd),some (.sh (.int g)),some (.sh (.int h)),some (.sh (fL f)),x4]=some (.nx [some (.sh wd),some (.sh (.int g)),some (.sh (.int h)),some (.sh (fL (wgt g h ts f))),y4])
 |[],f,x4=> ⟨x4,by simp[wgt]⟩
 |t::ts,f,x4=>by
  obtain⟨y4,e⟩:=m9 st ts (if t.1=g∧t.2.1≤h then some t.2.2 else f) (some (.sh (trD t)))
  refine⟨y4, ?_⟩
  have e1:=st t f
  rw[Gar]
  show forL (gN 4) body (trD t::ts.map trD) _=_
  generalize trD t=td at*
  simp only[forL,gN,GaR,GaS,Option.bind_some,e1]
  exact e
theorem ma{ws:List Tr}{g h:Int}:i9 [.tup (ws.map trD),.int g,.int h]=some (fL (wgt g h ws none)):=by
 obtain⟨y4,e⟩:=m9 (body:=jm) (wd:= .tup (ws.map trD)) (g:=g) (h:=h) (λt f=>by
  unfold jm trD
  by_cases c1:t.1=g
  ·by_cases c2:t.2.1≤h
   ·simp[c1,c2,eqB]
   ·simp[c1,c2,eqB]
  ·simp[c1,eqB]) ws none none
 rw[uy] at e
 have im:=gz (wgt g h ws none)
 refine bg rfl ?_
 unfold i8
 generalize fL (wgt g h ws none)=r at*
 generalize ws.map trD=W at*
 refine(av (e:=[some (.sh (.tup W)),some (.sh (.int g)),some (.sh (.int h)),some (.sh .non),none]) (by simp[bz])).trans ?_
 refine(av (e:=[some (.sh (.tup W)),some (.sh (.int g)),some (.sh (.int h)),some (.sh r),y4]) (by simp[-forL,e])).trans ?_
 simp[im]
noncomputable def dz:Cap→Option Int→Option Int
 | .ever t,_=>some t
 | .flat _ t,_=>some t
 | .kilo _ t p,w=>w.map λw=>w*t/p
theorem Bt{c:Cap}{w:Option Int}(ok:n8 c):jF [bw c,fL w]=some (fL (dz c w)):=by
 cases c with
 |ever t=>unfold jF kL bw dz;simp
 |flat h t=>unfold jF kL bw dz;simp
 |kilo h t p=>
  obtain⟨h1,t1,t2,p1,p2⟩:=ok
  cases w with
  |none=>unfold jF kL bw dz;simp[o7,cD]
  |some w=>
   have mm:cf w t=true:=oF (by omega) (by omega)
   have pp:0<p∧p<1073741824:=by omega
   unfold jF kL bw dz
   simp[o7,cD,mm,pp]
noncomputable def dZ:Cap→Bool
 | .kilo _ _ _=>true
 |_=>false
theorem E5{s:jt}(hc:s.aO.length≤4):fc [b6 s]=some (.bl (s.aO.any dZ)):=by
 have c:=kg (g:=gN 0) (f:=bE (aZ eqB (ixE (vE 0) (kE (.int 0))) (kE (.str "kilo")))) bw (λenv=>∃y,env=[y]) (λc=> .bl (dZ c)) s.aO [none] ⟨none,rfl⟩ (by
  rintro c hc env ⟨y,rfl⟩
  refine⟨_,rfl,⟨_,rfl⟩,.c, ?_,rfl⟩
  cases c<;>simp[bw,dZ,eqB])
 have z:(s.aO.map bw).length≤16777216:=by rw[Gad];omega
 have e2:s.aO.map (λc=>D.bl (dZ c))=(s.aO.map dZ).map D.bl:=by rw[GaM];rfl
 rw[e2] at c
 have an:((s.aO.map dZ).any id)=s.aO.any dZ:=by rw[List.any_map];rfl
 unfold fc fb b6
 generalize s.aO.map bw=C at*
 rw[←an]
 generalize s.aO.map dZ=bs at*
 simp[-cE,ai,DL.compEnv,fY,c,z]
theorem qM{ws:List Tr}{g h:Int}:iU [.tup (ws.map trD),.int g,.int h]=some (fL (wgt g h ws none)):=by
 obtain⟨y4,e⟩:=m9 (body:=iC) (wd:= .tup (ws.map trD)) (g:=g) (h:=h) (λt f=>by
  unfold iC trD
  by_cases c1:t.1=g
  ·by_cases c2:t.2.1≤h
   ·simp[c1,c2,eqB]
   ·simp[c1,c2,eqB]
  ·simp[c1,eqB]) ws none none
 rw[uy] at e
 have im:=gz (wgt g h ws none)
 refine bg rfl ?_
 unfold iR
 generalize fL (wgt g h ws none)=r at*
 generalize ws.map trD=W at*
 refine(av (e:=[some (.sh (.tup W)),some (.sh (.int g)),some (.sh (.int h)),some (.sh .non),none]) (by simp[bz])).trans ?_
 refine(av (e:=[some (.sh (.tup W)),some (.sh (.int g)),some (.sh (.int h)),some (.sh r),y4]) (by simp[-forL,e])).trans ?_
 simp[im]
noncomputable abbrev Flt:=Str×List Int
noncomputable def ay(f:Flt):D:= .tup (.str f.1::f.2.map .int)
noncomputable def kk(b:Bool)(x:Str):List Str:=if b then[x] else[]
theorem oI{L:List Str}{b:Bool}{x:Str}{t:DT}{e0 e1 e2 e3 e4 e5 e6 e7:Option Slot}(ht:t [e0,e1,e2,e3,e4,e5,e6,e7,some (.own (.lst (L.map .str)))]=some b)(hl:L.length<1000):
  ifS t (mT 8 (kE (.str x))) bf [e0,e1,e2,e3,e4,e5,e6,e7,some (.own (.lst (L.map .str)))]=some (.nx [e0,e1,e2,e3,e4,e5,e6,e7,some (.own (.lst ((L++kk b x).map .str)))]):=by
 have z:(L.map D.str).length<16777216:=by rw[Gad];omega
 have e:(L++kk b x).map D.str=L.map D.str++(kk b x).map D.str:=by rw[GaN]
 rw[e]
 cases b with
 |true=>
  generalize L.map D.str=M at*
  simp[ht,kk,ai,z]
 |false=>
  generalize L.map D.str=M at*
  simp[ht,kk]
noncomputable def mf(o:Order)(s:jt)(born:Int)(ws:List Tr)(t:Tr):List Str:=
 kk (dJ o.jB t.2.1) "astray"++kk (decide (o.most<t.2.2)) "most"++kk (decide (t.2.2<1)||decide (¬t.2.2%s.part=0)) "part"++kk (s.aO.any dZ&&(wgt o.aY t.2.1 ws none).isNone) "weight"++kk (decide (t.2.1<born+s.young)) "young"
theorem dh(b:Bool)(x:Str):(kk b x).length≤1:=by cases b<;>simp[kk]
theorem E9{K:List Str}{n h:Int}:cE (gN 0) jc (bM (a5 (vE 0) (a5 (vE 1) (a5 (vE 2) aq)))) (K.map .str) [none,some (.sh (.int n)),some (.sh (.int h))]=some (K.map λk=>ay (k,[n,h])):=by
 refine kg (g:=gN 0) D.str (λenv=>∃y,env=[y,some (.sh (.int n)),some (.sh (.int h))]) (λk=>ay (k,[n,h])) K _ ⟨none,rfl⟩ ?_
 rintro k hk env ⟨y,rfl⟩
 refine⟨_,rfl,⟨_,rfl⟩,.c, ?_,rfl⟩
 simp[ai,ay]
theorem gK(fs:List Flt):aQ (fs.map ay)=true:=gy (λf=>by
 have:=oG f.2
 simp[ay,this]) fs
theorem L6{A B C O:List D}{o:Order}{s:jt}{gu:Str×Int}{ws:List Tr}{t:Tr}(hO:atD O t.1=some (aF o))(du:pM o.jB)(hS:atD B o.br=some (b6 s))(so:mS s)(hG:atD A o.aY=some (cQ gu))(im:(aF o).imm=true):
  fD [.tup [.tup A,.tup B,.tup C,.tup O],.tup (ws.map trD),trD t]=some (.lst ((mf o s gu.2 ws t).map λk=>ay (k,[t.1,t.2.1]))):=by
 have ea:=Ah (h:=t.2.1) du
 have eg:=E5 (s:=s) so.cl
 have ew:=ma (ws:=ws) (g:=o.aY) (h:=t.2.1)
 have sp:=so.p1
 have is:=kR s
 obtain⟨n,h,a⟩:=t
 dsimp only at*
 have rw' :=c0 (gz (wgt o.aY h ws none))
 generalize hW:ws.map trD=W at*
 have p1:ixD (aF o) (.int 3)=some (.tup [.str o.way,.int o.top,.int o.per,.int o.most]):=rfl
 have p2:ixD (aF o) (.int 1)=some (.int o.aY):=rfl
 have p3:ixD (aF o) (.int 2)=some (.int o.br):=rfl
 have p4:ixD (b6 s) (.int 1)=some (.tup (.int s.part::s.more.map .int)):=rfl
 have p5:ixD (b6 s) (.int 3)=some (.int s.young):=rfl
 have p6:ixD (cQ gu) (.int 1)=some (.int gu.2):=rfl
 generalize aF o=OD at*
 generalize b6 s=SD at*
 generalize cQ gu=GD at*
 have sp' :0<s.part:=by omega
 refine bg rfl ?_
 unfold gO trD
 refine(av (e:=[some (.sh (.tup [.tup A,.tup B,.tup C,.tup O])),some (.sh (.tup W)),some (.sh (.tup [.int n,.int h,.int a])),some (.sh (.int n)),none,none,none,none,none]) (by simp[bz])).trans ?_
 refine(av (e:=[some (.sh (.tup [.tup A,.tup B,.tup C,.tup O])),some (.sh (.tup W)),some (.sh (.tup [.int n,.int h,.int a])),some (.sh (.int n)),some (.sh (.int h)),none,none,none,none]) (by simp)).trans ?_
 refine(av (e:=[some (.sh (.tup [.tup A,.tup B,.tup C,.tup O])),some (.sh (.tup W)),some (.sh (.tup [.int n,.int h,.int a])),some (.sh (.int n)),some (.sh (.int h)),some (.sh (.int a)),none,none,none]) (by simp)).trans ?_
 refine(av (e:=[some (.sh (.tup [.tup A,.tup B,.tup C,.tup O])),some (.sh (.tup W)),some (.sh (.tup [.int n,.int h,.int a])),some (.sh (.int n)),some (.sh (.int h)),some (.sh (.int a)),some (.sh OD),none,none]) (by simp[hO,im])).trans ?_
 refine(av (e:=[some (.sh (.tup [.tup A,.tup B,.tup C,.tup O])),some (.sh (.tup W)),some (.sh (.tup [.int n,.int h,.int a])),some (.sh (.int n)),some (.sh (.int h)),some (.sh (.int a)),some (.sh OD),some (.sh SD),none]) (by simp[p3,hS,is])).trans ?_
 refine(av (e:=[some (.sh (.tup [.tup A,.tup B,.tup C,.tup O])),some (.sh (.tup W)),some (.sh (.tup [.int n,.int h,.int a])),some (.sh (.int n)),some (.sh (.int h)),some (.sh (.int a)),some (.sh OD),some (.sh SD),some (.own (.lst (([]:List Str).map .str)))]) (by simp[ai])).trans ?_
 refine(av (oI (b:=dJ o.jB h) (by simp[ea]) (by simp))).trans ?_
 refine(av (oI (b:=decide (o.most<a)) (by simp[p1]) (by have:=dh (dJ o.jB h) "astray";simp;omega))).trans ?_
 refine(av (oI (b:=decide (a<1)||decide (¬a%s.part=0)) ?_ (by have:=dh (dJ o.jB h) "astray";have:=dh (decide (o.most<a)) "most";simp;omega))).trans ?_
 ·by_cases c:a<1
  ·simp[c]
  ·by_cases c2:a%s.part=0
   ·simp[c,p4,sp',neB,c2]
   ·simp[c,p4,sp',neB,c2]
 refine(av (oI (b:=s.aO.any dZ&&(wgt o.aY h ws none).isNone) ?_ (by have:=dh (dJ o.jB h) "astray";have:=dh (decide (o.most<a)) "most";have:=dh (decide (a<1)||decide (¬a%s.part=0)) "part";simp only[Gax,Gcu];omega))).trans ?_
 ·generalize s.aO.any dZ=bk at*
  cases bk with
  |false=>simp[eg]
  |true=>
   simp[eg,p2,ew,rw']
   cases wgt o.aY h ws none<;>simp[o7,cD]
 refine(av (oI (b:=decide (h<gu.2+s.young)) (by simp[p2,hG,p6,p5]) (by have:=dh (dJ o.jB h) "astray";have:=dh (decide (o.most<a)) "most";have:=dh (decide (a<1)||decide (¬a%s.part=0)) "part";have:=dh (s.aO.any dZ&&(wgt o.aY h ws none).isNone) "weight";simp only[Gax,Gcu];omega))).trans ?_
 have cm:=E9 (K:=[]++kk (dJ o.jB h) "astray"++kk (decide (o.most<a)) "most"++kk (decide (a<1)||decide (¬a%s.part=0)) "part"++kk (s.aO.any dZ&&(wgt o.aY h ws none).isNone) "weight"++kk (decide (h<gu.2+s.young)) "young") (n:=n) (h:=h)
 have hK:[]++kk (dJ o.jB h) "astray"++kk (decide (o.most<a)) "most"++kk (decide (a<1)||decide (¬a%s.part=0)) "part"++kk (s.aO.any dZ&&(wgt o.aY h ws none).isNone) "weight"++kk (decide (h<gu.2+s.young)) "young"=mf o s gu.2 ws (n,h,a):=by
  unfold mf
  rw[List.nil_append]
 have hlen:([]++kk (dJ o.jB h) "astray"++kk (decide (o.most<a)) "most"++kk (decide (a<1)||decide (¬a%s.part=0)) "part"++kk (s.aO.any dZ&&(wgt o.aY h ws none).isNone) "weight"++kk (decide (h<gu.2+s.young)) "young").length≤5:=by
  have:=dh (dJ o.jB h) "astray";have:=dh (decide (o.most<a)) "most";have:=dh (decide (a<1)||decide (¬a%s.part=0)) "part";have:=dh (s.aO.any dZ&&(wgt o.aY h ws none).isNone) "weight";have:=dh (decide (h<gu.2+s.young)) "young"
  simp only[Gax,Gcu];omega
 rw[hK] at cm hlen⊢
 have fi:=gK ((mf o s gu.2 ws (n,h,a)).map λk=>(k,[n,h]))
 rw[GaM] at fi
 have fi' :aQ ((mf o s gu.2 ws (n,h,a)).map λk=>ay (k,[n,h]))=true:=fi
 generalize mf o s gu.2 ws (n,h,a)=KL at*
 have z:(KL.map D.str).length≤16777216:=by rw[Gad];omega
 generalize KL.map D.str=M at*
 generalize (KL.map λk=>ay (k,[n,h]))=R at*
 simp[-cE,ai,DL.compEnv,fY,cm,z,fi']
noncomputable def atT(o h:Int)(t:Tr):Bool:=decide (t.1=o∧t.2.1=h)
noncomputable def sk(ts:List Tr)(o h v:Int):List Tr:=if ts.any (atT o h) then ts.map (λt=>if atT o h t then(o,h,v) else t) else ts++[(o,h,v)]
noncomputable def Bu(ts:List Tr)(o h:Int):Int:=((ts.find? (atT o h)).map (·.2.2)).getD 0
theorem vJ(o h:Int)(t:Tr):decide (([Sum.inl t.1,Sum.inl t.2.1]:List Key)=[Sum.inl o,Sum.inl h])=atT o h t:=by
 unfold atT
 rw[decide_eq_decide]
 simp
theorem nW(ts:List Tr)(o h v:Int):DL.put (kvT ts) [Sum.inl o,Sum.inl h] (.int v)=kvT (sk ts o h v):=by
 unfold DL.put sk kvT
 have e:((ts.map λt=>(([Sum.inl t.1,Sum.inl t.2.1]:List Key),D.int t.2.2)).any λkv=>decide (kv.1=[Sum.inl o,Sum.inl h]))=ts.any (atT o h):=by
  rw[List.any_map]
  congr 1
  funext t
  exact vJ o h t
 rw[e]
 cases ts.any (atT o h) with
 |true=>
  simp only[Gbq]
  rw[GaM,GaM]
  refine GaI λt _=> ?_
  simp only[Function.comp]
  have k:=vJ o h t
  by_cases c:t.1=o∧t.2.1=h
  ·have e1:([Sum.inl t.1,Sum.inl t.2.1]:List Key)=[Sum.inl o,Sum.inl h]:=by rw[c.1,c.2]
   have e2:atT o h t=true:=GaL c
   rw[Gag e1,Gag e2,c.1,c.2]
  ·have e1:¬([Sum.inl t.1,Sum.inl t.2.1]:List Key)=[Sum.inl o,Sum.inl h]:=λz=>by simp at z;exact c z
   have e2:¬atT o h t=true:=λz=>c (GaD z)
   rw[Gaj e1,Gaj e2]
 |false=>simp
theorem Ai(ts:List Tr)(o h:Int):look (kvT ts) [Sum.inl o,Sum.inl h]=(ts.find? (atT o h)).map λt=>D.int t.2.2:=by
 unfold look kvT
 rw[List.find?_map]
 have e:((λkv:List Key×D=>decide (kv.1=[Sum.inl o,Sum.inl h]))∘λt:Tr=>(([Sum.inl t.1,Sum.inl t.2.1]:List Key),D.int t.2.2))=atT o h:=by
  funext t
  exact vJ o h t
 rw[e]
 cases ts.find? (atT o h)<;>rfl
theorem oJ(ts:List Tr)(o h v:Int):(sk ts o h v).length≤ts.length+1:=by
 unfold sk
 split<;>simp
noncomputable def twU(ts:List Tr)(n:Int):Option Int→List Tr
 |some k=>sk ts n k (Bu ts n k+1)
 |none=>ts
noncomputable def cF(os:List Order)(ts:List Tr)(g:Tr):List Tr:=twU ts g.1 ((os[g.1.toNat]?).bind λo=>si o.jB g.2.1)
theorem Cu(ts:List Tr)(n:Int)(u:Option Int):(twU ts n u).length≤ts.length+1:=by
 cases u with
 |none=>exact GcZ _
 |some k=>exact oJ _ _ _ _
theorem L7{ts:List Tr}{o k:Int}{e0 e1 e3:Option Slot}{n h a:Int}:HF (vE 2) (bM (a5 (ixE (vE 3) (kE (.int 0))) (a5 (vE 4) aq))) (kE (.int 0)) [e0,e1,some (.own (.dT (kvT ts))),some (.sh (.tup [.int o,.int h,.int a])),some (.sh (.int k))]=some ⟨.c,.int (Bu ts o k)⟩:=by
 have l:=Ai ts o k
 unfold Bu
 generalize kvT ts=kv at*
 cases hf:ts.find? (atT o k) with
 |none=>
  rw[hf] at l
  simp at l
  simp[l,keyOf,ai]
 |some t=>
  rw[hf] at l
  simp at l
  simp[l,keyOf,ai]
theorem Nq{ts:List Tr}{n h a k:Int}{OD:D}{u:Option Int}{A B C O G:List D}{x4:Option Slot}(hO:atD O n=some OD)(im:OD.imm=true)(ed:jk [OD,.int h]=some (fL u))(hz:(kvT ts).length<1000):
  bZ [some (.sh (.tup [.tup A,.tup B,.tup C,.tup O])),some (.sh (.tup G)),some (.own (.dT (kvT ts))),some (.sh (.tup [.int n,.int h,.int a])),x4]=
   some (.nx [some (.sh (.tup [.tup A,.tup B,.tup C,.tup O])),some (.sh (.tup G)),some (.own (.dT (kvT (twU ts n u)))),some (.sh (.tup [.int n,.int h,.int a])),some (.sh (fL u))]):=by
 have z:(kvT ts).length<16777216:=by omega
 have ru:=c0 (gz u)
 unfold bZ
 refine(av (e:=[some (.sh (.tup [.tup A,.tup B,.tup C,.tup O])),some (.sh (.tup G)),some (.own (.dT (kvT ts))),some (.sh (.tup [.int n,.int h,.int a])),some (.sh (fL u))]) (by simp[hO,ed,ru])).trans ?_
 cases u with
 |none=>simp[iE,cD,twU]
 |some k=>
  have g:=L7 (ts:=ts) (o:=n) (k:=k) (e0:=some (.sh (.tup [.tup A,.tup B,.tup C,.tup O]))) (e1:=some (.sh (.tup G))) (e3:=none) (n:=0) (h:=h) (a:=a)
  have p:=nW ts n k (Bu ts n k+1)
  rw[DZ]
  refine(KU (by simp[iE,cD])).trans ?_
  unfold twU
  rw[←p]
  generalize Bu ts n k=gv at*
  generalize kvT ts=kv at*
  unfold t9 opE
  rw[g]
  simp[putD,keyOf,z,ai]
theorem Cv{w:World}(W:bJ w){A B C G:List D}:∀(gv:List Tr) (ts:List Tr) (x3 x4:Option Slot),fW w.orders.length gv→ts.length+gv.length<1000→∃y3 y4,forL (gN 3) bZ (gv.map trD) [some (.sh (.tup [.tup A,.tup B,.tup C,.tup (w.orders.map aF)])),some (.sh (.tup G)),some (.own (.dT (kvT ts))),x3,x4]=
  some (.nx [some (.sh (.tup [.tup A,.tup B,.tup C,.tup (w.orders.map aF)])),some (.sh (.tup G)),some (.own (.dT (kvT (gv.foldl (cF w.orders) ts)))),y3,y4])
 |[],ts,x3,x4,_,_=> ⟨x3,x4,by simp⟩
 |g::gv,ts,x3,x4,hg,hl=>by
  have g0:=hg g Gam
  obtain⟨n,hn⟩:=GaG g0.1
  have hn' :n<w.orders.length:=by omega
  have hO:atD (w.orders.map aF) g.1=some (aF w.orders[n]):=by
   rw[hn,cW,Gah,Gaa hn'];rfl
  have ok:=W.oo w.orders[n] (GaC hn')
  have ed:=qj (h:=g.2.1) ok.du
  have hz:(kvT ts).length<1000:=by unfold kvT;rw[Gad];simp at hl;omega
  have ev:=Nq (A:=A) (B:=B) (C:=C) (G:=G) (ts:=ts) (n:=g.1) (h:=g.2.1) (a:=g.2.2) (k:=0) (x4:=x4) hO (ip _ ok.ti) ed hz
  have es:twU ts g.1 (si w.orders[n].jB g.2.1)=cF w.orders ts g:=by
   unfold cF
   rw[hn,GaY,Gaa hn']
   rfl
  rw[es] at ev
  have ln:(cF w.orders ts g).length≤ts.length+1:=by
   rw[←es]
   exact Cu _ _ _
  obtain⟨y3,y4,e⟩:=Cv W (A:=A) (B:=B) (C:=C) (G:=G) gv (cF w.orders ts g) (some (.sh (trD g))) (some (.sh (fL (si w.orders[n].jB g.2.1)))) (λt ht=>hg t (Gai _ ht)) (by simp at hl;omega)
  refine⟨y3,y4, ?_⟩
  rw[Gar,GbH]
  have ev' :bZ [some (.sh (.tup [.tup A,.tup B,.tup C,.tup (w.orders.map aF)])),some (.sh (.tup G)),some (.own (.dT (kvT ts))),some (.sh (trD g)),x4]=_:=ev
  have td:D.tup [.int g.1,.int g.2.1,.int g.2.2]=trD g:=rfl
  rw[td] at ev'
  generalize trD g=d at*
  simp only[forL,gN,GaR,GaS,Option.bind_some,ev']
  exact e
noncomputable def twF(ts:List Tr):List Flt:=(ts.filter λt=>decide (1<t.2.2)).map λt=>("twice",[t.1,t.2.1])
theorem IP(ts:List Tr):cE (gT [0,1]) (aZ gtB (vE 1) (kE (.int 1))) (bM (a5 (kE (.str "twice")) (a5 (ixE (vE 0) (kE (.int 0))) (a5 (ixE (vE 0) (kE (.int 1))) aq)))) (bN (kvT ts)) [none,none]=some ((twF ts).map ay):=by
 rw[kh]
 unfold twF
 rw[GaM]
 refine mR (g:=gT [0,1]) (λt:Tr=>D.tup [.tup [.int t.1,.int t.2.1],.int t.2.2]) (λenv=>∃y z,env=[y,z]) (λt=>decide (1<t.2.2)) (ay∘λt:Tr=>("twice",[t.1,t.2.1])) ts _ ⟨none,none,rfl⟩ ?_
 rintro t ht env ⟨y,z,rfl⟩
 refine⟨[some (.sh (.tup [.int t.1,.int t.2.1])),some (.sh (.int t.2.2))],by simp,⟨_,_,rfl⟩,by simp,λ_=> ⟨.c, ?_,rfl⟩⟩
 simp[ai,ay]
theorem L8{wd:D}{G R:List D}{kv:List (List Key×D)}{y3 y4:Option Slot}(h1:forL (gN 3) bZ G [some (.sh wd),some (.sh (.tup G)),some (.own (.dT [])),none,none]=some (.nx [some (.sh wd),some (.sh (.tup G)),some (.own (.dT kv)),y3,y4]))(hz:(bN kv).length≤16777216)
  (hc:cE (gT [0,1]) (aZ gtB (vE 1) (kE (.int 1))) (bM (a5 (kE (.str "twice")) (a5 (ixE (vE 0) (kE (.int 0))) (a5 (ixE (vE 0) (kE (.int 1))) aq)))) (bN kv) [none,none]=some R)(im:aQ R=true):dS [wd,.tup G]=some (.lst R):=by
 refine bg rfl ?_
 unfold gq
 refine(av (e:=[some (.sh wd),some (.sh (.tup G)),some (.own (.dT [])),none,none]) (by simp[bz])).trans ?_
 refine(av (e:=[some (.sh wd),some (.sh (.tup G)),some (.own (.dT kv)),y3,y4]) (by simp[-forL,h1])).trans ?_
 simp[-cE,ai,DL.compEnv,fY,hz,hc,im]
theorem IQ{w:World}{gv:List Tr}(W:bJ w)(hg:fW w.orders.length gv)(hl:gv.length<64):dS [bA w,.tup (gv.map trD)]=some (.lst ((twF (gv.foldl (cF w.orders) [])).map ay))∧(gv.foldl (cF w.orders) []).length<64:=by
 have ln:∀(gv ts:List Tr),(gv.foldl (cF w.orders) ts).length≤ts.length+gv.length:=by
  intro gv
  induction gv with
  |nil=>intro ts;simp
  |cons g gv ih=>
   intro ts
   rw[GbH]
   have h1:=ih (cF w.orders ts g)
   have h2:(cF w.orders ts g).length≤ts.length+1:=by
    exact Cu _ _ _
   rw[GaB]
   omega
 have l2:=ln gv []
 simp only[Gcu,GcB] at l2
 obtain⟨y3,y4,e⟩:=Cv W (A:=w.cn.map cQ) (B:=w.aB.map b6) (C:=w.cU.map trD) (G:=gv.map trD) gv [] none none hg (by simp;omega)
 have hz:(bN (kvT (gv.foldl (cF w.orders) []))).length≤16777216:=by rw[kh,Gad];omega
 exact⟨L8 e hz (IP _) (gK _),by omega⟩
noncomputable def bS(ts:List Tr)(b:Tr):List Tr:=sk (sk ts b.1 b.2.1 b.2.2) b.2.1 b.1 b.2.2
theorem L9{ts:List Tr}{b:Tr}{B:List D}(hz:ts.length<1000):cX [some (.sh (.tup B)),some (.own (.dT (kvT ts))),some (.sh (trD b))]=some (.nx [some (.sh (.tup B)),some (.own (.dT (kvT (bS ts b)))),some (.sh (trD b))]):=by
 obtain⟨x,y,v⟩:=b
 have p1:=nW ts x y v
 have p2:=nW (sk ts x y v) y x v
 have l1:=oJ ts x y v
 have z1:(kvT ts).length<16777216:=by unfold kvT;rw[Gad];omega
 have z2:(kvT (sk ts x y v)).length<16777216:=by unfold kvT;rw[Gad];omega
 unfold cX bS trD
 dsimp only
 rw[←p2]
 generalize hk:kvT (sk ts x y v)=k1 at*
 generalize kvT ts=k0 at*
 refine(av (e:=[some (.sh (.tup B)),some (.own (.dT k1)),some (.sh (.tup [.int x,.int y,.int v]))]) (by simp[putD,keyOf,z1,ai,p1])).trans ?_
 simp[putD,keyOf,z2,ai]
theorem Aj{B:List D}:∀(bs ts:List Tr) (x2:Option Slot),ts.length+2*bs.length<1000→∃y2,forL (gN 2) cX (bs.map trD) [some (.sh (.tup B)),some (.own (.dT (kvT ts))),x2]=some (.nx [some (.sh (.tup B)),some (.own (.dT (kvT (bs.foldl bS ts)))),y2])
 |[],ts,x2,_=> ⟨x2,by simp⟩
 |b::bs,ts,x2,hl=>by
  rw[GaB] at hl
  have ev:=L9 (ts:=ts) (b:=b) (B:=B) (by omega)
  have l1:(bS ts b).length≤ts.length+2:=by
   unfold bS
   have:=oJ ts b.1 b.2.1 b.2.2
   have:=oJ (sk ts b.1 b.2.1 b.2.2) b.2.1 b.1 b.2.2
   omega
  obtain⟨y2,e⟩:=Aj (B:=B) bs (bS ts b) (some (.sh (trD b))) (by omega)
  refine⟨y2, ?_⟩
  rw[Gar,GbH]
  generalize trD b=d at*
  simp only[forL,gN,GaR,GaS,Option.bind_some,ev]
  exact e
theorem IS(ts:List Tr):aQ ((kvT ts).map λx=>x.snd)=true:=by
 unfold kvT
 rw[GaM]
 exact gy (λ_=>rfl) ts
theorem La{bs:List Tr}(hl:bs.length≤12):fg [.tup (bs.map trD)]=some (.dT (kvT (bs.foldl bS []))):=by
 obtain⟨y2,e⟩:=Aj (B:=bs.map trD) bs [] none (by simp;omega)
 refine bg rfl ?_
 unfold ff
 refine(av (e:=[some (.sh (.tup (bs.map trD))),some (.own (.dT (kvT []))),none]) (by simp[bz,kvT])).trans ?_
 have im:=IS (bs.foldl bS [])
 generalize bs.map trD=B at*
 generalize kvT (bs.foldl bS [])=kv at*
 refine(av (e:=[some (.sh (.tup B)),some (.own (.dT kv)),y2]) (by simp[-forL,e])).trans ?_
 simp[im]
noncomputable def IT(gs:List Tr)(a b:Order):Int:=if a.aY=b.aY then Bu gs a.br b.br else 0
theorem pP{gs:List Tr}{a b:Order}:gQ [.dT (kvT gs),aF a,aF b]=some (.int (IT gs a b)):=by
 have l:=Ai gs a.br b.br
 refine bg rfl ?_
 unfold gP IT Bu
 have a1:ixD (aF a) (.int 1)=some (.int a.aY):=rfl
 have a2:ixD (aF a) (.int 2)=some (.int a.br):=rfl
 have b1:ixD (aF b) (.int 1)=some (.int b.aY):=rfl
 have b2:ixD (aF b) (.int 2)=some (.int b.br):=rfl
 generalize aF a=A at*
 generalize aF b=B at*
 generalize kvT gs=kv at*
 by_cases c:a.aY=b.aY
 ·rw[Gag c]
  refine(av (e:=[some (.sh (.dT kv)),some (.sh A),some (.sh B)]) (by simp[bz,a1,b1,c,neB])).trans ?_
  cases hf:gs.find? (atT a.br b.br) with
  |none=>rw[hf] at l;simp at l;simp[a2,b2,l,keyOf,ai]
  |some t=>rw[hf] at l;simp at l;simp[a2,b2,l,keyOf,ai]
 ·rw[Gaj c]
  refine Cq ?_
  simp[bz,a1,b1,c,neB]
noncomputable def mk2(p:Int×Int):D:= .tup [.int p.1,.int p.2]
noncomputable def un2:D→Int×Int
 | .tup [.int a,.int b]=>(a,b)
 |_=>(0,0)
theorem Nr(p:Int×Int):un2 (mk2 p)=p:=rfl
theorem Cw(l:List (Int×Int)):aQ (l.map mk2)=true:=by
 induction l with
 |nil=>rfl
 |cons a l ih=>simp[mk2] at ih⊢;exact ih
theorem Gf(l:List (Int×Int)):keysOk (l.map mk2)=true:=by
 have h1:(l.map mk2).all (mV 1)=true:=by
  rw[Gbz,Gas]
  intro p _
  simp[mk2,mV,tyD,mU]
 have h2:((l.map mk2).all λx=>(l.map mk2).all λy=>wH x y)=true:=by
  rw[Gbz,Gas]
  intro p _
  simp only[GcK]
  rw[Gbz,Gas]
  intro q _
  simp[mk2,wH,mY,tyD,b7]
 unfold keysOk
 rw[h1,h2];simp
theorem Lb{p q:Int×Int}(h:p.1<q.1):ltC (DL.code (mk2 p)) (DL.code (mk2 q))=true:=by
 have e:¬p.1=q.1:=by omega
 simp[mk2,DL.code,b7,ltC,g8,ltI,e,h]
theorem Ak(ms:List (Int×Int)):∃rows:List (Int×Int),cS (ms.map mk2)=rows.map mk2∧rows.Perm ms∧rows.Pairwise λa b=>a.1≤b.1:=by
 have hp:=fO (ms.map mk2)
 have hs:=g9 (ms.map mk2)
 have all:∀x∈cS (ms.map mk2),∃p,x=mk2 p:=λx hx=>by
  obtain⟨p,_,e⟩:=GaE.mp (hp.mem_iff.mp hx)
  exact⟨p,e.symm⟩
 have e:cS (ms.map mk2)=((cS (ms.map mk2)).map un2).map mk2:=by
  rw[GaM]
  conv=>lhs;rw[←Gcm (cS (ms.map mk2))]
  apply GaI
  intro x hx
  obtain⟨p,rfl⟩:=all x hx
  rfl
 refine⟨(cS (ms.map mk2)).map un2,e, ?_, ?_⟩
 ·have:=Gdd un2 hp
  rw[GaM] at this
  have e2:ms.map (un2∘mk2)=ms:=by
   conv=>rhs;rw[←Gcm ms]
   exact GaI λp _=>Nr p
  rw[e2] at this
  exact this
 ·rw[e] at hs
  unfold fM at hs
  rw[GcY] at hs
  refine hs.imp λ{a b} h=> ?_
  by_cases c:b.1<a.1
  ·rw[Lb c] at h;cases h
  ·omega
noncomputable def sm(f:Nat→Int):Nat→Int
 |0=>0
 |n+1=>sm f n+f n
theorem Cy{α:Type}(w:α→Int)(d:α)(l:List α):∀k,k≤l.length→sm (λi=>w (l[i]?.getD d)) k=((l.take k).map w).sum
 |0,_=>by simp[sm]
 |k+1,h=>by
  rw[sm,Cy w d l k (by omega),Gdf (by omega),GaN,List.sum_append]
  simp[show k<l.length by omega]
theorem Gg{f a:Nat→Int}{g k:Nat}(hgk:g≤k+1)(h1:∀i,i<g→f i=0)(h2:∀i,g≤i→i≤k→f i=a i)(h3:∀i,k<i→f i=0):∀n,sm f n=if n≤g then 0 else if n≤k+1 then sm a n -sm a g else sm a (k+1)-sm a g
 |0=>by simp[sm]
 |n+1=>by
  rw[sm,Gg hgk h1 h2 h3 n]
  by_cases c1:n+1≤g
  ·rw[Gag (by omega),Gag c1,h1 n (by omega)];rfl
  ·rw[Gaj c1]
   by_cases c2:n+1≤k+1
   ·rw[Gag c2,h2 n (by omega) (by omega)]
    by_cases c3:n≤g
    ·have e:n=g:=by omega
     subst e
     rw[Gag c3,sm];omega
    ·rw[Gaj c3,Gag (by omega),sm];omega
   ·rw[Gaj c2,h3 n (by omega)]
    by_cases c3:n≤g
    ·have e:n=k+1:=by omega
     have e2:g=k+1:=by omega
     rw[Gag c3,e2];omega
    ·rw[Gaj c3]
     by_cases c4:n≤k+1
     ·have e:n=k+1:=by omega
      rw[Gag c4,e];omega
     ·rw[Gaj c4];omega
section
variable(rows:List (Int×Int))(H:Int)
noncomputable def hr(i:Nat):Int:=(rows[i]?.getD (0,0)).1
noncomputable def am(i:Nat):Int:=(rows[i]?.getD (0,0)).2
noncomputable def wt(H h:Int)(p:Int×Int):Int:=if h -H<p.1∧p.1≤h then p.2 else 0
noncomputable def W(h:Int):Int:=(rows.map (wt H h)).sum
end
variable{rows:List (Int×Int)}{H:Int}
theorem uz(hs:rows.Pairwise λa b=>a.1≤b.1){i j:Nat}(h:i≤j)(hj:j<rows.length):hr rows i≤hr rows j:=by
 unfold hr
 have hi:i<rows.length:=by omega
 simp only[Gaa hi,Gaa hj,Option.getD_some]
 rcases Nat.eq_or_lt_of_le h with e|e
 ·subst e;exact GbO _
 ·exact Gck.mp hs i j hi hj e
theorem Nt(hs:rows.Pairwise λa b=>a.1≤b.1){g k:Nat}(hk:k<rows.length)(hgk:g≤k)(h1:∀i,i<g→hr rows i≤hr rows k -H)(h2:hr rows k -H<hr rows g)(h3:k+1=rows.length∨hr rows k<hr rows (k+1)):
  W rows H (hr rows k)=sm (am rows) (k+1)-sm (am rows) g:=by
 have e:=Cy (wt H (hr rows k)) (0,0) rows rows.length (Gaq _)
 rw[List.take_length] at e
 unfold W
 rw[←e]
 have cut:=Gg (f:=λi=>if i<rows.length then wt H (hr rows k) (rows[i]?.getD (0,0)) else 0) (a:=am rows) (g:=g) (k:=k) (by omega)
  (λi hi=>by
   show(if i<rows.length then wt H (hr rows k) (rows[i]?.getD (0,0)) else 0)=_
   rw[Gag (by omega)]
   unfold wt
   have:=h1 i hi
   unfold hr at this⊢
   rw[Gaj (by omega)])
  (λi i1 i2=>by
   show(if i<rows.length then wt H (hr rows k) (rows[i]?.getD (0,0)) else 0)=_
   rw[Gag (by omega)]
   unfold wt
   have a1:=uz hs i1 (by omega)
   have a2:=uz hs i2 hk
   unfold hr at a1 a2 h2⊢
   rw[Gag ⟨by omega,a2⟩];rfl)
  (λi hi=>by
   show(if i<rows.length then wt H (hr rows k) (rows[i]?.getD (0,0)) else 0)=_
   split
   ·rename_i hl
    have a1:hr rows (k+1)≤hr rows i:=uz hs (by omega) hl
    rcases h3 with h3|h3
    ·omega
    ·unfold wt
     unfold hr at a1 h3⊢
     rw[Gaj (by omega)]
   ·rfl) rows.length
 rw[Gaj (by omega)] at cut
 have same:∀n,n≤rows.length→sm (λi=>if i<rows.length then wt H (hr rows k) (rows[i]?.getD (0,0)) else 0) n=sm (λi=>wt H (hr rows k) (rows[i]?.getD (0,0))) n:=by
  intro n
  induction n with
  |zero=>intro _;rfl
  |succ n ih=>intro hn;rw[sm,sm,ih (by omega),Gag (by omega)]
 rw[←same _ (Gaq _),cut]
 split
 ·have e2:rows.length=k+1:=by omega
  rw[e2]
 ·rfl
noncomputable def pQ(ms:D)(H:Int)(R:List D)(F:List D)(total gone k:Int)(row:D):DL.Env:=[some (.sh ms),some (.sh (.int H)),some (.lok (.lst R)),some (.own (.lst F)),some (.sh (.int total)),some (.sh (.int gone)),some (.sh (.int k)),some (.sh row)]
theorem sr{g:Nat}(hg:g<rows.length):atD (rows.map mk2) (g:Int)=some (.tup [.int (hr rows g),.int (am rows g)]):=by
 rw[cW,Gah,Gaa hg]
 unfold hr am
 simp[mk2,hg]
theorem Cz{ms:D}{R F:List D}{total gone k h a h' a' :Int}(e:atD R gone=some (.tup [.int h',.int a'])):fV (pQ ms H R F total gone k (.tup [.int h,.int a]))=some (decide (h' ≤h -H)):=by
 unfold fV pQ
 simp[e]
theorem IU{ms:D}{R F:List D}{total gone k h a h' a' :Int}(e:atD R gone=some (.tup [.int h',.int a'])):j8 (pQ ms H R F total gone k (.tup [.int h,.int a]))=some (.nx (pQ ms H R F (total -a') (gone+1) k (.tup [.int h,.int a]))):=by
 unfold j8 pQ
 simp[e]
theorem Gh{ms:D}{F:List D}{k:Nat}{kk a:Int}(hH:1≤H)(hk:k<rows.length):∀(m gone fuel:Nat) (total:Int),k -gone=m→gone≤k→m<fuel→∃g,gone≤g∧g≤k∧(∀i,gone≤i→i<g→hr rows i≤hr rows k -H)∧hr rows k -H<hr rows g∧
  iq fV j8 fuel (pQ ms H (rows.map mk2) F total gone kk (.tup [.int (hr rows k),.int a]))=some (.nx (pQ ms H (rows.map mk2) F (total -(sm (am rows) g -sm (am rows) gone)) g kk (.tup [.int (hr rows k),.int a]))):=by
 intro m
 induction m with
 |zero=>
  intro gone fuel total hm hg hf
  have e:gone=k:=by omega
  subst e
  obtain⟨f,rfl⟩:∃f,fuel=f+1:=⟨fuel -1,by omega⟩
  refine⟨gone,Gaq _,Gaq _,λi h1 h2=>by omega,by omega, ?_⟩
  unfold iq
  rw[Cz (sr hk)]
  have c:¬hr rows gone≤hr rows gone -H:=by omega
  simp[c]
 |succ m ih=>
  intro gone fuel total hm hg hf
  obtain⟨f,rfl⟩:∃f,fuel=f+1:=⟨fuel -1,by omega⟩
  have hgl:gone<rows.length:=by omega
  unfold iq
  rw[Cz (sr hgl)]
  by_cases c:hr rows gone≤hr rows k -H
  ·obtain⟨g,q1,q2,q3,q4,q5⟩:=ih (gone+1) f (total -am rows gone) (by omega) (by omega) (by omega)
   refine⟨g,by omega,q2,λi h1 h2=> ?_,q4, ?_⟩
   ·rcases Nat.eq_or_lt_of_le h1 with e|e
    ·subst e;exact c
    ·exact q3 i e h2
   ·simp only[c,decide_true,Option.bind_some,Gbq]
    rw[IU (sr hgl)]
    simp only[Option.bind_some]
    have e1:((gone:Int)+1)=((gone+1:Nat):Int):=by omega
    rw[e1,q5,sm]
    have e2:total -am rows gone -(sm (am rows) g -(sm (am rows) gone+am rows gone))=total -(sm (am rows) g -sm (am rows) gone):=by omega
    rw[e2]
  ·refine⟨gone,Gaq _,hg,λi h1 h2=>by omega,by omega, ?_⟩
   simp[c]
noncomputable def gA(rows:List (Int×Int))(j:Nat):Bool:=decide (j+1=rows.length)||decide (hr rows j<hr rows (j+1))
noncomputable def fnd(rows:List (Int×Int))(H:Int)(m:Nat):List (Int×Int):=((List.range m).filter (gA rows)).map λj=>(hr rows j,W rows H (hr rows j))
theorem Al{m:Nat}:fnd rows H (m+1)=fnd rows H m++(if gA rows m then[(hr rows m,W rows H (hr rows m))] else[]):=by
 unfold fnd
 rw[List.range_succ,Gcx,GaN]
 congr 1
 cases h:gA rows m<;>simp[h]
theorem CA{m:Nat}:(fnd rows H m).length≤m:=by
 unfold fnd
 rw[Gad]
 exact Gbw (GcG _ _) (by simp)
theorem IV{ms:D}{R F:List D}{total gone kk h a total' g' n:Int}{last:Bool}(hw:iq fV j8 100000 (pQ ms H R F (total+a) gone kk (.tup [.int h,.int a]))=some (.nx (pQ ms H R F total' g' kk (.tup [.int h,.int a]))))(hz:F.length<1000)(hn:(R.length:Int)=n)
  (hc:(kk+1=n∧last=true)∨(kk+1≠n∧∃h2 a2,atD R (kk+1)=some (.tup [.int h2,.int a2])∧last=decide (h<h2))):
  cZ (pQ ms H R F total gone kk (.tup [.int h,.int a]))=some (.nx (pQ ms H R (if last then F++[.tup [.int h,.int total']] else F) total' g' kk (.tup [.int h,.int a]))):=by
 have z:F.length<16777216:=by omega
 unfold pQ at*
 unfold cZ uY
 rcases hc with⟨c,rfl⟩| ⟨c,h2,a2,e,rfl⟩
 ·simp[hw,hn,c,ai,z]
 ·by_cases c2:h<h2
  ·simp[hw,hn,c,e,c2,ai,z]
  ·simp[hw,hn,c,e,c2]
theorem Gi{ms:D}(hH:1≤H)(hs:rows.Pairwise λa b=>a.1≤b.1)(hl:rows.length<64):∃(y4 y5 y6 y7:Option Slot),forL (gT [6,7]) cZ (fB 0 (rows.map mk2)) [some (.sh ms),some (.sh (.int H)),some (.lok (.lst (rows.map mk2))),some (.own (.lst [])),some (.sh (.int 0)),some (.sh (.int 0)),none,none]=
  some (.nx [some (.sh ms),some (.sh (.int H)),some (.lok (.lst (rows.map mk2))),some (.own (.lst ((fnd rows H rows.length).map mk2))),y4,y5,y6,y7]):=by
 obtain⟨e,h1,gone,total,y6,y7,h2,h3,h4,rfl⟩:=gx (g:=gT [6,7]) (body:=cZ) (λm env=>∃(gone:Nat) (total:Int) (y6 y7:Option Slot),gone≤m∧total=sm (am rows) m -sm (am rows) gone∧(∀i,i<gone→∀j,m≤j+1→j<rows.length→hr rows i≤hr rows j -H)∧
   env=[some (.sh ms),some (.sh (.int H)),some (.lok (.lst (rows.map mk2))),some (.own (.lst ((fnd rows H m).map mk2))),some (.sh (.int total)),some (.sh (.int gone)),y6,y7]) (fB 0 (rows.map mk2)) 0
  [some (.sh ms),some (.sh (.int H)),some (.lok (.lst (rows.map mk2))),some (.own (.lst [])),some (.sh (.int 0)),some (.sh (.int 0)),none,none] ⟨0,0,none,none,Gaq _,by simp[sm],λi hi=>by omega,rfl⟩ (by
   rintro k d e hd ⟨gone,total,y6,y7,h2,h3,h4,rfl⟩
   rw[k9,Gah] at hd
   cases hk:rows[k]? with
   |none=>rw[hk] at hd;cases hd
   |some p=>
    rw[hk] at hd
    have hkl:k<rows.length:=(Gae.mp hk).1
    simp only[Gcc,Gch] at hd
    subst hd
    rw[GcB] at h2 h3 h4⊢
    have ep:mk2 p= .tup [.int (hr rows k),.int (am rows k)]:=by
     unfold mk2 hr am;rw[hk];rfl
    obtain⟨g,q1,q2,q3,q4,q5⟩:=Gh (rows:=rows) (ms:=ms) (F:=(fnd rows H k).map mk2) (kk:=(k:Int)) (a:=am rows k) hH hkl (k -gone) gone 100000 (total+am rows k) rfl h2 (by omega)
    have allg:∀i,i<g→hr rows i≤hr rows k -H:=λi hi=>by
     by_cases c:i<gone
     ·exact h4 i c k (by omega) hkl
     ·exact q3 i (by omega) hi
    have tot:total+am rows k -(sm (am rows) g -sm (am rows) gone)=sm (am rows) (k+1)-sm (am rows) g:=by
     rw[h3,sm];omega
    rw[tot] at q5
    have hlen:((rows.map mk2).length:Int)=(rows.length:Int):=by simp
    have ev:=IV (last:=gA rows k) q5 (GcO (by rw[Gad];exact CA) (by omega)) hlen (by
     by_cases c:k+1=rows.length
     ·exact .inl ⟨by omega,by unfold gA;simp[c]⟩
     ·refine .inr ⟨by omega,hr rows (k+1),am rows (k+1), ?_,by unfold gA;simp[c]⟩
      have:=sr (rows:=rows) (g:=k+1) (by omega)
      rw[show((k:Int)+1)=((k+1:Nat):Int) by omega]
      exact this)
    refine⟨_,_, ?_,ev,g,_,some (.sh (.int (k:Int))),some (.sh (.tup [.int (hr rows k),.int (am rows k)])),by omega,rfl,λi hi j hj hjl=> ?_, ?_⟩
    ·rw[ep];rfl
    ·have:=allg i hi
     have:=uz hs (i:=k) (j:=j) (by omega) hjl
     omega
    ·rw[Al]
     unfold pQ
     cases hL:gA rows k with
     |false=>simp
     |true=>
      have hw:=Nt (H:=H) hs hkl q2 allg q4 (by
       unfold gA at hL
       rw[GaW] at hL
       exact hL.imp GaD GaD)
      simp[mk2,hw])
 rw[k8,Gad,GcB] at h1
 exact⟨_,_,_,_,h1⟩
theorem su{ms:List (Int×Int)}(hl:ms.length<64):sortedS [.lst (ms.map mk2)]=some ⟨.tn,.lst (cS (ms.map mk2))⟩:=by
 have h1:((ms.map mk2).length<64):=by simpa using hl
 unfold sortedS one mX
 simp only[Option.bind_some]
 rw[Gf,GaL h1];rfl
theorem Gj{M R F:List D}{y4 y5 y6 y7:Option Slot}(es:sortedS [.lst M]=some ⟨.tn,.lst R⟩)(h1:forL (gT [6,7]) cZ (fB 0 R) [some (.sh (.lst M)),some (.sh (.int H)),some (.lok (.lst R)),some (.own (.lst [])),some (.sh (.int 0)),some (.sh (.int 0)),none,none]=
  some (.nx [some (.sh (.lst M)),some (.sh (.int H)),some (.lok (.lst R)),some (.own (.lst F)),y4,y5,y6,y7]))(im:aQ F=true):k4 [.lst M,.int H]=some (.lst F):=by
 unfold k4 rY
 simp[-forL,-fB,es,h1,ai,im]
theorem n9:∀(a b:List Int),a.Pairwise (λx y=>x<y)→b.Pairwise (λx y=>x<y)→(∀x,x∈a↔x∈b)→a=b
 |[],[],_,_,_=>rfl
 |[],y::b,_,_,h=>absurd ((h y).mpr Gam) (by simp)
 |x::a,[],_,_,h=>absurd ((h x).mp Gam) (by simp)
 |x::a,y::b,ha,hb,h=>by
  have ha' :=Gby.mp ha
  have hb' :=Gby.mp hb
  have exy:x=y:=by
   rcases Gaw.mp ((h x).mp Gam) with e|e
   ·exact e
   ·rcases Gaw.mp ((h y).mpr Gam) with e2|e2
    ·exact e2.symm
    ·have h3:=hb'.1 x e
     have h4:=ha'.1 y e2
     omega
  subst exy
  congr 1
  refine n9 a b ha'.2 hb'.2 λz=> ⟨λhz=> ?_,λhz=> ?_⟩
  ·rcases Gaw.mp ((h z).mp (Gai _ hz)) with e|e
   ·have:=ha'.1 z hz;omega
   ·exact e
  ·rcases Gaw.mp ((h z).mpr (Gai _ hz)) with e|e
   ·have:=hb'.1 z hz;omega
   ·exact e
theorem Gk:∀(ns ks:List Int) (x:Int),x∈ns.foldl dd1 ks↔x∈ks∨x∈ns
 |[],ks,x=>by simp
 |n::ns,ks,x=>by
  rw[GbH,Gk ns (dd1 ks n) x]
  unfold dd1
  split
  ·rename_i c
   constructor
   ·rintro(h|h)
    ·exact .inl h
    ·exact .inr (Gai _ h)
   ·rintro(h|h)
    ·exact .inl h
    ·rcases Gaw.mp h with rfl|h
     ·exact .inl c
     ·exact .inr h
  ·simp only[Gav,Gaw,GbV,Gdt]
   constructor
   ·rintro((h|h)|h)
    ·exact .inl h
    ·exact .inr (.inl h)
    ·exact .inr (.inr h)
   ·rintro(h|h|h)
    ·exact .inl (.inl h)
    ·exact .inl (.inr h)
    ·exact .inr h
theorem Am:∀(ns ks:List Int),ks.Nodup→(ns.foldl dd1 ks).Nodup
 |[],ks,h=>h
 |n::ns,ks,h=>by
  rw[GbH]
  refine Am ns _ ?_
  unfold dd1
  split
  ·exact h
  ·rename_i c
   rw[GbQ]
   refine⟨h,by simp,λa ha b hb=> ?_⟩
   rw[GbA] at hb
   subst hb
   exactλe=>c (e▸ha)
theorem Gm:∀(ns ks:List Int),(ns.foldl dd1 ks).length≤ks.length+ns.length
 |[],ks=>by simp
 |n::ns,ks=>by
  rw[GbH]
  have h:=Gm ns (dd1 ks n)
  have h2:(dd1 ks n).length≤ks.length+1:=by unfold dd1;split<;>simp
  rw[GaB]
  omega
theorem An{a b:Int}(h:a<b):ltC (DL.code (.int a)) (DL.code (.int b))=true:=by
 have e:¬a=b:=by omega
 simp[DL.code,b7,ltC,g8,ltI,e,h]
theorem Ea(l:List Int):∃s:List Int,s.Perm l∧s.Pairwise (λa b=>a≤b)∧cS (l.map D.int)=s.map D.int:=by
 have hp:=fO (l.map D.int)
 have hs:=g9 (l.map D.int)
 have all:∀{ds:List D},(∀d∈ds,∃i:Int,d= .int i)→∃s:List Int,ds=s.map D.int:=by
  intro ds
  induction ds with
  |nil=>exactλ_=> ⟨[],rfl⟩
  |cons d ds ih=>
   intro h
   obtain⟨i,rfl⟩:=h d Gam
   obtain⟨s,rfl⟩:=ih λx hx=>h x (Gai _ hx)
   exact⟨i::s,rfl⟩
 obtain⟨s,e⟩:=all (ds:=cS (l.map D.int)) λd hd=>by
  obtain⟨i,_,rfl⟩:=GaE.mp (hp.mem_iff.mp hd)
  exact⟨i,rfl⟩
 rw[e] at hp hs
 refine⟨s, ?_, ?_,e⟩
 ·have un:∀x:List Int,(x.map D.int).map (λd=>match d with| .int i=>i|_=>0)=x:=by
   intro x
   rw[GaM]
   exact(GaI λ_ _=>rfl).trans (Gcm x)
  have:=Gdd (λd=>match d with|D.int i=>i|_=>0) hp
  rw[un,un] at this
  exact this
 ·unfold fM at hs
  rw[GcY] at hs
  refine hs.imp λ{a b} h=> ?_
  by_cases c:b<a
  ·rw[An c] at h;cases h
  ·omega
theorem Gn(ns:List Int):∃S:List Int,cS ((ddF ns).map D.int)=S.map D.int∧S.Pairwise (λa b=>a<b)∧(∀x,x∈S↔x∈ns)∧S.length≤ns.length:=by
 obtain⟨s,h1,h2,h3⟩:=Ea (ddF ns)
 have nd:s.Nodup:=h1.nodup_iff.mpr (Am ns [] List.nodup_nil)
 have mem:∀x,x∈s↔x∈ns:=λx=>by rw[h1.mem_iff];unfold ddF;rw[Gk];simp
 refine⟨s,h3, ?_,mem, ?_⟩
 ·have:=h2.and nd
  exact this.imp λ{a b} h=>by
   have h1:=h.1
   have h2:a≠b:=h.2
   omega
 ·rw[h1.length_eq]
  have:=Gm ns []
  simpa[ddF] using this
noncomputable def Gp(ms:List (Int×Int))(H:Int)(S:List Int):List (Int×Int):=S.map λh=>(h,W ms H h)
theorem Gq{l l' :List Int}(h:l.Perm l'):l.sum=l'.sum:=by
 induction h with
 |nil=>rfl
 |cons x _ ih=>simp[ih]
 |swap x y l=>simp;omega
 |trans _ _ h1 h2=>exact h1.trans h2
theorem Lc{ms:List (Int×Int)}(hp:rows.Perm ms)(h:Int):W rows H h=W ms H h:=by
 unfold W
 exact Gq (Gdd _ hp)
theorem sv(hs:rows.Pairwise λa b=>a.1≤b.1):∀(m i:Nat),rows.length -i=m→i<rows.length→∃j,j<rows.length∧hr rows j=hr rows i∧gA rows j=true
 |0,i,hm,hi=>by omega
 |m+1,i,hm,hi=>by
  by_cases c:i+1=rows.length
  ·exact⟨i,hi,rfl,by unfold gA;simp[c]⟩
  ·by_cases c2:hr rows i<hr rows (i+1)
   ·exact⟨i,hi,rfl,by unfold gA;simp[c2]⟩
   ·obtain⟨j,h1,h2,h3⟩:=sv hs m (i+1) (by omega) (by omega)
    have:=uz hs (i:=i) (j:=i+1) (by omega) (by omega)
    exact⟨j,h1,by rw[h2];omega,h3⟩
theorem IW{ms:List (Int×Int)}{S:List Int}(hs:rows.Pairwise λa b=>a.1≤b.1)(hp:rows.Perm ms)(hS:S.Pairwise λa b=>a<b)(hm:∀x,x∈S↔x∈ms.map (·.1)):fnd rows H rows.length=Gp ms H S:=by
 have eT:((List.range rows.length).filter (gA rows)).map (hr rows)=S:=by
  refine n9 _ _ ?_ hS λx=> ?_
  ·rw[GcY]
   have pr:((List.range rows.length).filter (gA rows)).Pairwise λi j=>i<j:=List.Pairwise.filter _ List.pairwise_lt_range
   refine(List.Pairwise.and_mem.mp pr).imp λ{i j} h=> ?_
   obtain⟨hi,hj,hij⟩:=h
   obtain⟨i1,i2⟩:=GbP.mp hi
   obtain⟨j1,_⟩:=GbP.mp hj
   have jl:=GbM.mp j1
   unfold gA at i2
   rw[GaW] at i2
   rcases i2 with i2|i2
   ·have:=GaD i2;omega
   ·have a1:=GaD i2
    have a2:=uz hs (i:=i+1) (j:=j) (by omega) jl
    omega
  ·rw[hm,GaE,GaE]
   constructor
   ·rintro⟨j,hj,rfl⟩
    have jl:=GbM.mp (GbP.mp hj).1
    exact⟨rows[j],hp.mem_iff.mp (GaC _),by unfold hr;simp[jl]⟩
   ·rintro⟨p,hp',rfl⟩
    obtain⟨i,hi,rfl⟩:=Gdr (hp.mem_iff.mpr hp')
    obtain⟨j,h1,h2,h3⟩:=sv hs (rows.length -i) i rfl hi
    refine⟨j,GbP.mpr ⟨GbM.mpr h1,h3⟩, ?_⟩
    rw[h2]
    unfold hr
    simp[hi]
 unfold fnd Gp
 rw[←eT,GaM]
 exact GaI λj _=>by simp only[Function.comp];rw[Lc hp]
theorem Gr{ms:D}{R F:List D}{total kk h a n:Int}{last:Bool}(hz:F.length<1000)(hn:(R.length:Int)=n)
  (hc:(kk+1=n∧last=true)∨(kk+1≠n∧∃h2 a2,atD R (kk+1)=some (.tup [.int h2,.int a2])∧last=decide (h<h2))):
  cZ [some (.sh ms),some (.sh .non),some (.lok (.lst R)),some (.own (.lst F)),some (.sh (.int total)),some (.sh (.int 0)),some (.sh (.int kk)),some (.sh (.tup [.int h,.int a]))]=
   some (.nx [some (.sh ms),some (.sh .non),some (.lok (.lst R)),some (.own (.lst (if last then F++[.tup [.int h,.int (total+a)]] else F))),some (.sh (.int (total+a))),some (.sh (.int 0)),some (.sh (.int kk)),some (.sh (.tup [.int h,.int a]))]):=by
 have z:F.length<16777216:=by omega
 have hw:iq fV j8 100000 [some (.sh ms),some (.sh .non),some (.lok (.lst R)),some (.own (.lst F)),some (.sh (.int (total+a))),some (.sh (.int 0)),some (.sh (.int kk)),some (.sh (.tup [.int h,.int a]))]=some (.nx [some (.sh ms),some (.sh .non),some (.lok (.lst R)),some (.own (.lst F)),some (.sh (.int (total+a))),some (.sh (.int 0)),some (.sh (.int kk)),some (.sh (.tup [.int h,.int a]))]):=by
  have t:fV [some (.sh ms),some (.sh .non),some (.lok (.lst R)),some (.own (.lst F)),some (.sh (.int (total+a))),some (.sh (.int 0)),some (.sh (.int kk)),some (.sh (.tup [.int h,.int a]))]=some false:=by
   unfold fV
   simp
  unfold iq
  rw[t]
  simp
 unfold cZ uY
 rcases hc with⟨c,rfl⟩| ⟨c,h2,a2,e,rfl⟩
 ·simp[hw,hn,c,ai,z]
 ·by_cases c2:h<h2
  ·simp[hw,hn,c,e,c2,ai,z]
  ·simp[hw,hn,c,e,c2]
theorem Eb{ms:D}(hH:∀p∈rows,∀q∈rows,q.1 -H<p.1)(hs:rows.Pairwise λa b=>a.1≤b.1)(hl:rows.length<64):∃(y4 y5 y6 y7:Option Slot),forL (gT [6,7]) cZ (fB 0 (rows.map mk2)) [some (.sh ms),some (.sh .non),some (.lok (.lst (rows.map mk2))),some (.own (.lst [])),some (.sh (.int 0)),some (.sh (.int 0)),none,none]=
  some (.nx [some (.sh ms),some (.sh .non),some (.lok (.lst (rows.map mk2))),some (.own (.lst ((fnd rows H rows.length).map mk2))),y4,y5,y6,y7]):=by
 obtain⟨e,h1,total,y6,y7,h3,rfl⟩:=gx (g:=gT [6,7]) (body:=cZ) (λm env=>∃(total:Int) (y6 y7:Option Slot),total=sm (am rows) m∧
   env=[some (.sh ms),some (.sh .non),some (.lok (.lst (rows.map mk2))),some (.own (.lst ((fnd rows H m).map mk2))),some (.sh (.int total)),some (.sh (.int 0)),y6,y7]) (fB 0 (rows.map mk2)) 0
  [some (.sh ms),some (.sh .non),some (.lok (.lst (rows.map mk2))),some (.own (.lst [])),some (.sh (.int 0)),some (.sh (.int 0)),none,none] ⟨0,none,none,by simp[sm],rfl⟩ (by
   rintro k d e hd ⟨total,y6,y7,h3,rfl⟩
   rw[k9,Gah] at hd
   cases hk:rows[k]? with
   |none=>rw[hk] at hd;cases hd
   |some p=>
    rw[hk] at hd
    have hkl:k<rows.length:=(Gae.mp hk).1
    simp only[Gcc,Gch] at hd
    subst hd
    rw[GcB] at h3⊢
    have ep:mk2 p= .tup [.int (hr rows k),.int (am rows k)]:=by
     unfold mk2 hr am;rw[hk];rfl
    have hlen:((rows.map mk2).length:Int)=(rows.length:Int):=by simp
    have ev:=Gr (ms:=ms) (R:=rows.map mk2) (F:=(fnd rows H k).map mk2) (total:=total) (kk:=(k:Int)) (h:=hr rows k) (a:=am rows k) (last:=gA rows k) (GcO (by rw[Gad];exact CA) (by omega)) hlen (by
     by_cases c:k+1=rows.length
     ·exact .inl ⟨by omega,by unfold gA;simp[c]⟩
     ·refine .inr ⟨by omega,hr rows (k+1),am rows (k+1), ?_,by unfold gA;simp[c]⟩
      have:=sr (rows:=rows) (g:=k+1) (by omega)
      rw[show((k:Int)+1)=((k+1:Nat):Int) by omega]
      exact this)
    refine⟨_,_, ?_,ev,total+am rows k,some (.sh (.int (k:Int))),some (.sh (.tup [.int (hr rows k),.int (am rows k)])),by rw[h3];rfl, ?_⟩
    ·rw[ep];rfl
    ·rw[Al]
     cases hL:gA rows k with
     |false=>simp
     |true=>
      have hr_in:∀i,i<rows.length→∃p∈rows,p.1=hr rows i:=λi hi=> ⟨rows[i],GaC _,by unfold hr;simp[hi]⟩
      have hw:=Nt (H:=H) hs hkl (GbD k) (λi hi=>by omega) (by
       obtain⟨p,hp,e1⟩:=hr_in 0 (by omega)
       obtain⟨q,hq,e2⟩:=hr_in k hkl
       have:=hH p hp q hq
       omega) (by
       unfold gA at hL
       rw[GaW] at hL
       exact hL.imp GaD GaD)
      have tot:total+am rows k=W rows H (hr rows k):=by
       rw[hw,h3]
       show sm (am rows) k+am rows k=sm (am rows) (k+1)-sm (am rows) 0
       simp[sm]
      simp[mk2,tot])
 rw[k8,Gad,GcB] at h1
 exact⟨_,_,_,_,h1⟩
theorem Ec{M R F:List D}{y4 y5 y6 y7:Option Slot}(es:sortedS [.lst M]=some ⟨.tn,.lst R⟩)(h1:forL (gT [6,7]) cZ (fB 0 R) [some (.sh (.lst M)),some (.sh .non),some (.lok (.lst R)),some (.own (.lst [])),some (.sh (.int 0)),some (.sh (.int 0)),none,none]=
  some (.nx [some (.sh (.lst M)),some (.sh .non),some (.lok (.lst R)),some (.own (.lst F)),y4,y5,y6,y7]))(im:aQ F=true):k4 [.lst M,.non]=some (.lst F):=by
 unfold k4 rY
 simp[-forL,-fB,es,h1,ai,im]
noncomputable def HD(hd:D)(H:Int)(ms:List (Int×Int)):Prop:=(hd= .int H∧1≤H)∨(hd= .non∧∀p∈ms,∀q∈ms,q.1 -H<p.1)
theorem HD.perm{hd:D}{ms ms' :List (Int×Int)}(h:HD hd H ms)(hp:ms.Perm ms'):HD hd H ms' :=by
 rcases h with h| ⟨h1,h2⟩
 ·exact .inl h
 ·exact .inr ⟨h1,λp hp' q hq=>h2 p (hp.mem_iff.mpr hp') q (hp.mem_iff.mpr hq)⟩
theorem sC{hd:D}{ms ms' :List (Int×Int)}{S:List Int}(h:HD hd H ms)(hp:ms'.Perm ms)(hl:ms.length<64)(hS:S.Pairwise λa b=>a<b)(hm:∀x,x∈S↔x∈ms.map (·.1)):k4 [.lst (ms'.map mk2),hd]=some (.lst ((Gp ms H S).map mk2)):=by
 obtain⟨rows,e,hp2,hs⟩:=Ak ms'
 have hp3:rows.Perm ms:=hp2.trans hp
 have hl2:rows.length<64:=by rw[hp3.length_eq];exact hl
 have es:=su (ms:=ms') (by rw[hp.length_eq];exact hl)
 rw[e] at es
 rw[←IW hs hp3 hS hm]
 rcases h.perm hp3.symm with⟨rfl,hH⟩| ⟨rfl,hH⟩
 ·obtain⟨y4,y5,y6,y7,h⟩:=Gi (rows:=rows) (ms:= .lst (ms'.map mk2)) hH hs hl2
  exact Gj es h (Cw _)
 ·obtain⟨y4,y5,y6,y7,h⟩:=Eb (rows:=rows) (ms:= .lst (ms'.map mk2)) hH hs hl2
  exact Ec es h (Cw _)
noncomputable def gpF(os:List Order)(gs:List Tr)(r l:Int×Int):List Flt:=match os[r.2.toNat]?,os[l.2.toNat]? with
 |some a,some b=>if l.1 -r.1<IT gs a b then[("gap",[r.2,r.1,l.2,l.1])] else[]
 |_,_=>[]
noncomputable def kl(os:List Order)(gs:List Tr)(w:Int)(r:Int×Int):List (Int×Int)→List Flt
 |[]=>[]
 |l::ls=>if l.1 -r.1≥w then[] else gpF os gs r l++kl os gs w r ls
noncomputable def cR(os:List Order)(gs:List Tr)(w:Int):List (Int×Int)→List Flt
 |[]=>[]
 |r::rs=>kl os gs w r rs++cR os gs w rs
theorem CB(os:List Order)(gs:List Tr)(r l:Int×Int):(gpF os gs r l).length≤1:=by
 unfold gpF
 split
 ·split<;>simp
 ·simp
theorem pR(os:List Order)(gs:List Tr)(w:Int)(r:Int×Int):∀ls,(kl os gs w r ls).length≤ls.length
 |[]=>by simp[kl]
 |l::ls=>by
  unfold kl
  have h1:=pR os gs w r ls
  have h2:=CB os gs r l
  split
  ·simp
  ·simp;omega
theorem Ld{wd:D}{G R F:List D}{kv:List (List Key×D)}{w k r1 r2 l1 l2:Int}{x9:Option Slot}(c:l1 -r1≥w):
  bL [some (.sh wd),some (.sh (.tup G)),some (.own (.dT kv)),some (.sh (.int w)),some (.lok (.lst R)),some (.own (.lst F)),some (.sh (.int k)),some (.sh (.tup [.int r1,.int r2])),some (.sh (.tup [.int l1,.int l2])),x9]=
   some (.bk [some (.sh wd),some (.sh (.tup G)),some (.own (.dT kv)),some (.sh (.int w)),some (.lok (.lst R)),some (.own (.lst F)),some (.sh (.int k)),some (.sh (.tup [.int r1,.int r2])),some (.sh (.tup [.int l1,.int l2])),some (.sh (.int (l1 -r1)))]):=by
 unfold bL
 simp[c]
theorem Le{A B C O G R F:List D}{kv:List (List Key×D)}{w k r1 r2 l1 l2 gb:Int}{o1 o2:D}{x9:Option Slot}(c:¬l1 -r1≥w)(h1:atD O r2=some o1)(h2:atD O l2=some o2)(eb:gQ [.dT kv,o1,o2]=some (.int gb))(hz:F.length<100000):
  bL [some (.sh (.tup [.tup A,.tup B,.tup C,.tup O])),some (.sh (.tup G)),some (.own (.dT kv)),some (.sh (.int w)),some (.lok (.lst R)),some (.own (.lst F)),some (.sh (.int k)),some (.sh (.tup [.int r1,.int r2])),some (.sh (.tup [.int l1,.int l2])),x9]=
   some (.nx [some (.sh (.tup [.tup A,.tup B,.tup C,.tup O])),some (.sh (.tup G)),some (.own (.dT kv)),some (.sh (.int w)),some (.lok (.lst R)),some (.own (.lst (F++(if l1 -r1<gb then[D.tup [.str "gap",.int r2,.int r1,.int l2,.int l1]] else[])))),some (.sh (.int k)),some (.sh (.tup [.int r1,.int r2])),some (.sh (.tup [.int l1,.int l2])),some (.sh (.int (l1 -r1)))]):=by
 have z:F.length<16777216:=by omega
 unfold bL
 refine(av (e:=[some (.sh (.tup [.tup A,.tup B,.tup C,.tup O])),some (.sh (.tup G)),some (.own (.dT kv)),some (.sh (.int w)),some (.lok (.lst R)),some (.own (.lst F)),some (.sh (.int k)),some (.sh (.tup [.int r1,.int r2])),some (.sh (.tup [.int l1,.int l2])),some (.sh (.int (l1 -r1)))]) (by simp)).trans ?_
 have c' :l1 -r1<w:=by omega
 refine(av (e:=[some (.sh (.tup [.tup A,.tup B,.tup C,.tup O])),some (.sh (.tup G)),some (.own (.dT kv)),some (.sh (.int w)),some (.lok (.lst R)),some (.own (.lst F)),some (.sh (.int k)),some (.sh (.tup [.int r1,.int r2])),some (.sh (.tup [.int l1,.int l2])),some (.sh (.int (l1 -r1)))]) (by simp[c'])).trans ?_
 by_cases q:l1 -r1<gb
 ·simp[q,h1,h2,eb,z,ai]
 ·simp[q,h1,h2,eb]
theorem sD{w:World}{gs:List Tr}{wid k:Int}{A B C G R:List D}{r:Int×Int}(hr0:0≤r.2)(hr1:r.2<w.orders.length):∀(ls:List (Int×Int)) (fs:List Flt) (x8 x9:Option Slot),(∀l∈ls,0≤l.2∧l.2<w.orders.length)→fs.length+ls.length<100000→∃y8 y9,
  forL (gN 8) bL (ls.map mk2) [some (.sh (.tup [.tup A,.tup B,.tup C,.tup (w.orders.map aF)])),some (.sh (.tup G)),some (.own (.dT (kvT gs))),some (.sh (.int wid)),some (.lok (.lst R)),some (.own (.lst (fs.map ay))),some (.sh (.int k)),some (.sh (mk2 r)),x8,x9]=
   some (.nx [some (.sh (.tup [.tup A,.tup B,.tup C,.tup (w.orders.map aF)])),some (.sh (.tup G)),some (.own (.dT (kvT gs))),some (.sh (.int wid)),some (.lok (.lst R)),some (.own (.lst ((fs++kl w.orders gs wid r ls).map ay))),some (.sh (.int k)),some (.sh (mk2 r)),y8,y9])
 |[],fs,x8,x9,_,_=> ⟨x8,x9,by simp[kl]⟩
 |l::ls,fs,x8,x9,hl,hz=>by
  rw[GaB] at hz
  by_cases c:l.1 -r.1≥wid
  ·have ev:=Ld (wd:= .tup [.tup A,.tup B,.tup C,.tup (w.orders.map aF)]) (G:=G) (R:=R) (F:=fs.map ay) (kv:=kvT gs) (w:=wid) (k:=k) (r1:=r.1) (r2:=r.2) (l1:=l.1) (l2:=l.2) (x9:=x9) c
   refine⟨some (.sh (mk2 l)),some (.sh (.int (l.1 -r.1))), ?_⟩
   unfold kl
   rw[Gag c,Gbg,Gar]
   have e1:D.tup [.int r.1,.int r.2]=mk2 r:=rfl
   have e2:D.tup [.int l.1,.int l.2]=mk2 l:=rfl
   rw[e1,e2] at ev
   generalize mk2 l=ld at*
   simp only[forL,gN,GaR,GaS,Option.bind_some,ev]
  ·have l0:=hl l Gam
   obtain⟨n,hn⟩:=GaG hr0
   obtain⟨m,hm⟩:=GaG l0.1
   have hn' :n<w.orders.length:=by omega
   have hm' :m<w.orders.length:=by omega
   have h1:atD (w.orders.map aF) r.2=some (aF w.orders[n]):=by rw[hn,cW,Gah,Gaa hn'];rfl
   have h2:atD (w.orders.map aF) l.2=some (aF w.orders[m]):=by rw[hm,cW,Gah,Gaa hm'];rfl
   have eb:=pP (gs:=gs) (a:=w.orders[n]) (b:=w.orders[m])
   have ev:=Le (A:=A) (B:=B) (C:=C) (G:=G) (R:=R) (F:=fs.map ay) (k:=k) (x9:=x9) c h1 h2 eb (by rw[Gad];omega)
   have eg:(if l.1 -r.1<IT gs w.orders[n] w.orders[m] then[D.tup [.str "gap",.int r.2,.int r.1,.int l.2,.int l.1]] else[])=(gpF w.orders gs r l).map ay:=by
    unfold gpF
    rw[hn,hm,GaY,GaY,Gaa hn',Gaa hm']
    dsimp only
    split<;>rfl
   rw[eg,←GaN] at ev
   have g1:=CB w.orders gs r l
   obtain⟨y8,y9,e⟩:=sD (A:=A) (B:=B) (C:=C) (G:=G) (R:=R) (gs:=gs) (wid:=wid) (k:=k) hr0 hr1 ls (fs++gpF w.orders gs r l) (some (.sh (mk2 l))) (some (.sh (.int (l.1 -r.1)))) (λx hx=>hl x (Gai _ hx)) (by rw[Gax];omega)
   refine⟨y8,y9, ?_⟩
   conv=>rhs;unfold kl
   rw[Gaj c,Gar,←Gay]
   have e1:D.tup [.int r.1,.int r.2]=mk2 r:=rfl
   have e2:D.tup [.int l.1,.int l.2]=mk2 l:=rfl
   rw[e1,e2] at ev
   generalize mk2 l=ld at*
   simp only[forL,gN,GaR,GaS,Option.bind_some,ev]
   exact e
theorem IY{e0 e1 e2 e3 e5 e7 x8 x9:Option Slot}{R L:List D}{k:Int}{e' :DL.Env}(hs:slD (some (k+1)) none (.lst R)=some ⟨.tn,.lst L⟩)(h:forL (gN 8) bL L [e0,e1,e2,e3,some (.lok (.lst R)),e5,some (.sh (.int k)),e7,x8,x9]=some (.nx e')):
  cI [e0,e1,e2,e3,some (.lok (.lst R)),e5,some (.sh (.int k)),e7,x8,x9]=some (.nx e'):=by
 unfold cI
 simp[-forL,hs,h,freed]
theorem Gs(R:List D)(j:Nat):slD (some ((j:Int)+1)) none (.lst R)=some ⟨.tn,.lst (R.drop (j+1))⟩:=by
 show some (⟨.tn,.lst (cutD R (some ((j:Int)+1)) none)⟩:RV)=_
 have e:sIx R.length 0 (some ((j:Int)+1))=min (j+1) R.length:=by
  show(if(j:Int)+1<0 then((j:Int)+1+(R.length:Int)).toNat else min ((j:Int)+1).toNat R.length)=_
  rw[Gaj (by omega)]
  congr 1
 unfold cutD
 have e2:sIx R.length R.length none=R.length:=rfl
 rw[e,e2]
 congr 3
 rw[Gbs (by rw[GbU];omega)]
 by_cases c:j+1≤R.length
 ·rw[Gcw c]
 ·rw[Nat.min_eq_right (by omega),GbK,List.drop_of_length_le (by omega)]
theorem qk{w:World}{gs:List Tr}{wid:Int}{A B C G:List D}{rows:List (Int×Int)}(hr:∀l∈rows,0≤l.2∧l.2<w.orders.length)(hn:rows.length<64):∀(m j:Nat) (fs:List Flt) (x6 x7 x8 x9:Option Slot),rows.length -j=m→fs.length≤64*j→∃y6 y7 y8 y9,
  forL (gT [6,7]) cI (fB j ((rows.drop j).map mk2)) [some (.sh (.tup [.tup A,.tup B,.tup C,.tup (w.orders.map aF)])),some (.sh (.tup G)),some (.own (.dT (kvT gs))),some (.sh (.int wid)),some (.lok (.lst (rows.map mk2))),some (.own (.lst (fs.map ay))),x6,x7,x8,x9]=
   some (.nx [some (.sh (.tup [.tup A,.tup B,.tup C,.tup (w.orders.map aF)])),some (.sh (.tup G)),some (.own (.dT (kvT gs))),some (.sh (.int wid)),some (.lok (.lst (rows.map mk2))),some (.own (.lst ((fs++cR w.orders gs wid (rows.drop j)).map ay))),y6,y7,y8,y9])
 |0,j,fs,x6,x7,x8,x9,hm,hf=>by
  rw[List.drop_of_length_le (by omega)]
  exact⟨x6,x7,x8,x9,by simp[cR]⟩
 |m+1,j,fs,x6,x7,x8,x9,hm,hf=>by
  have hj:j<rows.length:=by omega
  have ed:rows.drop j=rows[j]::rows.drop (j+1):=Gbu hj
  have r0:=hr rows[j] (GaC hj)
  obtain⟨y8,y9,e⟩:=sD (w:=w) (gs:=gs) (wid:=wid) (k:=(j:Int)) (A:=A) (B:=B) (C:=C) (G:=G) (R:=rows.map mk2) (r:=rows[j]) r0.1 r0.2 (rows.drop (j+1)) fs x8 x9 (λl hl=>hr l (Gbp hl)) (by rw[GbU];omega)
  have lz:=pR w.orders gs wid rows[j] (rows.drop (j+1))
  rw[GbU] at lz
  obtain⟨z6,z7,z8,z9,e2⟩:=qk (w:=w) (gs:=gs) (wid:=wid) (A:=A) (B:=B) (C:=C) (G:=G) (rows:=rows) hr hn m (j+1) (fs++kl w.orders gs wid rows[j] (rows.drop (j+1))) (some (.sh (.int (j:Int)))) (some (.sh (mk2 rows[j]))) y8 y9 (by omega) (by rw[Gax];omega)
  refine⟨z6,z7,z8,z9, ?_⟩
  have ev:=IY (Gs (rows.map mk2) j) ((by rw[←Gdv];exact e):forL (gN 8) bL ((rows.map mk2).drop (j+1)) _=_)
  rw[ed,Gar]
  conv=>rhs;unfold cR
  rw[←Gay]
  show forL (gT [6,7]) cI (D.tup [.int (j:Int),mk2 rows[j]]::fB (j+1) ((rows.drop (j+1)).map mk2)) _=_
  generalize rows[j]=rj at*
  generalize (j:Int)=ji at*
  generalize mk2 rj=rd at*
  simp only[forL,gT,gNs,GaR,GaS,Option.bind_some,ev]
  exact e2
noncomputable def wide(bs:List Tr):Int:=match bs.map (·.2.2) with
 |[]=>0
 |n::ns=>B1 n ns
theorem IZ{A B C O G B' R R' F:List D}{kv:List (List Key×D)}{wid:Int}{y6 y7 y8 y9:Option Slot}(hg:fg [.tup C]=some (.dT kv))(zc:C.length<1000)(hw:cE (gN 0) jc (ixE (vE 0) (kE (.int 2))) C [none]=some B')(hm:mmD B1 (.int 0) (.lst B')=some ⟨.c,.int wid⟩)(zg:G.length<1000)(hc:cE (gN 0) jc (bM (a5 (ixE (vE 0) (kE (.int 1))) (a5 (ixE (vE 0) (kE (.int 0))) aq))) G [none]=some R)(hs:sortedS [.lst R]=some ⟨.tn,.lst R'⟩)
  (hl:forL (gT [6,7]) cI (fB 0 R') [some (.sh (.tup [.tup A,.tup B,.tup C,.tup O])),some (.sh (.tup G)),some (.own (.dT kv)),some (.sh (.int wid)),some (.lok (.lst R')),some (.own (.lst [])),none,none,none,none]=some (.nx [some (.sh (.tup [.tup A,.tup B,.tup C,.tup O])),some (.sh (.tup G)),some (.own (.dT kv)),some (.sh (.int wid)),some (.lok (.lst R')),some (.own (.lst F)),y6,y7,y8,y9]))(im:aQ F=true):
  gp [.tup [.tup A,.tup B,.tup C,.tup O],.tup G]=some (.lst F):=by
 have z1:C.length≤16777216:=by omega
 have z2:G.length≤16777216:=by omega
 have rk:kC (.dT kv)=⟨.tn,.dT kv⟩:=rfl
 refine bg rfl ?_
 unfold iN
 refine(av (e:=[some (.sh (.tup [.tup A,.tup B,.tup C,.tup O])),some (.sh (.tup G)),some (.own (.dT kv)),none,none,none,none,none,none,none]) (by simp[bz,hg,rk])).trans ?_
 refine(av (e:=[some (.sh (.tup [.tup A,.tup B,.tup C,.tup O])),some (.sh (.tup G)),some (.own (.dT kv)),some (.sh (.int wid)),none,none,none,none,none,none]) (by simp[-cE,ai,DL.compEnv,fY,hw,hm,z1])).trans ?_
 refine(av (e:=[some (.sh (.tup [.tup A,.tup B,.tup C,.tup O])),some (.sh (.tup G)),some (.own (.dT kv)),some (.sh (.int wid)),some (.own (.lst R')),none,none,none,none,none]) (by simp[-cE,ai,DL.compEnv,fY,hc,hs,z2])).trans ?_
 refine(av (e:=[some (.sh (.tup [.tup A,.tup B,.tup C,.tup O])),some (.sh (.tup G)),some (.own (.dT kv)),some (.sh (.int wid)),some (.own (.lst R')),some (.own (.lst [])),none,none,none,none]) (by simp[ai])).trans ?_
 refine(av (e:=[some (.sh (.tup [.tup A,.tup B,.tup C,.tup O])),some (.sh (.tup G)),some (.own (.dT kv)),some (.sh (.int wid)),some (.own (.lst R')),some (.own (.lst F)),y6,y7,y8,y9]) (by simp[-forL,hl,freed])).trans ?_
 simp[im]
noncomputable def gvR(gv:List Tr):List (Int×Int):=gv.map λt=>(t.2.1,t.1)
theorem Nu{w:World}{gv:List Tr}(W:bJ w)(hg:fW w.orders.length gv)(hl:gv.length<64):∃rows:List (Int×Int),cS ((gvR gv).map mk2)=rows.map mk2∧rows.Perm (gvR gv)∧(rows.Pairwise λa b=>a.1≤b.1)∧gp [bA w,.tup (gv.map trD)]=some (.lst ((cR w.orders (w.cU.foldl bS []) (wide w.cU) rows).map ay)):=by
 obtain⟨rows,r1,r2,r3⟩:=Ak (gvR gv)
 refine⟨rows,r1,r2,r3, ?_⟩
 have lr:rows.length=gv.length:=by rw[r2.length_eq];simp[gvR]
 have hr:∀l∈rows,0≤l.2∧l.2<w.orders.length:=λl hl=>by
  obtain⟨t,ht,rfl⟩:=GaE.mp (r2.mem_iff.mp hl)
  exact hg t ht
 have b12:=W.b12
 have hw:=kg (g:=gN 0) (f:=ixE (vE 0) (kE (.int 2))) trD (λenv=>∃y,env=[y]) (λt=>D.int t.2.2) w.cU [none] ⟨none,rfl⟩ (by
  rintro t ht env ⟨y,rfl⟩
  exact⟨_,rfl,⟨_,rfl⟩,.c,by simp[trD],rfl⟩)
 have hc:=kg (g:=gN 0) (f:=bM (a5 (ixE (vE 0) (kE (.int 1))) (a5 (ixE (vE 0) (kE (.int 0))) aq))) trD (λenv=>∃y,env=[y]) (λt=>mk2 (t.2.1,t.1)) gv [none] ⟨none,rfl⟩ (by
  rintro t ht env ⟨y,rfl⟩
  exact⟨_,rfl,⟨_,rfl⟩,.c,by simp[trD,mk2,ai],rfl⟩)
 have e1:gv.map (λt=>mk2 (t.2.1,t.1))=(gvR gv).map mk2:=by unfold gvR;rw[GaM];rfl
 have e2:w.cU.map (λt=>D.int t.2.2)=(w.cU.map (·.2.2)).map D.int:=by rw[GaM];rfl
 rw[e1] at hc
 rw[e2] at hw
 have hm:mmD B1 (.int 0) (.lst ((w.cU.map (·.2.2)).map D.int))=some ⟨.c,.int (wide w.cU)⟩:=by
  unfold mmD mX wide
  simp only[Option.bind_some,DJ]
  cases w.cU.map (·.2.2)<;>rfl
 have hs:=su (ms:=gvR gv) (by simp[gvR];exact hl)
 rw[r1] at hs
 obtain⟨y6,y7,y8,y9,e⟩:=qk (w:=w) (gs:=w.cU.foldl bS []) (wid:=wide w.cU) (A:=w.cn.map cQ) (B:=w.aB.map b6) (C:=w.cU.map trD) (G:=gv.map trD) (rows:=rows) hr (by omega) _ 0 [] none none none none rfl (by simp)
 rw[GbF,List.nil_append] at e
 exact IZ (La b12) (by rw[Gad];omega) hw hm (by rw[Gad];omega) hc hs e (gK _)
noncomputable abbrev Tg:=(Int×Int)×List (Int×Int)
noncomputable def mh(st:List Tg):Rws:=st.map λe=>([Sum.inl e.1.1,Sum.inl e.1.2],D.lst (e.2.map mk2))
noncomputable def tk(os:List Order)(t:Tr):Int×Int:=match os[t.1.toNat]? with
 |some o=>(o.aY,o.br)
 |none=>(0,0)
noncomputable def CC(st:List Tg)(k m:Int×Int):List Tg:=match st.findIdx? (λe=>decide (e.1=k)) with
 |some j=>st.set j (k,((st[j]?.map (·.2)).getD [])++[m])
 |none=>st++[(k,[m])]
theorem Gu(k:Int×Int)(e:Tg):decide (([Sum.inl e.1.1,Sum.inl e.1.2]:List Key)=[Sum.inl k.1,Sum.inl k.2])=decide (e.1=k):=by
 rw[decide_eq_decide]
 obtain⟨⟨a,b⟩,l⟩:=e
 obtain⟨c,d⟩:=k
 simp
theorem Gv{st:List Tg}{k m:Int×Int}(hz:st.length<1000)(hm:∀e∈st,e.2.length<1000):ER (mh st) [Sum.inl k.1,Sum.inl k.2] (mk2 m)=some (mh (CC st k m)):=by
 unfold ER CC
 have z:(mh st).length<ai:=by unfold mh ai;rw[Gad];omega
 rw[Gag z]
 have ef:(mh st).findIdx? (λp=>decide (p.1=[Sum.inl k.1,Sum.inl k.2]))=st.findIdx? (λe=>decide (e.1=k)):=by
  unfold mh
  rw[GdA]
  congr 1
  funext e
  exact Gu k e
 rw[ef]
 cases h:st.findIdx? (λe=>decide (e.1=k)) with
 |none=>
  dsimp only
  unfold mh
  rw[GaN]
  rfl
 |some j=>
  obtain⟨hj,_⟩:=Gdb.mp h
  have e1:(mh st)[j]? =some ([Sum.inl st[j].1.1,Sum.inl st[j].1.2],D.lst (st[j].2.map mk2)):=by
   unfold mh
   rw[Gah,Gaa hj]
   rfl
  have z2:(st[j].2.map mk2).length<ai:=by
   have:=hm st[j] (GaC hj)
   rw[Gad]
   unfold ai
   omega
  simp only[e1]
  rw[Gag z2]
  rw[Gaa hj]
  unfold mh
  rw[List.map_set]
  simp
structure sE(os:List Order)(pre:List Tr)(st:List Tg):Prop where
 nd:(st.map (·.1)).Nodup
 ms:∀e∈st,e.2=(pre.filter λt=>decide (tk os t=e.1)).map λt=>(t.2.1,t.2.2)
 cov:∀t∈pre,tk os t∈st.map (·.1)
 back:∀e∈st,∃t∈pre,tk os t=e.1
 ln:st.length≤pre.length
theorem sE.step{os:List Order}{pre:List Tr}{st:List Tg}(I:sE os pre st)(t:Tr):sE os (pre++[t]) (CC st (tk os t) (t.2.1,t.2.2)):=by
 obtain⟨nd,ms,cov,back,ln⟩:=I
 generalize hk:tk os t=k
 have flt:∀q:Int×Int,((pre++[t]).filter λt=>decide (tk os t=q))=(pre.filter λt=>decide (tk os t=q))++(if k=q then[t] else[]):=λq=>by
  rw[Gcx]
  congr 1
  by_cases c:k=q
  ·rw[Gag c]
   simp[hk,c]
  ·rw[Gaj c]
   simp[hk,c]
 unfold CC
 cases h:st.findIdx? (λe=>decide (e.1=k)) with
 |none=>
  have no:=List.findIdx?_eq_none_iff.mp h
  have nk:k∉st.map (·.1):=λhm=>by
   obtain⟨e,he,ek⟩:=GaE.mp hm
   have:=no e he
   simp[ek] at this
  have pre0:(pre.filter λt=>decide (tk os t=k))=[]:=by
   rw[List.filter_eq_nil_iff]
   intro x hx
   have:=cov x hx
   simp
   intro q
   rw[q] at this
   exact nk this
  dsimp only
  refine⟨?_, ?_, ?_, ?_,by simp;omega⟩
  ·rw[GaN,GbQ]
   refine⟨nd,by simp, ?_⟩
   intro a ha b hb
   simp at hb
   rw[hb]
   exactλq=>nk (q▸ha)
  ·intro e he
   rcases Gav.mp he with he|he
   ·rw[flt,Gaj (λq=>nk (GaE.mpr ⟨e,he,q.symm⟩)),Gbg]
    exact ms e he
   ·simp at he
    rw[he,flt,pre0]
    simp
  ·intro x hx
   rw[GaN]
   rcases Gav.mp hx with hx|hx
   ·exact Gci _ (cov x hx)
   ·simp at hx
    rw[hx,hk]
    simp
  ·intro e he
   rcases Gav.mp he with he|he
   ·obtain⟨x,hx,q⟩:=back e he
    exact⟨x,Gci _ hx,q⟩
   ·simp at he
    rw[he]
    exact⟨t,by simp,hk⟩
 |some j=>
  obtain⟨hj,hp,_⟩:=Gdb.mp h
  have ek:st[j].1=k:=GaD hp
  dsimp only
  rw[Gaa hj]
  have keys:(st.set j (k,(((some st[j]).map (·.2)).getD [])++[(t.2.1,t.2.2)])).map (·.1)=st.map (·.1):=by
   rw[List.map_set]
   have:k=(st.map (·.1))[j]'(by simpa using hj):=by rw[GbW,ek]
   simp only
   conv=>lhs;arg 3;rw[this]
   exact List.set_getElem_self _
  have mem:∀e∈st.set j (k,(((some st[j]).map (·.2)).getD [])++[(t.2.1,t.2.2)]),e=(k,st[j].2++[(t.2.1,t.2.2)])∨(e∈st∧e.1≠k):=by
   intro e he
   obtain⟨i,hi,rfl⟩:=Gdr he
   have hi' :i<st.length:=by simpa using hi
   by_cases c:j=i
   ·subst c
    left
    simp
   ·right
    rw[List.getElem_set_ne c]
    refine⟨GaC hi',λq=>c ?_⟩
    have e1:(st.map (·.1))[j]'(by simpa using hj)=(st.map (·.1))[i]'(by simpa using hi'):=by rw[GbW,GbW,ek,q]
    exact(List.getElem_inj nd).mp e1
  refine⟨by rw[keys];exact nd, ?_, ?_, ?_,by simp;omega⟩
  ·intro e he
   rcases mem e he with q| ⟨q1,q2⟩
   ·rw[q]
    have:=ms st[j] (GaC hj)
    rw[ek] at this
    rw[flt,Gag rfl,GaN,←this]
    rfl
   ·rw[flt,Gaj (λz=>q2 z.symm),Gbg]
    exact ms e q1
  ·intro x hx
   rw[keys]
   rcases Gav.mp hx with hx|hx
   ·exact cov x hx
   ·simp at hx
    rw[hx,hk,←ek]
    exact GaE.mpr ⟨_,GaC hj,rfl⟩
  ·intro e he
   rcases mem e he with q| ⟨q1,q2⟩
   ·rw[q]
    exact⟨t,by simp,hk⟩
   ·obtain⟨x,hx,q⟩:=back e q1
    exact⟨x,Gci _ hx,q⟩
theorem sE.Nv{os:List Order}{pre:List Tr}{st:List Tg}(I:sE os pre st){e:Tg}(he:e∈st):e.2.length≤pre.length:=by
 rw[I.ms e he,Gad]
 exact GcG _ _
theorem J1{A B C O G:List D}{rows rows' :Rws}{OD:D}{n h a g s:Int}{x4:Option Slot}(hO:atD O n=some OD)(im:OD.imm=true)(h1:ixD OD (.int 1)=some (.int g))(h2:ixD OD (.int 2)=some (.int s))(hs:ER rows [Sum.inl g,Sum.inl s] (.tup [.int h,.int a])=some rows'):
  bU [some (.sh (.tup [.tup A,.tup B,.tup C,.tup O])),some (.sh (.tup G)),none,some (.sh (.tup [.int n,.int h,.int a])),x4] rows=some ([some (.sh (.tup [.tup A,.tup B,.tup C,.tup O])),some (.sh (.tup G)),none,some (.sh (.tup [.int n,.int h,.int a])),some (.sh OD)],rows'):=by
 unfold bU
 simp[hO,im,h1,h2,hs,ai,keysOf,keyOf,BW]
theorem uA{w:World}(W:bJ w){A B C G:List D}:∀(gv pre:List Tr) (st:List Tg) (x3 x4:Option Slot),fW w.orders.length gv→sE w.orders pre st→pre.length+gv.length<64→∃y3 y4 st',sE w.orders (pre++gv) st' ∧
  oe 3 bU (gv.map trD) [some (.sh (.tup [.tup A,.tup B,.tup C,.tup (w.orders.map aF)])),some (.sh (.tup G)),none,x3,x4] (mh st)=some ([some (.sh (.tup [.tup A,.tup B,.tup C,.tup (w.orders.map aF)])),some (.sh (.tup G)),none,y3,y4],mh st')
 |[],pre,st,x3,x4,_,I,_=> ⟨x3,x4,st,by rw[Gbg];exact I,by simp⟩
 |t::gv,pre,st,x3,x4,hg,I,hl=>by
  rw[GaB] at hl
  have g0:=hg t Gam
  obtain⟨n,hn⟩:=GaG g0.1
  have hn' :n<w.orders.length:=by omega
  have hO:atD (w.orders.map aF) t.1=some (aF w.orders[n]):=by
   rw[hn,cW,Gah,Gaa hn'];rfl
  have ok:=W.oo w.orders[n] (GaC hn')
  have ek:tk w.orders t=(w.orders[n].aY,w.orders[n].br):=by
   unfold tk
   rw[hn,GaY,Gaa hn']
  have ln:=I.ln
  have sd:=Gv (st:=st) (k:=tk w.orders t) (m:=(t.2.1,t.2.2)) (by omega) (λe he=>by have:=I.Nv he;omega)
  have ev:=J1 (A:=A) (B:=B) (C:=C) (G:=G) (n:=t.1) (h:=t.2.1) (a:=t.2.2) (g:=w.orders[n].aY) (s:=w.orders[n].br) (x4:=x4) hO (ip _ ok.ti) rfl rfl (by rw[ek] at sd;exact sd)
  obtain⟨y3,y4,st',I',e⟩:=uA W (A:=A) (B:=B) (C:=C) (G:=G) gv (pre++[t]) _ (some (.sh (trD t))) (some (.sh (aF w.orders[n]))) (λx hx=>hg x (Gai _ hx)) (I.step t) (by simp;omega)
  refine⟨y3,y4,st',by rw[Gay] at I';exact I', ?_⟩
  rw[Gar]
  have td:D.tup [.int t.1,.int t.2.1,.int t.2.2]=trD t:=rfl
  rw[td] at ev
  rw[ek] at e
  generalize trD t=d at*
  simp only[oe,GaR,GaS,ev,Option.bind_some]
  exact e
theorem Ed{A B C O G:List D}{kv:Rws}{y3 y4:Option Slot}(ig:aQ G=true)(h:oe 3 bU G [some (.sh (.tup [.tup A,.tup B,.tup C,.tup O])),some (.sh (.tup G)),none,none,none] []=some ([some (.sh (.tup [.tup A,.tup B,.tup C,.tup O])),some (.sh (.tup G)),none,y3,y4],kv)):cO [.tup [.tup A,.tup B,.tup C,.tup O],.tup G]=some (.dT kv):=by
 refine bg rfl ?_
 unfold dI
 simp[-oe,bz,ig,h]
theorem J3{w:World}{gv:List Tr}(W:bJ w)(hg:fW w.orders.length gv)(hl:gv.length<64):∃st,sE w.orders gv st∧cO [bA w,.tup (gv.map trD)]=some (.dT (mh st)):=by
 obtain⟨y3,y4,st,I,e⟩:=uA W (A:=w.cn.map cQ) (B:=w.aB.map b6) (C:=w.cU.map trD) (G:=gv.map trD) gv [] [] none none hg ⟨by simp,by simp,by simp,by simp,by simp⟩ (by simpa using hl)
 exact⟨st,by simpa using I,Ed (jK gv) e⟩
noncomputable def lq(ns:List Int):List Int:=(cS ((ddF ns).map D.int)).map unI
theorem km(ns:List Int):(lq ns).Pairwise (λa b=>a<b)∧(∀x,x∈lq ns↔x∈ns)∧(lq ns).length≤ns.length:=by
 obtain⟨S,h1,h2,h3,h4⟩:=Gn ns
 have e:lq ns=S:=by
  unfold lq
  rw[h1,GaM]
  conv=>rhs;rw[←Gcm S]
  exact GaI λ_ _=>rfl
 rw[e]
 exact⟨h2,h3,h4⟩
noncomputable def lu:Cap→Int→Int→Bool
 | .flat H _,h,a=>decide (h -H<a)&&decide (a≤h)
 | .kilo H _ _,h,a=>decide (h -H<a)&&decide (a≤h)
 | .ever _,h,a=>decide (a≤h)
noncomputable def k5(c:Cap)(ms:List (Int×Int))(h:Int):Int:=(ms.map λp=>if lu c h p.1 then p.2 else 0).sum
noncomputable def mj:Cap→D
 | .flat H _=> .int H
 | .kilo H _ _=> .int H
 | .ever _=> .non
theorem Nw(ms:List (Int×Int)):∃H:Int,∀p∈ms,∀q∈ms,q.1 -H<p.1:=by
 have:∃B:Int,∀p∈ms,-B<p.1∧p.1<B:=by
  induction ms with
  |nil=>exact⟨0,by simp⟩
  |cons p ms ih=>
   obtain⟨B,hB⟩:=ih
   refine⟨(if B<0 then -B else B)+(if p.1<0 then -p.1 else p.1)+1, ?_⟩
   intro q hq
   rcases Gaw.mp hq with rfl|hq
   ·split<;>split<;>omega
   ·have:=hB q hq
    split<;>split<;>omega
 obtain⟨B,hB⟩:=this
 refine⟨2*B,λp hp q hq=> ?_⟩
 have:=hB p hp
 have:=hB q hq
 omega
theorem Gw{c:Cap}{ms:List (Int×Int)}(ok:n8 c)(hl:ms.length<64):k4 [.lst (ms.map mk2),mj c]=some (.lst (((lq (ms.map (·.1))).map λh=>(h,k5 c ms h)).map mk2)):=by
 obtain⟨h1,h2,h3⟩:=km (ms.map (·.1))
 have fin:∀(H:Int),(∀h,h∈ms.map (·.1)→∀p∈ms,wt H h p=if lu c h p.1 then p.2 else 0)→Gp ms H (lq (ms.map (·.1)))=(lq (ms.map (·.1))).map λh=>(h,k5 c ms h):=λH e=>by
  unfold Gp
  refine GaI λh hh=> ?_
  unfold W k5
  rw[GaI λp hp=>e h ((h2 h).mp hh) p hp]
 have lim:∀(H h:Int) (p:Int×Int),wt H h p=if(decide (h -H<p.1)&&decide (p.1≤h)) then p.2 else 0:=λH h p=>by
  unfold wt
  by_cases c1:h -H<p.1<;>by_cases c2:p.1≤h<;>simp[c1,c2]
 cases c with
 |flat H t=>
  rw[←fin H (λh _ p _=>lim H h p)]
  exact sC (.inl ⟨rfl,ok.1⟩) (List.Perm.refl _) hl h1 h2
 |kilo H t p=>
  rw[←fin H (λh _ p _=>lim H h p)]
  exact sC (.inl ⟨rfl,ok.1⟩) (List.Perm.refl _) hl h1 h2
 |ever t=>
  obtain⟨H,hH⟩:=Nw ms
  rw[←fin H (λh hh p hp=>by
   obtain⟨q,hq,rfl⟩:=GaE.mp hh
   rw[lim]
   have:=hH p hp q hq
   simp[lu,this])]
  exact sC (.inr ⟨rfl,hH⟩) (List.Perm.refl _) hl h1 h2
noncomputable def dA(ws:List Tr)(c:Cap)(g s k:Int)(r:Int×Int):List Flt:=match dz c (wgt g r.1 ws none) with
 |some top=>if r.2>top then[("cap",[g,s,k,r.1,r.2,top])] else[]
 |none=>[]
noncomputable def ju(ws:List Tr)(g s k:Int)(c:Cap)(ms:List (Int×Int)):List Flt:=((lq (ms.map (·.1))).map λh=>(h,k5 c ms h)).flatMap (dA ws c g s k)
noncomputable def gB(ws:List Tr)(g s:Int)(ms:List (Int×Int)):Nat→List Cap→List Flt
 |_,[]=>[]
 |k,c::cs=>ju ws g s (k:Int) c ms++gB ws g s ms (k+1) cs
theorem kS(ws:List Tr)(c:Cap)(g s k:Int)(r:Int×Int):(dA ws c g s k r).length≤1:=by
 unfold dA
 split
 ·split<;>simp
 ·simp
theorem Ao{α β:Type}(f:α→List β)(h:∀a,(f a).length≤1):∀l:List α,(l.flatMap f).length≤l.length
 |[]=>by simp
 |a::l=>by
  have h1:=h a
  have h2:=Ao f h l
  simp
  simp at h2
  omega
theorem sF(ws:List Tr)(g s k:Int)(c:Cap)(ms:List (Int×Int)):(ju ws g s k c ms).length≤ms.length:=by
 unfold ju
 have h1:=Ao _ (kS ws c g s k) ((lq (ms.map (·.1))).map λh=>(h,k5 c ms h))
 have h2:=(km (ms.map (·.1))).2.2
 rw[Gad] at h1 h2
 omega
theorem pS(ws:List Tr)(g s:Int)(ms:List (Int×Int)):∀(k:Nat) (cs:List Cap),(gB ws g s ms k cs).length≤cs.length*ms.length
 |_,[]=>by simp[gB]
 |k,c::cs=>by
  have h1:=sF ws g s (k:Int) c ms
  have h2:=pS ws g s ms (k+1) cs
  unfold gB
  rw[Gax,GaB,GdD]
  omega
noncomputable def Ee(to:Option Int)(g s k r1 r2:Int):List D:=match to with
 |some top=>if r2>top then[D.tup [.str "cap",.int g,.int s,.int k,.int r1,.int r2,.int top]] else[]
 |none=>[]
theorem Lf{e0 e2 e5 e9 x11:Option Slot}{W F:List D}{T0:D}{g s k r1 r2:Int}{cd:D}{wo to:Option Int}(ew:i9 [.tup W,.int g,.int r1]=some (fL wo))(eb:jF [cd,fL wo]=some (fL to))(hz:F.length<100000):
  cG [e0,some (.sh (.tup W)),e2,some (.own (.lst F)),some (.sh (.tup [.int g,.int s])),e5,some (.sh (.int g)),some (.sh (.int k)),some (.sh cd),e9,some (.sh (.tup [.int r1,.int r2])),x11]=
   some (.nx [e0,some (.sh (.tup W)),e2,some (.own (.lst (F++Ee to g s k r1 r2))),some (.sh (.tup [.int g,.int s])),e5,some (.sh (.int g)),some (.sh (.int k)),some (.sh cd),e9,some (.sh (.tup [.int r1,.int r2])),some (.sh (fL to))]):=by
 have z:F.length<16777216:=by omega
 have rw' :=c0 (gz wo)
 have rt:=c0 (gz to)
 unfold cG
 refine(av (e:=[e0,some (.sh (.tup W)),e2,some (.own (.lst F)),some (.sh (.tup [.int g,.int s])),e5,some (.sh (.int g)),some (.sh (.int k)),some (.sh cd),e9,some (.sh (.tup [.int r1,.int r2])),some (.sh (fL to))]) (by simp[ew,rw',eb,rt])).trans ?_
 cases to with
 |none=>simp[iE,cD,Ee]
 |some top=>
  by_cases c:r2>top
  ·have c' :top<r2:=c
   simp[iE,cD,c',z,ai,Ee]
  ·have c' :¬top<r2:=c
   simp[iE,cD,c',Ee]
theorem Ap{ws:List Tr}{c:Cap}{g s k:Int}{e0 e2 e5 e9:Option Slot}(ok:n8 c):∀(rs:List (Int×Int)) (fs:List Flt) (x10 x11:Option Slot),fs.length+rs.length<100000→∃y10 y11,
  forL (gN 10) cG (rs.map mk2) [e0,some (.sh (.tup (ws.map trD))),e2,some (.own (.lst (fs.map ay))),some (.sh (.tup [.int g,.int s])),e5,some (.sh (.int g)),some (.sh (.int k)),some (.sh (bw c)),e9,x10,x11]=
   some (.nx [e0,some (.sh (.tup (ws.map trD))),e2,some (.own (.lst ((fs++rs.flatMap (dA ws c g s k)).map ay))),some (.sh (.tup [.int g,.int s])),e5,some (.sh (.int g)),some (.sh (.int k)),some (.sh (bw c)),e9,y10,y11])
 |[],fs,x10,x11,_=> ⟨x10,x11,by simp⟩
 |r::rs,fs,x10,x11,hz=>by
  rw[GaB] at hz
  have ew:=ma (ws:=ws) (g:=g) (h:=r.1)
  have eb:=Bt (c:=c) (w:=wgt g r.1 ws none) ok
  have ev:=Lf (e0:=e0) (e2:=e2) (e5:=e5) (e9:=e9) (x11:=x11) (F:=fs.map ay) (T0:= .non) (s:=s) (k:=k) (r2:=r.2) ew eb (by rw[Gad];omega)
  have eg:Ee (dz c (wgt g r.1 ws none)) g s k r.1 r.2=(dA ws c g s k r).map ay:=by
   unfold dA Ee
   cases dz c (wgt g r.1 ws none) with
   |none=>rfl
   |some top=>
    dsimp only
    split<;>rfl
  rw[eg,←GaN] at ev
  have l1:=kS ws c g s k r
  obtain⟨y10,y11,e⟩:=Ap (ws:=ws) (c:=c) (g:=g) (s:=s) (k:=k) (e0:=e0) (e2:=e2) (e5:=e5) (e9:=e9) ok rs (fs++dA ws c g s k r) (some (.sh (mk2 r))) (some (.sh (fL (dz c (wgt g r.1 ws none))))) (by rw[Gax];omega)
  refine⟨y10,y11, ?_⟩
  rw[Gar,GbR,←Gay]
  have e2:D.tup [.int r.1,.int r.2]=mk2 r:=rfl
  rw[e2] at ev
  generalize mk2 r=rd at*
  generalize bw c=cd at*
  simp only[forL,gN,GaR,GaS,Option.bind_some,ev]
  exact e
theorem Lg{e0 e1 e2 e3 e4 e6 e7 x9 x10 x11:Option Slot}{M R:List D}{c:Cap}{e' :DL.Env}(hs:k4 [.lst M,mj c]=some (.lst R))(h:forL (gN 10) cG R [e0,e1,e2,e3,e4,some (.sh (.lst M)),e6,e7,some (.sh (bw c)),some (.sh (mj c)),x10,x11]=some (.nx e')):
  cH [e0,e1,e2,e3,e4,some (.sh (.lst M)),e6,e7,some (.sh (bw c)),x9,x10,x11]=some (.nx e'):=by
 have rl:kC (.lst R)=⟨.tn,.lst R⟩:=rfl
 unfold cH
 refine(av (e:=[e0,e1,e2,e3,e4,some (.sh (.lst M)),e6,e7,some (.sh (bw c)),some (.sh (mj c)),x10,x11]) ?_).trans ?_
 ·cases c<;>simp[bw,mj,eqB]
 ·have e1' :∀d:D,d=mj c→gZ none (lD (aH k4 (a5 (vE 5) (a5 (vE 9) aq)))) (gN 10) cG [e0,e1,e2,e3,e4,some (.sh (.lst M)),e6,e7,some (.sh (bw c)),some (.sh d),x10,x11]=some (.nx e'):=λd hd=>by
   rw[←hd] at hs h
   generalize bw c=cd at*
   simp[-forL,hs,h,freed]
  exact e1' _ rfl
theorem uB{ws:List Tr}{g s:Int}{ms:List (Int×Int)}{e0 e2:Option Slot}(hm:ms.length<64):∀(cs:List Cap) (k:Nat) (fs:List Flt) (x7 x8 x9 x10 x11:Option Slot),(∀c∈cs,n8 c)→fs.length+cs.length*ms.length<50000→∃y7 y8 y9 y10 y11,
  forL (gT [7,8]) cH (fB k (cs.map bw)) [e0,some (.sh (.tup (ws.map trD))),e2,some (.own (.lst (fs.map ay))),some (.sh (.tup [.int g,.int s])),some (.sh (.lst (ms.map mk2))),some (.sh (.int g)),x7,x8,x9,x10,x11]=
   some (.nx [e0,some (.sh (.tup (ws.map trD))),e2,some (.own (.lst ((fs++gB ws g s ms k cs).map ay))),some (.sh (.tup [.int g,.int s])),some (.sh (.lst (ms.map mk2))),some (.sh (.int g)),y7,y8,y9,y10,y11])
 |[],k,fs,x7,x8,x9,x10,x11,_,_=> ⟨x7,x8,x9,x10,x11,by simp[gB]⟩
 |c::cs,k,fs,x7,x8,x9,x10,x11,ok,hz=>by
  have ok0:=ok c Gam
  rw[GaB,GdD] at hz
  have es:=Gw (ms:=ms) ok0 hm
  have hl:=(km (ms.map (·.1))).2.2
  rw[Gad] at hl
  obtain⟨y10,y11,e⟩:=Ap (ws:=ws) (c:=c) (g:=g) (s:=s) (k:=(k:Int)) (e0:=e0) (e2:=e2) (e5:=some (.sh (.lst (ms.map mk2)))) (e9:=some (.sh (mj c))) ok0 ((lq (ms.map (·.1))).map λh=>(h,k5 c ms h)) fs x10 x11 (by rw[Gad];omega)
  have ev:=Lg (x9:=x9) es e
  have lz:=sF ws g s (k:Int) c ms
  obtain⟨z7,z8,z9,z10,z11,e'⟩:=uB (ws:=ws) (g:=g) (s:=s) (ms:=ms) (e0:=e0) (e2:=e2) hm cs (k+1) (fs++ju ws g s (k:Int) c ms) (some (.sh (.int (k:Int)))) (some (.sh (bw c))) (some (.sh (mj c))) y10 y11 (λx hx=>ok x (Gai _ hx)) (by rw[Gax];omega)
  refine⟨z7,z8,z9,z10,z11, ?_⟩
  rw[Gar]
  conv=>rhs;unfold gB
  rw[←Gay]
  show forL (gT [7,8]) cH (D.tup [.int (k:Int),bw c]::fB (k+1) (cs.map bw)) _=_
  unfold ju at e' ⊢
  generalize (k:Int)=ki at*
  generalize bw c=cd at*
  simp only[forL,gT,gNs,GaR,GaS,Option.bind_some,ev]
  exact e'
noncomputable def tgF(ss:List jt)(ws:List Tr)(e:Tg):List Flt:=gB ws e.1.1 e.1.2 e.2 0 ((ss[e.1.2.toNat]?.map (·.aO)).getD [])
theorem Nx{A B C O W M Cs F F' :List D}{e2 x6 x7 x8 x9 x10 x11 y7 y8 y9 y10 y11:Option Slot}{g s:Int}{nm sz yg:D}(hS:atD B s=some (.tup [nm,sz,.tup Cs,yg]))
  (h:forL (gT [7,8]) cH (fB 0 Cs) [some (.sh (.tup [.tup A,.tup B,.tup C,.tup O])),some (.sh (.tup W)),e2,some (.own (.lst F)),some (.sh (.tup [.int g,.int s])),some (.sh (.lst M)),some (.sh (.int g)),x7,x8,x9,x10,x11]=some (.nx [some (.sh (.tup [.tup A,.tup B,.tup C,.tup O])),some (.sh (.tup W)),e2,some (.own (.lst F')),some (.sh (.tup [.int g,.int s])),some (.sh (.lst M)),some (.sh (.int g)),y7,y8,y9,y10,y11])):
  dC [some (.sh (.tup [.tup A,.tup B,.tup C,.tup O])),some (.sh (.tup W)),e2,some (.own (.lst F)),some (.sh (.tup [.int g,.int s])),some (.sh (.lst M)),x6,x7,x8,x9,x10,x11]=some (.nx [some (.sh (.tup [.tup A,.tup B,.tup C,.tup O])),some (.sh (.tup W)),e2,some (.own (.lst F')),some (.sh (.tup [.int g,.int s])),some (.sh (.lst M)),some (.sh (.int g)),y7,y8,y9,y10,y11]):=by
 unfold dC
 refine(av (e:=[some (.sh (.tup [.tup A,.tup B,.tup C,.tup O])),some (.sh (.tup W)),e2,some (.own (.lst F)),some (.sh (.tup [.int g,.int s])),some (.sh (.lst M)),some (.sh (.int g)),x7,x8,x9,x10,x11]) (by simp)).trans ?_
 simp[-forL,-fB,hS,h,freed]
theorem CD{w:World}(W:bJ w){ws:List Tr}{A C O:List D}{e2:Option Slot}:∀(st:List Tg) (fs:List Flt) (x4 x5 x6 x7 x8 x9 x10 x11:Option Slot),(∀e∈st,0≤e.1.2∧e.1.2<w.aB.length∧e.2.length<64)→fs.length+st.length*256<40000→∃y4 y5 y6 y7 y8 y9 y10 y11,
  forL (gT [4,5]) dC (bN (mh st)) [some (.sh (.tup [.tup A,.tup (w.aB.map b6),.tup C,.tup O])),some (.sh (.tup (ws.map trD))),e2,some (.own (.lst (fs.map ay))),x4,x5,x6,x7,x8,x9,x10,x11]=
   some (.nx [some (.sh (.tup [.tup A,.tup (w.aB.map b6),.tup C,.tup O])),some (.sh (.tup (ws.map trD))),e2,some (.own (.lst ((fs++st.flatMap (tgF w.aB ws)).map ay))),y4,y5,y6,y7,y8,y9,y10,y11])
 |[],fs,x4,x5,x6,x7,x8,x9,x10,x11,_,_=> ⟨x4,x5,x6,x7,x8,x9,x10,x11,by simp[mh,bN]⟩
 |e::st,fs,x4,x5,x6,x7,x8,x9,x10,x11,he,hz=>by
  rw[GaB,GdD] at hz
  obtain⟨s0,s1,ml⟩:=he e Gam
  obtain⟨n,hn⟩:=GaG s0
  have hn' :n<w.aB.length:=by omega
  have hS:atD (w.aB.map b6) e.1.2=some (.tup [.str w.aB[n].name,.tup ((w.aB[n].part::w.aB[n].more).map .int),.tup (w.aB[n].aO.map bw),.int w.aB[n].young]):=by
   rw[hn,cW,Gah,Gaa hn'];rfl
  have so:=W.so w.aB[n] (GaC hn')
  have et:tgF w.aB ws e=gB ws e.1.1 e.1.2 e.2 0 w.aB[n].aO:=by
   unfold tgF
   rw[hn,GaY,Gaa hn']
   rfl
  have cl:=so.cl
  have lz:=pS ws e.1.1 e.1.2 e.2 0 w.aB[n].aO
  have lz2:w.aB[n].aO.length*e.2.length≤4*64:=Nat.mul_le_mul cl (by omega)
  obtain⟨y7,y8,y9,y10,y11,ec⟩:=uB (ws:=ws) (g:=e.1.1) (s:=e.1.2) (ms:=e.2) (e0:=some (.sh (.tup [.tup A,.tup (w.aB.map b6),.tup C,.tup O]))) (e2:=e2) ml w.aB[n].aO 0 fs x7 x8 x9 x10 x11 so.ok (by omega)
  have ev:=Nx (x6:=x6) hS ec
  rw[←et] at ev lz
  obtain⟨z4,z5,z6,z7,z8,z9,z10,z11,e'⟩:=CD W (ws:=ws) (A:=A) (C:=C) (O:=O) (e2:=e2) st (fs++tgF w.aB ws e) (some (.sh (.tup [.int e.1.1,.int e.1.2]))) (some (.sh (.lst (e.2.map mk2)))) (some (.sh (.int e.1.1))) y7 y8 y9 y10 y11 (λx hx=>he x (Gai _ hx)) (by rw[Gax];omega)
  refine⟨z4,z5,z6,z7,z8,z9,z10,z11, ?_⟩
  rw[GbR,←Gay]
  have ei:bN (mh (e::st))=D.tup [.tup [.int e.1.1,.int e.1.2],.lst (e.2.map mk2)]::bN (mh st):=rfl
  rw[ei]
  generalize e.2.map mk2=M at*
  generalize w.aB.map b6=SS at*
  simp only[forL,gT,gNs,GaR,GaS,Option.bind_some,ev]
  exact e'
theorem J4{A B C O W G F:List D}{kv:Rws}{y4 y5 y6 y7 y8 y9 y10 y11:Option Slot}(hm:cO [.tup [.tup A,.tup B,.tup C,.tup O],.tup G]=some (.dT kv))
  (h:forL (gT [4,5]) dC (bN kv) [some (.sh (.tup [.tup A,.tup B,.tup C,.tup O])),some (.sh (.tup W)),some (.sh (.tup G)),some (.own (.lst [])),none,none,none,none,none,none,none,none]=some (.nx [some (.sh (.tup [.tup A,.tup B,.tup C,.tup O])),some (.sh (.tup W)),some (.sh (.tup G)),some (.own (.lst F)),y4,y5,y6,y7,y8,y9,y10,y11]))(im:aQ F=true):
  gn [.tup [.tup A,.tup B,.tup C,.tup O],.tup W,.tup G]=some (.lst F):=by
 have rk:kC (.dT kv)=⟨.tn,.dT kv⟩:=rfl
 refine bg rfl ?_
 unfold iM
 refine(av (e:=[some (.sh (.tup [.tup A,.tup B,.tup C,.tup O])),some (.sh (.tup W)),some (.sh (.tup G)),some (.own (.lst [])),none,none,none,none,none,none,none,none]) (by simp[bz,ai])).trans ?_
 refine(av (e:=[some (.sh (.tup [.tup A,.tup B,.tup C,.tup O])),some (.sh (.tup W)),some (.sh (.tup G)),some (.own (.lst F)),y4,y5,y6,y7,y8,y9,y10,y11]) (by simp[-forL,hm,rk,h,freed])).trans ?_
 simp[im]
theorem pT{α β:Type}(f:α→List β)(N:Nat):∀l:List α,(∀a∈l,(f a).length≤N)→(l.flatMap f).length≤l.length*N
 |[],_=>by simp
 |a::l,h=>by
  have h1:=h a Gam
  have h2:=pT f N l λx hx=>h x (Gai _ hx)
  rw[GbR,Gax,GaB,GdD]
  omega
theorem Ny{w:World}{ws gv:List Tr}(W:bJ w)(hg:fW w.orders.length gv)(hl:gv.length<64):∃st,sE w.orders gv st∧gn [bA w,.tup (ws.map trD),.tup (gv.map trD)]=some (.lst ((st.flatMap (tgF w.aB ws)).map ay))∧(st.flatMap (tgF w.aB ws)).length≤20000:=by
 obtain⟨st,I,em⟩:=J3 W hg hl
 have ln:=I.ln
 have he:∀e∈st,0≤e.1.2∧e.1.2<w.aB.length∧e.2.length<64:=λe hes=>by
  obtain⟨t,ht,ek⟩:=I.back e hes
  have g0:=hg t ht
  obtain⟨n,hn⟩:=GaG g0.1
  have hn' :n<w.orders.length:=by omega
  have ok:=W.oo w.orders[n] (GaC hn')
  have:tk w.orders t=(w.orders[n].aY,w.orders[n].br):=by
   unfold tk
   rw[hn,GaY,Gaa hn']
  rw[this] at ek
  rw[←ek]
  have:=I.Nv hes
  exact⟨ok.s0,ok.s1,by omega⟩
 obtain⟨y4,y5,y6,y7,y8,y9,y10,y11,e⟩:=CD W (ws:=ws) (A:=w.cn.map cQ) (C:=w.cU.map trD) (O:=w.orders.map aF) (e2:=some (.sh (.tup (gv.map trD)))) st [] none none none none none none none none he (by simp;omega)
 refine⟨st,I,J4 em e (gK _), ?_⟩
 have h1:=pT (tgF w.aB ws) 256 st (λe hes=>by
  have h2:=pS ws e.1.1 e.1.2 e.2 0 ((w.aB[e.1.2.toNat]?.map (·.aO)).getD [])
  have h3:((w.aB[e.1.2.toNat]?.map (·.aO)).getD []).length≤4:=by
   cases h:w.aB[e.1.2.toNat]? with
   |none=>simp
   |some s=>exact(W.so s (GaP h)).cl
  have h4:=(he e hes).2.2
  have h5:=Nat.mul_le_mul h3 (Gdj h4)
  unfold tgF
  omega)
 omega
noncomputable def iH(w:World)(ws:List Tr)(t:Tr):List Flt:=match w.orders[t.1.toNat]? with
 |some o=>match w.aB[o.br.toNat]?,w.cn[o.aY.toNat]? with
  |some s,some g=>(mf o s g.2 ws t).map λk=>(k,[t.1,t.2.1])
  |_,_=>[]
 |none=>[]
theorem Aq{w:World}(W:bJ w){ws:List Tr}{t:Tr}(h0:0≤t.1)(h1:t.1<w.orders.length):fD [bA w,.tup (ws.map trD),trD t]=some (.lst ((iH w ws t).map ay))∧(iH w ws t).length≤5:=by
 obtain⟨n,hn⟩:=GaG h0
 have hn' :n<w.orders.length:=by omega
 have ok:=W.oo w.orders[n] (GaC hn')
 obtain⟨m,hm⟩:=GaG ok.s0
 have sl:=ok.s1
 have hm' :m<w.aB.length:=by omega
 obtain⟨g,hg⟩:=GaG ok.g0
 have gl:=ok.g1
 have hg' :g<w.cn.length:=by omega
 have hO:atD (w.orders.map aF) t.1=some (aF w.orders[n]):=by rw[hn,cW,Gah,Gaa hn'];rfl
 have hS:atD (w.aB.map b6) w.orders[n].br=some (b6 w.aB[m]):=by rw[hm,cW,Gah,Gaa hm'];rfl
 have hG:atD (w.cn.map cQ) w.orders[n].aY=some (cQ w.cn[g]):=by rw[hg,cW,Gah,Gaa hg'];rfl
 have e:=L6 (C:=w.cU.map trD) (ws:=ws) (t:=t) hO ok.du hS (W.so _ (GaC hm')) hG (ip _ ok.ti)
 have el:iH w ws t=(mf w.orders[n] w.aB[m] w.cn[g].2 ws t).map λk=>(k,[t.1,t.2.1]):=by
  unfold iH
  rw[hn,GaY,Gaa hn']
  dsimp only
  rw[hm,hg,GaY,GaY,Gaa hm',Gaa hg']
 constructor
 ·rw[el,GaM]
  exact e
 ·rw[el,Gad]
  unfold mf
  have h1:=dh (dJ w.orders[n].jB t.2.1) "astray"
  have h2:=dh (decide (w.orders[n].most<t.2.2)) "most"
  have h3:=dh (decide (t.2.2<1)||decide (¬t.2.2%w.aB[m].part=0)) "part"
  have h4:=dh (w.aB[m].aO.any dZ&&(wgt w.orders[n].aY t.2.1 ws none).isNone) "weight"
  have h5:=dh (decide (t.2.1<w.cn[g].2+w.aB[m].young)) "young"
  simp only[Gax]
  omega
theorem Lh{e0 e1 e2 e3:Option Slot}{wd wsd gd:D}{F R:List D}(h:fD [wd,wsd,gd]=some (.lst R))(hz:F.length+R.length<100000):
  ie [some (.sh wd),e1,some (.sh wsd),e3,some (.own (.lst F)),some (.sh gd)]=some (.nx [some (.sh wd),e1,some (.sh wsd),e3,some (.own (.lst (F++R))),some (.sh gd)]):=by
 have z:F.length+R.length≤16777216:=by omega
 have rl:kC (.lst R)=⟨.tn,.lst R⟩:=rfl
 unfold ie
 simp[h,rl,z,ai]
theorem uC{w:World}(W:bJ w){ws:List Tr}{e1 e3:Option Slot}:∀(gv:List Tr) (fs:List Flt) (x5:Option Slot),fW w.orders.length gv→fs.length+5*gv.length<100000→∃y5,
  forL (gN 5) ie (gv.map trD) [some (.sh (bA w)),e1,some (.sh (.tup (ws.map trD))),e3,some (.own (.lst (fs.map ay))),x5]=some (.nx [some (.sh (bA w)),e1,some (.sh (.tup (ws.map trD))),e3,some (.own (.lst ((fs++gv.flatMap (iH w ws)).map ay))),y5])
 |[],fs,x5,_,_=> ⟨x5,by simp⟩
 |t::gv,fs,x5,hg,hz=>by
  rw[GaB] at hz
  have g0:=hg t Gam
  obtain⟨e,l5⟩:=Aq W (ws:=ws) g0.1 g0.2
  have ev:=Lh (e0:=none) (e1:=e1) (e2:=none) (e3:=e3) (F:=fs.map ay) e (by rw[Gad,Gad];omega)
  rw[←GaN] at ev
  obtain⟨y5,e'⟩:=uC W (ws:=ws) (e1:=e1) (e3:=e3) gv (fs++iH w ws t) (some (.sh (trD t))) (λx hx=>hg x (Gai _ hx)) (by rw[Gax];omega)
  refine⟨y5, ?_⟩
  rw[Gar,GbR,←Gay]
  generalize trD t=td at*
  generalize bA w=wd at*
  simp only[forL,gN,GaR,GaS,Option.bind_some,ev]
  exact e'
theorem Ar:∀(a b:List Int),mY (a.map D.int) (b.map D.int)=true
 |[],b=>by cases b<;>rfl
 |x::a,[]=>rfl
 |x::a,y::b=>by
  rw[Gar,Gar]
  unfold mY
  split
  ·exact Ar a b
  ·rfl
theorem Gx(fs:List Flt):keysOk (fs.map ay)=true:=by
 have h1:(fs.map ay).all (mV 2)=true:=by
  rw[Gbz,Gas]
  intro p _
  show((tyD (.str p.1)==2)&&(p.2.map D.int).all mU)=true
  rw[Gbz,Gau]
  exact⟨rfl,Gas.mpr λ_ _=>rfl⟩
 have h2:((fs.map ay).all λx=>(fs.map ay).all λy=>wH x y)=true:=by
  rw[Gbz,Gas]
  intro p _
  simp only[GcK]
  rw[Gbz,Gas]
  intro q _
  show mY (.str p.1::p.2.map .int) (.str q.1::q.2.map .int)=true
  unfold mY
  split
  ·exact Ar _ _
  ·rfl
 unfold keysOk
 rw[h1,h2];simp
theorem nh:∀(a b:List Int),(a.map D.int).map b7=(b.map D.int).map b7→a=b
 |[],[],_=>rfl
 |[],_::_,h=>by simp at h
 |_::_,[],h=>by simp at h
 |x::a,y::b,h=>by
  rw[Gar,Gar,Gar,Gar] at h
  injection h with h1 h2
  have h3:[1,x]=[1,y]:=h1
  simp at h3
  rw[h3,nh a b h2]
theorem CF:∀(a b:List Nat),a.map Int.ofNat=b.map Int.ofNat→a=b
 |[],[],_=>rfl
 |[],_::_,h=>by simp at h
 |_::_,[],h=>by simp at h
 |x::a,y::b,h=>by
  rw[Gar,Gar] at h
  injection h with h1 h2
  rw[Int.ofNat.inj h1,CF a b h2]
theorem str_inj{a b:Str}(h:a.cps.toList.map Int.ofNat=b.cps.toList.map Int.ofNat):a=b:=by
 have h2:a.cps.toList=b.cps.toList:=CF _ _ h
 obtain⟨a⟩:=a
 obtain⟨b⟩:=b
 congr 1
 exact Array.ext' h2
theorem vK{f g:Flt}(h:DL.code (ay f)=DL.code (ay g)):f=g:=by
 have h' :b7 (.str f.1)::(f.2.map D.int).map b7=b7 (.str g.1)::(g.2.map D.int).map b7:=h
 injection h' with h1 h2
 have h3:(2:Int)::f.1.cps.toList.map Int.ofNat=2::g.1.cps.toList.map Int.ofNat:=h1
 injection h3 with _ h4
 exact Prod.ext (str_inj h4) (nh _ _ h2)
noncomputable def unF:D→Flt
 | .tup (.str k::ds)=>(k,ds.map unI)
 |_=>("",[])
theorem Gy(f:Flt):unF (ay f)=f:=by
 show(f.1,(f.2.map D.int).map unI)=f
 rw[GaM]
 have:f.2.map (unI∘D.int)=f.2:=by
  conv=>rhs;rw[←Gcm f.2]
  exact GaI λ_ _=>rfl
 rw[this]
noncomputable def mq(fs:List Flt):List Flt:=(cS (fs.map ay)).map unF
theorem nX(fs:List Flt):(fs.map ay).map unF=fs:=by
 rw[GaM]
 conv=>rhs;rw[←Gcm fs]
 exact GaI λf _=>Gy f
theorem As(fs:List Flt):cS (fs.map ay)=(mq fs).map ay:=by
 unfold mq
 rw[GaM]
 conv=>lhs;rw[←Gcm (cS (fs.map ay))]
 refine GaI λx hx=> ?_
 obtain⟨f,_,rfl⟩:=GaE.mp ((fO _).mem_iff.mp hx)
 simp only[GcK,Gy,id]
theorem kT(fs:List Flt):(mq fs).Perm fs:=by
 have:=(fO (fs.map ay)).map unF
 rw[nX] at this
 exact this
theorem oK(fs:List Flt):fM ((mq fs).map ay):=by
 rw[←As]
 exact g9 _
theorem Bv{a b:List Flt}(hp:a.Perm b)(h1:fM (a.map ay))(h2:fM (b.map ay)):a=b:=by
 have e:=jW (hp.map ay) h1 h2 (λx hx y hy hc=>by
  obtain⟨f,_,rfl⟩:=GaE.mp hx
  obtain⟨g,_,rfl⟩:=GaE.mp hy
  rw[vK hc])
 have:=congrArg (List.map unF) e
 rw[nX,nX] at this
 exact this
theorem vL{fs gs:List Flt}(p:Flt→Bool)(hp:(fs.filter p).Perm gs):(mq fs).filter p=mq gs:=by
 refine Bv (((kT fs).filter p).trans (hp.trans (kT gs).symm)) ?_ (oK gs)
 have h:=oK fs
 unfold fM at h⊢
 rw[GcY] at h⊢
 exact h.filter p
theorem sG(fs:List Flt)(hz:fs.length<1000000):gc [.lst (fs.map ay)]=some ⟨.tn,.lst ((mq fs).map ay)⟩:=by
 have z:(fs.map ay).length<1000000:=by rw[Gad];exact hz
 unfold gc one mX
 simp only[Option.bind_some]
 rw[Gx,GaL z,As]
 rfl
theorem Bw{wd:D}{W G F0 F1 F2 F3 F R:List D}{y5:Option Slot}(h0:F1++F2++F3=F0)(h1:gn [wd,.tup W,.tup G]=some (.lst F1))(h2:gp [wd,.tup G]=some (.lst F2))(h3:dS [wd,.tup G]=some (.lst F3))(z:F1.length+F2.length+F3.length<100000)
  (hl:forL (gN 5) ie G [some (.sh wd),some (.sh (.tup [.tup W,.tup G])),some (.sh (.tup W)),some (.sh (.tup G)),some (.own (.lst F0)),none]=some (.nx [some (.sh wd),some (.sh (.tup [.tup W,.tup G])),some (.sh (.tup W)),some (.sh (.tup G)),some (.own (.lst F)),y5]))(hs:gc [.lst F]=some ⟨.tn,.lst R⟩)(iw:aQ W=true)(ig:aQ G=true)(ir:aQ R=true):
  m6 [wd,.tup [.tup W,.tup G]]=some (.lst R):=by
 have r1:∀L:List D,kC (.lst L)=⟨.tn,.lst L⟩:=λ_=>rfl
 have z1:F1.length+F2.length≤16777216:=by omega
 have z2:F1.length+F2.length+F3.length≤16777216:=by omega
 refine bg rfl ?_
 unfold oE
 refine(av (e:=[some (.sh wd),some (.sh (.tup [.tup W,.tup G])),some (.sh (.tup W)),none,none,none]) (by simp[bz,iw])).trans ?_
 refine(av (e:=[some (.sh wd),some (.sh (.tup [.tup W,.tup G])),some (.sh (.tup W)),some (.sh (.tup G)),none,none]) (by simp[ig])).trans ?_
 refine(av (e:=[some (.sh wd),some (.sh (.tup [.tup W,.tup G])),some (.sh (.tup W)),some (.sh (.tup G)),some (.own (.lst F0)),none]) (by rw[←h0];simp[h1,h2,h3,r1,z1,z2,ai])).trans ?_
 refine(av (e:=[some (.sh wd),some (.sh (.tup [.tup W,.tup G])),some (.sh (.tup W)),some (.sh (.tup G)),some (.own (.lst F)),y5]) (by simp[-forL,hl,freed])).trans ?_
 simp[hs,ir]
theorem sI(os:List Order)(gs:List Tr)(w:Int):∀rows:List (Int×Int),rows.length<64→(cR os gs w rows).length≤64*rows.length
 |[],_=>by simp[cR]
 |r::rs,h=>by
  rw[GaB] at h
  have h1:=pR os gs w r rs
  have h2:=sI os gs w rs (by omega)
  unfold cR
  rw[Gax,GaB]
  omega
theorem Au{w:World}{ws gv:List Tr}(W:bJ w)(hg:fW w.orders.length gv)(hl:gv.length<64):∃(st:List Tg) (rows:List (Int×Int)),sE w.orders gv st∧rows.Perm (gvR gv)∧cS ((gvR gv).map mk2)=rows.map mk2∧(rows.Pairwise λa b=>a.1≤b.1)∧
  m6 [bA w,.tup [.tup (ws.map trD),.tup (gv.map trD)]]=some (.lst ((mq (st.flatMap (tgF w.aB ws)++cR w.orders (w.cU.foldl bS []) (wide w.cU) rows++twF (gv.foldl (cF w.orders) [])++gv.flatMap (iH w ws))).map ay))∧
  (st.flatMap (tgF w.aB ws)++cR w.orders (w.cU.foldl bS []) (wide w.cU) rows++twF (gv.foldl (cF w.orders) [])++gv.flatMap (iH w ws)).length<100000:=by
 obtain⟨st,I,h1,z1⟩:=Ny (ws:=ws) W hg hl
 obtain⟨rows,r1,r2,r3,h2⟩:=Nu W hg hl
 obtain⟨h3,z3⟩:=IQ W hg hl
 have lr:rows.length=gv.length:=by rw[r2.length_eq];simp[gvR]
 have z2:=sI w.orders (w.cU.foldl bS []) (wide w.cU) rows (by omega)
 have z3' :(twF (gv.foldl (cF w.orders) [])).length≤64:=by
  unfold twF
  rw[Gad]
  have:=GcG (λt:Tr=>decide (1<t.2.2)) (gv.foldl (cF w.orders) [])
  omega
 have z4:(gv.flatMap (iH w ws)).length≤gv.length*5:=pT _ 5 gv λt ht=>(Aq W (ws:=ws) (hg t ht).1 (hg t ht).2).2
 obtain⟨y5,e⟩:=uC W (ws:=ws) (e1:=some (.sh (.tup [.tup (ws.map trD),.tup (gv.map trD)]))) (e3:=some (.sh (.tup (gv.map trD)))) gv (st.flatMap (tgF w.aB ws)++cR w.orders (w.cU.foldl bS []) (wide w.cU) rows++twF (gv.foldl (cF w.orders) [])) none hg (by simp only[Gax];omega)
 have zz:(st.flatMap (tgF w.aB ws)++cR w.orders (w.cU.foldl bS []) (wide w.cU) rows++twF (gv.foldl (cF w.orders) [])++gv.flatMap (iH w ws)).length<100000:=by
  simp only[Gax]
  omega
 refine⟨st,rows,I,r2,r1,r3, ?_,zz⟩
 generalize st.flatMap (tgF w.aB ws)=F1 at*
 generalize cR w.orders (w.cU.foldl bS []) (wide w.cU) rows=F2 at*
 generalize twF (gv.foldl (cF w.orders) [])=F3 at*
 rw[GaN,GaN] at e
 exact Bw rfl h1 h2 h3 (by simp only[Gad];omega) e (sG _ (by omega)) (jK ws) (jK gv) (gK _)
theorem Gz(i:Int):jJ [.int i]=some (.bl true):=by
 unfold jJ jI
 simp[k7]
theorem uD{fd:D}{e0:Option Slot}:∀(ns:List Int) (x2:Option Slot),∃y2,forL (gN 2) dD (ns.map D.int) [e0,some (.sh fd),x2]=some (.nx [e0,some (.sh fd),y2])
 |[],x2=> ⟨x2,by simp⟩
 |n::ns,x2=>by
  have ev:dD [e0,some (.sh fd),some (.sh (.int n))]=some (.nx [e0,some (.sh fd),some (.sh (.int n))]):=by
   unfold dD
   simp[Gz]
  obtain⟨y2,e⟩:=uD ns (some (.sh (.int n)))
  refine⟨y2, ?_⟩
  rw[Gar]
  simp only[forL,gN,GaR,GaS,Option.bind_some,ev]
  exact e
theorem Ef{k:Str}{L:List D}{n:Int}{e0 x2 y2:Option Slot}(hn:cN [.tup (.str k::L)]=some ⟨.c,.int n⟩)(hn3:¬n<3)(hs:slD (some 1) none (.tup (.str k::L))=some ⟨.c,.tup L⟩)(h:forL (gN 2) dD L [e0,some (.sh (.tup (.str k::L))),x2]=some (.nx [e0,some (.sh (.tup (.str k::L))),y2])):
  fN [e0,some (.sh (.tup (.str k::L))),x2]=some (.nx [e0,some (.sh (.tup (.str k::L))),y2]):=by
 have hx:ixD (.tup (.str k::L)) (.int 0)=some (.str k):=rfl
 have hi:k7 "tuple" (.tup (.str k::L))=true:=rfl
 have hc:lM (.tup (.str k::L))=false:=rfl
 have hi2:k7 "str" (.str k)=true:=rfl
 have hc2:lM (.str k)=false:=rfl
 generalize D.tup (.str k::L)=fd at*
 unfold fN
 refine(av (e:=[e0,some (.sh fd),x2]) (by simp[hi,hc,hn,hn3,hx,hi2,hc2])).trans ?_
 simp[-forL,hs,h,freed]
theorem ql{e0:Option Slot}:∀(fs:List Flt) (x1 x2:Option Slot),(∀f∈fs,2≤f.2.length)→∃y1 y2,forL (gN 1) fN (fs.map ay) [e0,x1,x2]=some (.nx [e0,y1,y2])
 |[],x1,x2,_=> ⟨x1,x2,by simp⟩
 |f::fs,x1,x2,h=>by
  have h0:=h f Gam
  obtain⟨y2,e⟩:=uD (fd:=ay f) (e0:=e0) f.2 x2
  have hs:slD (some 1) none (.tup (.str f.1::f.2.map .int))=some ⟨.c,.tup (f.2.map .int)⟩:=by
   have e1:sIx (D.str f.1::f.2.map .int).length 0 (some 1)=1:=by
    show min 1 (D.str f.1::f.2.map .int).length=1
    simp
   have e2:sIx (D.str f.1::f.2.map .int).length (D.str f.1::f.2.map .int).length none=(D.str f.1::f.2.map .int).length:=rfl
   unfold slD
   dsimp only
   rw[e1,e2,Gaj (by simp)]
   unfold cutD
   rw[e1,e2]
   simp only[List.drop_succ_cons,GbF]
   rw[Gbs (by simp)]
  have ev:=Ef (k:=f.1) (L:=f.2.map .int) (n:=((f.2.length+1:Nat):Int)) (by simp[cN]) (by omega) hs e
  obtain⟨z1,z2,e'⟩:=ql (e0:=e0) fs (some (.sh (ay f))) y2 λx hx=>h x (Gai _ hx)
  refine⟨z1,z2, ?_⟩
  rw[Gar]
  have fe:D.tup (.str f.1::f.2.map .int)=ay f:=rfl
  rw[fe] at ev
  generalize ay f=fd at*
  simp only[forL,gN,GaR,GaS,Option.bind_some,ev]
  exact e'
theorem GA{fs:List Flt}(h:∀f∈fs,2≤f.2.length):gw [.lst (fs.map ay)]=some (.bl true):=by
 obtain⟨y1,y2,e⟩:=ql (e0:=some (.sh (.lst (fs.map ay)))) fs none none h
 refine bg rfl ?_
 unfold iV
 generalize fs.map ay=F at*
 refine(av (e:=[some (.sh (.lst F)),none,none]) (by simp[bz,k7,lM])).trans ?_
 refine(av (e:=[some (.sh (.lst F)),y1,y2]) (by simp[-forL,e,freed])).trans ?_
 simp
theorem Li(f:Flt):eqD (ay f) (ay f)=true:=by
 have h:=G1 f.2
 unfold ay
 simp[h]
theorem J5(fs:List Flt):eqB (.lst (fs.map ay)) (.lst (fs.map ay))=some true:=by
 have h1:D.plain (.lst (fs.map ay))=true:=by
  show(fs.map ay).all (aA 19)=true
  rw[Gbz,Gas]
  intro f _
  show((D.str f.1::f.2.map .int).all (aA 18))=true
  have:=Bo 18 f.2
  simp only[GbE,this,Bool.and_true]
  rfl
 have h2:eqD (.lst (fs.map ay)) (.lst (fs.map ay))=true:=by
  show lL _ _=true
  induction fs with
  |nil=>rfl
  |cons f fs ih=>
   have h1:D.plain (.lst (fs.map ay))=true:=by
    rename D.plain _=true=>hp
    have hp' :((f::fs).map ay).all (aA 19)=true:=hp
    simp only[Gar,GbE,Gau] at hp'
    exact hp'.2
   have:=ih h1
   rw[Gar]
   show(eqD (ay f) (ay f)&&lL _ _)=true
   rw[Li,this];rfl
 unfold eqB
 rw[h1,h2];rfl
theorem Eg{ws:List Tr}{c:Cap}{g s k:Int}{r:Int×Int}{f:Flt}(h:f∈dA ws c g s k r):f.1="cap"∧2≤f.2.length:=by
 unfold dA at h
 split at h
 ·split at h
  ·simp at h;rw[h];exact⟨rfl,by simp⟩
  ·simp at h
 ·simp at h
theorem sJ{ws:List Tr}{g s:Int}{ms:List (Int×Int)}{f:Flt}:∀(cs:List Cap) (k:Nat),f∈gB ws g s ms k cs→f.1="cap"∧2≤f.2.length
 |[],k,h=>by simp[gB] at h
 |c::cs,k,h=>by
  unfold gB at h
  rcases Gav.mp h with h|h
  ·unfold ju at h
   obtain⟨r,_,hr⟩:=GbB.mp h
   exact Eg hr
  ·exact sJ cs (k+1) h
theorem Av{ss:List jt}{ws:List Tr}{st:List Tg}{f:Flt}(h:f∈st.flatMap (tgF ss ws)):f.1="cap"∧2≤f.2.length:=by
 obtain⟨e,_,h⟩:=GbB.mp h
 exact sJ _ _ h
theorem GB{os:List Order}{gs:List Tr}{r l:Int×Int}{f:Flt}(h:f∈gpF os gs r l):f.1="gap"∧2≤f.2.length:=by
 unfold gpF at h
 split at h
 ·split at h
  ·simp at h;rw[h];exact⟨rfl,by simp⟩
  ·simp at h
 ·simp at h
theorem qp{os:List Order}{gs:List Tr}{w:Int}{r:Int×Int}{f:Flt}:∀ls:List (Int×Int),f∈kl os gs w r ls→f.1="gap"∧2≤f.2.length
 |[],h=>by simp[kl] at h
 |l::ls,h=>by
  unfold kl at h
  split at h
  ·simp at h
  ·rcases Gav.mp h with h|h
   ·exact GB h
   ·exact qp ls h
theorem kU{os:List Order}{gs:List Tr}{w:Int}{f:Flt}:∀ls:List (Int×Int),f∈cR os gs w ls→f.1="gap"∧2≤f.2.length
 |[],h=>by simp[cR] at h
 |l::ls,h=>by
  unfold cR at h
  rcases Gav.mp h with h|h
  ·exact qp _ h
  ·exact kU ls h
theorem Aw{ts:List Tr}{f:Flt}(h:f∈twF ts):f.1="twice"∧2≤f.2.length:=by
 unfold twF at h
 obtain⟨t,_,rfl⟩:=GaE.mp h
 exact⟨rfl,by simp⟩
noncomputable def Ax:List Str:=["astray","most","part","weight","young"]
theorem Lj{b:Bool}{x k:Str}(h:k∈kk b x):k=x:=by
 cases b<;>simp[kk] at h
 exact h
theorem Ay{o:Order}{s:jt}{b:Int}{ws:List Tr}{t:Tr}{k:Str}(h:k∈mf o s b ws t):k∈Ax:=by
 unfold mf at h
 unfold Ax
 simp only[Gav] at h
 rcases h with(((h|h)|h)|h)|h<;>rw[Lj h]<;>simp
theorem sL{w:World}{ws:List Tr}{t:Tr}{f:Flt}(h:f∈iH w ws t):f.1∈Ax∧2≤f.2.length:=by
 unfold iH at h
 split at h
 ·split at h
  ·obtain⟨k,hk,rfl⟩:=GaE.mp h
   exact⟨Ay hk,by simp⟩
  ·simp at h
 ·simp at h
theorem filter_all{α:Type}{p:α→Bool}{l:List α}(h:∀x∈l,p x=true):l.filter p=l:=List.filter_eq_self.mpr h
theorem pU{α:Type}{p:α→Bool}{l:List α}(h:∀x∈l,p x=false):l.filter p=[]:=List.filter_eq_nil_iff.mpr λx hx=>by rw[h x hx];simp
theorem Bx{w:World}(W:bJ w):(bA w).imm=true:=by
 have h1:=gy sf w.cn
 have h2:=gy kR w.aB
 have h3:=jK w.cU
 have h4:aQ (w.orders.map aF)=true:=by
  have:∀l:List Order,(∀o∈l,oH w.cn.length w.aB.length o)→aQ (l.map aF)=true:=by
   intro l
   induction l with
   |nil=>intro _;rfl
   |cons o l ih=>
    intro h
    have h1:=ip o (h o Gam).ti
    have h2:=ih λx hx=>h x (Gai _ hx)
    rw[Gar]
    simp[h1,h2]
  exact this w.orders W.oo
 unfold bA
 simp[h1,h2,h3,h4]
theorem GC{ns:List Int}(hl:ns.length≤63):∃(n:Nat) (len mn:Int),n<64∧cN [.scr ns]=some ⟨.c,.int len⟩∧o8 [.int len,.int 30]=some ⟨.c,.int mn⟩∧mn+draw ns 12 4=(n:Int):=by
 have l:=aX ns 12 4 (by omega)
 refine⟨((if(30:Int)<ns.length then 30 else ns.length)+draw ns 12 4).toNat,ns.length,if(30:Int)<ns.length then 30 else ns.length, ?_,by simp[cN],rfl, ?_⟩
 ·split<;>omega
 ·split<;>omega
noncomputable def iD(k:Str)(f:Flt):Bool:=f.1==k
theorem Eh(k:Str)(fs:List Flt):cE (gN 0) (aZ eqB (ixE (vE 0) (kE (.int 0))) (kE (.str k))) (vE 0) (fs.map ay) [none]=some ((fs.filter (iD k)).map ay):=by
 refine mR (g:=gN 0) ay (λenv=>∃y,env=[y]) (iD k) ay fs _ ⟨none,rfl⟩ ?_
 rintro f hf env ⟨y,rfl⟩
 have im:(ay f).imm=true:=by
  have:=oG f.2
  simp[ay,this]
 have hx:ixD (ay f) (.int 0)=some (.str f.1):=rfl
 have hw:eqB (.str f.1) (.str k)=some (iD k f):=by unfold eqB iD;rfl
 generalize ay f=fd at*
 refine⟨[some (.sh fd)],rfl,⟨_,rfl⟩, ?_,λ_=> ⟨.c, ?_, ?_⟩⟩
 ·simp[hx,hw]
 ·simp[im]
 ·simp[RV.free]
theorem Ej{w:World}{ws gv T:List Tr}{st:List Tg}{gs:List Tr}{wd:Int}{rows:List (Int×Int)}:∀f∈st.flatMap (tgF w.aB ws)++cR w.orders gs wd rows++twF T++gv.flatMap (iH w ws),2≤f.2.length:=by
 intro f hf
 rcases Gav.mp hf with hf|hf
 ·rcases Gav.mp hf with hf|hf
  ·rcases Gav.mp hf with hf|hf
   ·exact(Av hf).2
   ·exact(kU _ hf).2
  ·exact(Aw hf).2
 ·obtain⟨t,_,h⟩:=GbB.mp hf
  exact(sL h).2
theorem GF{f:Flt}{k:Str}(h:f.1∈Ax)(hk:Ax.all (λx=> !(x==k))=true):iD k f=false:=by
 have:=Gas.mp hk _ h
 unfold iD
 simpa using this
theorem GG{w:World}{ws gv T:List Tr}{st:List Tg}{gs:List Tr}{wd:Int}{rows:List (Int×Int)}:(st.flatMap (tgF w.aB ws)++cR w.orders gs wd rows++twF T++gv.flatMap (iH w ws)).filter (iD "cap")=st.flatMap (tgF w.aB ws):=by
 rw[Gcx,Gcx,Gcx]
 rw[filter_all (l:=st.flatMap (tgF w.aB ws)) λf hf=>by unfold iD;rw[(Av hf).1];rfl]
 rw[pU (l:=cR w.orders gs wd rows) λf hf=>by unfold iD;rw[(kU _ hf).1];rfl]
 rw[pU (l:=twF T) λf hf=>by unfold iD;rw[(Aw hf).1];rfl]
 rw[pU λf hf=>by
  obtain⟨t,_,h⟩:=GbB.mp hf
  exact GF (sL h).1 rfl]
 simp
theorem sM{c:Cap}{w:Option Int}(ok:n8 c):dm [bw c,fL w]=some (fL (dz c w)):=by
 cases c with
 |ever t=>unfold dm dW bw dz;simp
 |flat h t=>unfold dm dW bw dz;simp
 |kilo h t p=>
  obtain⟨h1,t1,t2,p1,p2⟩:=ok
  cases w with
  |none=>unfold dm dW bw dz;simp[o7,cD]
  |some w=>
   have mm:cf w t=true:=oF (by omega) (by omega)
   have pp:0<p∧p<1073741824:=by omega
   unfold dm dW bw dz
   simp[o7,cD,mm,pp]
theorem GH{c:Cap}{h a:Int}{e0 e1 e2 e5 e6 e8:Option Slot}:jz (aZ leB (vE 7) (vE 4)) (orT (aZ eqB (ixE (vE 3) (kE (.int 0))) (kE (.str "ever"))) (aZ gtB (vE 7) (opE k6 (vE 4) (ixE (vE 3) (kE (.int 1)))))) [e0,e1,e2,some (.sh (bw c)),some (.sh (.int h)),e5,e6,some (.sh (.int a)),e8]=some (lu c h a):=by
 by_cases c1:a≤h
 ·cases c with
  |ever t=>simp[bw,lu,c1]
  |flat H t=>simp[bw,lu,c1]
  |kilo H t p=>simp[bw,lu,c1]
 ·have c1' :h<a:=by omega
  cases c<;>simp[bw,lu,c1,c1']
theorem Lk{A B C O:List D}{bk OD own:D}{c:Cap}{h T n a m g s g' s' :Int}(hO:atD O n=some OD)(hs:slD (some 1) (some 3) OD=some ⟨.c,.tup [.int g',.int s']⟩)(ho:slD (some 1) (some 3) own=some ⟨.c,.tup [.int g,.int s]⟩):
  dX [some (.sh (.tup [.tup A,.tup B,.tup C,.tup O])),some (.sh bk),some (.sh own),some (.sh (bw c)),some (.sh (.int h)),some (.sh (.int T)),some (.sh (.int n)),some (.sh (.int a)),some (.sh (.int m))]=
   some (.nx [some (.sh (.tup [.tup A,.tup B,.tup C,.tup O])),some (.sh bk),some (.sh own),some (.sh (bw c)),some (.sh (.int h)),some (.sh (.int (T+if decide ((g',s')=(g,s))&&lu c h a then m else 0))),some (.sh (.int n)),some (.sh (.int a)),some (.sh (.int m))]):=by
 have t2:=GH (c:=c) (h:=h) (a:=a) (e0:=some (.sh (.tup [.tup A,.tup B,.tup C,.tup O]))) (e1:=some (.sh bk)) (e2:=some (.sh own)) (e5:=some (.sh (.int T))) (e6:=some (.sh (.int n))) (e8:=some (.sh (.int m)))
 have t1:aZ eqB (slE (ixE (ixE (vE 0) (kE (.int 3))) (vE 6)) (fX (kE (.int 1))) (fX (kE (.int 3)))) (slE (vE 2) (fX (kE (.int 1))) (fX (kE (.int 3)))) [some (.sh (.tup [.tup A,.tup B,.tup C,.tup O])),some (.sh bk),some (.sh own),some (.sh (bw c)),some (.sh (.int h)),some (.sh (.int T)),some (.sh (.int n)),some (.sh (.int a)),some (.sh (.int m))]=some (decide ((g',s')=(g,s))):=by
  generalize bw c=cd
  simp[hO,hs,ho,eqB]
  rw[Bool.eq_iff_iff];simp
 unfold dX
 generalize lu c h a=q at*
 generalize decide ((g',s')=(g,s))=r at*
 generalize bw c=cd at*
 unfold ifS
 have t3:jz (aZ eqB (slE (ixE (ixE (vE 0) (kE (.int 3))) (vE 6)) (fX (kE (.int 1))) (fX (kE (.int 3)))) (slE (vE 2) (fX (kE (.int 1))) (fX (kE (.int 3))))) (jz (aZ leB (vE 7) (vE 4)) (orT (aZ eqB (ixE (vE 3) (kE (.int 0))) (kE (.str "ever"))) (aZ gtB (vE 7) (opE k6 (vE 4) (ixE (vE 3) (kE (.int 1))))))) [some (.sh (.tup [.tup A,.tup B,.tup C,.tup O])),some (.sh bk),some (.sh own),some (.sh cd),some (.sh (.int h)),some (.sh (.int T)),some (.sh (.int n)),some (.sh (.int a)),some (.sh (.int m))]=some (r&&q):=by
  generalize aZ eqB (slE (ixE (ixE (vE 0) (kE (.int 3))) (vE 6)) (fX (kE (.int 1))) (fX (kE (.int 3)))) (slE (vE 2) (fX (kE (.int 1))) (fX (kE (.int 3))))=T1 at*
  generalize jz (aZ leB (vE 7) (vE 4)) _=T2 at*
  show(T1 _).bind _=_
  rw[t1,Option.bind_some]
  cases r
  ·rfl
  ·exact t2
 rw[t3,Option.bind_some]
 cases r<;>cases q<;>simp
noncomputable def dF(os:List Order)(c:Cap)(k:Int×Int)(h:Int):List Tr→Int
 |[]=>0
 |t::gv=>(if decide (tk os t=k)&&lu c h t.2.1 then t.2.2 else 0)+dF os c k h gv
theorem sN(os:List Order)(c:Cap)(k:Int×Int)(h:Int):∀gv:List Tr,dF os c k h gv=k5 c ((gv.filter λt=>decide (tk os t=k)).map λt=>(t.2.1,t.2.2)) h
 |[]=>rfl
 |t::gv=>by
  have ih:=sN os c k h gv
  unfold dF
  rw[ih]
  unfold k5
  by_cases e:tk os t=k
  ·rw[List.filter_cons_of_pos (by simpa using e)]
   simp[e]
  ·rw[List.filter_cons_of_neg (by simpa using e)]
   simp[e]
theorem Az{w:World}(W:bJ w){A B C:List D}{bk own:D}{c:Cap}{h g s:Int}(ho:slD (some 1) (some 3) own=some ⟨.c,.tup [.int g,.int s]⟩):∀(gv:List Tr) (T:Int) (x6 x7 x8:Option Slot),fW w.orders.length gv→∃y6 y7 y8,
  forL (gT [6,7,8]) dX (gv.map trD) [some (.sh (.tup [.tup A,.tup B,.tup C,.tup (w.orders.map aF)])),some (.sh bk),some (.sh own),some (.sh (bw c)),some (.sh (.int h)),some (.sh (.int T)),x6,x7,x8]=
   some (.nx [some (.sh (.tup [.tup A,.tup B,.tup C,.tup (w.orders.map aF)])),some (.sh bk),some (.sh own),some (.sh (bw c)),some (.sh (.int h)),some (.sh (.int (T+dF w.orders c (g,s) h gv))),y6,y7,y8])
 |[],T,x6,x7,x8,_=> ⟨x6,x7,x8,by simp[dF]⟩
 |t::gv,T,x6,x7,x8,hg=>by
  have g0:=hg t Gam
  obtain⟨n,hn⟩:=GaG g0.1
  have hn' :n<w.orders.length:=by omega
  have hO:atD (w.orders.map aF) t.1=some (aF w.orders[n]):=by rw[hn,cW,Gah,Gaa hn'];rfl
  have hs:slD (some 1) (some 3) (aF w.orders[n])=some ⟨.c,.tup [.int w.orders[n].aY,.int w.orders[n].br]⟩:=rfl
  have etk:tk w.orders t=(w.orders[n].aY,w.orders[n].br):=by
   unfold tk
   rw[hn,GaY,Gaa hn']
  have ev:=Lk (A:=A) (B:=B) (C:=C) (bk:=bk) (c:=c) (h:=h) (T:=T) (a:=t.2.1) (m:=t.2.2) hO hs ho
  rw[←etk] at ev
  obtain⟨y6,y7,y8,e⟩:=Az W (A:=A) (B:=B) (C:=C) (bk:=bk) (c:=c) (h:=h) ho gv (T+if decide (tk w.orders t=(g,s))&&lu c h t.2.1 then t.2.2 else 0) (some (.sh (.int t.1))) (some (.sh (.int t.2.1))) (some (.sh (.int t.2.2))) λx hx=>hg x (Gai _ hx)
  refine⟨y6,y7,y8, ?_⟩
  rw[Gar]
  conv=>rhs;unfold dF
  rw[←Int.add_assoc]
  have ed:trD t= .tup [.int t.1,.int t.2.1,.int t.2.2]:=rfl
  rw[ed]
  generalize bw c=cd at*
  generalize w.orders.map aF=OS at*
  simp only[forL,gT,gNs,GaR,GaS,Option.bind_some,ev]
  exact e
theorem J6{wd bkW own cd:D}{G:List D}{h T:Int}{y6 y7 y8:Option Slot}(e:forL (gT [6,7,8]) dX G [some (.sh wd),some (.sh (.tup [bkW,.tup G])),some (.sh own),some (.sh cd),some (.sh (.int h)),some (.sh (.int 0)),none,none,none]=some (.nx [some (.sh wd),some (.sh (.tup [bkW,.tup G])),some (.sh own),some (.sh cd),some (.sh (.int h)),some (.sh (.int T)),y6,y7,y8])):
  il [wd,.tup [bkW,.tup G],own,cd,.int h]=some (.int T):=by
 refine bg rfl ?_
 unfold jH
 refine(av (e:=[some (.sh wd),some (.sh (.tup [bkW,.tup G])),some (.sh own),some (.sh cd),some (.sh (.int h)),some (.sh (.int 0)),none,none,none]) (by simp[bz])).trans ?_
 refine(av (e:=[some (.sh wd),some (.sh (.tup [bkW,.tup G])),some (.sh own),some (.sh cd),some (.sh (.int h)),some (.sh (.int T)),y6,y7,y8]) (by simp[-forL,e,freed])).trans ?_
 simp
theorem J7{w:World}(W:bJ w){o:Order}{c:Cap}{h:Int}{bkW:D}{gv:List Tr}(hg:fW w.orders.length gv):il [bA w,.tup [bkW,.tup (gv.map trD)],aF o,bw c,.int h]=some (.int (dF w.orders c (o.aY,o.br) h gv)):=by
 obtain⟨y6,y7,y8,e⟩:=Az W (A:=w.cn.map cQ) (B:=w.aB.map b6) (C:=w.cU.map trD) (bk:= .tup [bkW,.tup (gv.map trD)]) (own:=aF o) (c:=c) (h:=h) (g:=o.aY) (s:=o.br) rfl gv 0 none none none hg
 rw[Int.zero_add] at e
 exact J6 e
noncomputable def pV(f:Flt):List Key:=Sum.inr f.1::f.2.map Sum.inl
theorem uE:∀ns:List Int,keysOf (ns.map D.int)=some (ns.map Sum.inl)
 |[]=>rfl
 |n::ns=>by
  have:=uE ns
  simp[keyOf,this]
theorem By(f:Flt):keysOf (.str f.1::f.2.map D.int)=some (pV f):=by
 have:=uE f.2
 simp[keyOf,this,pV]
theorem GI{f g:Flt}(h:pV f=pV g):f=g:=by
 obtain⟨a,as⟩:=f
 obtain⟨b,bs⟩:=g
 simp only[pV,Gcb,Sum.inr.injEq] at h
 obtain⟨h1,h2⟩:=h
 have:∀(as bs:List Int),as.map (Sum.inl:Int→Key)=bs.map Sum.inl→as=bs:=by
  intro as
  induction as with
  |nil=>intro bs h;cases bs with
   |nil=>rfl
   |cons b bs=>simp at h
  |cons a as ih=>intro bs h;cases bs with
   |nil=>simp at h
   |cons b bs=>
    simp only[Gar,Gcb,Sum.inl.injEq] at h
    rw[h.1,ih bs h.2]
 rw[h1,this as bs h2]
noncomputable def fA(l:List Flt):Rws:=l.map λf=>(pV f,D.bl true)
noncomputable def ft(l:List Flt)(f:Flt):List Flt:=if f∈l then l else l++[f]
theorem Ek(l:List Flt)(f:Flt):(ft l f).length≤l.length+1:=by
 unfold ft
 split
 ·omega
 ·simp
theorem GJ{l:List Flt}{f:Flt}(hz:l.length<100000):putD (.dT (fA l)) (ay f) (.bl true)=some (.dT (fA (ft l f))):=by
 have hk:=By f
 have z:(fA l).length<ai:=by unfold fA ai;rw[Gad];omega
 unfold putD ay
 dsimp only
 rw[Gag z,hk,Gcc]
 congr 2
 unfold put
 have an:((fA l).any λkv=>decide (kv.1=pV f))=decide (f∈l):=by
  rw[Bool.eq_iff_iff,List.any_eq_true,decide_eq_true_iff]
  constructor
  ·rintro⟨kv,hkv,e⟩
   obtain⟨g,hg,rfl⟩:=GaE.mp hkv
   have:=GI (GaD e)
   rw[←this];exact hg
  ·intro h
   exact⟨_,GaE.mpr ⟨f,h,rfl⟩,GaL rfl⟩
 rw[an]
 unfold ft
 by_cases c:f∈l
 ·rw[Gag (GaL c),Gag c]
  unfold fA
  rw[GaM]
  refine GaI λg hg=> ?_
  show(if pV g=pV f then(pV g,D.bl true) else(pV g,D.bl true))=_
  split<;>rfl
 ·rw[Gaj (by simpa using c),Gaj c]
  unfold fA
  rw[GaN]
  rfl
theorem El(l:List Flt):u4 (fA l)=l.map ay:=by
 unfold u4 fA
 rw[GaM]
 refine GaI λf _=> ?_
 show D.tup ((pV f).map De)=ay f
 unfold pV ay
 rw[Gar,GaM]
 rfl
theorem GK{wd bk OD:D}{e3 e5 e7:Option Slot}{l:List Flt}{h k T g s top:Int}(h1:ixD OD (.int 1)=some (.int g))(h2:ixD OD (.int 2)=some (.int s))(hz:l.length<100000):
  t9 2 (bM (a5 (kE (.str "cap")) (a5 (ixE (vE 6) (kE (.int 1))) (a5 (ixE (vE 6) (kE (.int 2))) (a5 (vE 8) (a5 (vE 4) (a5 (vE 10) (a5 (vE 9) aq)))))))) (kE (.bl true)) [some (.sh wd),some (.sh bk),some (.own (.dT (fA l))),e3,some (.sh (.int h)),e5,some (.sh OD),e7,some (.sh (.int k)),some (.sh (.int top)),some (.sh (.int T))]=
   some (.nx [some (.sh wd),some (.sh bk),some (.own (.dT (fA (ft l ("cap",[g,s,k,h,T,top]))))),e3,some (.sh (.int h)),e5,some (.sh OD),e7,some (.sh (.int k)),some (.sh (.int top)),some (.sh (.int T))]):=by
 have pd:putD (.dT (fA l)) (.tup [.str "cap",.int g,.int s,.int k,.int h,.int T,.int top]) (.bl true)=_:=GJ (f:=("cap",[g,s,k,h,T,top])) hz
 generalize fA l=kv at*
 generalize fA (ft l ("cap",[g,s,k,h,T,top]))=kv' at*
 simp[h1,h2,ai,RV.free,pd]
theorem J8{wd bkW bkG OD cd:D}{Cs:List D}{e3 e5 x9 x10:Option Slot}{l:List Flt}{h k T g s:Int}{wo to:Option Int}(h1:ixD OD (.int 1)=some (.int g))(h2:ixD OD (.int 2)=some (.int s))(hc:atD Cs k=some cd)(ew:iU [bkW,.int g,.int h]=some (fL wo))(eb:dm [cd,fL wo]=some (fL to))(et:il [wd,.tup [bkW,bkG],OD,cd,.int h]=some (.int T))(hz:l.length<100000):
  ∃y9 y10,fJ [some (.sh wd),some (.sh (.tup [bkW,bkG])),some (.own (.dT (fA l))),e3,some (.sh (.int h)),e5,some (.sh OD),some (.sh (.tup Cs)),some (.sh (.int k)),x9,x10]=
   some (.nx [some (.sh wd),some (.sh (.tup [bkW,bkG])),some (.own (.dT (fA ((match to with|some top=>if T>top then[(("cap",[g,s,k,h,T,top]):Flt)] else[]|none=>[]).foldl ft l)))),e3,some (.sh (.int h)),e5,some (.sh OD),some (.sh (.tup Cs)),some (.sh (.int k)),y9,y10]):=by
 have rw' :=c0 (gz wo)
 have rt:=c0 (gz to)
 refine⟨some (.sh (fL to)),some (.sh (.int T)), ?_⟩
 unfold fJ
 refine(av (e:=[some (.sh wd),some (.sh (.tup [bkW,bkG])),some (.own (.dT (fA l))),e3,some (.sh (.int h)),e5,some (.sh OD),some (.sh (.tup Cs)),some (.sh (.int k)),some (.sh (fL to)),x10]) (by simp[h1,hc,ew,rw',eb,rt])).trans ?_
 refine(av (e:=[some (.sh wd),some (.sh (.tup [bkW,bkG])),some (.own (.dT (fA l))),e3,some (.sh (.int h)),e5,some (.sh OD),some (.sh (.tup Cs)),some (.sh (.int k)),some (.sh (fL to)),some (.sh (.int T))]) (by simp[hc,et])).trans ?_
 cases to with
 |none=>exact(Np (by simp[iE,cD])).trans rfl
 |some top=>
  by_cases c:T>top
  ·have c' :top<T:=c
   refine(KU (by simp[iE,cD,c'])).trans ?_
   dsimp only
   rw[Gag c]
   exact GK h1 h2 hz
  ·have c' :¬top<T:=c
   refine(Np (by simp[iE,cD,c'])).trans ?_
   dsimp only
   rw[Gaj c]
   rfl
noncomputable def kn(os:List Order)(ws gv:List Tr)(o:Order)(h:Int):Nat→List Cap→List Flt
 |_,[]=>[]
 |k,c::cs=>dA ws c o.aY o.br (k:Int) (h,dF os c (o.aY,o.br) h gv)++kn os ws gv o h (k+1) cs
theorem uF(os:List Order)(ws gv:List Tr)(o:Order)(h:Int):∀(k:Nat) (cs:List Cap),(kn os ws gv o h k cs).length≤cs.length
 |_,[]=>by simp[kn]
 |k,c::cs=>by
  have h1:=uF os ws gv o h (k+1) cs
  have h2:=kS ws c o.aY o.br (k:Int) (h,dF os c (o.aY,o.br) h gv)
  unfold kn
  rw[Gax,GaB]
  omega
theorem sO:∀(fs l:List Flt),(fs.foldl ft l).length≤l.length+fs.length
 |[],l=>by simp
 |f::fs,l=>by
  have h1:=sO fs (ft l f)
  have h2:=Ek l f
  rw[GbH,GaB]
  omega
theorem sP{n k:Nat}:bx (k:Int) (n+1)= .int (k:Int)::bx ((k+1:Nat):Int) n:=by
 unfold bx
 rw[List.range_succ_eq_map,Gar,GaM]
 refine List.cons_eq_cons.mpr ⟨by simp,GaI λj _=> ?_⟩
 show D.int _=D.int _
 congr 1
 simp only[Nat.succ_eq_add_one]
 omega
theorem uG{w:World}(W:bJ w){ws gv:List Tr}{o:Order}{h:Int}{Cs:List D}{e3 e5:Option Slot}(hg:fW w.orders.length gv):∀(cs:List Cap) (k:Nat) (l:List Flt) (x8 x9 x10:Option Slot),(∀c∈cs,n8 c)→(∀j:Nat,atD Cs ((k+j:Nat):Int)=(cs[j]?).map bw)→l.length+cs.length<50000→∃y8 y9 y10,
  forL (gN 8) fJ (bx (k:Int) cs.length) [some (.sh (bA w)),some (.sh (.tup [.tup (ws.map trD),.tup (gv.map trD)])),some (.own (.dT (fA l))),e3,some (.sh (.int h)),e5,some (.sh (aF o)),some (.sh (.tup Cs)),x8,x9,x10]=
   some (.nx [some (.sh (bA w)),some (.sh (.tup [.tup (ws.map trD),.tup (gv.map trD)])),some (.own (.dT (fA ((kn w.orders ws gv o h k cs).foldl ft l)))),e3,some (.sh (.int h)),e5,some (.sh (aF o)),some (.sh (.tup Cs)),y8,y9,y10])
 |[],k,l,x8,x9,x10,_,_,_=> ⟨x8,x9,x10,rfl⟩
 |c::cs,k,l,x8,x9,x10,ok,hat,hz=>by
  rw[GaB] at hz
  have ok0:=ok c Gam
  have hc:atD Cs (k:Int)=some (bw c):=by
   have:=hat 0
   simpa using this
  have ew:=qM (ws:=ws) (g:=o.aY) (h:=h)
  have eb:=sM (c:=c) (w:=wgt o.aY h ws none) ok0
  have et:=J7 W (o:=o) (c:=c) (h:=h) (bkW:= .tup (ws.map trD)) hg
  obtain⟨z9,z10,ev⟩:=J8 (wd:=bA w) (OD:=aF o) (e3:=e3) (e5:=e5) (x9:=x9) (x10:=x10) (l:=l) rfl rfl hc ew eb et (by omega)
  have er:(match dz c (wgt o.aY h ws none) with|some top=>if dF w.orders c (o.aY,o.br) h gv>top then[(("cap",[o.aY,o.br,(k:Int),h,dF w.orders c (o.aY,o.br) h gv,top]):Flt)] else[]|none=>[])=dA ws c o.aY o.br (k:Int) (h,dF w.orders c (o.aY,o.br) h gv):=rfl
  rw[er] at ev
  have l1:=kS ws c o.aY o.br (k:Int) (h,dF w.orders c (o.aY,o.br) h gv)
  have l2:=sO (dA ws c o.aY o.br (k:Int) (h,dF w.orders c (o.aY,o.br) h gv)) l
  obtain⟨y8,y9,y10,e⟩:=uG W (ws:=ws) (gv:=gv) (o:=o) (h:=h) (Cs:=Cs) (e3:=e3) (e5:=e5) hg cs (k+1) ((dA ws c o.aY o.br (k:Int) (h,dF w.orders c (o.aY,o.br) h gv)).foldl ft l) (some (.sh (.int (k:Int)))) z9 z10 (λx hx=>ok x (Gai _ hx)) (λj=>by
   have:=hat (j+1)
   rw[show k+(j+1)=k+1+j by omega] at this
   simpa using this) (by omega)
  refine⟨y8,y9,y10, ?_⟩
  rw[GaB,sP]
  conv=>rhs;unfold kn
  rw[Gdx]
  generalize fA l=kv at*
  generalize fA (List.foldl ft l (dA ws c o.aY o.br (k:Int) (h,dF w.orders c (o.aY,o.br) h gv)))=kv1 at*
  generalize fA (List.foldl ft _ (kn w.orders ws gv o h (k+1) cs))=kv2 at*
  generalize bx _ cs.length=R at*
  generalize (k:Int)=ki at*
  generalize bA w=wd at*
  generalize aF o=od at*
  generalize ws.map trD=WS at*
  generalize gv.map trD=GS at*
  simp only[forL,gN,GaR,GaS,Option.bind_some,ev]
  exact e
theorem J9{A B C O:List D}{bk OD nm sz yg:D}{Cs:List D}{kv kv' :Rws}{n h:Int}{L:Int}{e5 x6 x7 x8 x9 x10 y8 y9 y10:Option Slot}{s:Int}(hO:atD O n=some OD)(h2:ixD OD (.int 2)=some (.int s))(hS:atD B s=some (.tup [nm,sz,.tup Cs,yg]))(hL:cN [.tup Cs]=some ⟨.c,.int L⟩)(sm:bV L=true)
  (e:forL (gN 8) fJ (bx 0 L.toNat) [some (.sh (.tup [.tup A,.tup B,.tup C,.tup O])),some (.sh bk),some (.own (.dT kv)),some (.sh (.int n)),some (.sh (.int h)),e5,some (.sh OD),some (.sh (.tup Cs)),x8,x9,x10]=some (.nx [some (.sh (.tup [.tup A,.tup B,.tup C,.tup O])),some (.sh bk),some (.own (.dT kv')),some (.sh (.int n)),some (.sh (.int h)),e5,some (.sh OD),some (.sh (.tup Cs)),y8,y9,y10])):
  fK [some (.sh (.tup [.tup A,.tup B,.tup C,.tup O])),some (.sh bk),some (.own (.dT kv)),some (.sh (.int n)),some (.sh (.int h)),e5,x6,x7,x8,x9,x10]=some (.nx [some (.sh (.tup [.tup A,.tup B,.tup C,.tup O])),some (.sh bk),some (.own (.dT kv')),some (.sh (.int n)),some (.sh (.int h)),e5,some (.sh OD),some (.sh (.tup Cs)),y8,y9,y10]):=by
 unfold fK
 refine(av (e:=[some (.sh (.tup [.tup A,.tup B,.tup C,.tup O])),some (.sh bk),some (.own (.dT kv)),some (.sh (.int n)),some (.sh (.int h)),e5,some (.sh OD),x7,x8,x9,x10]) (by simp[hO])).trans ?_
 refine(av (e:=[some (.sh (.tup [.tup A,.tup B,.tup C,.tup O])),some (.sh bk),some (.own (.dT kv)),some (.sh (.int n)),some (.sh (.int h)),e5,some (.sh OD),some (.sh (.tup Cs)),x8,x9,x10]) (by simp[h2,hS])).trans ?_
 simp[-forL,-fZ,hL,sm,e,freed]
noncomputable def ovT(w:World)(ws gv:List Tr)(t:Tr):List Flt:=match w.orders[t.1.toNat]? with
 |some o=>kn w.orders ws gv o t.2.1 0 ((w.aB[o.br.toNat]?.map (·.aO)).getD [])
 |none=>[]
theorem uH{w:World}(W:bJ w){ws gv:List Tr}(hg:fW w.orders.length gv):∀(ts:List Tr) (l:List Flt) (x3 x4 x5 x6 x7 x8 x9 x10:Option Slot),fW w.orders.length ts→l.length+4*ts.length<40000→∃y3 y4 y5 y6 y7 y8 y9 y10,
  forL (gT [3,4,5]) fK (ts.map trD) [some (.sh (bA w)),some (.sh (.tup [.tup (ws.map trD),.tup (gv.map trD)])),some (.own (.dT (fA l))),x3,x4,x5,x6,x7,x8,x9,x10]=
   some (.nx [some (.sh (bA w)),some (.sh (.tup [.tup (ws.map trD),.tup (gv.map trD)])),some (.own (.dT (fA ((ts.flatMap (ovT w ws gv)).foldl ft l)))),y3,y4,y5,y6,y7,y8,y9,y10])
 |[],l,x3,x4,x5,x6,x7,x8,x9,x10,_,_=> ⟨x3,x4,x5,x6,x7,x8,x9,x10,rfl⟩
 |t::ts,l,x3,x4,x5,x6,x7,x8,x9,x10,ht,hz=>by
  rw[GaB] at hz
  have g0:=ht t Gam
  obtain⟨n,hn⟩:=GaG g0.1
  have hn' :n<w.orders.length:=by omega
  have oo:=W.oo w.orders[n] (GaC hn')
  obtain⟨m,hm⟩:=GaG oo.s0
  have hm' :m<w.aB.length:=by have:=oo.s1;omega
  have so:=W.so w.aB[m] (GaC hm')
  have hO:atD (w.orders.map aF) t.1=some (aF w.orders[n]):=by rw[hn,cW,Gah,Gaa hn'];rfl
  have hS:atD (w.aB.map b6) w.orders[n].br=some (.tup [.str w.aB[m].name,.tup ((w.aB[m].part::w.aB[m].more).map .int),.tup (w.aB[m].aO.map bw),.int w.aB[m].young]):=by
   rw[hm,cW,Gah,Gaa hm'];rfl
  have eo:ovT w ws gv t=kn w.orders ws gv w.orders[n] t.2.1 0 w.aB[m].aO:=by
   unfold ovT
   rw[hn,GaY,Gaa hn']
   dsimp only
   rw[hm,GaY,Gaa hm']
   rfl
  have cl:=so.cl
  obtain⟨z8,z9,z10,ec⟩:=uG W (ws:=ws) (gv:=gv) (o:=w.orders[n]) (h:=t.2.1) (Cs:=w.aB[m].aO.map bw) (e3:=some (.sh (.int t.1))) (e5:=some (.sh (.int t.2.2))) hg w.aB[m].aO 0 l x8 x9 x10 so.ok (λj=>by rw[GcB,cW,Gah]) (by omega)
  have l1:=uF w.orders ws gv w.orders[n] t.2.1 0 w.aB[m].aO
  have l2:=sO (kn w.orders ws gv w.orders[n] t.2.1 0 w.aB[m].aO) l
  have hL:cN [.tup (w.aB[m].aO.map bw)]=some ⟨.c,.int ((w.aB[m].aO.map bw).length:Int)⟩:=fZ
  have sm:bV ((w.aB[m].aO.map bw).length:Int)=true:=cz (by omega) (by rw[Gad];omega)
  have er:bx 0 ((w.aB[m].aO.map bw).length:Int).toNat=bx ((0:Nat):Int) w.aB[m].aO.length:=by simp
  rw[←er] at ec
  have ev:=J9 (A:=w.cn.map cQ) (C:=w.cU.map trD) (x6:=x6) (x7:=x7) hO rfl hS hL sm ec
  rw[←eo] at ev l1 l2
  obtain⟨y3,y4,y5,y6,y7,y8,y9,y10,e⟩:=uH W (ws:=ws) hg ts ((ovT w ws gv t).foldl ft l) (some (.sh (.int t.1))) (some (.sh (.int t.2.1))) (some (.sh (.int t.2.2))) (some (.sh (aF w.orders[n]))) (some (.sh (.tup (w.aB[m].aO.map bw)))) z8 z9 z10 (λx hx=>ht x (Gai _ hx)) (by omega)
  refine⟨y3,y4,y5,y6,y7,y8,y9,y10, ?_⟩
  rw[GbR,Gdx,Gar]
  have ed:trD t= .tup [.int t.1,.int t.2.1,.int t.2.2]:=rfl
  rw[ed]
  have ew:bA w= .tup [.tup (w.cn.map cQ),.tup (w.aB.map b6),.tup (w.cU.map trD),.tup (w.orders.map aF)]:=rfl
  rw[←ew] at ev
  generalize bA w=wd at*
  generalize fA l=kv at*
  generalize fA (List.foldl ft l (ovT w ws gv t))=kv1 at*
  generalize fA _=kv2 at*
  generalize aF w.orders[n]=od at*
  generalize w.aB[m].aO.map bw=CS at*
  generalize ws.map trD=WS at*
  generalize gv.map trD=GS at*
  simp only[forL,gT,gNs,GaR,GaS,Option.bind_some,ev]
  exact e
theorem pW:∀(fs l:List Flt),l.Nodup→(fs.foldl ft l).Nodup∧∀f,f∈fs.foldl ft l↔f∈l∨f∈fs
 |[],l,h=> ⟨h,λf=>by simp⟩
 |x::fs,l,h=>by
  rw[GbH]
  have e0:ft l x=if x∈l then l else l++[x]:=rfl
  rw[e0]
  split
  ·rename_i c
   obtain⟨h1,h2⟩:=pW fs l h
   refine⟨h1,λf=> ?_⟩
   rw[h2,Gaw]
   constructor
   ·rintro(q|q)
    ·exact .inl q
    ·exact .inr (.inr q)
   ·rintro(q|rfl|q)
    ·exact .inl q
    ·exact .inl c
    ·exact .inr q
  ·rename_i c
   obtain⟨h1,h2⟩:=pW fs (l++[x]) (by
    rw[GbQ]
    exact⟨h,by simp,λa ha b hb=>by rw[GbA.mp hb];exactλe=>c (e▸ha)⟩)
   refine⟨h1,λf=> ?_⟩
   rw[h2,Gav,GbA,Gaw,or_assoc]
theorem ko{ws:List Tr}{c:Cap}{g s k:Int}{r:Int×Int}{f:Flt}(h:f∈dA ws c g s k r):∃top,f=((("cap",[g,s,k,r.1,r.2,top]):Flt)):=by
 unfold dA at h
 split at h
 ·split at h
  ·exact⟨_,GbA.mp h⟩
  ·simp at h
 ·simp at h
theorem jv{ws:List Tr}{g s k:Int}{c:Cap}{ms:List (Int×Int)}{f:Flt}:f∈ju ws g s k c ms↔∃h∈ms.map (·.1),f∈dA ws c g s k (h,k5 c ms h):=by
 unfold ju
 rw[GbB]
 constructor
 ·rintro⟨r,hr,hf⟩
  obtain⟨h,hh,rfl⟩:=GaE.mp hr
  exact⟨h,((km (ms.map (·.1))).2.1 h).mp hh,hf⟩
 ·rintro⟨h,hh,hf⟩
  exact⟨_,GaE.mpr ⟨h,((km (ms.map (·.1))).2.1 h).mpr hh,rfl⟩,hf⟩
theorem kq{ws:List Tr}{g s:Int}{ms:List (Int×Int)}{f:Flt}:∀(cs:List Cap) (k:Nat),f∈gB ws g s ms k cs↔∃(j:Nat) (c:Cap),cs[j]? =some c∧f∈ju ws g s ((k+j:Nat):Int) c ms
 |[],k=>by simp[gB]
 |c::cs,k=>by
  unfold gB
  rw[Gav,kq cs (k+1)]
  constructor
  ·rintro(h| ⟨j,c',h1,h2⟩)
   ·exact⟨0,c,rfl,h⟩
   ·exact⟨j+1,c',by simpa using h1,by rw[show k+(j+1)=k+1+j by omega];exact h2⟩
  ·rintro⟨j,c',h1,h2⟩
   cases j with
   |zero=>simp at h1;subst h1;exact .inl h2
   |succ j=>exact .inr ⟨j,c',by simpa using h1,by rw[show k+1+j=k+(j+1) by omega];exact h2⟩
theorem pX{os:List Order}{ws gv:List Tr}{o:Order}{h:Int}{f:Flt}:∀(cs:List Cap) (k:Nat),f∈kn os ws gv o h k cs↔∃(j:Nat) (c:Cap),cs[j]? =some c∧f∈dA ws c o.aY o.br ((k+j:Nat):Int) (h,dF os c (o.aY,o.br) h gv)
 |[],k=>by simp[kn]
 |c::cs,k=>by
  unfold kn
  rw[Gav,pX cs (k+1)]
  constructor
  ·rintro(h| ⟨j,c',h1,h2⟩)
   ·exact⟨0,c,rfl,h⟩
   ·exact⟨j+1,c',by simpa using h1,by rw[show k+(j+1)=k+1+j by omega];exact h2⟩
  ·rintro⟨j,c',h1,h2⟩
   cases j with
   |zero=>simp at h1;subst h1;exact .inl h2
   |succ j=>exact .inr ⟨j,c',by simpa using h1,by rw[show k+1+j=k+(j+1) by omega];exact h2⟩
theorem vM{ws:List Tr}{g s k:Int}{c:Cap}{ms:List (Int×Int)}:(ju ws g s k c ms).Nodup:=by
 unfold ju
 have hp:=(km (ms.map (·.1))).1
 generalize lq (ms.map (·.1))=hs at*
 induction hs with
 |nil=>simp
 |cons h hs ih=>
  rw[Gby] at hp
  rw[Gar,GbR,GbQ]
  refine⟨?_,ih hp.2,λa ha b hb e=> ?_⟩
  ·unfold dA
   split
   ·split<;>simp
   ·simp
  ·obtain⟨t1,rfl⟩:=ko ha
   obtain⟨r,hr,hb⟩:=GbB.mp hb
   obtain⟨h',hh',rfl⟩:=GaE.mp hr
   obtain⟨t2,rfl⟩:=ko hb
   have:=hp.1 h' hh'
   simp only[Prod.mk.injEq,Gcb,true_and] at e
   omega
theorem qq{ws:List Tr}{g s:Int}{ms:List (Int×Int)}:∀(cs:List Cap) (k:Nat),(gB ws g s ms k cs).Nodup
 |[],k=>by simp[gB]
 |c::cs,k=>by
  unfold gB
  rw[GbQ]
  refine⟨vM,qq cs (k+1),λa ha b hb e=> ?_⟩
  obtain⟨h,_,ha⟩:=jv.mp ha
  obtain⟨t1,rfl⟩:=ko ha
  obtain⟨j,c',_,hb⟩:=(kq cs (k+1)).mp hb
  obtain⟨h',_,hb⟩:=jv.mp hb
  obtain⟨t2,rfl⟩:=ko hb
  simp only[Prod.mk.injEq,Gcb,true_and] at e
  omega
theorem uI{ws:List Tr}{g s:Int}{ms:List (Int×Int)}{f:Flt}{k:Nat}{cs:List Cap}(h:f∈gB ws g s ms k cs):∃r,f.2=g::s::r:=by
 obtain⟨j,c',_,hb⟩:=(kq cs k).mp h
 obtain⟨h',_,hb⟩:=jv.mp hb
 obtain⟨t2,rfl⟩:=ko hb
 exact⟨_,rfl⟩
theorem AA{ss:List jt}{ws:List Tr}:∀st:List Tg,(st.map (·.1)).Nodup→(st.flatMap (tgF ss ws)).Nodup
 |[],_=>by simp
 |e::st,h=>by
  rw[Gar,GcL] at h
  rw[GbR,GbQ]
  refine⟨qq _ _,AA st h.2,λa ha b hb e' => ?_⟩
  obtain⟨r1,h1⟩:=uI ha
  obtain⟨e2,he2,hb⟩:=GbB.mp hb
  obtain⟨r2,h2⟩:=uI hb
  rw[e',h2] at h1
  injection h1 with q1 q2
  injection q2 with q3 _
  exact h.1 (GaE.mpr ⟨e2,he2,Prod.ext q1 q3⟩)
theorem GL{w:World}(W:bJ w){ws gv:List Tr}{st:List Tg}(I:sE w.orders gv st)(hg:fW w.orders.length gv)(f:Flt):f∈gv.flatMap (ovT w ws gv)↔f∈st.flatMap (tgF w.aB ws):=by
 have at_:∀t∈gv,∃o,w.orders[t.1.toNat]? =some o∧tk w.orders t=(o.aY,o.br):=λt ht=>by
  have g0:=hg t ht
  obtain⟨n,hn⟩:=GaG g0.1
  have hn' :n<w.orders.length:=by omega
  have e:w.orders[t.1.toNat]? =some w.orders[n]:=by rw[hn,GaY,Gaa hn']
  exact⟨_,e,by unfold tk;rw[e]⟩
 have key:∀e∈st,∀c h,k5 c e.2 h=dF w.orders c e.1 h gv:=λe he c h=>by rw[sN,←I.ms e he]
 rw[GbB,GbB]
 constructor
 ·rintro⟨t,ht,hf⟩
  obtain⟨o,ho,hk⟩:=at_ t ht
  obtain⟨e,he,ek⟩:=GaE.mp (I.cov t ht)
  refine⟨e,he, ?_⟩
  unfold ovT at hf
  rw[ho] at hf
  dsimp only at hf
  obtain⟨j,c,h1,h2⟩:=(pX _ 0).mp hf
  have e1:e.1=(o.aY,o.br):=ek.trans hk
  unfold tgF
  rw[kq]
  rw[e1]
  refine⟨j,c,h1,jv.mpr ⟨t.2.1, ?_, ?_⟩⟩
  ·rw[I.ms e he,GaM]
   exact GaE.mpr ⟨t,GbP.mpr ⟨ht,GaL ek.symm⟩,rfl⟩
  ·rw[key e he,e1];exact h2
 ·rintro⟨e,he,hf⟩
  unfold tgF at hf
  obtain⟨j,c,h1,h2⟩:=(kq _ 0).mp hf
  obtain⟨h,hh,h3⟩:=jv.mp h2
  rw[I.ms e he,GaM] at hh
  obtain⟨t,ht,rfl⟩:=GaE.mp hh
  obtain⟨ht1,ht2⟩:=GbP.mp ht
  have ht2:=GaD ht2
  obtain⟨o,ho,hk⟩:=at_ t ht1
  have e1:e.1=(o.aY,o.br):=ht2.symm.trans hk
  refine⟨t,ht1, ?_⟩
  unfold ovT
  rw[ho]
  dsimp only
  rw[pX]
  rw[key e he,e1] at h3
  rw[e1] at h1
  exact⟨j,c,h1,h3⟩
theorem GN{α:Type} [DecidableEq α]:∀{l m:List α},l.Nodup→m.Nodup→(∀a,a∈l↔a∈m)→l.Perm m:=λh1 h2 h=>(List.perm_ext_iff_of_nodup h1 h2).mpr h
theorem GO{wd:D}{W G:List D}{l:List Flt}{y3 y4 y5 y6 y7 y8 y9 y10:Option Slot}(e:forL (gT [3,4,5]) fK G [some (.sh wd),some (.sh (.tup [.tup W,.tup G])),some (.own (.dT (fA []))),none,none,none,none,none,none,none,none]=some (.nx [some (.sh wd),some (.sh (.tup [.tup W,.tup G])),some (.own (.dT (fA l))),y3,y4,y5,y6,y7,y8,y9,y10]))(im:aQ (l.map ay)=true):
  kQ [wd,.tup [.tup W,.tup G]]=some (.lst (l.map ay)):=by
 have hk:=El l
 have e0:fA []=[]:=rfl
 rw[e0] at e
 refine bg rfl ?_
 unfold kP
 refine(av (e:=[some (.sh wd),some (.sh (.tup [.tup W,.tup G])),some (.own (.dT [])),none,none,none,none,none,none,none,none]) (by simp[bz,DL.stored])).trans ?_
 refine(av (e:=[some (.sh wd),some (.sh (.tup [.tup W,.tup G])),some (.own (.dT (fA l))),y3,y4,y5,y6,y7,y8,y9,y10]) (by simp[-forL,e,freed])).trans ?_
 generalize fA l=kv at*
 generalize l.map ay=R at*
 simp[BV,hk,wG,D.o6,im]
theorem Ja{ns:List Int}{wd:D}{q11 q12 len mn nv:Int}{W G F Fl R:List D}(e1:ij [.scr ns]=some wd)(iwd:wd.imm=true)(d11:a9 [.scr ns,.int 11,.int 9]=some (.int q11))(e2:fH [.scr ns,wd,.int q11]=some (.tup W))(iw:aQ W=true)(hl:cN [.scr ns]=some ⟨.c,.int len⟩)(hm:o8 [.int len,.int 30]=some ⟨.c,.int mn⟩)(d12:a9 [.scr ns,.int 12,.int 4]=some (.int q12))(hn:mn+q12=nv)(e3:fI [.scr ns,wd,.int nv]=some (.tup G))(ig:aQ G=true)(e4:m6 [wd,.tup [.tup W,.tup G]]=some (.lst F))(e5:gw [.lst F]=some (.bl true))
  (zf:F.length≤16777216)(hc:cE (gN 0) (aZ eqB (ixE (vE 0) (kE (.int 0))) (kE (.str "cap"))) (vE 0) F [none]=some R)(es:kQ [wd,.tup [.tup W,.tup G]]=some (.lst Fl))(eS:gc [.lst Fl]=some ⟨.tn,.lst R⟩)(eq:eqB (.lst R) (.lst R)=some true):rZ [.scr ns]=some (.bl true):=by
 have rl:∀L:List D,kC (.lst L)=⟨.tn,.lst L⟩:=λ_=>rfl
 have rt:=c0 (d:= .tup W) (by simp[iw])
 have rg:=c0 (d:= .tup G) (by simp[ig])
 have rwd:=c0 iwd
 refine bg rfl ?_
 unfold G0
 refine(av (e:=[some (.sh (.scr ns)),some (.sh wd),none,none,none]) (by simp[bz,e1,rwd])).trans ?_
 refine(av (e:=[some (.sh (.scr ns)),some (.sh wd),some (.sh (.tup W)),none,none]) (by simp[d11,e2,rt])).trans ?_
 refine(av (e:=[some (.sh (.scr ns)),some (.sh wd),some (.sh (.tup W)),some (.sh (.tup [.tup W,.tup G])),none]) (by simp[-EM,hl,hm,d12,hn,e3,rg,iw,ig,ai])).trans ?_
 refine(av (e:=[some (.sh (.scr ns)),some (.sh wd),some (.sh (.tup W)),some (.sh (.tup [.tup W,.tup G])),some (.own (.lst F))]) (by simp[e4,rl])).trans ?_
 refine(av (e:=[some (.sh (.scr ns)),some (.sh wd),some (.sh (.tup W)),some (.sh (.tup [.tup W,.tup G])),some (.own (.lst F))]) (by simp[e5])).trans ?_
 simp[-cE,ai,DL.compEnv,fY,zf,hc,es,rl,eS,eq]
theorem GP(ns:List Int)(hl:ns.length≤63):rZ [.scr ns]=some (.bl true):=by
 obtain⟨w,W,e1⟩:=IJ ns
 have d11:=aS (ns:=ns) (k:=11) (m:=9) (by omega) (by omega) (by omega)
 have l11:=aX ns 11 9 (by omega)
 generalize draw ns 11 9=q11 at*
 obtain⟨q,rfl⟩:=GaG l11.1
 obtain⟨ws,_,e2⟩:=DW (ns:=ns) (n:=q) W (by omega)
 have d12:=aS (ns:=ns) (k:=12) (m:=4) (by omega) (by omega) (by omega)
 obtain⟨n,len,mn,hn,hlen,hmn,hsum⟩:=GC hl
 obtain⟨gv,g1,g2,e3⟩:=DY (ns:=ns) (n:=n) W hn
 obtain⟨st,rows,I,r2,r1,r3,e4,z⟩:=Au (ws:=ws) W g2 g1
 have words:=Ej (w:=w) (ws:=ws) (gv:=gv) (T:=gv.foldl (cF w.orders) []) (st:=st) (gs:=w.cU.foldl bS []) (wd:=wide w.cU) (rows:=rows)
 have flt:=GG (w:=w) (ws:=ws) (gv:=gv) (T:=gv.foldl (cF w.orders) []) (st:=st) (gs:=w.cU.foldl bS []) (wd:=wide w.cU) (rows:=rows)
 obtain⟨y3,y4,y5,y6,y7,y8,y9,y10,eo⟩:=uH W (ws:=ws) (gv:=gv) g2 gv [] none none none none none none none none g2 (by simp;omega)
 have en:=GO (W:=ws.map trD) (G:=gv.map trD) eo (gK _)
 obtain⟨a1,a2⟩:=pW (gv.flatMap (ovT w ws gv)) [] List.nodup_nil
 have pm:(st.flatMap (tgF w.aB ws)).Perm ((gv.flatMap (ovT w ws gv)).foldl ft []):=GN (AA st I.nd) a1 λf=>by
  rw[a2,GL W I g2]
  simp
 have zn:((gv.flatMap (ovT w ws gv)).foldl ft []).length<1000000:=by
  rw[←pm.length_eq]
  have:=congrArg List.length flt
  have h2:=GcG (iD "cap") (st.flatMap (tgF w.aB ws)++cR w.orders (w.cU.foldl bS []) (wide w.cU) rows++twF (gv.foldl (cF w.orders) [])++gv.flatMap (iH w ws))
  omega
 generalize hA:st.flatMap (tgF w.aB ws)++cR w.orders (w.cU.foldl bS []) (wide w.cU) rows++twF (gv.foldl (cF w.orders) [])++gv.flatMap (iH w ws)=A at*
 have lst:gw [.lst ((mq A).map ay)]=some (.bl true):=GA λf hf=>words f ((kT _).mem_iff.mp hf)
 have hc:=Eh "cap" (mq A)
 rw[vL (gs:=(gv.flatMap (ovT w ws gv)).foldl ft []) (iD "cap") (by rw[flt];exact pm)] at hc
 have zf:((mq A).map ay).length≤16777216:=by
  rw[Gad,(kT _).length_eq]
  omega
 exact Ja e1 (Bx W) d11 e2 (jK ws) hlen hmn d12 hsum e3 (jK gv) e4 lst zf hc en (sG _ zn) (J5 _)
end Maths
namespace Hd
open PySem PySem.W PyProof.Rows L2
noncomputable abbrev p0:=PySem.Challenge.pw_dosehouse_k42_faults_of_caps
noncomputable def top(i:Nat):Stmt:=p0.main.body.getD i (.Pass ⟨0,0,0,0⟩)
noncomputable def view:Program:={p0 with main:={p0.main with body:=[1,3,4,6,8,10,11,12,13,14,15,16,17,18,20,21,22,23,24,25,26,27,28,29,30,31,32,33,34,35,36].map top}}
noncomputable abbrev fd (n:Str) (i:Nat) (m:Str) (t c:Nat):FuncData:=fnOf n n (mL (top i)) (jC (top i)) (aJ (top i)) .none .none .none (.str m t) none (.ref c) .none
noncomputable def fo(d:FuncData):Obj:=⟨.type "function",none,.func d,#[]⟩
noncomputable def co(n:Str)(t l k a:Nat)(x y:Value)(b u:Nat):Obj:={cls:= .type "code",data:= .fields #[.str n t,.str n (t+1),.str "/claim/cut.py" (t+2),.int l 0,.int k 0,.int 0 0,.int 0 0,.int 3 0,.ref a,.bool true,.int 181 0,.ref (a+1),.none,x,y,.ref b,.int u 0,.int l 0,.str "/claim/cut.py" (u+1)]}
noncomputable def e(P:Params)(n:Str)(t:Nat)(v:Value):DictEntry:=⟨PyData.keyHash P n,.str n t,v⟩
noncomputable def r(P:Params)(n:Str)(t a:Nat):DictEntry:=e P n t (.ref a)
noncomputable abbrev m0:Str:="dosehouse.bounds"
noncomputable abbrev m1:Str:="dosehouse.dues"
noncomputable abbrev m2:Str:="dosehouse.faults"
noncomputable abbrev m3:Str:="dosehouse.weights"
noncomputable abbrev m4:Str:="dosehouse.windows"
noncomputable abbrev m5:Str:="law_dosehouse_k42_faults_of_caps"
noncomputable abbrev qY:=fd "bound" 1 m0 187 20
noncomputable abbrev oM:=fd "due_of" 3 m1 197 27
noncomputable abbrev oN:=fd "astray" 4 m1 197 34
noncomputable abbrev jL:=fd "weight_at" 6 m3 219 41
noncomputable abbrev vN:=fd "sums" 8 m4 232 48
noncomputable abbrev fj:=fd "goes_by_weight" 10 m2 248 53
noncomputable abbrev gU:=fd "lone_faults" 11 m2 248 58
noncomputable abbrev dM:=fd "marks_by_target" 12 m2 248 65
noncomputable abbrev iW:=fd "cap_faults" 13 m2 248 72
noncomputable abbrev fm:=fd "gaps_by_stuffs" 14 m2 248 79
noncomputable abbrev gV:=fd "gap_between" 15 m2 248 86
noncomputable abbrev iX:=fd "gap_faults" 16 m2 248 91
noncomputable abbrev gC:=fd "twice_faults" 17 m2 248 96
noncomputable abbrev oO:=fd "faults" 18 m2 248 103
noncomputable abbrev kW:=fd "_law_draw" 20 m5 333 110
noncomputable abbrev kX:=fd "_law_caps" 21 m5 333 117
noncomputable abbrev iY:=fd "_law_stuffs" 22 m5 333 124
noncomputable abbrev kY:=fd "_law_bars" 23 m5 333 131
noncomputable abbrev kZ:=fd "_law_dues" 24 m5 333 138
noncomputable abbrev jM:=fd "_law_world" 25 m5 333 145
noncomputable abbrev lh:=fd "_law_hour" 26 m5 333 152
noncomputable abbrev iZ:=fd "_law_amount" 27 m5 333 159
noncomputable abbrev gW:=fd "_law_weights" 28 m5 333 164
noncomputable abbrev gX:=fd "_law_givings" 29 m5 333 169
noncomputable abbrev j0:=fd "_law_weight" 30 m5 333 176
noncomputable abbrev jN:=fd "_law_bound" 31 m5 333 183
noncomputable abbrev jO:=fd "_law_total" 32 m5 333 190
noncomputable abbrev lj:=fd "_law_over" 33 m5 333 197
noncomputable abbrev jP:=fd "_law_whole" 34 m5 333 204
noncomputable abbrev j3:=fd "_law_listed" 35 m5 333 211
noncomputable abbrev CG:=fd "law" 36 m5 333 216
noncomputable def K(P:Params):Frag:=[(3,{cls:= .type "dict",data:= .dict #[e P "__name__" 165 (.str "law_dosehouse_k42_faults_of_caps" 333),e P "__doc__" 166 (.none),e P "__package__" 167 (.none),e P "__loader__" 168 (.builtin "__main__.__loader__#opaque"),e P "__spec__" 169 (.none),r P "__annotations__" 170 6,r P "__builtins__" 171 4,e P "__file__" 173 (.str "/claim/cut.py" 172),e P "__cached__" 174 (.none),r P "bound" 196 21,r P "due_of" 209 28,r P "astray" 218 35,r P "weight_at" 231 42,r P "sums" 247 49,r P "goes_by_weight" 255 54,r P "lone_faults" 261 59,r P "marks_by_target" 272 66,r P "cap_faults" 290 73,r P "gaps_by_stuffs" 299 80,r P "gap_between" 308 87,r P "gap_faults" 314 92,r P "twice_faults" 320 97,r P "faults" 332 104,r P "_law_draw" 344 111,r P "_law_caps" 360 118,r P "_law_stuffs" 374 125,r P "_law_bars" 388 132,r P "_law_dues" 401 139,r P "_law_world" 420 146,r P "_law_hour" 435 153,r P "_law_amount" 448 160,r P "_law_weights" 454 165,r P "_law_givings" 460 170,r P "_law_weight" 471 177,r P "_law_bound" 479 184,r P "_law_total" 494 191,r P "_law_over" 511 198,r P "_law_whole" 518 205,r P "_law_listed" 527 212,r P "law" 533 217] 40}),
 (21,fo qY),(20,co "bound" 189 2 2 15 (.ref 17) (.ref 18) 19 194),
 (28,fo oM),(27,co "due_of" 199 11 2 22 (.ref 24) (.ref 25) 26 207),
 (35,fo oN),(34,co "astray" 210 20 2 29 (.ref 31) (.ref 32) 33 216),
 (42,fo jL),(41,co "weight_at" 221 26 3 36 (.ref 38) (.ref 39) 40 229),
 (49,fo vN),(48,co "sums" 234 33 2 43 (.ref 45) (.ref 46) 47 245),
 (54,fo fj),(53,co "goes_by_weight" 250 47 1 50 (.none) (.none) 52 253),
 (59,fo gU),(58,co "lone_faults" 256 49 3 55 (.none) (.none) 57 259),
 (66,fo dM),(65,co "marks_by_target" 262 67 2 60 (.ref 62) (.ref 63) 64 270),
 (73,fo iW),(72,co "cap_faults" 273 73 3 67 (.ref 69) (.ref 70) 71 288),
 (80,fo fm),(79,co "gaps_by_stuffs" 291 84 1 74 (.ref 76) (.ref 77) 78 297),
 (87,fo gV),(86,co "gap_between" 300 90 3 81 (.ref 83) (.ref 84) 85 306),
 (92,fo iX),(91,co "gap_faults" 309 94 2 88 (.none) (.none) 90 312),
 (97,fo gC),(96,co "twice_faults" 315 107 2 93 (.none) (.none) 95 318),
 (104,fo oO),(103,co "faults" 321 114 2 98 (.ref 100) (.ref 101) 102 330),
 (111,fo kW),(110,co "_law_draw" 335 122 3 105 (.ref 107) (.ref 108) 109 342),
 (118,fo kX),(117,co "_law_caps" 345 127 4 112 (.ref 114) (.ref 115) 116 358),
 (125,fo iY),(124,co "_law_stuffs" 361 141 2 119 (.ref 121) (.ref 122) 123 372),
 (132,fo kY),(131,co "_law_bars" 375 150 3 126 (.ref 128) (.ref 129) 130 386),
 (139,fo kZ),(138,co "_law_dues" 389 159 3 133 (.ref 135) (.ref 136) 137 399),
 (146,fo jM),(145,co "_law_world" 402 167 1 140 (.ref 142) (.ref 143) 144 418),
 (153,fo lh),(152,co "_law_hour" 421 185 4 147 (.ref 149) (.ref 150) 151 433),
 (160,fo iZ),(159,co "_law_amount" 436 198 4 154 (.ref 156) (.ref 157) 158 446),
 (165,fo gW),(164,co "_law_weights" 449 205 3 161 (.none) (.none) 163 452),
 (170,fo gX),(169,co "_law_givings" 455 214 3 166 (.none) (.none) 168 458),
 (177,fo j0),(176,co "_law_weight" 461 223 3 171 (.ref 173) (.ref 174) 175 469),
 (184,fo jN),(183,co "_law_bound" 472 229 2 178 (.ref 180) (.ref 181) 182 477),
 (191,fo jO),(190,co "_law_total" 480 237 5 185 (.ref 187) (.ref 188) 189 492),
 (198,fo lj),(197,co "_law_over" 495 243 2 192 (.ref 194) (.ref 195) 196 509),
 (205,fo jP),(204,co "_law_whole" 512 254 1 199 (.ref 201) (.ref 202) 203 516),
 (212,fo j3),(211,co "_law_listed" 519 256 1 206 (.ref 208) (.ref 209) 210 525),
 (217,fo CG),(216,co "law" 528 266 1 213 (.none) (.none) 215 531)]
noncomputable def as_:List Addr:=[3,21,20,28,27,35,34,42,41,49,48,54,53,59,58,66,65,73,72,80,79,87,86,92,91,97,96,104,103,111,110,118,117,125,124,132,131,139,138,146,145,153,152,160,159,165,164,170,169,177,176,184,183,191,190,198,197,205,204,212,211,217,216]
noncomputable def hook:Hook:=kHook K as_ (λ_=>rfl)
noncomputable def xt(s:Shared):Bool:=xlAt view [] s&&recOk (RowW.records (OpenRow.toRowW (OpenLaw.row PySem.Challenge.rw_dosehouse_k42_faults_of_caps))) s
theorem left:LeftO p0 view [] xt hook.obs hook.val 2240:=λw=>by kernel_rfl
end Hd
seal L2.PE L2.PT L2.PW L2.PA L2.PS L2.PSs L2.PG L2.PGs L2.PI
namespace Der
open PySem PySem.Spec PyProof.Rows L2 DL Den
noncomputable abbrev top:=Hd.top
noncomputable abbrev AB:Stmt:=top 1
noncomputable abbrev uJ:Stmt:=top 3
noncomputable abbrev uK:Stmt:=top 4
noncomputable abbrev oP:Stmt:=top 6
noncomputable abbrev CH:Stmt:=top 8
noncomputable abbrev jQ:Stmt:=top 10
noncomputable abbrev mw:Stmt:=top 11
noncomputable abbrev jw:Stmt:=top 12
noncomputable abbrev ni:Stmt:=top 13
noncomputable abbrev jR:Stmt:=top 14
noncomputable abbrev mz:Stmt:=top 15
noncomputable abbrev nj:Stmt:=top 16
noncomputable abbrev lA:Stmt:=top 17
noncomputable abbrev uL:Stmt:=top 18
noncomputable abbrev qr:Stmt:=top 20
noncomputable abbrev qt:Stmt:=top 21
noncomputable abbrev nq:Stmt:=top 22
noncomputable abbrev qu:Stmt:=top 23
noncomputable abbrev qv:Stmt:=top 24
noncomputable abbrev oQ:Stmt:=top 25
noncomputable abbrev qx:Stmt:=top 26
noncomputable abbrev nr:Stmt:=top 27
noncomputable abbrev mC:Stmt:=top 28
noncomputable abbrev mD:Stmt:=top 29
noncomputable abbrev nu:Stmt:=top 30
noncomputable abbrev oR:Stmt:=top 31
noncomputable abbrev oS:Stmt:=top 32
noncomputable abbrev qy:Stmt:=top 33
noncomputable abbrev oT:Stmt:=top 34
noncomputable abbrev ny:Stmt:=top 35
noncomputable abbrev GQ:Stmt:=top 36
theorem all1{K:PySem.W.Frag}{fd:FuncData}{p0:Str}(h:∀v0:Value,bindArgs fd ⟨[v0],[]⟩=pure ([p0].zip [v0])):Binds K fd [p0] []:= .all λus hl=>match us,hl with|[v0],_=>h v0
theorem all2{K:PySem.W.Frag}{fd:FuncData}{p0 p1:Str}(h:∀v0 v1:Value,bindArgs fd ⟨[v0,v1],[]⟩=pure ([p0,p1].zip [v0,v1])):Binds K fd [p0,p1] []:= .all λus hl=>match us,hl with|[v0,v1],_=>h v0 v1
theorem tu{K:PySem.W.Frag}{fd:FuncData}{p0 p1 p2:Str}(h:∀v0 v1 v2:Value,bindArgs fd ⟨[v0,v1,v2],[]⟩=pure ([p0,p1,p2].zip [v0,v1,v2])):Binds K fd [p0,p1,p2] []:= .all λus hl=>match us,hl with|[v0,v1,v2],_=>h v0 v1 v2
theorem Ll{K:PySem.W.Frag}{fd:FuncData}{p0 p1 p2 p3:Str}(h:∀v0 v1 v2 v3:Value,bindArgs fd ⟨[v0,v1,v2,v3],[]⟩=pure ([p0,p1,p2,p3].zip [v0,v1,v2,v3])):Binds K fd [p0,p1,p2,p3] []:= .all λus hl=>match us,hl with|[v0,v1,v2,v3],_=>h v0 v1 v2 v3
theorem OL{K:PySem.W.Frag}{fd:FuncData}{p0 p1 p2 p3 p4:Str}(h:∀v0 v1 v2 v3 v4:Value,bindArgs fd ⟨[v0,v1,v2,v3,v4],[]⟩=pure ([p0,p1,p2,p3,p4].zip [v0,v1,v2,v3,v4])):Binds K fd [p0,p1,p2,p3,p4] []:= .all λus hl=>match us,hl with|[v0,v1,v2,v3,v4],_=>h v0 v1 v2 v3 v4
section
variable{Pm:Params}{mg:Str→Option Value}
noncomputable def Txt(Pm:Params)(mg:Str→Option Value):Prop:=∃h:Heap,(Hd.K Pm).In h∧h.Ns mainGlobals mg
theorem Txt.at{n:Str}{v:Value}(T:Txt Pm mg)(e:PySem.W.nsIn (Hd.K Pm) mainGlobals n=some (some v):=by kernel_rfl):mg n=some v:=let⟨_,X,G⟩:=T;PySem.W.mg_of X G e
theorem Txt.no{n:Str}(T:Txt Pm mg)(e:PySem.W.nsIn (Hd.K Pm) mainGlobals n=some none:=by kernel_rfl):mg n=none:=let⟨_,X,G⟩:=T;PySem.W.mg_none_of X G e
theorem mkF{x:Str}{st:Stmt}{f:Addr}{pm cd:Value}(l:(Hd.K Pm).lookup f=some (Hd.fo (PySem.W.fnOf x x (mL st) (jC st) (aJ st) .none .none .none pm none cd .none)):=by kernel_rfl)(c:PySem.W.codeIn (Hd.K Pm) cd x=true:=by kernel_rfl)(k:PySem.W.keepIn (Hd.K Pm) (.ref f)=true:=by kernel_rfl):Fun (Hd.K Pm) x x st f (PySem.W.fnOf x x (mL st) (jC st) (aJ st) .none .none .none pm none cd .none):=Kb l c k
theorem CI:Fun (Hd.K Pm) "bound" "bound" AB 21 Hd.qY:=mkF
theorem kL:Binds (Hd.K Pm) Hd.qY ["cap","weight"] []:=all2 λ_ _=>rfl
theorem sQ:Fun (Hd.K Pm) "due_of" "due_of" uJ 28 Hd.oM:=mkF
theorem kf:Binds (Hd.K Pm) Hd.oM ["order","hour"] []:=all2 λ_ _=>rfl
theorem AD:Fun (Hd.K Pm) "astray" "astray" uK 35 Hd.oN:=mkF
theorem lY:Binds (Hd.K Pm) Hd.oN ["order","hour"] []:=all2 λ_ _=>rfl
theorem mE:Fun (Hd.K Pm) "weight_at" "weight_at" oP 42 Hd.jL:=mkF
theorem i8:Binds (Hd.K Pm) Hd.jL ["weights","guest","hour"] []:=tu λ_ _ _=>rfl
theorem GR:Fun (Hd.K Pm) "sums" "sums" CH 49 Hd.vN:=mkF
theorem rY:Binds (Hd.K Pm) Hd.vN ["marks","hours"] []:=all2 λ_ _=>rfl
theorem ku:Fun (Hd.K Pm) "goes_by_weight" "goes_by_weight" jQ 54 Hd.fj:=mkF
theorem fb:Binds (Hd.K Pm) Hd.fj ["stuff"] []:=all1 λ_=>rfl
theorem nz:Fun (Hd.K Pm) "lone_faults" "lone_faults" mw 59 Hd.gU:=mkF
theorem gO:Binds (Hd.K Pm) Hd.gU ["world","weights","giving"] []:=tu λ_ _ _=>rfl
theorem jS:Fun (Hd.K Pm) "marks_by_target" "marks_by_target" jw 66 Hd.dM:=mkF
theorem dI:Binds (Hd.K Pm) Hd.dM ["world","givings"] []:=all2 λ_ _=>rfl
theorem oU:Fun (Hd.K Pm) "cap_faults" "cap_faults" ni 73 Hd.iW:=mkF
theorem iM:Binds (Hd.K Pm) Hd.iW ["world","weights","givings"] []:=tu λ_ _ _=>rfl
theorem kz:Fun (Hd.K Pm) "gaps_by_stuffs" "gaps_by_stuffs" jR 80 Hd.fm:=mkF
theorem ff:Binds (Hd.K Pm) Hd.fm ["bars"] []:=all1 λ_=>rfl
theorem nA:Fun (Hd.K Pm) "gap_between" "gap_between" mz 87 Hd.gV:=mkF
theorem gP:Binds (Hd.K Pm) Hd.gV ["gaps","order","other"] []:=tu λ_ _ _=>rfl
theorem oV:Fun (Hd.K Pm) "gap_faults" "gap_faults" nj 92 Hd.iX:=mkF
theorem iN:Binds (Hd.K Pm) Hd.iX ["world","givings"] []:=all2 λ_ _=>rfl
theorem mF:Fun (Hd.K Pm) "twice_faults" "twice_faults" lA 97 Hd.gC:=mkF
theorem gq:Binds (Hd.K Pm) Hd.gC ["world","givings"] []:=all2 λ_ _=>rfl
theorem AE:Fun (Hd.K Pm) "faults" "faults" uL 104 Hd.oO:=mkF
theorem oE:Binds (Hd.K Pm) Hd.oO ["world","book"] []:=all2 λ_ _=>rfl
theorem ar:Fun (Hd.K Pm) "_law_draw" "_law_draw" qr 111 Hd.kW:=mkF
theorem ao:Binds (Hd.K Pm) Hd.kW ["_law_script","_law_k","_law_many"] []:=tu λ_ _ _=>rfl
theorem sR:Fun (Hd.K Pm) "_law_caps" "_law_caps" qt 118 Hd.kX:=mkF
theorem kM:Binds (Hd.K Pm) Hd.kX ["_law_script","_law_k","_law_part","_law_scale"] []:=Ll λ_ _ _ _=>rfl
theorem oW:Fun (Hd.K Pm) "_law_stuffs" "_law_stuffs" nq 125 Hd.iY:=mkF
theorem iP:Binds (Hd.K Pm) Hd.iY ["_law_script","_law_scale"] []:=all2 λ_ _=>rfl
theorem sS:Fun (Hd.K Pm) "_law_bars" "_law_bars" qu 132 Hd.kY:=mkF
theorem kN:Binds (Hd.K Pm) Hd.kY ["_law_script","_law_many","_law_scale"] []:=tu λ_ _ _=>rfl
theorem sT:Fun (Hd.K Pm) "_law_dues" "_law_dues" qv 139 Hd.kZ:=mkF
theorem jq:Binds (Hd.K Pm) Hd.kZ ["_law_script","_law_k","_law_scale"] []:=tu λ_ _ _=>rfl
theorem qz:Fun (Hd.K Pm) "_law_world" "_law_world" oQ 146 Hd.jM:=mkF
theorem jG:Binds (Hd.K Pm) Hd.jM ["_law_script"] []:=all1 λ_=>rfl
theorem sU:Fun (Hd.K Pm) "_law_hour" "_law_hour" qx 153 Hd.lh:=mkF
theorem kO:Binds (Hd.K Pm) Hd.lh ["_law_script","_law_world_here","_law_order","_law_k"] []:=Ll λ_ _ _ _=>rfl
theorem oX:Fun (Hd.K Pm) "_law_amount" "_law_amount" nr 160 Hd.iZ:=mkF
theorem iQ:Binds (Hd.K Pm) Hd.iZ ["_law_script","_law_world_here","_law_order","_law_k"] []:=Ll λ_ _ _ _=>rfl
theorem nB:Fun (Hd.K Pm) "_law_weights" "_law_weights" mC 165 Hd.gW:=mkF
theorem gR:Binds (Hd.K Pm) Hd.gW ["_law_script","_law_world_here","_law_many"] []:=tu λ_ _ _=>rfl
theorem nC:Fun (Hd.K Pm) "_law_givings" "_law_givings" mD 170 Hd.gX:=mkF
theorem gS:Binds (Hd.K Pm) Hd.gX ["_law_script","_law_world_here","_law_many"] []:=tu λ_ _ _=>rfl
theorem oY:Fun (Hd.K Pm) "_law_weight" "_law_weight" nu 177 Hd.j0:=mkF
theorem iR:Binds (Hd.K Pm) Hd.j0 ["_law_weights_here","_law_guest","_law_hour_here"] []:=tu λ_ _ _=>rfl
theorem qA:Fun (Hd.K Pm) "_law_bound" "_law_bound" oR 184 Hd.jN:=mkF
theorem dW:Binds (Hd.K Pm) Hd.jN ["_law_cap","_law_weight_here"] []:=all2 λ_ _=>rfl
theorem qB:Fun (Hd.K Pm) "_law_total" "_law_total" oS 191 Hd.jO:=mkF
theorem jH:Binds (Hd.K Pm) Hd.jO ["_law_world_here","_law_book","_law_own","_law_cap","_law_hour_here"] []:=OL λ_ _ _ _ _=>rfl
theorem sV:Fun (Hd.K Pm) "_law_over" "_law_over" qy 198 Hd.lj:=mkF
theorem kP:Binds (Hd.K Pm) Hd.lj ["_law_world_here","_law_book"] []:=all2 λ_ _=>rfl
theorem qC:Fun (Hd.K Pm) "_law_whole" "_law_whole" oT 205 Hd.jP:=mkF
theorem jI:Binds (Hd.K Pm) Hd.jP ["_law_found"] []:=all1 λ_=>rfl
theorem oZ:Fun (Hd.K Pm) "_law_listed" "_law_listed" ny 212 Hd.j3:=mkF
theorem iV:Binds (Hd.K Pm) Hd.j3 ["_law_found"] []:=all1 λ_=>rfl
theorem Nz:Fun (Hd.K Pm) "law" "law" GQ 217 Hd.CG:=mkF
theorem Txt.NA(T:Txt Pm mg):mg "law"=some (.ref 217):=T.at
theorem G0:Binds (Hd.K Pm) Hd.CG ["_law_script"] []:=all1 λ_=>rfl
theorem Txt.NB(T:Txt Pm mg):mg "any"=none:=T.no
theorem Txt.Lm(T:Txt Pm mg):mg "bool"=none:=T.no
theorem Txt.mG(T:Txt Pm mg):mg "enumerate"=none:=T.no
theorem Txt.NC(T:Txt Pm mg):mg "int"=none:=T.no
theorem Txt.gD(T:Txt Pm mg):mg "isinstance"=none:=T.no
theorem Txt.jT(T:Txt Pm mg):mg "len"=none:=T.no
theorem Txt.GU(T:Txt Pm mg):mg "list"=none:=T.no
theorem Txt.Jr(T:Txt Pm mg):mg "max"=none:=T.no
theorem Txt.Js(T:Txt Pm mg):mg "min"=none:=T.no
theorem Txt.j4(T:Txt Pm mg):mg "range"=none:=T.no
theorem Txt.kA(T:Txt Pm mg):mg "sorted"=none:=T.no
theorem Txt.ND(T:Txt Pm mg):mg "str"=none:=T.no
theorem Txt.jU(T:Txt Pm mg):mg "tuple"=none:=T.no
end
theorem b5{X:Cx}{e:Expr}{pos p:Pos}{k m np:Nat}{fa:Addr}{fd:FuncData}{ps:List Str}{sp:List D→Option D}{x:Str}{st:Stmt}{es:List Expr}{r:DA}(F:cT X.prog X.w X.K X.mg X.base CX0 k fa fd ps (spD X.K np sp))(hr:jy m X.A)(hg:Gl X x)(hm:X.mg x=some (.ref fa))(hF:Fun X.K x x st fa fd)(hb:Binds X.K fd ps [])(ha:PAd X (e::es) r)(hl:∀env rs,r env=some rs→rs.length=np)(hk:k≤m:=by decide)(hdb:(x==("__debug__":Str))=false:=by decide)(he:starEach (e::es) X.env=(false,eval e X.env)::starEach es X.env:=by rfl)(hpl:(backTo pos (starEach es X.env)).any (·.1)=false:=by rfl):PEd X (.Call (.Name x p) (e::es) [] pos) (aH sp r):=HS F (hr.mono hk) hg hm hF.kp hb Mi ha hl hdb he hpl
seal Hd.K
section
variable{P:Program}{w:World}{Pm:Params}{mg:Str→Option Value}{base:Heap}
theorem GV:aW ["cap","weight"] ["cap","weight"] (aJ AB):=fT
theorem GW(T:Txt Pm mg):cT P w (Hd.K Pm) mg base CX0 1 21 Hd.qY ["cap","weight"] (spD (Hd.K Pm) 2 jF):=by
 refine cy CI GV rfl λcdv A outer s H E hr=> ?_
 have hu:=cM hr
 have hu20:=bQ hr
 refine a8 0 _ λv0=>a8 1 _ λv1=> ?_
 exact(ae (bD (aN (bO hu20) bP (ah hu (v0 _) a6) bq (aK _))
  (aw (aV (ah hu (v0 _) a6)))
  b4)
 (ae (bD (aN (bO hu20) bP (ah hu (v0 _) a6) bq (aK _))
  (aw (aV (ah hu (v0 _) a6)))
  b4)
 (ae (bD (aN uS qS (v1 _) fP (aK _))
  (aw (aV fP))
  b4)
 (aw (aV (kD (bC (v1 _) (ah hu (v0 _) a6)) (ah hu (v0 _) a6)))))))
theorem uM:aW ["order","hour","dues","behind","k"] ["order","hour"] (aJ uJ):=fT
theorem uN(T:Txt Pm mg):cT P w (Hd.K Pm) mg base CX0 1 28 Hd.oM ["order","hour"] (spD (Hd.K Pm) 2 jk):=by
 refine cy sQ uM rfl λcdv A outer s H E hr=> ?_
 have sc:=uM
 have hu:=cM hr
 have hu20:=bQ hr
 refine a8 0 _ λv0=>a8 1 _ λv1=>a8 2 _ λv2=>a8 3 _ λv3=>a8 4 _ λv4=>af 2 "dues" λl2=>af 3 "behind" λl3=>af 4 "k" λl4=> ?_
 exact(ae (ax (i:=2) sc.nd rfl l2 (ah hu (v0 _) a6))
 (ae (bD (aN (bO hu20) bP (ah hu (v2 _) a6) bq (aK _))
  (aw (aV fP))
  b4)
 (ae (ax (i:=3) sc.nd rfl l3 (jd (v1 _) (jd (ah hu (v2 _) a6) (ah hu (v2 _) a6))))
 (ae (ax (i:=4) sc.nd rfl l4 (kD (v3 _) (ah hu (v2 _) a6)))
 (ae (bD (ud (pD (EW wg rA pY lP a6 (v4 _) (ah hu (v2 _) a6))) (rC (aN mW jY (jd (v3 _) (bC (v4 _) (ah hu (v2 _) a6))) (aD (ah hu (v2 _) a6) (ah hu (v2 _) a6)) (aK _)))).pt
  (aw (aV fP))
  b4)
 (aw (aV (v4 _))))))))
theorem uO:aW ["order","hour","dues"] ["order","hour"] (aJ uK):=fT
theorem Em(T:Txt Pm mg):cT P w (Hd.K Pm) mg base CX0 2 35 Hd.oN ["order","hour"] (spD (Hd.K Pm) 2 lZ):=by
 refine cy AD uO rfl λcdv A outer s H E hr=> ?_
 have sc:=uO
 have hu:=cM hr
 have hu20:=bQ hr
 refine a8 0 _ λv0=>a8 1 _ λv1=>a8 2 _ λv2=>af 2 "dues" λl2=>aC "due_of" λg_due_of=> ?_
 exact(ae (ax (i:=2) sc.nd rfl l2 (ah hu (v0 _) a6))
 (ae (bD (aN (bO hu20) bP (ah hu (v2 _) a6) bq (aK _))
  (aw (aV (vc pY lP (v1 _) (ah hu (v2 _) a6) (aK _))))
  b4)
 (aw (aV (vc uS qS (b5 (uN T) hr g_due_of T.at sQ kf (a4 (v0 _) (a4 (v1 _) aa)) (a7 (a7 au))) fP (aK _))))))
theorem p7:aW ["weights","guest","hour","found","row"] ["weights","guest","hour"] (aJ oP):=fT
theorem p8(T:Txt Pm mg):cT P w (Hd.K Pm) mg base CX0 1 42 Hd.jL ["weights","guest","hour"] (spD (Hd.K Pm) 3 i9):=by
 refine cy mE p7 rfl λcdv A outer s H E hr=> ?_
 have sc:=p7
 have hu:=cM hr
 have hu20:=bQ hr
 refine a8 0 _ λv0=>a8 1 _ λv1=>a8 2 _ λv2=>a8 3 _ λv3=>a8 4 _ λv4=>af 3 "found" λl3=>af 4 "row" λl4=> ?_
 exact(ae (ax (i:=3) sc.nd rfl l3 fP)
 (ae (ck (l:=(some 0)) GaH rfl (fw (v0 _)) (aP (i:=4) sc.nd rfl l4)
  (aw (bD (iz (aN (bO hu20) bP (ah hu (v4 _) a6) (v1 _) (aK _)) (gf (aN wg rA (ah hu (v4 _) a6) (v2 _) (aK _)))).pt
  (aw (ax (i:=3) sc.nd rfl l3 (ah hu (v4 _) a6)))
  b4)))
 (aw (aV (v3 _)))))
theorem CJ:aW ["marks","hours","rows","found","total","gone","k","row"] ["marks","hours"] (aJ CH):=fT
theorem Jb(T:Txt Pm mg):cT P w (Hd.K Pm) mg base CX0 1 49 Hd.vN ["marks","hours"] (spD (Hd.K Pm) 2 k4):=by
 refine cy GR CJ rfl λcdv A outer s H E hr=> ?_
 have sc:=CJ
 have hu:=cM hr
 have hu20:=bQ hr
 refine a8 0 _ λv0=>a8 1 _ λv1=>a8 2 _ λv2=>a8 3 _ λv3=>a8 4 _ λv4=>a8 5 _ λv5=>a8 6 _ λv6=>a8 7 _ λv7=>af 2 "rows" λl2=>af 3 "found" λl3=>f7 3 "found" λw3=>af 4 "total" λl4=>af 5 "gone" λl5=>af 6 "k" λl6=>af 7 "row" λl7=>aC "enumerate" λg_enumerate=>aC "len" λg_len=>aC "sorted" λg_sorted=> ?_
 exact(ae (ax (i:=2) sc.nd rfl l2 (cj f9 gM g_sorted T.kA j5 (a4 (v0 _) aa)))
 (ae (ax (i:=3) sc.nd rfl l3 (c9 aa))
 (ae (ax (i:=4) sc.nd rfl l4 a6)
 (ae (ax (i:=5) sc.nd rfl l5 a6)
 (ae (ck (l:=(some 2)) GaH rfl (vp g_enumerate T.mG (v2 _)) (kF rfl (bF (aP (i:=6) sc.nd rfl l6) (bF (aP (i:=7) sc.nd rfl l7) iK)))
  (ae (ax (i:=4) sc.nd rfl l4 (aD (v4 _) (ah hu (v7 _) a6)))
 (ae (F5 GaH (iz (aN qP oh (v1 _) fP (aK _)) (gf (aN wg rA (ah hu (ah hu (v2 _) (v5 _)) a6) (jd (ah hu (v7 _) a6) (v1 _)) (aK _)))).pt
  (ae (ax (i:=4) sc.nd rfl l4 (jd (v4 _) (ah hu (ah hu (v2 _) (v5 _)) a6)))
 (aw (ax (i:=5) sc.nd rfl l5 (aD (v5 _) a6)))))
 (aw (bD (ud (aN (bO hu20) bP (aD (v6 _) a6) (cj (cL.or bW) bX g_len T.jT gh (a4 (v2 _) aa)) (aK _)) (rC (aN mW jY (ah hu (ah hu (v2 _) (aD (v6 _) a6)) a6) (ah hu (v7 _) a6) (aK _)))).pt
  (aw (bY (i:=3) rfl w3 (b9 (a4 (ah hu (v7 _) a6) (a4 (v4 _) aa)))))
  b4)))))
 (aw (aV (v3 _))))))))
theorem p9:aW ["stuff"] ["stuff"] (aJ jQ):=fT
theorem pb(T:Txt Pm mg):cT P w (Hd.K Pm) mg base CX0 1 54 Hd.fj ["stuff"] (spD (Hd.K Pm) 1 fc):=by
 refine cy ku p9 rfl λcdv A outer s H E hr=> ?_
 have hu:=cM hr
 have hu20:=bQ hr
 refine a8 0 _ λv0=>aC "any" λg_any=> ?_
 exact(aw (aV (cj (Dk (by rfl)) Dm g_any T.NB Kk (a4 (ot (N:=["cap"]) (l:=none) rfl (by exact⟨rfl,rfl,rfl,rfl,rfl,by decide,rfl,rfl⟩) (fw (ah hu (v0 _) a6)) lT ⟨λ_ _ _ _ _=>(aP (i:=0) (jg (by decide+kernel)) rfl (cY rfl) (jh rfl)),λ_ _ _ _ _=>j6,λ_ _ _ _ _=>(vc (bO (by exact hu20)) bP (ah (by exact hu) (dw (i:=0) (hN:=rfl) (hv:=bK rfl)) a6) bq (aK _))⟩) aa))))
theorem mH:aW ["world","weights","giving","number","hour","amount","order","stuff","kinds"] ["world","weights","giving"] (aJ mw):=fT
theorem sW(T:Txt Pm mg):cT P w (Hd.K Pm) mg base CX0 3 59 Hd.gU ["world","weights","giving"] (spD (Hd.K Pm) 3 fD):=by
 refine cy nz mH rfl λcdv A outer s H E hr=> ?_
 have sc:=mH
 have hu:=cM hr
 have hu20:=bQ hr
 refine a8 0 _ λv0=>a8 1 _ λv1=>a8 2 _ λv2=>a8 3 _ λv3=>a8 4 _ λv4=>a8 5 _ λv5=>a8 6 _ λv6=>a8 7 _ λv7=>a8 8 _ λv8=>af 3 "number" λl3=>af 4 "hour" λl4=>af 5 "amount" λl5=>af 6 "order" λl6=>af 7 "stuff" λl7=>af 8 "kinds" λl8=>f7 8 "kinds" λw8=>aC "astray" λg_astray=>aC "goes_by_weight" λg_goes_by_weight=>aC "weight_at" λg_weight_at=> ?_
 exact(ae (ax (i:=3) sc.nd rfl l3 (ah hu (v2 _) a6))
 (ae (ax (i:=4) sc.nd rfl l4 (ah hu (v2 _) a6))
 (ae (ax (i:=5) sc.nd rfl l5 (ah hu (v2 _) a6))
 (ae (ax (i:=6) sc.nd rfl l6 (ah hu (ah hu (v0 _) a6) (v3 _)))
 (ae (ax (i:=7) sc.nd rfl l7 (ah hu (ah hu (v0 _) a6) (ah hu (v6 _) a6)))
 (ae (ax (i:=8) sc.nd rfl l8 (c9 aa))
 (ae (bD (nP (b5 (Em T) hr g_astray T.at AD lY (a4 (v6 _) (a4 (v4 _) aa)) (a7 (a7 au))))
  (aw (bY (i:=8) rfl w8 bq))
  b4)
 (ae (bD (aN mW jY (v5 _) (ah hu (ah hu (v6 _) a6) a6) (aK _))
  (aw (bY (i:=8) rfl w8 bq))
  b4)
 (ae (bD (ud (aN pY lP (v5 _) a6 (aK _)) (rC (aN (F8 hu20) F9 (nO (v5 _) (ah hu (ah hu (v7 _) a6) a6)) a6 (aK _)))).pt
  (aw (bY (i:=8) rfl w8 bq))
  b4)
 (ae (bD (iz (nP (b5 (pb T) hr g_goes_by_weight T.at ku fb (a4 (v7 _) aa) (a7 au))) (gf (aN uS qS (b5 (p8 T) hr g_weight_at T.at mE i8 (a4 (v1 _) (a4 (ah hu (v6 _) a6) (a4 (v4 _) aa))) (a7 (a7 (a7 au)))) fP (aK _)))).pt
  (aw (bY (i:=8) rfl w8 bq))
  b4)
 (ae (bD (aN pY lP (v4 _) (aD (ah hu (ah hu (ah hu (v0 _) a6) (ah hu (v6 _) a6)) a6) (ah hu (v7 _) a6)) (aK _))
  (aw (bY (i:=8) rfl w8 bq))
  b4)
 (aw (aV (ot (N:=["kind","number","hour"]) (l:=(some 8)) rfl (by exact⟨rfl,rfl,rfl,rfl,rfl,by decide,rfl,rfl⟩) (fw (v8 _)) lT ⟨λ_ _ _ _ _=>(aP (i:=0) (jg (by decide+kernel)) rfl (cY rfl) (jh rfl)),λ_ _ _ _ _=>j6,λ_ _ _ _ _=>(b9 (a4 (dw (i:=0) (hN:=rfl) (hv:=bK rfl)) (a4 (dw (i:=1) (hN:=rfl) (hv:=wQ rfl)) (a4 (dw (i:=2) (hN:=rfl) (hv:=wQ rfl)) aa))))⟩))))))))))))))
theorem jx:aW ["world","givings","found","giving","order"] ["world","givings"] (aJ jw):=fT
theorem nY(T:Txt Pm mg):cT P w (Hd.K Pm) mg base CX0 1 66 Hd.dM ["world","givings"] (spD (Hd.K Pm) 2 cO):=by
 refine cy jS jx rfl λcdv A outer s H E hr=> ?_
 have sc:=jx
 have hu:=cM hr
 refine a8 0 _ λv0=>a8 1 _ λv1=>a8 3 _ λv3=>a8 4 _ λv4=>af 2 "found" λl2=> ?_
 exact(DD (i:=2) sc.nd rfl l2 (by first|exact Or.inl rfl|exact Or.inr (Or.inl rfl)|exact Or.inr (Or.inr rfl)) (KS (i:=2) (j:=3) GaH rfl (v1 _) sc.nd rfl (by first|exact Or.inl rfl|exact Or.inr rfl) (by decide) (FZ (KQ (i:=2) (j:=4) sc.nd rfl (by first|exact Or.inl rfl|exact Or.inr rfl) (by decide) (ah hu (ah hu (v0 _) a6) (ah hu (v3 _) a6)))
 (IF (KR (i:=2) hu rfl (by first|exact Or.inl rfl|exact Or.inr (Or.inl rfl)|exact Or.inr (Or.inr rfl)) (b9 (a4 (ah hu (v4 _) a6) (a4 (ah hu (v4 _) a6) aa))) (b9 (a4 (ah hu (v3 _) a6) (a4 (ah hu (v3 _) a6) aa))))))))
theorem nD:aW ["world","weights","givings","found","target","marks","guest","k","cap","hours","row","top"] ["world","weights","givings"] (aJ ni):=fT
theorem tw(T:Txt Pm mg):cT P w (Hd.K Pm) mg base CX0 2 73 Hd.iW ["world","weights","givings"] (spD (Hd.K Pm) 3 gn):=by
 refine cy oU nD rfl λcdv A outer s H E hr=> ?_
 have sc:=nD
 have hu:=cM hr
 have hu20:=bQ hr
 refine a8 0 _ λv0=>a8 1 _ λv1=>a8 2 _ λv2=>a8 3 _ λv3=>a8 4 _ λv4=>a8 5 _ λv5=>a8 6 _ λv6=>a8 7 _ λv7=>a8 8 _ λv8=>a8 9 _ λv9=>a8 10 _ λv10=>a8 11 _ λv11=>af 3 "found" λl3=>f7 3 "found" λw3=>af 4 "target" λl4=>af 5 "marks" λl5=>af 6 "guest" λl6=>af 7 "k" λl7=>af 8 "cap" λl8=>af 9 "hours" λl9=>af 10 "row" λl10=>af 11 "top" λl11=>aC "bound" λg_bound=>aC "enumerate" λg_enumerate=>aC "marks_by_target" λg_marks_by_target=>aC "sums" λg_sums=>aC "weight_at" λg_weight_at=> ?_
 exact(ae (ax (i:=3) sc.nd rfl l3 (c9 aa))
 (ae (ck (l:=none) GaH rfl (FG (b5 (nY T) hr g_marks_by_target T.at jS dI (a4 (v0 _) (a4 (v2 _) aa)) (a7 (a7 au)))) (kF rfl (bF (aP (i:=4) sc.nd rfl l4) (bF (aP (i:=5) sc.nd rfl l5) iK)))
  (ae (ax (i:=6) sc.nd rfl l6 (ah hu (v4 _) a6))
 (aw (ck (l:=none) GaH rfl (vp g_enumerate T.mG (ah hu (ah hu (ah hu (v0 _) a6) (ah hu (v4 _) a6)) a6)) (kF rfl (bF (aP (i:=7) sc.nd rfl l7) (bF (aP (i:=8) sc.nd rfl l8) iK)))
  (ae (ax (i:=9) sc.nd rfl l9 (EV (aN (bO hu20) bP (ah hu (v8 _) a6) bq (aK _)) fP (ah hu (v8 _) a6)))
 (aw (ck (l:=none) GaH rfl (fw (b5 (Jb T) hr g_sums T.at GR rY (a4 (v5 _) (a4 (v9 _) aa)) (a7 (a7 au)))) (aP (i:=10) sc.nd rfl l10)
  (ae (ax (i:=11) sc.nd rfl l11 (b5 (GW T) hr g_bound T.at CI kL (a4 (v8 _) (a4 (b5 (p8 T) hr g_weight_at T.at mE i8 (a4 (v1 _) (a4 (v6 _) (a4 (ah hu (v10 _) a6) aa))) (a7 (a7 (a7 au)))) aa)) (a7 (a7 au))))
 (aw (bD (iz (aN qP oh (v11 _) fP (aK _)) (gf (aN mW jY (ah hu (v10 _) a6) (v11 _) (aK _)))).pt
  (aw (bY (i:=3) rfl w3 (b9 (a4 bq (a4 (v6 _) (a4 (ah hu (v4 _) a6) (a4 (v7 _) (a4 (ah hu (v10 _) a6) (a4 (ah hu (v10 _) a6) (a4 (v11 _) aa))))))))))
  b4))))))))))
 (aw (aV (v3 _)))))
theorem jV:aW ["bars","gaps","bar"] ["bars"] (aJ jR):=fT
theorem pf(T:Txt Pm mg):cT P w (Hd.K Pm) mg base CX0 1 80 Hd.fm ["bars"] (spD (Hd.K Pm) 1 fg):=by
 refine cy kz jV rfl λcdv A outer s H E hr=> ?_
 have sc:=jV
 have hu:=cM hr
 refine a8 0 _ λv0=>a8 1 _ λv1=>a8 2 _ λv2=>af 1 "gaps" λl1=>af 2 "bar" λl2=> ?_
 exact(ae (ax (i:=1) sc.nd rfl l1 lU)
 (ae (ck (l:=(some 0)) GaH rfl (fw (v0 _)) (aP (i:=2) sc.nd rfl l2)
  (ae (nU (i:=1) hu rfl (by first|exact Or.inl rfl|exact Or.inr (Or.inl rfl)|exact Or.inr (Or.inr rfl)) (b9 (a4 (ah hu (v2 _) a6) (a4 (ah hu (v2 _) a6) aa))) (ah hu (v2 _) a6))
 (aw (nU (i:=1) hu rfl (by first|exact Or.inl rfl|exact Or.inr (Or.inl rfl)|exact Or.inr (Or.inr rfl)) (b9 (a4 (ah hu (v2 _) a6) (a4 (ah hu (v2 _) a6) aa))) (ah hu (v2 _) a6)))))
 (aw (aV (v1 _)))))
theorem sX:aW ["gaps","order","other"] ["gaps","order","other"] (aJ mz):=fT
theorem sY(T:Txt Pm mg):cT P w (Hd.K Pm) mg base CX0 1 87 Hd.gV ["gaps","order","other"] (spD (Hd.K Pm) 3 gQ):=by
 refine cy nA sX rfl λcdv A outer s H E hr=> ?_
 have hu:=cM hr
 have hu20:=bQ hr
 refine a8 0 _ λv0=>a8 1 _ λv1=>a8 2 _ λv2=> ?_
 exact(ae (bD (aN (F8 hu20) F9 (ah hu (v1 _) a6) (ah hu (v2 _) a6) (aK _))
  (aw (aV a6))
  b4)
 (aw (aV (Cg hu (v0 _) (b9 (a4 (ah hu (v1 _) a6) (a4 (ah hu (v2 _) a6) aa))) a6 ⟨rfl,rfl,rfl,rfl⟩))))
theorem nE:aW ["world","givings","gaps","widest","rows","found","k","row","later","apart"] ["world","givings"] (aJ nj):=fT
theorem tD(T:Txt Pm mg):cT P w (Hd.K Pm) mg base CX0 2 92 Hd.iX ["world","givings"] (spD (Hd.K Pm) 2 gp):=by
 refine cy oV nE rfl λcdv A outer s H E hr=> ?_
 have sc:=nE
 have hu:=cM hr
 refine a8 0 _ λv0=>a8 1 _ λv1=>a8 2 _ λv2=>a8 3 _ λv3=>a8 4 _ λv4=>a8 5 _ λv5=>a8 6 _ λv6=>a8 7 _ λv7=>a8 8 _ λv8=>a8 9 _ λv9=>af 2 "gaps" λl2=>af 3 "widest" λl3=>af 4 "rows" λl4=>af 5 "found" λl5=>f7 5 "found" λw5=>af 6 "k" λl6=>af 7 "row" λl7=>af 8 "later" λl8=>af 9 "apart" λl9=>aC "enumerate" λg_enumerate=>aC "gap_between" λg_gap_between=>aC "gaps_by_stuffs" λg_gaps_by_stuffs=>aC "max" λg_max=>aC "sorted" λg_sorted=> ?_
 exact(ae (ax (i:=2) sc.nd rfl l2 (b5 (pf T) hr g_gaps_by_stuffs T.at kz ff (a4 (ah hu (v0 _) a6) aa) (a7 au)))
 (ae (ax (i:=3) sc.nd rfl l3 (Ip rfl g_max T.Jr (ot (N:=["bar"]) (l:=none) rfl (by exact⟨rfl,rfl,rfl,rfl,rfl,by decide,rfl,rfl⟩) (fw (ah hu (v0 _) a6)) lT ⟨λ_ _ _ _ _=>(aP (i:=0) (jg (by decide+kernel)) rfl (cY rfl) (jh rfl)),λ_ _ _ _ _=>j6,λ_ _ _ _ _=>(ah (by exact hu) (dw (i:=0) (hN:=rfl) (hv:=bK rfl)) a6)⟩) Ep (λ_ _ _=> .int _) rfl))
 (ae (ax (i:=4) sc.nd rfl l4 (cj f9 gM g_sorted T.kA j5 (a4 (ot (N:=["giving"]) (l:=(some 1)) rfl (by exact⟨rfl,rfl,rfl,rfl,rfl,by decide,rfl,rfl⟩) (fw (v1 _)) lT ⟨λ_ _ _ _ _=>(aP (i:=0) (jg (by decide+kernel)) rfl (cY rfl) (jh rfl)),λ_ _ _ _ _=>j6,λ_ _ _ _ _=>(b9 (a4 (ah (by exact hu) (dw (i:=0) (hN:=rfl) (hv:=bK rfl)) a6) (a4 (ah (by exact hu) (dw (i:=0) (hN:=rfl) (hv:=bK rfl)) a6) aa)))⟩) aa)))
 (ae (ax (i:=5) sc.nd rfl l5 (c9 aa))
 (ae (ck (l:=(some 4)) GaH rfl (vp g_enumerate T.mG (v4 _)) (kF rfl (bF (aP (i:=6) sc.nd rfl l6) (bF (aP (i:=7) sc.nd rfl l7) iK)))
  (aw (ck (l:=none) GaH rfl (fw (ou (v4 _) (j7 (aD (v6 _) a6)) uo)) (aP (i:=8) sc.nd rfl l8)
  (ae (ax (i:=9) sc.nd rfl l9 (jd (ah hu (v8 _) a6) (ah hu (v7 _) a6)))
 (ae (bD (aN M6 Kf (v9 _) (v3 _) (aK _))
  (aw EZ)
  b4)
 (aw (bD (aN pY lP (v9 _) (b5 (sY T) hr g_gap_between T.at nA gP (a4 (v2 _) (a4 (ah hu (ah hu (v0 _) a6) (ah hu (v7 _) a6)) (a4 (ah hu (ah hu (v0 _) a6) (ah hu (v8 _) a6)) aa))) (a7 (a7 (a7 au)))) (aK _))
  (aw (bY (i:=5) rfl w5 (b9 (a4 bq (a4 (ah hu (v7 _) a6) (a4 (ah hu (v7 _) a6) (a4 (ah hu (v8 _) a6) (a4 (ah hu (v8 _) a6) aa))))))))
  b4)))))))
 (aw (aV (v5 _))))))))
theorem lB:aW ["world","givings","counts","giving","k"] ["world","givings"] (aJ lA):=fT
theorem qN(T:Txt Pm mg):cT P w (Hd.K Pm) mg base CX0 2 97 Hd.gC ["world","givings"] (spD (Hd.K Pm) 2 dS):=by
 refine cy mF lB rfl λcdv A outer s H E hr=> ?_
 have sc:=lB
 have hu:=cM hr
 refine a8 0 _ λv0=>a8 1 _ λv1=>a8 2 _ λv2=>a8 3 _ λv3=>a8 4 _ λv4=>af 2 "counts" λl2=>f7 2 "counts" λw2=>af 3 "giving" λl3=>af 4 "k" λl4=>aC "due_of" λg_due_of=> ?_
 exact(ae (ax (i:=2) sc.nd rfl l2 lU)
 (ae (ck (l:=(some 1)) GaH rfl (fw (v1 _)) (aP (i:=3) sc.nd rfl l3)
  (ae (ax (i:=4) sc.nd rfl l4 (b5 (uN T) hr g_due_of T.at sQ kf (a4 (ah hu (ah hu (v0 _) a6) (ah hu (v3 _) a6)) (a4 (ah hu (v3 _) a6) aa)) (a7 (a7 au))))
 (aw (bD (aN qP oh (v4 _) fP (aK _))
  (aw (nU (i:=2) hu rfl (by first|exact Or.inl rfl|exact Or.inr (Or.inl rfl)|exact Or.inr (Or.inr rfl)) (b9 (a4 (ah hu (v3 _) a6) (a4 (v4 _) aa))) (aD (Cg hu (v2 _) (b9 (a4 (ah hu (v3 _) a6) (a4 (v4 _) aa))) a6 ⟨rfl,rfl,rfl,rfl⟩) a6)))
  b4))))
 (aw (aV (kK (N:=["due","many"]) (i:=2) rfl w2 rfl (by exact⟨rfl,rfl,rfl,rfl,rfl,by decide,rfl,rfl⟩) rF ⟨λ_ _ _ _ _=>(kF rfl (bF (aP (i:=0) (jg (by decide+kernel)) rfl (cY rfl) (jh rfl)) (bF (aP (i:=1) (jg (by decide+kernel)) rfl (cY rfl) (jh rfl)) iK))),λ_ _ _ _ _=>(ui (aN mW jY (dw (i:=1) (hN:=rfl) (hv:=bK rfl)) a6 (aK _))),λ_ _ _ _ _=>(b9 (a4 bq (a4 (ah (by exact hu) (dw (i:=0) (hN:=rfl) (hv:=bK rfl)) a6) (a4 (ah (by exact hu) (dw (i:=0) (hN:=rfl) (hv:=bK rfl)) a6) aa))))⟩)))))
theorem uP:aW ["world","book","weights","givings","found","giving"] ["world","book"] (aJ uL):=fT
theorem En(T:Txt Pm mg):cT P w (Hd.K Pm) mg base CX0 4 104 Hd.oO ["world","book"] (spD (Hd.K Pm) 2 m6):=by
 refine cy AE uP rfl λcdv A outer s H E hr=> ?_
 have sc:=uP
 have hu:=cM hr
 refine a8 0 _ λv0=>a8 1 _ λv1=>a8 2 _ λv2=>a8 3 _ λv3=>a8 4 _ λv4=>a8 5 _ λv5=>af 2 "weights" λl2=>af 3 "givings" λl3=>af 4 "found" λl4=>f7 4 "found" λw4=>af 5 "giving" λl5=>aC "cap_faults" λg_cap_faults=>aC "gap_faults" λg_gap_faults=>aC "lone_faults" λg_lone_faults=>aC "sorted" λg_sorted=>aC "twice_faults" λg_twice_faults=> ?_
 exact(ae (ax (i:=2) sc.nd rfl l2 (ah hu (v1 _) a6))
 (ae (ax (i:=3) sc.nd rfl l3 (ah hu (v1 _) a6))
 (ae (ax (i:=4) sc.nd rfl l4 (aD (aD (b5 (tw T) hr g_cap_faults T.at oU iM (a4 (v0 _) (a4 (v2 _) (a4 (v3 _) aa))) (a7 (a7 (a7 au)))) (b5 (tD T) hr g_gap_faults T.at oV iN (a4 (v0 _) (a4 (v3 _) aa)) (a7 (a7 au)))) (b5 (qN T) hr g_twice_faults T.at mF gq (a4 (v0 _) (a4 (v3 _) aa)) (a7 (a7 au)))))
 (ae (ck (l:=(some 3)) GaH rfl (fw (v3 _)) (aP (i:=5) sc.nd rfl l5)
  (aw (Di (i:=4) rfl w4 (b5 (sW T) hr g_lone_faults T.at nz gO (a4 (v0 _) (a4 (v2 _) (a4 (v5 _) aa))) (a7 (a7 (a7 au)))))))
 (aw (aV (cj f9 jZ g_sorted T.kA j5 (a4 (v4 _) aa))))))))
theorem qD:aW ["_law_script","_law_k","_law_many","_law_cell"] ["_law_script","_law_k","_law_many"] (aJ qr):=fT
theorem ak(T:Txt Pm mg):cT P w (Hd.K Pm) mg base CX0 1 111 Hd.kW ["_law_script","_law_k","_law_many"] (spD (Hd.K Pm) 3 a9):=by
 refine cy ar qD rfl λcdv A outer s H E hr=> ?_
 have sc:=qD
 have hu:=cM hr
 refine a8 0 _ λv0=>a8 1 _ λv1=>a8 2 _ λv2=>a8 3 _ λv3=>af 3 "_law_cell" λl3=>aC "len" λg_len=> ?_
 exact(ae (ax (i:=3) sc.nd rfl l3 a6)
 (ae (bD (aN mW jY (cj (cL.or bW) bX g_len T.jT gh (a4 (v0 _) aa)) a6 (aK _))
  (aw (ax (i:=3) sc.nd rfl l3 (nO (ah hu (v0 _) (nO (v1 _) (cj (cL.or bW) bX g_len T.jT gh (a4 (v0 _) aa)))) a6)))
  b4)
 (aw (aV (nO (kD (nO (bC (nO (bC (aD (v3 _) a6) (aD (aD (bC (v1 _) (v1 _)) (v1 _)) a6)) a6) a6) a6) a6) (v2 _))))))
theorem qE:aW ["_law_script","_law_k","_law_part","_law_scale","_law_caps_here","_law_c","_law_at","_law_hours","_law_kind","_law_top"] ["_law_script","_law_k","_law_part","_law_scale"] (aJ qt):=fT
theorem AF(T:Txt Pm mg):cT P w (Hd.K Pm) mg base CX0 2 118 Hd.kX ["_law_script","_law_k","_law_part","_law_scale"] (spD (Hd.K Pm) 4 jn):=by
 refine cy sR qE rfl λcdv A outer s H E hr=> ?_
 have sc:=qE
 have hu:=cM hr
 have hu20:=bQ hr
 refine a8 0 _ λv0=>a8 1 _ λv1=>a8 2 _ λv2=>a8 3 _ λv3=>a8 4 _ λv4=>a8 5 _ λv5=>a8 6 _ λv6=>a8 7 _ λv7=>a8 8 _ λv8=>a8 9 _ λv9=>af 4 "_law_caps_here" λl4=>f7 4 "_law_caps_here" λw4=>af 5 "_law_c" λl5=>af 6 "_law_at" λl6=>af 7 "_law_hours" λl7=>af 8 "_law_kind" λl8=>af 9 "_law_top" λl9=>aC "_law_draw" λaj=>aC "range" λg_range=>aC "tuple" λg_tuple=> ?_
 exact(ae (ax (i:=4) sc.nd rfl l4 (c9 aa))
 (ae (ck (l:=none) GaH rfl (fU g_range T.j4 (ah hu (c9 (a4 a6 (a4 a6 (a4 a6 (a4 a6 (a4 a6 (a4 a6 aa))))))) (b5 (ak T) hr aj T.at ar ao (a4 (v0 _) (a4 (v1 _) (a4 a6 aa))) (a7 (a7 (a7 au)))))) (aP (i:=5) sc.nd rfl l5)
  (ae (ax (i:=6) sc.nd rfl l6 (aD (aD (v1 _) a6) (bC a6 (v5 _))))
 (ae (ax (i:=7) sc.nd rfl l7 (bC (v3 _) (aD a6 (b5 (ak T) hr aj T.at ar ao (a4 (v0 _) (a4 (v6 _) (a4 a6 aa))) (a7 (a7 (a7 au)))))))
 (ae (ax (i:=8) sc.nd rfl l8 (b5 (ak T) hr aj T.at ar ao (a4 (v0 _) (a4 (aD (v6 _) a6) (a4 a6 aa))) (a7 (a7 (a7 au)))))
 (ae (bD (aN (bO hu20) bP (v8 _) a6 (aK _))
  (aw (bY (i:=4) rfl w4 (b9 (a4 bq (a4 (v7 _) (a4 (bC (v2 _) (aD a6 (b5 (ak T) hr aj T.at ar ao (a4 (v0 _) (a4 (aD (v6 _) a6) (a4 a6 aa))) (a7 (a7 (a7 au)))))) aa))))))
  b4)
 (ae (bD (aN (bO hu20) bP (v8 _) a6 (aK _))
  (ae (ax (i:=9) sc.nd rfl l9 (bC (v2 _) (aD a6 (b5 (ak T) hr aj T.at ar ao (a4 (v0 _) (a4 (aD (v6 _) a6) (a4 a6 aa))) (a7 (a7 (a7 au)))))))
 (aw (bY (i:=4) rfl w4 (b9 (a4 bq (a4 (v7 _) (a4 (v9 _) (a4 (aD a6 (b5 (ak T) hr aj T.at ar ao (a4 (v0 _) (a4 (aD (v6 _) a6) (a4 a6 aa))) (a7 (a7 (a7 au))))) aa))))))))
  b4)
 (aw (bD (aN (bO hu20) bP (v8 _) a6 (aK _))
  (aw (bY (i:=4) rfl w4 (b9 (a4 bq (a4 (bC (v2 _) (aD a6 (b5 (ak T) hr aj T.at ar ao (a4 (v0 _) (a4 (aD (v6 _) a6) (a4 a6 aa))) (a7 (a7 (a7 au)))))) aa)))))
  b4))))))))
 (aw (aV (i4 cP dR g_tuple T.jU i5 (a4 (v4 _) aa))))))
theorem nF:aW ["_law_script","_law_scale","_law_stuffs_here","_law_s","_law_k","_law_part","_law_sizes","_law_young"] ["_law_script","_law_scale"] (aJ nq):=fT
theorem tF(T:Txt Pm mg):cT P w (Hd.K Pm) mg base CX0 3 125 Hd.iY ["_law_script","_law_scale"] (spD (Hd.K Pm) 2 gr):=by
 refine cy oW nF rfl λcdv A outer s H E hr=> ?_
 have sc:=nF
 have hu:=cM hr
 refine a8 0 _ λv0=>a8 1 _ λv1=>a8 2 _ λv2=>a8 3 _ λv3=>a8 4 _ λv4=>a8 5 _ λv5=>a8 6 _ λv6=>a8 7 _ λv7=>af 2 "_law_stuffs_here" λl2=>f7 2 "_law_stuffs_here" λw2=>af 3 "_law_s" λl3=>af 4 "_law_k" λl4=>af 5 "_law_part" λl5=>af 6 "_law_sizes" λl6=>af 7 "_law_young" λl7=>aC "_law_caps" λBD=>aC "_law_draw" λaj=>aC "range" λg_range=>aC "tuple" λg_tuple=> ?_
 exact(ae (ax (i:=2) sc.nd rfl l2 (c9 aa))
 (ae (ck (l:=none) GaH rfl (fU g_range T.j4 (ah hu (c9 (a4 a6 (a4 a6 (a4 a6 (a4 a6 (a4 a6 (a4 a6 aa))))))) (b5 (ak T) hr aj T.at ar ao (a4 (v0 _) (a4 a6 (a4 a6 aa))) (a7 (a7 (a7 au)))))) (aP (i:=3) sc.nd rfl l3)
  (ae (ax (i:=4) sc.nd rfl l4 (aD a6 (bC a6 (v3 _))))
 (ae (ax (i:=5) sc.nd rfl l5 (ah hu (c9 (a4 a6 (a4 a6 (a4 a6 (a4 a6 (a4 (lN a6 a6) aa)))))) (b5 (ak T) hr aj T.at ar ao (a4 (v0 _) (a4 (v4 _) (a4 a6 aa))) (a7 (a7 (a7 au))))))
 (ae (ax (i:=6) sc.nd rfl l6 (ah hu (c9 (a4 (b9 (a4 (v5 _) aa)) (a4 (b9 (a4 (v5 _) (a4 (bC a6 (v5 _)) aa))) (a4 (b9 (a4 (v5 _) (a4 (bC a6 (v5 _)) (a4 (bC a6 (v5 _)) aa)))) aa)))) (b5 (ak T) hr aj T.at ar ao (a4 (v0 _) (a4 (aD (v4 _) a6) (a4 a6 aa))) (a7 (a7 (a7 au))))))
 (ae (ax (i:=7) sc.nd rfl l7 (bC (ah hu (c9 (a4 a6 (a4 (v1 _) aa))) (b5 (ak T) hr aj T.at ar ao (a4 (v0 _) (a4 (aD (v4 _) a6) (a4 a6 aa))) (a7 (a7 (a7 au))))) (b5 (ak T) hr aj T.at ar ao (a4 (v0 _) (a4 (aD (v4 _) a6) (a4 a6 aa))) (a7 (a7 (a7 au))))))
 (aw (bY (i:=2) rfl w2 (b9 (a4 (aD bq (ah hu bq (v3 _))) (a4 (v6 _) (a4 (b5 (AF T) hr BD T.at sR kM (a4 (v0 _) (a4 (aD (v4 _) a6) (a4 (v5 _) (a4 (v1 _) aa)))) (a7 (a7 (a7 (a7 au))))) (a4 (v7 _) aa))))))))))))
 (aw (aV (i4 cP dR g_tuple T.jU i5 (a4 (v2 _) aa))))))
theorem qF:aW ["_law_script","_law_many","_law_scale","_law_bars_here","_law_i","_law_j","_law_k","_law_one"] ["_law_script","_law_many","_law_scale"] (aJ qu):=fT
theorem AG(T:Txt Pm mg):cT P w (Hd.K Pm) mg base CX0 2 132 Hd.kY ["_law_script","_law_many","_law_scale"] (spD (Hd.K Pm) 3 jo):=by
 refine cy sS qF rfl λcdv A outer s H E hr=> ?_
 have sc:=qF
 have hu20:=bQ hr
 refine a8 0 _ λv0=>a8 1 _ λv1=>a8 2 _ λv2=>a8 3 _ λv3=>a8 4 _ λv4=>a8 5 _ λv5=>a8 6 _ λv6=>a8 7 _ λv7=>af 3 "_law_bars_here" λl3=>f7 3 "_law_bars_here" λw3=>af 4 "_law_i" λl4=>af 5 "_law_j" λl5=>af 6 "_law_k" λl6=>af 7 "_law_one" λl7=>aC "_law_draw" λaj=>aC "len" λg_len=>aC "range" λg_range=>aC "tuple" λg_tuple=> ?_
 exact(ae (ax (i:=3) sc.nd rfl l3 (c9 aa))
 (ae (ck (l:=none) GaH rfl (fU g_range T.j4 (v1 _)) (aP (i:=4) sc.nd rfl l4)
  (aw (ck (l:=none) GaH rfl (Dh g_range T.j4 (v4 _) (v1 _)) (aP (i:=5) sc.nd rfl l5)
  (ae (ax (i:=6) sc.nd rfl l6 (aD (aD a6 (bC a6 (v4 _))) (bC a6 (v5 _))))
 (aw (bD (iz (aN pY lP (cj (cL.or bW) bX g_len T.jT gh (a4 (v3 _) aa)) a6 (aK _)) (gf (aN (bO hu20) bP (b5 (ak T) hr aj T.at ar ao (a4 (v0 _) (a4 (v6 _) (a4 a6 aa))) (a7 (a7 (a7 au)))) a6 (aK _)))).pt
  (ae (ax (i:=7) sc.nd rfl l7 (b9 (a4 (v4 _) (a4 (v5 _) (a4 (bC (v2 _) (aD a6 (b5 (ak T) hr aj T.at ar ao (a4 (v0 _) (a4 (aD (v6 _) a6) (a4 a6 aa))) (a7 (a7 (a7 au)))))) aa)))))
 (aw (Dt (i:=3) rfl w3 (b5 (ak T) hr aj T.at ar ao (a4 (v0 _) (a4 (aD (v6 _) a6) (a4 (aD (cj (cL.or bW) bX g_len T.jT gh (a4 (v3 _) aa)) a6) aa))) (a7 (a7 (a7 au)))) (v7 _))))
  b4))))))
 (aw (aV (i4 cP dR g_tuple T.jU i5 (a4 (v3 _) aa))))))
theorem qG:aW ["_law_script","_law_k","_law_scale","_law_every","_law_early","_law_late","_law_begin"] ["_law_script","_law_k","_law_scale"] (aJ qv):=fT
theorem AH(T:Txt Pm mg):cT P w (Hd.K Pm) mg base CX0 2 139 Hd.kZ ["_law_script","_law_k","_law_scale"] (spD (Hd.K Pm) 3 jr):=by
 refine cy sT qG rfl λcdv A outer s H E hr=> ?_
 have sc:=qG
 have hu:=cM hr
 have hu20:=bQ hr
 refine a8 0 _ λv0=>a8 1 _ λv1=>a8 2 _ λv2=>a8 3 _ λv3=>a8 4 _ λv4=>a8 5 _ λv5=>a8 6 _ λv6=>af 3 "_law_every" λl3=>af 4 "_law_early" λl4=>af 5 "_law_late" λl5=>af 6 "_law_begin" λl6=>aC "_law_draw" λaj=> ?_
 exact(ae (bD (aN (bO hu20) bP (b5 (ak T) hr aj T.at ar ao (a4 (v0 _) (a4 (v1 _) (a4 a6 aa))) (a7 (a7 (a7 au)))) a6 (aK _))
  (aw (aV (b9 (a4 bq (a4 (bC (v2 _) (b5 (ak T) hr aj T.at ar ao (a4 (v0 _) (a4 (aD (v1 _) a6) (a4 a6 aa))) (a7 (a7 (a7 au))))) aa)))))
  b4)
 (ae (ax (i:=3) sc.nd rfl l3 (bC (v2 _) (aD a6 (b5 (ak T) hr aj T.at ar ao (a4 (v0 _) (a4 (aD (v1 _) a6) (a4 a6 aa))) (a7 (a7 (a7 au)))))))
 (ae (ax (i:=4) sc.nd rfl l4 (bC (v2 _) (b5 (ak T) hr aj T.at ar ao (a4 (v0 _) (a4 (aD (v1 _) a6) (a4 (kD (v3 _) (v2 _)) aa))) (a7 (a7 (a7 au))))))
 (ae (ax (i:=5) sc.nd rfl l5 (bC (v2 _) (b5 (ak T) hr aj T.at ar ao (a4 (v0 _) (a4 (aD (v1 _) a6) (a4 (kD (jd (v3 _) (v4 _)) (v2 _)) aa))) (a7 (a7 (a7 au))))))
 (ae (ax (i:=6) sc.nd rfl l6 (aD (v4 _) (bC (v2 _) (b5 (ak T) hr aj T.at ar ao (a4 (v0 _) (a4 (aD (v1 _) a6) (a4 a6 aa))) (a7 (a7 (a7 au)))))))
 (aw (aV (b9 (a4 bq (a4 (v6 _) (a4 (v3 _) (a4 (ah hu (c9 (a4 a6 (a4 a6 (a4 a6 (a4 a6 (a4 a6 aa)))))) (b5 (ak T) hr aj T.at ar ao (a4 (v0 _) (a4 (aD (v1 _) a6) (a4 a6 aa))) (a7 (a7 (a7 au))))) (a4 (v4 _) (a4 (v5 _) aa))))))))))))))
theorem ph:aW ["_law_script","_law_scale","_law_guests","_law_g","_law_stuffs_here","_law_orders","_law_r","_law_k","_law_stuff","_law_most","_law_rule","_law_dues_here","_law_tapers"] ["_law_script"] (aJ oQ):=fT
theorem vO(T:Txt Pm mg):cT P w (Hd.K Pm) mg base CX0 4 146 Hd.jM ["_law_script"] (spD (Hd.K Pm) 1 ij):=by
 refine cy qz ph rfl λcdv A outer s H E hr=> ?_
 have sc:=ph
 have hu:=cM hr
 have hu20:=bQ hr
 refine a8 0 _ λv0=>a8 1 _ λv1=>a8 2 _ λv2=>a8 3 _ λv3=>a8 4 _ λv4=>a8 5 _ λv5=>a8 6 _ λv6=>a8 7 _ λv7=>a8 8 _ λv8=>a8 9 _ λv9=>a8 10 _ λv10=>a8 11 _ λv11=>a8 12 _ λv12=>af 1 "_law_scale" λl1=>af 2 "_law_guests" λl2=>f7 2 "_law_guests" λw2=>af 3 "_law_g" λl3=>af 4 "_law_stuffs_here" λl4=>af 5 "_law_orders" λl5=>f7 5 "_law_orders" λw5=>af 6 "_law_r" λl6=>af 7 "_law_k" λl7=>af 8 "_law_stuff" λl8=>af 9 "_law_most" λl9=>af 10 "_law_rule" λl10=>af 11 "_law_dues_here" λl11=>af 12 "_law_tapers" λl12=>aC "_law_bars" λBE=>aC "_law_draw" λaj=>aC "_law_dues" λBC=>aC "_law_stuffs" λvY=>aC "len" λg_len=>aC "range" λg_range=>aC "tuple" λg_tuple=> ?_
 exact(ae (ax (i:=1) sc.nd rfl l1 (ah hu (c9 (a4 a6 (a4 a6 (a4 a6 (a4 a6 (a4 a6 (a4 (lN a6 a6) aa))))))) (b5 (ak T) hr aj T.at ar ao (a4 (v0 _) (a4 a6 (a4 a6 aa))) (a7 (a7 (a7 au))))))
 (ae (ax (i:=2) sc.nd rfl l2 (c9 aa))
 (ae (ck (l:=none) GaH rfl (fU g_range T.j4 (ah hu (c9 (a4 a6 (a4 a6 (a4 a6 (a4 a6 (a4 a6 (a4 a6 aa))))))) (b5 (ak T) hr aj T.at ar ao (a4 (v0 _) (a4 a6 (a4 a6 aa))) (a7 (a7 (a7 au)))))) (aP (i:=3) sc.nd rfl l3)
  (aw (bY (i:=2) rfl w2 (b9 (a4 (aD bq (ah hu bq (v3 _))) (a4 (bC (v1 _) (b5 (ak T) hr aj T.at ar ao (a4 (v0 _) (a4 (aD a6 (v3 _)) (a4 a6 aa))) (a7 (a7 (a7 au))))) aa))))))
 (ae (ax (i:=4) sc.nd rfl l4 (b5 (tF T) hr vY T.at oW iP (a4 (v0 _) (a4 (v1 _) aa)) (a7 (a7 au))))
 (ae (ax (i:=5) sc.nd rfl l5 (c9 aa))
 (ae (ck (l:=none) GaH rfl (fU g_range T.j4 (ah hu (c9 (a4 a6 (a4 a6 (a4 a6 (a4 a6 (a4 a6 (a4 a6 aa))))))) (b5 (ak T) hr aj T.at ar ao (a4 (v0 _) (a4 a6 (a4 a6 aa))) (a7 (a7 (a7 au)))))) (aP (i:=6) sc.nd rfl l6)
  (ae (ax (i:=7) sc.nd rfl l7 (aD a6 (bC a6 (v6 _))))
 (ae (ax (i:=8) sc.nd rfl l8 (b5 (ak T) hr aj T.at ar ao (a4 (v0 _) (a4 (v7 _) (a4 (cj (cL.or bW) bX g_len T.jT gh (a4 (v4 _) aa)) aa))) (a7 (a7 (a7 au)))))
 (ae (ax (i:=9) sc.nd rfl l9 (bC (ah hu (ah hu (ah hu (v4 _) (v8 _)) a6) a6) (ah hu (c9 (a4 a6 (a4 a6 (a4 a6 aa)))) (b5 (ak T) hr aj T.at ar ao (a4 (v0 _) (a4 (aD (v7 _) a6) (a4 a6 aa))) (a7 (a7 (a7 au)))))))
 (ae (ax (i:=10) sc.nd rfl l10 (b9 (a4 (ah hu (c9 (a4 bq (a4 bq (a4 bq aa)))) (nO (v6 _) a6)) (a4 (aD a6 (b5 (ak T) hr aj T.at ar ao (a4 (v0 _) (a4 (aD (v7 _) a6) (a4 a6 aa))) (a7 (a7 (a7 au))))) (a4 (b5 (ak T) hr aj T.at ar ao (a4 (v0 _) (a4 (aD (v7 _) a6) (a4 a6 aa))) (a7 (a7 (a7 au)))) (a4 (v9 _) aa))))))
 (ae (ax (i:=11) sc.nd rfl l11 (b5 (AH T) hr BC T.at sT jq (a4 (v0 _) (a4 (aD (v7 _) a6) (a4 (v1 _) aa))) (a7 (a7 (a7 au)))))
 (ae (ax (i:=12) sc.nd rfl l12 (b9 aa))
 (ae (bD (iz (aN (bO hu20) bP (ah hu (v11 _) a6) bq (aK _)) (gf (aN mW jY (ah hu (v11 _) a6) a6 (aK _)))).pt
  (aw (ax (i:=12) sc.nd rfl l12 (b9 (a4 (b9 (a4 a6 (a4 a6 (a4 a6 aa)))) (a4 (b9 (a4 a6 (a4 a6 (a4 a6 aa)))) aa)))))
  b4)
 (aw (bY (i:=5) rfl w5 (b9 (a4 (aD bq (ah hu bq (v6 _))) (a4 (b5 (ak T) hr aj T.at ar ao (a4 (v0 _) (a4 (aD (v7 _) a6) (a4 (cj (cL.or bW) bX g_len T.jT gh (a4 (v2 _) aa)) aa))) (a7 (a7 (a7 au)))) (a4 (v8 _) (a4 (v10 _) (a4 (v11 _) (a4 (v12 _) aa)))))))))))))))))
 (aw (aV (b9 (a4 (i4 cP dR g_tuple T.jU i5 (a4 (v2 _) aa)) (a4 (v4 _) (a4 (b5 (AG T) hr BE T.at sS kN (a4 (v0 _) (a4 (cj (cL.or bW) bX g_len T.jT gh (a4 (v4 _) aa)) (a4 (v1 _) aa))) (a7 (a7 (a7 au)))) (a4 (i4 cP dR g_tuple T.jU i5 (a4 (v5 _) aa)) aa)))))))))))))
theorem qH:aW ["_law_script","_law_world_here","_law_order","_law_k","_law_scale","_law_dues_here","_law_hour_here","_law_near","_law_ends"] ["_law_script","_law_world_here","_law_order","_law_k"] (aJ qx):=fT
theorem AI(T:Txt Pm mg):cT P w (Hd.K Pm) mg base CX0 2 153 Hd.lh ["_law_script","_law_world_here","_law_order","_law_k"] (spD (Hd.K Pm) 4 js):=by
 refine cy sU qH rfl λcdv A outer s H E hr=> ?_
 have sc:=qH
 have hu:=cM hr
 have hu20:=bQ hr
 refine a8 0 _ λv0=>a8 1 _ λv1=>a8 2 _ λv2=>a8 3 _ λv3=>a8 4 _ λv4=>a8 5 _ λv5=>a8 6 _ λv6=>a8 7 _ λv7=>a8 8 _ λv8=>af 4 "_law_scale" λl4=>af 5 "_law_dues_here" λl5=>af 6 "_law_hour_here" λl6=>af 7 "_law_near" λl7=>af 8 "_law_ends" λl8=>aC "_law_draw" λaj=>aC "max" λg_max=>aC "min" λg_min=> ?_
 exact(ae (ax (i:=4) sc.nd rfl l4 (ah hu (c9 (a4 a6 (a4 a6 (a4 a6 (a4 a6 (a4 a6 (a4 (lN a6 a6) aa))))))) (b5 (ak T) hr aj T.at ar ao (a4 (v0 _) (a4 a6 (a4 a6 aa))) (a7 (a7 (a7 au))))))
 (ae (ax (i:=5) sc.nd rfl l5 (ah hu (ah hu (ah hu (v1 _) a6) (v2 _)) a6))
 (ae (ax (i:=6) sc.nd rfl l6 (bC (v4 _) (b5 (ak T) hr aj T.at ar ao (a4 (v0 _) (a4 (v3 _) (a4 a6 aa))) (a7 (a7 (a7 au))))))
 (ae (bD (iz (aN (bO hu20) bP (ah hu (v5 _) a6) bq (aK _)) (gf (aN mW jY (b5 (ak T) hr aj T.at ar ao (a4 (v0 _) (a4 (aD (v3 _) a6) (a4 a6 aa))) (a7 (a7 (a7 au)))) a6 (aK _)))).pt
  (ae (ax (i:=7) sc.nd rfl l7 (aD (ah hu (v5 _) a6) (bC (b5 (ak T) hr aj T.at ar ao (a4 (v0 _) (a4 (v3 _) (a4 (cj (tR (by rfl)) rD g_min T.Js Fb (a4 (ah hu (v5 _) a6) (a4 a6 aa))) aa))) (a7 (a7 (a7 au)))) (ah hu (v5 _) a6))))
 (ae (ax (i:=8) sc.nd rfl l8 (c9 (a4 (v7 _) (a4 (jd (v7 _) (ah hu (v5 _) a6)) (a4 (aD (v7 _) (ah hu (v5 _) a6)) (a4 (jd (jd (v7 _) (ah hu (v5 _) a6)) a6) (a4 (aD (aD (v7 _) (ah hu (v5 _) a6)) a6) (a4 (v7 _) aa))))))))
 (aw (ax (i:=6) sc.nd rfl l6 (cj (CV (by rfl)) B3 g_max T.Jr Fc (a4 a6 (a4 (ah hu (v8 _) (b5 (ak T) hr aj T.at ar ao (a4 (v0 _) (a4 (aD (v3 _) a6) (a4 a6 aa))) (a7 (a7 (a7 au))))) aa)))))))
  b4)
 (ae (bD (aN (bO hu20) bP (b5 (ak T) hr aj T.at ar ao (a4 (v0 _) (a4 (aD (v3 _) a6) (a4 a6 aa))) (a7 (a7 (a7 au)))) a6 (aK _))
  (aw (ax (i:=6) sc.nd rfl l6 (aD (v6 _) a6)))
  b4)
 (ae (bD (aN (bO hu20) bP (b5 (ak T) hr aj T.at ar ao (a4 (v0 _) (a4 (aD (v3 _) a6) (a4 a6 aa))) (a7 (a7 (a7 au)))) a6 (aK _))
  (aw (ax (i:=6) sc.nd rfl l6 (lN a6 a6)))
  b4)
 (aw (aV (v6 _)))))))))
theorem nG:aW ["_law_script","_law_world_here","_law_order","_law_k","_law_part","_law_many","_law_odd"] ["_law_script","_law_world_here","_law_order","_law_k"] (aJ nr):=fT
theorem tH(T:Txt Pm mg):cT P w (Hd.K Pm) mg base CX0 2 160 Hd.iZ ["_law_script","_law_world_here","_law_order","_law_k"] (spD (Hd.K Pm) 4 fh):=by
 refine cy oX nG rfl λcdv A outer s H E hr=> ?_
 have sc:=nG
 have hu:=cM hr
 have hu20:=bQ hr
 refine a8 0 _ λv0=>a8 1 _ λv1=>a8 2 _ λv2=>a8 3 _ λv3=>a8 4 _ λv4=>a8 5 _ λv5=>a8 6 _ λv6=>af 4 "_law_part" λl4=>af 5 "_law_many" λl5=>af 6 "_law_odd" λl6=>aC "_law_draw" λaj=> ?_
 exact(ae (ax (i:=4) sc.nd rfl l4 (ah hu (ah hu (ah hu (ah hu (v1 _) a6) (ah hu (ah hu (ah hu (v1 _) a6) (v2 _)) a6)) a6) a6))
 (ae (ax (i:=5) sc.nd rfl l5 (bC (v4 _) (aD a6 (b5 (ak T) hr aj T.at ar ao (a4 (v0 _) (a4 (aD (v3 _) a6) (a4 a6 aa))) (a7 (a7 (a7 au)))))))
 (ae (ax (i:=6) sc.nd rfl l6 (c9 (a4 a6 (a4 (EU (v5 _)) (a4 (aD (v5 _) a6) (a4 (lN a6 a6) (a4 (bC (v4 _) a6) (a4 (EU a6) aa))))))))
 (ae (bD (aN (bO hu20) bP (b5 (ak T) hr aj T.at ar ao (a4 (v0 _) (a4 (aD (v3 _) a6) (a4 a6 aa))) (a7 (a7 (a7 au)))) a6 (aK _))
  (aw (aV (ah hu (v6 _) (b5 (ak T) hr aj T.at ar ao (a4 (v0 _) (a4 (aD (v3 _) a6) (a4 a6 aa))) (a7 (a7 (a7 au)))))))
  b4)
 (aw (aV (v5 _)))))))
theorem mI:aW ["_law_script","_law_world_here","_law_many","_law_scale","_law_kept","_law_n","_law_spot"] ["_law_script","_law_world_here","_law_many"] (aJ mC):=fT
theorem sZ(T:Txt Pm mg):cT P w (Hd.K Pm) mg base CX0 2 165 Hd.gW ["_law_script","_law_world_here","_law_many"] (spD (Hd.K Pm) 3 fH):=by
 refine cy nB mI rfl λcdv A outer s H E hr=> ?_
 have sc:=mI
 have hu:=cM hr
 have hu20:=bQ hr
 refine a8 0 _ λv0=>a8 1 _ λv1=>a8 2 _ λv2=>a8 3 _ λv3=>a8 5 _ λv5=>a8 6 _ λv6=>af 3 "_law_scale" λl3=>af 4 "_law_kept" λl4=>f7 4 "_law_kept" λw4=>af 5 "_law_n" λl5=>af 6 "_law_spot" λl6=>aC "_law_draw" λaj=>aC "len" λg_len=>aC "range" λg_range=>aC "sorted" λg_sorted=>aC "tuple" λg_tuple=> ?_
 exact(ae (ax (i:=3) sc.nd rfl l3 (ah hu (c9 (a4 a6 (a4 a6 (a4 a6 (a4 a6 (a4 a6 (a4 (lN a6 a6) aa))))))) (b5 (ak T) hr aj T.at ar ao (a4 (v0 _) (a4 a6 (a4 a6 aa))) (a7 (a7 (a7 au))))))
 (ae (ax (i:=4) sc.nd rfl l4 lU)
 (ae (ck (l:=none) GaH rfl (fU g_range T.j4 (v2 _)) (aP (i:=5) sc.nd rfl l5)
  (ae (ax (i:=6) sc.nd rfl l6 (b9 (a4 (b5 (ak T) hr aj T.at ar ao (a4 (v0 _) (a4 (aD a6 (v5 _)) (a4 (cj (cL.or bW) bX g_len T.jT gh (a4 (ah hu (v1 _) a6) aa)) aa))) (a7 (a7 (a7 au)))) (a4 (bC (v3 _) (b5 (ak T) hr aj T.at ar ao (a4 (v0 _) (a4 (aD a6 (v5 _)) (a4 a6 aa))) (a7 (a7 (a7 au))))) aa))))
 (ae (bD (iz (aN pY lP (v5 _) (cj (cL.or bW) bX g_len T.jT gh (a4 (ah hu (v1 _) a6) aa)) (aK _)) (gf (aN (bO hu20) bP (b5 (ak T) hr aj T.at ar ao (a4 (v0 _) (a4 a6 (a4 a6 aa))) (a7 (a7 (a7 au)))) a6 (aK _)))).pt
  (aw (ax (i:=6) sc.nd rfl l6 (b9 (a4 (v5 _) (a4 a6 aa)))))
  b4)
 (aw (nU (i:=4) hu rfl (by first|exact Or.inl rfl|exact Or.inr (Or.inl rfl)|exact Or.inr (Or.inr rfl)) (v6 _) (ah hu (c9 (a4 (aD a6 (b5 (ak T) hr aj T.at ar ao (a4 (v0 _) (a4 (aD a6 (v5 _)) (a4 a6 aa))) (a7 (a7 (a7 au))))) (a4 (lN a6 a6) aa))) (kD (b5 (ak T) hr aj T.at ar ao (a4 (v0 _) (a4 (aD a6 (v5 _)) (a4 a6 aa))) (a7 (a7 (a7 au)))) a6)))))))
 (aw (aV (i4 cP dR g_tuple T.jU i5 (a4 (cj f9 gM g_sorted T.kA j5 (a4 (kK (N:=["_law_spot","_law_weight_here"]) (i:=4) rfl w4 rfl (by exact⟨rfl,rfl,rfl,rfl,rfl,by decide,rfl,rfl⟩) rF ⟨λ_ _ _ _ _=>(kF rfl (bF (aP (i:=0) (jg (by decide+kernel)) rfl (cY rfl) (jh rfl)) (bF (aP (i:=1) (jg (by decide+kernel)) rfl (cY rfl) (jh rfl)) iK))),λ_ _ _ _ _=>j6,λ_ _ _ _ _=>(b9 (a4 (ah (by exact hu) (dw (i:=0) (hN:=rfl) (hv:=bK rfl)) a6) (a4 (ah (by exact hu) (dw (i:=0) (hN:=rfl) (hv:=bK rfl)) a6) (a4 (dw (i:=1) (hN:=rfl) (hv:=bK rfl)) aa))))⟩) aa)) aa)))))))
theorem mJ:aW ["_law_script","_law_world_here","_law_many","_law_kept","_law_n","_law_order","_law_spot"] ["_law_script","_law_world_here","_law_many"] (aJ mD):=fT
theorem t5(T:Txt Pm mg):cT P w (Hd.K Pm) mg base CX0 3 170 Hd.gX ["_law_script","_law_world_here","_law_many"] (spD (Hd.K Pm) 3 fI):=by
 refine cy nC mJ rfl λcdv A outer s H E hr=> ?_
 have sc:=mJ
 have hu:=cM hr
 have hu20:=bQ hr
 refine a8 0 _ λv0=>a8 1 _ λv1=>a8 2 _ λv2=>a8 4 _ λv4=>a8 5 _ λv5=>a8 6 _ λv6=>af 3 "_law_kept" λl3=>f7 3 "_law_kept" λw3=>af 4 "_law_n" λl4=>af 5 "_law_order" λl5=>af 6 "_law_spot" λl6=>aC "_law_amount" λvW=>aC "_law_draw" λaj=>aC "_law_hour" λBB=>aC "len" λg_len=>aC "range" λg_range=>aC "sorted" λg_sorted=>aC "tuple" λg_tuple=> ?_
 exact(ae (ax (i:=3) sc.nd rfl l3 lU)
 (ae (ck (l:=none) GaH rfl (fU g_range T.j4 (v2 _)) (aP (i:=4) sc.nd rfl l4)
  (ae (ax (i:=5) sc.nd rfl l5 (b5 (ak T) hr aj T.at ar ao (a4 (v0 _) (a4 (aD a6 (v4 _)) (a4 (cj (cL.or bW) bX g_len T.jT gh (a4 (ah hu (v1 _) a6) aa)) aa))) (a7 (a7 (a7 au)))))
 (ae (ax (i:=6) sc.nd rfl l6 (b9 (a4 (v5 _) (a4 (b5 (AI T) hr BB T.at sU kO (a4 (v0 _) (a4 (v1 _) (a4 (v5 _) (a4 (aD a6 (v4 _)) aa)))) (a7 (a7 (a7 (a7 au))))) aa))))
 (ae (nU (i:=3) hu rfl (by first|exact Or.inl rfl|exact Or.inr (Or.inl rfl)|exact Or.inr (Or.inr rfl)) (v6 _) (b5 (tH T) hr vW T.at oX iQ (a4 (v0 _) (a4 (v1 _) (a4 (v5 _) (a4 (aD a6 (v4 _)) aa)))) (a7 (a7 (a7 (a7 au))))))
 (aw (bD (aN (bO hu20) bP (b5 (ak T) hr aj T.at ar ao (a4 (v0 _) (a4 (aD a6 (v4 _)) (a4 a6 aa))) (a7 (a7 (a7 au)))) a6 (aK _))
  (aw (nU (i:=3) hu rfl (by first|exact Or.inl rfl|exact Or.inr (Or.inl rfl)|exact Or.inr (Or.inr rfl)) (v6 _) (aD (lN a6 a6) (v4 _))))
  b4))))))
 (aw (aV (i4 cP dR g_tuple T.jU i5 (a4 (cj f9 gM g_sorted T.kA j5 (a4 (kK (N:=["_law_spot","_law_amount_here"]) (i:=3) rfl w3 rfl (by exact⟨rfl,rfl,rfl,rfl,rfl,by decide,rfl,rfl⟩) rF ⟨λ_ _ _ _ _=>(kF rfl (bF (aP (i:=0) (jg (by decide+kernel)) rfl (cY rfl) (jh rfl)) (bF (aP (i:=1) (jg (by decide+kernel)) rfl (cY rfl) (jh rfl)) iK))),λ_ _ _ _ _=>j6,λ_ _ _ _ _=>(b9 (a4 (ah (by exact hu) (dw (i:=0) (hN:=rfl) (hv:=bK rfl)) a6) (a4 (ah (by exact hu) (dw (i:=0) (hN:=rfl) (hv:=bK rfl)) a6) (a4 (dw (i:=1) (hN:=rfl) (hv:=bK rfl)) aa))))⟩) aa)) aa))))))
theorem nH:aW ["_law_weights_here","_law_guest","_law_hour_here","_law_found","_law_one"] ["_law_weights_here","_law_guest","_law_hour_here"] (aJ nu):=fT
theorem tJ(T:Txt Pm mg):cT P w (Hd.K Pm) mg base CX0 1 177 Hd.j0 ["_law_weights_here","_law_guest","_law_hour_here"] (spD (Hd.K Pm) 3 iU):=by
 refine cy oY nH rfl λcdv A outer s H E hr=> ?_
 have sc:=nH
 have hu:=cM hr
 have hu20:=bQ hr
 refine a8 0 _ λv0=>a8 1 _ λv1=>a8 2 _ λv2=>a8 3 _ λv3=>a8 4 _ λv4=>af 3 "_law_found" λl3=>af 4 "_law_one" λl4=> ?_
 exact(ae (ax (i:=3) sc.nd rfl l3 fP)
 (ae (ck (l:=(some 0)) GaH rfl (fw (v0 _)) (aP (i:=4) sc.nd rfl l4)
  (aw (bD (iz (aN (bO hu20) bP (ah hu (v4 _) a6) (v1 _) (aK _)) (gf (aN wg rA (ah hu (v4 _) a6) (v2 _) (aK _)))).pt
  (aw (ax (i:=3) sc.nd rfl l3 (ah hu (v4 _) a6)))
  b4)))
 (aw (aV (v3 _)))))
theorem vP:aW ["_law_cap","_law_weight_here"] ["_law_cap","_law_weight_here"] (aJ oR):=fT
theorem vQ(T:Txt Pm mg):cT P w (Hd.K Pm) mg base CX0 1 184 Hd.jN ["_law_cap","_law_weight_here"] (spD (Hd.K Pm) 2 dm):=by
 refine cy qA vP rfl λcdv A outer s H E hr=> ?_
 have hu:=cM hr
 have hu20:=bQ hr
 refine a8 0 _ λv0=>a8 1 _ λv1=> ?_
 exact(ae (bD (aN (bO hu20) bP (ah hu (v0 _) a6) bq (aK _))
  (aw (aV (ah hu (v0 _) a6)))
  b4)
 (ae (bD (aN (bO hu20) bP (ah hu (v0 _) a6) bq (aK _))
  (aw (aV (ah hu (v0 _) a6)))
  b4)
 (ae (bD (aN uS qS (v1 _) fP (aK _))
  (aw (aV fP))
  b4)
 (aw (aV (kD (bC (v1 _) (ah hu (v0 _) a6)) (ah hu (v0 _) a6)))))))
theorem pj:aW ["_law_world_here","_law_book","_law_own","_law_cap","_law_hour_here","_law_total_here","_law_order","_law_at","_law_amount_here"] ["_law_world_here","_law_book","_law_own","_law_cap","_law_hour_here"] (aJ oS):=fT
theorem vR(T:Txt Pm mg):cT P w (Hd.K Pm) mg base CX0 1 191 Hd.jO ["_law_world_here","_law_book","_law_own","_law_cap","_law_hour_here"] (spD (Hd.K Pm) 5 il):=by
 refine cy qB pj rfl λcdv A outer s H E hr=> ?_
 have sc:=pj
 have hu:=cM hr
 have hu20:=bQ hr
 refine a8 0 _ λv0=>a8 1 _ λv1=>a8 2 _ λv2=>a8 3 _ λv3=>a8 4 _ λv4=>a8 5 _ λv5=>a8 6 _ λv6=>a8 7 _ λv7=>a8 8 _ λv8=>af 5 "_law_total_here" λl5=>af 6 "_law_order" λl6=>af 7 "_law_at" λl7=>af 8 "_law_amount_here" λl8=> ?_
 exact(ae (ax (i:=5) sc.nd rfl l5 a6)
 (ae (ck (l:=none) GaH rfl (fw (ah hu (v1 _) a6)) (kF rfl (bF (aP (i:=6) sc.nd rfl l6) (bF (aP (i:=7) sc.nd rfl l7) (bF (aP (i:=8) sc.nd rfl l8) iK))))
  (aw (bD (iz (aN (bO hu20) bP (ou (ah hu (ah hu (v0 _) a6) (v6 _)) (j7 a6) (j7 a6)) (ou (v2 _) (j7 a6) (j7 a6)) (aK _)) (iz (aN wg rA (v7 _) (v4 _) (aK _)) (gf (ud (aN (bO hu20) bP (ah hu (v3 _) a6) bq (aK _)) (rC (aN mW jY (v7 _) (jd (v4 _) (ah hu (v3 _) a6)) (aK _)))).pt))).pt
  (aw (ax (i:=5) sc.nd rfl l5 (aD (v5 _) (v8 _))))
  b4)))
 (aw (aV (v5 _)))))
theorem qI:aW ["_law_world_here","_law_book","_law_kept","_law_order","_law_hour_here","_law_amount_here","_law_own","_law_caps_here","_law_k","_law_most","_law_total_here"] ["_law_world_here","_law_book"] (aJ qy):=fT
theorem AJ(T:Txt Pm mg):cT P w (Hd.K Pm) mg base CX0 2 198 Hd.lj ["_law_world_here","_law_book"] (spD (Hd.K Pm) 2 kQ):=by
 refine cy sV qI rfl λcdv A outer s H E hr=> ?_
 have sc:=qI
 have hu:=cM hr
 refine a8 0 _ λv0=>a8 1 _ λv1=>a8 2 _ λv2=>a8 3 _ λv3=>a8 4 _ λv4=>a8 6 _ λv6=>a8 7 _ λv7=>a8 8 _ λv8=>a8 9 _ λv9=>a8 10 _ λv10=>af 2 "_law_kept" λl2=>af 3 "_law_order" λl3=>af 4 "_law_hour_here" λl4=>af 5 "_law_amount_here" λl5=>af 6 "_law_own" λl6=>af 7 "_law_caps_here" λl7=>af 8 "_law_k" λl8=>af 9 "_law_most" λl9=>af 10 "_law_total_here" λl10=>aC "_law_bound" λAM=>aC "_law_total" λAN=>aC "_law_weight" λvZ=>aC "len" λg_len=>aC "list" λg_list=>aC "range" λg_range=> ?_
 exact(ae (ax (i:=2) sc.nd rfl l2 lU)
 (ae (ck (l:=none) GaH rfl (fw (ah hu (v1 _) a6)) (kF rfl (bF (aP (i:=3) sc.nd rfl l3) (bF (aP (i:=4) sc.nd rfl l4) (bF (aP (i:=5) sc.nd rfl l5) iK))))
  (ae (ax (i:=6) sc.nd rfl l6 (ah hu (ah hu (v0 _) a6) (v3 _)))
 (ae (ax (i:=7) sc.nd rfl l7 (ah hu (ah hu (ah hu (v0 _) a6) (ah hu (v6 _) a6)) a6))
 (aw (ck (l:=none) GaH rfl (fU g_range T.j4 (cj (cL.or bW) bX g_len T.jT gh (a4 (v7 _) aa))) (aP (i:=8) sc.nd rfl l8)
  (ae (ax (i:=9) sc.nd rfl l9 (b5 (vQ T) hr AM T.at qA dW (a4 (ah hu (v7 _) (v8 _)) (a4 (b5 (tJ T) hr vZ T.at oY iR (a4 (ah hu (v1 _) a6) (a4 (ah hu (v6 _) a6) (a4 (v4 _) aa))) (a7 (a7 (a7 au)))) aa)) (a7 (a7 au))))
 (ae (ax (i:=10) sc.nd rfl l10 (b5 (vR T) hr AN T.at qB jH (a4 (v0 _) (a4 (v1 _) (a4 (v6 _) (a4 (ah hu (v7 _) (v8 _)) (a4 (v4 _) aa))))) (a7 (a7 (a7 (a7 (a7 au)))))))
 (aw (bD (iz (aN qP oh (v9 _) fP (aK _)) (gf (aN mW jY (v10 _) (v9 _) (aK _)))).pt
  (aw (nU (i:=2) hu rfl (by first|exact Or.inl rfl|exact Or.inr (Or.inl rfl)|exact Or.inr (Or.inr rfl)) (b9 (a4 bq (a4 (ah hu (v6 _) a6) (a4 (ah hu (v6 _) a6) (a4 (v8 _) (a4 (v4 _) (a4 (v10 _) (a4 (v9 _) aa)))))))) u7))
  b4)))))))))
 (aw (aV (i4 (vt (by rfl)) A2 g_list T.GU C4 (a4 (v2 _) aa))))))
theorem vS:aW ["_law_found"] ["_law_found"] (aJ oT):=fT
theorem vT(T:Txt Pm mg):cT P w (Hd.K Pm) mg base CX0 1 205 Hd.jP ["_law_found"] (spD (Hd.K Pm) 1 jJ):=by
 refine cy qC vS rfl λcdv A outer s H E hr=> ?_
 refine a8 0 _ λv0=>aC "bool" λg_bool=>aC "int" λg_int=>aC "isinstance" λg_isinstance=> ?_
 exact(aw (aV (Kh (rE HY (v0 _) g_isinstance T.gD g_int T.NC Km) (Kg (Ki (rE Fe (v0 _) g_isinstance T.gD g_bool T.Lm HX))))))
theorem nI:aW ["_law_found","_law_one","_law_num"] ["_law_found"] (aJ ny):=fT
theorem tK(T:Txt Pm mg):cT P w (Hd.K Pm) mg base CX0 2 212 Hd.j3 ["_law_found"] (spD (Hd.K Pm) 1 gw):=by
 refine cy oZ nI rfl λcdv A outer s H E hr=> ?_
 have sc:=nI
 have hu:=cM hr
 refine a8 0 _ λv0=>a8 1 _ λv1=>a8 2 _ λv2=>af 1 "_law_one" λl1=>af 2 "_law_num" λl2=>aC "isinstance" λg_isinstance=>aC "_law_whole" λAK=>aC "len" λg_len=>aC "list" λg_list=>aC "str" λg_str=>aC "tuple" λg_tuple=> ?_
 exact(ae (bD (pD (nP (rE Fd (v0 _) g_isinstance T.gD g_list T.GU C4)))
  (aw (aV u7))
  b4)
 (ae (ck (l:=(some 0)) GaH rfl (fw (v0 _)) (aP (i:=1) sc.nd rfl l1)
  (ae (bD (ud (pD (nP (rE kit_tuple (v1 _) g_isinstance T.gD g_tuple T.jU i5))) (ud (aN pY lP (cj (cL.or bW) bX g_len T.jT gh (a4 (v1 _) aa)) a6 (aK _)) (rC (pD (nP (rE HZ (ah hu (v1 _) a6) g_isinstance T.gD g_str T.ND Kn)))))).pt
  (aw (aV u7))
  b4)
 (aw (ck (l:=none) GaH rfl (fw (ou (v1 _) (j7 a6) uo)) (aP (i:=2) sc.nd rfl l2)
  (aw (bD (pD (nP (b5 (vT T) hr AK T.at qC jI (a4 (v2 _) aa) (a7 au))))
  (aw (aV u7))
  b4))))))
 (aw (aV u7))))
theorem GX:aW ["_law_script","_law_world_here","_law_weights_here","_law_book","_law_found"] ["_law_script"] (aJ GQ):=fT
theorem Ln(T:Txt Pm mg):cT P w (Hd.K Pm) mg base CX0 5 217 Hd.CG ["_law_script"] (spD (Hd.K Pm) 1 rZ):=by
 refine cy Nz GX rfl λcdv A outer s H E hr=> ?_
 have sc:=GX
 have hu:=cM hr
 have hu20:=bQ hr
 refine a8 0 _ λv0=>a8 1 _ λv1=>a8 2 _ λv2=>a8 3 _ λv3=>a8 4 _ λv4=>af 1 "_law_world_here" λl1=>af 2 "_law_weights_here" λl2=>af 3 "_law_book" λl3=>af 4 "_law_found" λl4=>aC "faults" λg_faults=>aC "_law_draw" λaj=>aC "_law_givings" λtL=>aC "_law_listed" λvX=>aC "_law_over" λBA=>aC "_law_weights" λtN=>aC "_law_world" λAL=>aC "len" λg_len=>aC "min" λg_min=>aC "sorted" λg_sorted=> ?_
 exact(ae (ax (i:=1) sc.nd rfl l1 (b5 (vO T) hr AL T.at qz jG (a4 (v0 _) aa) (a7 au)))
 (ae (ax (i:=2) sc.nd rfl l2 (b5 (sZ T) hr tN T.at nB gR (a4 (v0 _) (a4 (v1 _) (a4 (b5 (ak T) hr aj T.at ar ao (a4 (v0 _) (a4 a6 (a4 a6 aa))) (a7 (a7 (a7 au)))) aa))) (a7 (a7 (a7 au)))))
 (ae (ax (i:=3) sc.nd rfl l3 (b9 (a4 (v2 _) (a4 (b5 (t5 T) hr tL T.at nC gS (a4 (v0 _) (a4 (v1 _) (a4 (aD (cj (tR (by rfl)) rD g_min T.Js Fb (a4 (cj (cL.or bW) bX g_len T.jT gh (a4 (v0 _) aa)) (a4 a6 aa))) (b5 (ak T) hr aj T.at ar ao (a4 (v0 _) (a4 a6 (a4 a6 aa))) (a7 (a7 (a7 au))))) aa))) (a7 (a7 (a7 au)))) aa))))
 (ae (ax (i:=4) sc.nd rfl l4 (b5 (En T) hr g_faults T.at AE oE (a4 (v1 _) (a4 (v3 _) aa)) (a7 (a7 au))))
 (ae (bD (pD (nP (b5 (tK T) hr vX T.at oZ iV (a4 (v4 _) aa) (a7 au))))
  (aw (aV u7))
  b4)
 (aw (aV (vc (bO hu20) bP (ot (N:=["_law_one"]) (l:=(some 4)) rfl (by exact⟨rfl,rfl,rfl,rfl,rfl,by decide,rfl,rfl⟩) (fw (v4 _)) lT ⟨λ_ _ _ _ _=>(aP (i:=0) (jg (by decide+kernel)) rfl (cY rfl) (jh rfl)),λ_ _ _ _ _=>(ui (aN (bO (by exact hu20)) bP (ah (by exact hu) (dw (i:=0) (hN:=rfl) (hv:=bK rfl)) a6) bq (aK _))),λ_ _ _ _ _=>(dw (i:=0) (hN:=rfl) (hv:=bK rfl))⟩) (cj f9 jZ g_sorted T.kA j5 (a4 (b5 (AJ T) hr BA T.at sV kP (a4 (v1 _) (a4 (v3 _) aa)) (a7 (a7 au))) aa)) (aK _)))))))))
end
theorem all_mk{l:PySem.W.OpenLaw}{w:World}{h:Heap}{mg:Str→Option Value}{fa:Addr}(X:(Hd.K w.params).In h)(G:h.Ns mainGlobals mg)(hfa:mg "law"=some (.ref fa)):
  ∃fd:FuncData,(∀(s:Shared) (v:Value),BindsTo s fd ⟨[v],[]⟩ [("_law_script",v)])∧∀base:Heap,(Hd.K w.params).In base→base.Ns mainGlobals mg→cT l.prog w (Hd.K w.params) mg base CX0 5 fa fd ["_law_script"] (spD (Hd.K w.params) 1 rZ):=by
 have T:Txt w.params mg:=⟨h,X,G⟩
 have e:=hfa.symm.trans T.NA
 cases e
 exact⟨_,λs v=> .of_eq rfl,λbase _ _=>Ln T⟩
theorem walk{l:PySem.W.OpenLaw}{q:Program}{loose:List Str}{XP:(Str→Option Value)→Heap→Prop}{YP:World→Heap→Prop}{d:DefRec}{K:Params→PySem.W.Frag}(hn:l.most=some 63)(hdf:d.params.defaults=[])
  (hY:∀(w:World) (h:Heap),YP w h→(K w.params).In h)(true_:∀ns:List Int,ns.length≤63→rZ [.scr ns]=some (.bl true))
  (F:∀(w:World) (mg:Str→Option Value) (fa:Addr) (h:Heap),(K w.params).In h→h.Ns mainGlobals mg→mg d.name=some (.ref fa)→
   ∃fd:FuncData,(∀(s:Shared) (u:Value),BindsTo s fd ⟨[u],[]⟩ [("_law_script",u)])∧∀base:Heap,(K w.params).In base→base.Ns mainGlobals mg→cT l.prog w (K w.params) mg base CX0 5 fa fd ["_law_script"] (spD (K w.params) 1 rZ)):
  PySem.W.WalkO q loose XP YP l.row.toRowW d [] (λf vs=>PySem.call f vs):=
 L2.HC (n:=63) (k:=5) (x:="_law_script") (CX:=λ_=>CX0) (sp:=λw=>spD (K w.params) 1 rZ) hn (by decide) hdf ⟨rfl,by decide,by decide⟩ hY F (λ_ _ a ns hl hO hS=>Kj hO hS (true_ ns hl)) λ_ _ _ _ _ z=>z
end Der
open PySem PySem.W PyProof.Rows
set_option maxRecDepth 100000 in
set_option maxHeartbeats 0 in
theorem PySem.Challenge.cw_dosehouse_k42_faults_of_caps_holds : PySem.Challenge.rw_dosehouse_k42_faults_of_caps.Holds := by
 refine holds_law (by kernel_rfl) λsaid=> ?_
 refine holds_open (q:=Hd.view) (loose:=[]) (Xt:=Hd.xt) (XP:=XL Hd.view []) (Yf:=Hook.obs Hd.hook) (Ya:=Hook.val Hd.hook) (YP:=Hook.says Hd.hook) (N:=2240) Hd.left (Hook.of Hd.hook) (Hook.keeps Hd.hook) (λs e=>xl_of s (Bool.and_eq_true_iff.mp e).1) XL.keeps (by rfl) (by rfl) (by rfl) (λs e=>recFacts_of (Bool.and_eq_true_iff.mp e).2) (by rfl) said (by decide+kernel) ⟨rfl,rfl,rfl,rfl,rfl,by decide+kernel⟩ ?hw ?hc
 case hw=>w_witness2
 case hc=>exact Der.walk (l:=PySem.Challenge.rw_dosehouse_k42_faults_of_caps) (K:=Hd.K) rfl rfl (λw h Y=>PySem.W.kIn_of Y) Maths.GP λw mg fa h KX G hmg=>Der.all_mk KX G hmg
