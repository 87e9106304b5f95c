import PyProof.Rows.All
import Wide.All
import OpenK.AllK
import Wide.FinOn
import PySem.Challenge.RW_dosehouse_k41_faults_of_one_giving
set_option Elab.async false
set_option linter.all false
set_option maxRecDepth 100000
set_option maxHeartbeats 1000000
def Gaa:=@List.getElem?_eq_getElem
def Gab:=@List.getElem?_set_ne
def Gac:=@List.getElem?_eq_some_iff
def Gad:=@PySem.wpAny_bind
def Gae:=@List.length_map
def Gaf:=@if_pos
def Gag:=@List.mem_cons_of_mem
def Gah:=@if_neg
def Gai:=@PyProof.Rows.wpS_bind
def Gaj:=@PySem.Heap.get?_push_of_some
def Gak:=@Option.map_eq_some_iff
def Gal:=@List.getElem?_map
def Gam:=@List.size_toArray
def Gan:=@List.mem_cons_self
def Gao:=@PyProof.Rows.wpS_pure
def Gap:=@Nat.le_refl
def Gaq:=@PySem.wpAny_pure
def Gar:=@List.length_append
def Gas:=@Bool.and_eq_true
def Gat:=@List.all_eq_true
def Gau:=@List.map_cons
def Gav:=@List.append_assoc
def Gaw:=@List.mem_append
def Gax:=@PySem.Heap.lt_size
def Gay:=@List.mem_cons
def Gaz:=@Bool.false_ne_true
def GaA:=@List.getElem_mem
def GaB:=@of_decide_eq_true
def GaC:=@PySem.Heap.get?_push_size
def GaD:=@Bool.false_eq_true
def GaE:=@Int.eq_ofNat_of_zero_le
def GaF:=@List.mem_of_getElem?
def GaG:=@PySem.PassesOwn.never
def GaH:=@List.length_cons
def GaI:=@List.map_append
def GaJ:=@List.getElem?_append_right
def GaK:=@decide_eq_true
def GaL:=@decide_eq_false
def GaM:=@List.mem_map
def GaN:=@List.getElem?_set_self
def GaO:=@Nat.ne_of_lt
def GaP:=@Nat.lt_of_lt_of_le
def GaQ:=@List.map_congr_left
def GaR:=@List.getElem?_append_left
def GaS:=@List.getElem?_take_of_lt
def GaT:=@List.map_map
def GaU:=@List.set_cons_succ
def GaV:=@List.set_cons_zero
def GaW:=@Bool.or_eq_true
def GaX:=@Ne.symm
def GaY:=@List.mem_append_right
def GaZ:=@List.take_append_drop
def Gba:=@List.filter_cons
def Gbb:=@List.lookup_cons
def Gbc:=@PySem.wpAny_newObj_type
def Gbd:=@PyProof.Rows.wpS_forRange
def Gbe:=@Int.toNat_natCast
def Gbf:=@if_false
def Gbg:=@List.getElem?_drop
def Gbh:=@List.append_nil
def Gbi:=@List.mem_of_mem_take
def Gbj:=@List.Perm.append_right
def Gbk:=@List.getElem?_eq_none
def Gbl:=@List.perm_append_comm
def Gbm:=@PySem.W.kia_one
def Gbn:=@PyProof.Rows.wpS_mono
def Gbo:=@List.mem_of_mem_drop
def Gbp:=@Nat.le_trans
def Gbq:=@List.all_cons
def Gbr:=@List.mem_range
def Gbs:=@if_true
def Gbt:=@List.take_of_length_le
def Gbu:=@List.find?_cons
def Gbv:=@List.drop_eq_getElem_cons
def Gbw:=@List.mem_iff_getElem?
def Gbx:=@List.all_map
def Gby:=@Nat.lt_irrefl
def Gbz:=@PySem.sizeLine_eq
def GbA:=@PySem.wpAny_mono
def GbB:=@List.drop_zero
def GbC:=@PySem.wpAny_truthy_bool
def GbD:=@PySem.Heap.get?_update_other
def GbE:=@Nat.zero_le
def GbF:=@Int.le_refl
def GbG:=@PyProof.Rows.wpS_modify
def GbH:=@List.drop_length
def GbI:=@List.mem_reverse
def GbJ:=@PySem.Heap.get?_update_self
def GbK:=@List.pairwise_cons
def GbL:=@List.drop_drop
def GbM:=@List.Perm.append_left
def GbN:=@List.pairwise_singleton
def GbO:=@Array.length_toList
def GbP:=@List.length_drop
def GbQ:=@PySem.wpAny_call_entry
def GbR:=@List.getElem_map
def GbS:=@PyProof.Rows.callWith_type1
def GbT:=@Array.getD_eq_getD_getElem?
def GbU:=@PySem.wpAny_passesOwn
def GbV:=@List.foldl_cons
def GbW:=@List.mem_append_left
def GbX:=@PySem.wpAny_rule
def GbY:=@List.pairwise_iff_getElem
def GbZ:=@List.getElem?_of_mem
def Gca:=@Array.getElem?_eq_getElem
def Gcb:=@List.map_id
def Gcc:=@List.take_take
def Gce:=@Array.toList_inj
def Gcf:=@List.not_mem_nil
def Gcg:=@PyProof.Rows.slot_tuple_getitem
def Gch:=@List.getElem?_replicate
def Gci:=@PySem.wpAny_callSpecial?_slot
def Gcj:=@PySem.F.plainAttrs_list
def Gck:=@List.mem_filter
def Gcl:=@PySem.Calls.spliced_cons
def Gcm:=@List.nodup_cons
def Gcn:=@List.length_nil
def Gco:=@PySem.tupleKind_room_in1
def Gcp:=@Option.map_some
def Gcq:=@List.mem_singleton
def Gcr:=@PySem.wpAny_typeNameOfWhole_itemiter
def Gcs:=@Nat.min_eq_left
def Gct:=@List.filter_append
def Gcu:=@PySem.Calls.callWith_builtin
def Gcv:=@List.eq_nil_of_length_eq_zero
def Gcw:=@PySem.F.slot_dict_itemiterator_next
def Gcx:=@Option.some.injEq
def Gcy:=@Array.toList_push
def Gcz:=@List.flatMap_cons
def GcA:=@PyProof.Rows.kmk_tree
def GcB:=@PyProof.Rows.wpS_get
def GcC:=@List.drop_take
def GcD:=@List.length_take
def GcE:=@beq_iff_eq
def GcF:=@List.any_eq_true
def GcG:=@PySem.wpAny_holding
def GcH:=@List.any_cons
def GcI:=@Array.getElem?_eq_some_iff
def GcJ:=@Function.comp_apply
def GcK:=@List.length_set
def GcL:=@Nat.ne_of_gt
def GcM:=@PySem.wpAny_Call_Name_kw
def GcN:=@Nat.lt_of_le_of_lt
def GcO:=@PySem.wpAny_pyIter_tuple
def GcP:=@PySem.wpAny_comprehension_free
def GcQ:=@Nat.zero_add
def GcR:=@PySem.Heap.size_push
def GcS:=@PySem.F.slot_dict_itemiterator_iter
def GcT:=@Int.mul_nonneg
def GcU:=@PySem.F.plainAttrs_dict
def GcV:=@List.getElem?_cons_succ
def GcW:=@List.ext_getElem?
def GcX:=@Nat.lt_succ_of_lt
def GcY:=@PySem.wpAny_pyIter_enum
def GcZ:=@List.nodup_append
def Gda:=@List.pairwise_map
def Gdb:=@Nat.le_succ
def Gdc:=@List.findIdx?_eq_some_iff_getElem
def Gdd:=@List.Perm.map
def Gde:=@Bool.not_true
def Gdf:=@List.take_succ_eq_append_getElem
def Gdg:=@List.mem_flatMap
def Gdh:=@List.length_replicate
def Gdi:=@PySem.F.slot_dict_get
def Gdj:=@List.length_filter_le
def Gdk:=@Nat.le_of_lt
def Gdl:=@PySem.wpAny_execs_nil
def Gdm:=@PySem.Calls.evalArgs_plain
def Gdn:=@PySem.codeAny_builtin
def Gdo:=@PySem.Around.under_plainId
def Gdp:=@List.filterMap_cons
def Gdq:=@List.getElem_of_mem
def Gdr:=@Bool.and_false
def Gds:=@Nat.eq_or_lt_of_le
def Gdt:=@Int.emod_lt_of_pos
def Gdu:=@List.map_drop
def Gdv:=@Nat.add_assoc
def Gdw:=@List.getElem?_set
def Gdx:=@List.findIdx?_map
def Gdy:=@List.map_nil
def Gdz:=@Nat.min_self
def GdA:=@Nat.succ_mul
namespace L2
open PySem PySem.Spec PyProof.Rows
noncomputable abbrev Key:=Sum Int Str
noncomputable def tK:Key→Value→Bool
 | .inl k,v=>Value.isInt k v
 | .inr x,v=>Value.isStrOf x v
noncomputable def NH(w:World):Key→Int
 | .inl k=>hashInt k
 | .inr x=>hashStr w x
theorem cS:∀{k:Key} {v:Value},tK k v=true→(∃i t,k=Sum.inl i∧v=Value.int i t)∨(∃x t,k=Sum.inr x∧v=Value.str x t)
 | .inl i,v,h=>by
  obtain⟨t,e⟩:=Value.isInt_shape (k:=i) (v:=v) h
  exact .inl ⟨i,t,rfl,e⟩
 | .inr x,v,h=>by
  obtain⟨t,e⟩:=Value.isStrOf_shape (x:=x) (v:=v) h
  exact .inr ⟨x,t,rfl,e⟩
theorem Cq(i:Int)(t:Tok):tK (.inl i) (.int i t)=true:=by simp[tK,Value.isInt]
theorem Cr(x:Str)(t:Tok):tK (.inr x) (.str x t)=true:=by simp[tK,Value.isStrOf]
theorem J3(a b:Int):decide ((Sum.inl a:Key)=Sum.inl b)=(a==b):=by
 by_cases e:a=b
 ·subst e;simp
 ·have h:¬(Sum.inl a:Key)=Sum.inl b:=λq=>e (Sum.inl.inj q)
  rw[GaL h]
  exact(beq_eq_false_iff_ne.mpr e).symm
theorem J4(a b:Str):decide ((Sum.inr a:Key)=Sum.inr b)=decide (a=b):=by
 by_cases e:a=b
 ·subst e;simp
 ·have h:¬(Sum.inr a:Key)=Sum.inr b:=λq=>e (Sum.inr.inj q)
  rw[GaL h,GaL e]
theorem J5(a:Int)(b:Str):decide ((Sum.inl a:Key)=Sum.inr b)=false:=GaL (λq=>nomatch q)
theorem J6(a:Str)(b:Int):decide ((Sum.inr a:Key)=Sum.inl b)=false:=GaL (λq=>nomatch q)
noncomputable def cH(prog:Program)(w:World):PySem.KeyKind prog w Key where
 is:=tK
 hash:=NH w
 inj:=λv a b ha hb=>by
  rcases cS ha with⟨i,t,rfl,rfl⟩| ⟨x,t,rfl,rfl⟩
  ·rcases cS hb with⟨j,u,rfl,e⟩| ⟨y,u,rfl,e⟩
   ·injection e with e1 _;rw[e1]
   ·exact nomatch e
  ·rcases cS hb with⟨j,u,rfl,e⟩| ⟨y,u,rfl,e⟩
   ·exact nomatch e
   ·injection e with e1 _;rw[e1]
 byValue:=λk v h=>by
  rcases cS h with⟨i,t,rfl,rfl⟩| ⟨x,t,rfl,rfl⟩<;>rfl
 pyHash:=λhv h=>by
  rcases cS hv with⟨i,t,rfl,rfl⟩| ⟨x,t,rfl,rfl⟩
  ·exact wpAny_pyHash_int h
  ·exact wpAny_pyHash_str h
 eqBool:=λhu hv h=>by
  rcases cS hu with⟨i,t,rfl,rfl⟩| ⟨x,t,rfl,rfl⟩
  ·rcases cS hv with⟨j,u,rfl,rfl⟩| ⟨y,u,rfl,rfl⟩
   ·rw[J3] at h;exact wpAny_eqBool_int h
   ·rw[J5] at h;exact SeqAt.EqAt.int_str i t y u _ _ _ _ h
  ·rcases cS hv with⟨j,u,rfl,rfl⟩| ⟨y,u,rfl,rfl⟩
   ·rw[J6] at h;exact SeqAt.EqAt.str_int x t j u _ _ _ _ h
   ·rw[J4] at h;exact wpAny_eqBool_str h
 «strs» :=λk x t v h=>by
  rcases cS h with⟨i,u,rfl,e⟩| ⟨y,u,rfl,e⟩
  ·exact nomatch e
  ·injection e with e1 _
   subst e1
   cases v<;>rfl
theorem vM(prog:Program)(w:World)(i:Int)(t:Tok):(cH prog w).is (.inl i) (.int i t)=true:=Cq i t
theorem vN(prog:Program)(w:World)(x:Str)(t:Tok):(cH prog w).is (.inr x) (.str x t)=true:=Cr x t
inductive V where
 |non|bl (b:Bool)|int (i:Int)|str (x:Str)|byt (b:Array UInt8)|flt (b:UInt64)|ref (a:Addr)|ty (n:String)
 deriving DecidableEq
def RelV:V→Value→Prop
 | .non,u=>u=Value.none
 | .bl b,u=>u=Value.bool b
 | .int i,u=>∃t,u=Value.int i t
 | .str x,u=>∃t,u=Value.str x t
 | .byt b,u=>∃t,u=Value.bytes b t
 | .flt b,u=>∃t,u=Value.float b t
 | .ref a,u=>u=Value.ref a
 | .ty n,u=>u=Value.type n
abbrev Vals:List V→List Value→Prop:=Paired RelV
theorem Vals.length{xs:List V}{us:List Value}(r:Vals xs us):xs.length=us.length:=Paired.length r
theorem Vals.get:∀{xs:List V} {us:List Value} {i:Nat} {x:V},Vals xs us→xs[i]? =some x→∃u,us[i]? =some u∧RelV x u
 |_,_,_,_,.nil,e=>by simp at e
 |_,_,0,_,.cons r _,e=>by simp at e;subst e;exact⟨_,rfl,r⟩
 |_,_,i+1,x,.cons _ t,e=>by
  obtain⟨u,h1,h2⟩:=Vals.get (i:=i) (x:=x) t (by simpa using e)
  exact⟨u,by simpa using h1,h2⟩
theorem Vals.set{x:V}{u:Value}(r:RelV x u):∀{xs:List V} {us:List Value} (i:Nat),Vals xs us→Vals (xs.set i x) (us.set i u)
 |_,_,_,.nil=> .nil
 |_,_,0,.cons _ t=> .cons r t
 |_,_,i+1,.cons q t=> .cons q (Vals.set r i t)
theorem Vals.append:∀{xs ys:List V} {us ws:List Value},Vals xs us→Vals ys ws→Vals (xs++ys) (us++ws)
 |_,_,_,_,.nil,s=>s
 |_,_,_,_,.cons r t,s=> .cons r (Vals.append t s)
theorem Vals.take:∀{xs:List V} {us:List Value} (n:Nat),Vals xs us→Vals (xs.take n) (us.take n)
 |_,_,0,_=> .nil
 |_,_,_+1,.nil=> .nil
 |_,_,n+1,.cons r t=> .cons r (Vals.take n t)
theorem Vals.drop:∀{xs:List V} {us:List Value} (n:Nat),Vals xs us→Vals (xs.drop n) (us.drop n)
 |_,_,0,r=>r
 |_,_,_+1,.nil=> .nil
 |_,_,n+1,.cons _ t=>Vals.drop n t
def oX:Option V→Option Value→Prop
 |some v,some u=>RelV v u
 |none,none=>True
 |_,_=>False
def KV{κ:Type}:List (κ×V)→List (κ×Value)→Prop:=Paired λ(p:κ×V) (q:κ×Value)=>p.1=q.1∧RelV p.2 q.2
noncomputable def kV:Key→V
 | .inl i=> .int i
 | .inr x=> .str x
inductive HO where
 |lst (xs:List V)
 |tup (xs:List V)
 |dK (kvs:List (Key×V))|dT (kvs:List (List Key×V))
 |set (S:Int→Bool) (n:Nat)
 |ins (C dx:Addr) (fs:List (Str×V))
 |own (x:Addr)
 |xd (fs:List (Str×V))
 |met (f x:Addr)
 |rng (lo hi:Int)
 |frz (o:Obj) (u:HO)
 |tbl (ps:Array Value)
 |ext (φ:Heap→Prop)
noncomputable abbrev Hp:=Addr→Option HO
noncomputable def upd(H:Hp)(a:Addr)(o:HO):Hp:=λb=>if b=a then some o else H b
theorem aN{H:Hp}{a:Addr}{o:HO}:upd H a o a=some o:=by unfold upd;rw[Gaf rfl]
theorem az{H:Hp}{a b:Addr}{o:HO}(h:b≠a):upd H a o b=H b:=by unfold upd;rw[Gah h]
theorem Br{H:Hp}{a b:Addr}{o u:HO}(h:H a=some o)(h' :H b=some u)(d:o≠u):a≠b:=by
 intro e;subst e;rw[h] at h';exact d (Option.some.inj h')
theorem dP{H:Hp}{a b:Addr}{o:HO}(h:H a=some o)(h' :H b=none):a≠b:=by
 intro e;subst e;rw[h] at h';cases h'
section
variable(P:Program)(w:World)
def cC(H:Hp)(h:Heap)(a:Addr):HO→Prop
 | .lst xs=>xs.length≤sizeLine∧∃(its:List Value) (n:Nat),Vals xs its∧h.get? a=some {cls:= .type "list",data:= .seq its.toArray n}
 | .tup xs=>xs.length≤sizeLine∧∃its:List Value,Vals xs its∧IsTup h a its.toArray
 | .dK kvs=>kvs.length≤sizeLine∧(a==sysModules)=false∧∃vs,KV kvs vs∧h.DictOf (cH P w) a vs
 | .dT kvs=>kvs.length≤sizeLine∧(a==sysModules)=false∧∃xs:List (List Key×Addr×Value),
   Paired (λ(p:List Key×V) (q:List Key×Addr×Value)=>p.1=q.1∧H q.2.1=some (.tup (p.1.map kV))∧RelV p.2 q.2.2) kvs xs∧
   ∃o es ep,h.get? a=some o∧o.ExactDict∧o.data= .dict es ep∧es.toList=xs.map (entryOfKey (tupleKind (cH P w)))∧(xs.map (·.1)).Nodup
 | .set S n=>h.SetOf (intKind P w) a S n
 | .ins C dx fs=>H dx=some (.own a)∧fs.length≤1000∧dx≠a∧h.get? a=some (PySem.W.instObj C dx)∧
   ∃mA,h.Ns1 dx mA∧(∀f,oX (fs.lookup f) (mA f))∧PySem.Within mA (fs.map (·.1))
 | .own _=>∃o,h.get? a=some o
 | .xd fs=>∃mA,h.Ns1 a mA∧∀f,oX (fs.lookup f) (mA f)
 | .rng lo hi=>∃t u v,h.get? a=some {cls:= .type "range",data:= .fields #[.int lo t,.int hi u,.int 1 v]}
 | .frz o u=>h.get? a=some o∧cC H h a u
 | .tbl ps=>h.get? a=some {cls:= .none,data:= .fields ps}
 | .met f x=>h.get? a=some (PySem.W.methodObj (.ref f) (.ref x))
 | .ext φ=>φ h∧(∃o,h.get? a=some o)∧∀h1 h2:Heap,φ h1→(∀o,h1.get? a=some o→h2.get? a=some o)→φ h2
def HOk(H:Hp)(h:Heap):Prop:=∀a o,H a=some o→cC P w H h a o
end
section
variable{P:Program}{w:World}{H H' :Hp}{h h' :Heap}{a:Addr}{o:HO}
theorem cC.lt(x:cC P w H h a o):a<h.objs.size:=by
 cases o with
 |lst xs=>obtain⟨_,_,_,_,e⟩:=x;exact Gax e
 |tup xs=>obtain⟨_,_,_,p⟩:=x;exact p.lt
 |dK kvs=>obtain⟨_,_,_,_,o,_,_,e,_⟩:=x;exact Gax e
 |dT kvs=>obtain⟨_,_,_,_,o,_,_,e,_⟩:=x;exact Gax e
 |set S n=>obtain⟨o,_,_,_,e,_⟩:=x;exact Gax e
 |ins C dx fs=>obtain⟨_,_,_,e,_⟩:=x;exact Gax e
 |own y=>obtain⟨_,e⟩:=x;exact Gax e
 |xd fs=>obtain⟨_,⟨_,_,_,e,_⟩,_⟩:=x;exact Gax e
 |rng lo hi=>obtain⟨_,_,_,e⟩:=x;exact Gax e
 |frz ob u=>obtain⟨e,_⟩:=x;exact Gax e
 |tbl ps=>exact Gax (show h.get? a=some _ from x)
 |met f y=>exact Gax (show h.get? a=some _ from x)
 |ext φ=>obtain⟨_,⟨_,e⟩,_⟩:=x;exact Gax e
theorem Paired.J7{α β:Type}{F G:α→β→Prop}:∀{l₁:List α} {l₂:List β},Paired F l₁ l₂→(∀a b,F a b→G a b)→Paired G l₁ l₂
 |_,_,.nil,_=> .nil
 |_,_,.cons r t,f=> .cons (f _ _ r) (Paired.J7 t f)
theorem cC.dN(x:cC P w H h a o)(k:∀b u,(b=a∨H b=some (.own a))→h.get? b=some u→h'.get? b=some u)
  (ho:∀b,H b=some (.own a)→H' b=some (.own a))(ht:∀b xs,H b=some (.tup xs)→H' b=some (.tup xs)):cC P w H' h' a o:=by
 induction o with
 |lst xs=>obtain⟨z,its,n,r,e⟩:=x;exact⟨z,its,n,r,k _ _ (.inl rfl) e⟩
 |tup xs=>obtain⟨z,its,r,ob,e,c⟩:=x;exact⟨z,its,r,ob,k _ _ (.inl rfl) e,c⟩
 |dK kvs=>obtain⟨z,y,vs,r,ob,es,ep,e,c⟩:=x;exact⟨z,y,vs,r,ob,es,ep,k _ _ (.inl rfl) e,c⟩
 |dT kvs=>
  obtain⟨z,y,xs,r,ob,es,ep,e,c⟩:=x
  exact⟨z,y,xs,Paired.J7 r λp q z=> ⟨z.1,ht _ _ z.2.1,z.2.2⟩,ob,es,ep,k _ _ (.inl rfl) e,c⟩
 |set S n=>obtain⟨ob,es,ep,t,e,c⟩:=x;exact⟨ob,es,ep,t,k _ _ (.inl rfl) e,c⟩
 |ins C dx fs=>
  obtain⟨d,z,ne,e,mA,⟨od,es,ep,e2,c⟩,r⟩:=x
  exact⟨ho _ d,z,ne,k _ _ (.inl rfl) e,mA,⟨od,es,ep,k _ _ (.inr d) e2,c⟩,r⟩
 |own y=>obtain⟨ob,e⟩:=x;exact⟨ob,k _ _ (.inl rfl) e⟩
 |xd fs=>obtain⟨mA,⟨od,es,ep,e,c⟩,r⟩:=x;exact⟨mA,⟨od,es,ep,k _ _ (.inl rfl) e,c⟩,r⟩
 |rng lo hi=>obtain⟨t,u,v,e⟩:=x;exact⟨t,u,v,k _ _ (.inl rfl) e⟩
 |frz ob u ih=>obtain⟨e,q⟩:=x;exact⟨k _ _ (.inl rfl) e,ih q⟩
 |tbl ps=>
  have e:h.get? a=some {cls:= .none,data:= .fields ps}:=x
  show h'.get? a=some {cls:= .none,data:= .fields ps}
  exact k a _ (.inl rfl) e
 |met f y=>
  have e:h.get? a=some (PySem.W.methodObj (.ref f) (.ref y)):=x
  show h'.get? a=some (PySem.W.methodObj (.ref f) (.ref y))
  exact k a _ (.inl rfl) e
 |ext φ=>obtain⟨p,⟨o,e⟩,st⟩:=x;exact⟨st _ _ p λo q=>k _ _ (.inl rfl) q,⟨o,k _ _ (.inl rfl) e⟩,st⟩
theorem HOk.lt(x:HOk P w H h)(e:H a=some o):a<h.objs.size:=(x a o e).lt
theorem HOk.fresh(x:HOk P w H h)(e:h.objs.size≤a):H a=none:=by
 cases q:H a with
 |none=>rfl
 |some u=>exact absurd (GaP (x.lt q) e) (Gby _)
theorem HOk.kept(x:HOk P w H h)(k:∀b u,h.get? b=some u→h'.get? b=some u):HOk P w H h' :=λa o e=>
 (x a o e).dN (λb u _ q=>k b u q) (λ_ q=>q) λ_ _ q=>q
theorem HOk.laid(x:HOk P w H h)(k:∀b u,h.get? b=some u→h'.get? b=some u)(hp:h.objs.size≤a)(new:cC P w (upd H a o) h' a o):HOk P w (upd H a o) h' :=λb u e=>by
 have hn:=x.fresh hp
 by_cases hb:b=a
 ·subst hb;rw[aN] at e;cases e;exact new
 ·rw[az hb] at e
  exact(x b u e).dN (λc v _ q=>k c v q) (λc q=>by rw[az (dP q hn)];exact q) λc xs q=>by rw[az (dP q hn)];exact q
end
def Rd(H:Hp)(a:Addr)(u:HO):Prop:=H a=some u∨∃o,H a=some (.frz o u)
theorem Rd.of{H:Hp}{a:Addr}{u:HO}(h:H a=some u):Rd H a u:= .inl h
theorem Rd.ok{P:Program}{w:World}{H:Hp}{h:Heap}{a:Addr}{u:HO}(r:Rd H a u)(x:HOk P w H h):cC P w H h a u:=by
 rcases r with r| ⟨o,r⟩
 ·exact x a u r
 ·obtain⟨_,q⟩:=x a _ r
  exact q
def Mut:Option HO→Prop
 |some (.lst _)=>True
 |some (.dK _)=>True
 |some (.dT _)=>True
 |some (.set _ _)=>True
 |some (.ins _ _ _)=>True
 |some (.ext _)=>True
 |_=>False
section
variable{P:Program}{w:World}{H:Hp}{h h' :Heap}{x e:Addr}{o' :HO}
theorem HOk.write(ok:HOk P w H h)(mu:Mut (H x))(he:e=x∨H e=some (.own x))(k:∀b u,b≠e→h.get? b=some u→h'.get? b=some u)(heo:∃u,h'.get? e=some u)
  (new:cC P w (upd H x o') h' x o'):HOk P w (upd H x o') h' :=λb u q=>by
 have nown:∀c y,H c=some (.own y)→c≠x:=λc y r z=>by subst z;rw[r] at mu;exact mu
 have ntup:∀c xs,H c=some (.tup xs)→c≠x:=λc xs r z=>by subst z;rw[r] at mu;exact mu
 by_cases hb:b=x
 ·subst hb;rw[aN] at q;cases q;exact new
 ·rw[az hb] at q
  by_cases hbe:b=e
  ·have q' :H b=some (.own x):=by
    rcases he with z|z
    ·exact absurd (hbe.trans z) hb
    ·rw[hbe];exact z
   rw[q] at q';cases q'
   obtain⟨v,hv⟩:=heo
   exact⟨v,by rw[hbe];exact hv⟩
  ·refine(ok b u q).dN (λc v hc r=>k c v ?_ r) (λc r=>by rw[az (nown c b r)];exact r) λc xs r=>by rw[az (ntup c xs r)];exact r
   rcases hc with rfl|hc
   ·exact hbe
   ·rintro rfl
    rcases he with z|z
    ·exact nown c b hc z
    ·rw[hc] at z;cases z;exact hb rfl
end
structure Un(fs ex:List Addr)(H H' :Hp)(h h' :Heap):Prop where
 keep:∀b o,h.get? b=some o→H b=none→b∉fs→b∉ex→h'.get? b=some o
 slot:∀b o,h.get? b=some o→H b=none→b∈fs→b∉ex→∃sl,h'.get? b=some {o with slots:=sl}
 free:∀b o,h.get? b=some o→H b=none→b∉ex→H' b=none
 there:∀b o,h.get? b=some o→b∉ex→∃o',h'.get? b=some o'
 pS:∀b xs,H b=some (.tup xs)→H' b=some (.tup xs)
 nP:∀b o u,H b=some (.frz o u)→H' b=some (.frz o u)
 pT:∀b ps,H b=some (.tbl ps)→∃more,H' b=some (.tbl (ps++more))
section
variable{fs fs' ex ex' :List Addr}{H H1 H2:Hp}{h h1 h2 h' :Heap}{a x e:Addr}{o:HO}
theorem Un.any(u:Un fs ex H H1 h h1){b:Addr}{ob:Obj}(q:h.get? b=some ob)(n:H b=none)(hx:b∉ex):∃sl,h1.get? b=some {ob with slots:=sl}:=by
 by_cases hb:b∈fs
 ·exact u.slot b ob q n hb hx
 ·exact⟨ob.slots,u.keep b ob q n hb hx⟩
theorem Un.trans(a:Un fs ex H H1 h h1)(b:Un fs ex H1 H2 h1 h2):Un fs ex H H2 h h2 where
 keep:=λc ob q n hc hx=>b.keep c ob (a.keep c ob q n hc hx) (a.free c ob q n hx) hc hx
 slot:=λc ob q n hc hx=>by
  obtain⟨sl,e1⟩:=a.slot c ob q n hc hx
  obtain⟨sl',e2⟩:=b.slot c _ e1 (a.free c ob q n hx) hc hx
  exact⟨sl',e2⟩
 free:=λc ob q n hx=>by
  obtain⟨o',e1⟩:=a.there c ob q hx
  exact b.free c o' e1 (a.free c ob q n hx) hx
 there:=λc ob q hx=>by
  obtain⟨o',e1⟩:=a.there c ob q hx
  exact b.there c o' e1 hx
 pS:=λc xs q=>b.pS c xs (a.pS c xs q)
 nP:=λc ob xs q=>b.nP c ob xs (a.nP c ob xs q)
 pT:=λc ps q=>by
  obtain⟨m1,e1⟩:=a.pT c ps q
  obtain⟨m2,e2⟩:=b.pT c _ e1
  exact⟨m1++m2,by rw[e2,Array.append_assoc]⟩
theorem Un.kept(k:∀b u,h.get? b=some u→h'.get? b=some u):Un fs ex H H h h' :=
 ⟨λb ob q _ _ _=>k b ob q,λb ob q _ _ _=> ⟨ob.slots,k b ob q⟩,λ_ _ _ n _=>n,λb ob q _=> ⟨ob,k b ob q⟩,λ_ _ q=>q,λ_ _ _ q=>q,λ_ ps q=> ⟨#[],by rw[q];simp⟩⟩
theorem Un.refl:Un fs ex H H h h:=Un.kept λ_ _ q=>q
theorem Un.laid(k:∀b u,h.get? b=some u→h'.get? b=some u)(hp:h.objs.size≤a)(hn:H a=none):Un fs ex H (upd H a o) h h' where
 keep:=λb u q _ _ _=>k b u q
 slot:=λb u q _ _ _=> ⟨u.slots,k b u q⟩
 free:=λb u q n _=>by rw[az (GaO (GaP (Gax q) hp))];exact n
 there:=λb u q _=> ⟨u,k b u q⟩
 pS:=λb xs q=>by rw[az (dP q hn)];exact q
 nP:=λb u xs q=>by rw[az (dP q hn)];exact q
 pT:=λb ps q=> ⟨#[],by rw[az (dP q hn),q];simp⟩
theorem Un.write(mu:Mut (H x))(he:e=x∨H e=some (.own x))(k:∀b u,b≠e→h.get? b=some u→h'.get? b=some u)(heo:∃u,h'.get? e=some u):Un fs ex H (upd H x o) h h' :=by
 have hx:∀b,H b=none→b≠x:=λb n z=>by subst z;rw[n] at mu;exact mu
 have hb:∀b,H b=none→b≠e:=λb n z=>by
  subst z
  rcases he with r|r
  ·exact hx b n r
  ·rw[n] at r;cases r
 have hm:∀b u,H b=some u→¬Mut (some u)→b≠x:=λb u q nm z=>by subst z;rw[q] at mu;exact nm mu
 refine⟨λb u q n _ _=>k b u (hb b n) q,λb u q n _ _=> ⟨u.slots,k b u (hb b n) q⟩,λb u q n _=>by rw[az (hx b n)];exact n,λb u q _=> ?_,
  λb xs q=>by rw[az (hm b _ q λz=>z)];exact q,λb u xs q=>by rw[az (hm b _ q λz=>z)];exact q,λb ps q=> ⟨#[],by rw[az (hm b _ q λz=>z),q];simp⟩⟩
 by_cases hbe:b=e
 ·subst hbe;exact heo
 ·exact⟨u,k b u hbe q⟩
theorem Un.mono(u:Un fs ex H H1 h h1)(hs:∀b∈fs,b∈fs')(hx:∀b∈ex,b∈ex'):Un fs' ex' H H1 h h1:=
 ⟨λb ob q n hb he=>u.keep b ob q n (λz=>hb (hs b z)) λz=>he (hx b z),λ_ _ q n _ he=>u.any q n λz=>he (hx _ z),λb ob q n he=>u.free b ob q n λz=>he (hx b z),λb ob q he=>u.there b ob q λz=>he (hx b z),u.pS,u.nP,u.pT⟩
end
noncomputable def trk(h:Heap)(H:Hp):List Addr:=(List.range h.objs.size).filter λa=>(H a).isSome
noncomputable def uH(h:Heap)(H:Hp):Heap:=PySem.W.hideAll h (trk h H)
theorem Ct(h:Heap)(H:Hp):(uH h H).objs.size=h.objs.size:=PySem.W.hideAll_size _ _
theorem DR{h:Heap}{H:Hp}{b:Addr}{o:Obj}(e:h.get? b=some o)(n:H b=none):(uH h H).get? b=some o:=
 PySem.W.hideAll_get _ e λhm=>by
  have q:(H b).isSome=true:=(Gck.mp hm).2
  rw[n] at q;simp at q
theorem Gm{h:Heap}{H:Hp}{b:Addr}{o:Obj}(e:(uH h H).get? b=some o):h.get? b=some o∧H b=none:=by
 have e' :h.get? b=some o:=PySem.W.of_hideAll (trk h H) e
 refine⟨e', ?_⟩
 cases q:H b with
 |none=>rfl
 |some x=>
  have hm:b∈trk h H:=Gck.mpr ⟨Gbr.mpr (Gax e'),by simp[q]⟩
  have z:(uH h H).get? b=none:=PySem.W.hideAll_none (trk h H) hm
  rw[z] at e;cases e
noncomputable def Gn(g h:Heap)(L:Addr):List (Addr×Obj):=(List.range h.objs.size).filterMap λa=>if a=L∨(g.get? a).isSome=true then none else(h.get? a).map λo=>(a,o)
noncomputable def rest(g h:Heap)(L d:Addr):List (Addr×Obj):=(Gn g h L).filter λp=>decide (p.1≠d)
structure Mod(K:PySem.W.Frag)(mg:Str→Option Value)(base:Heap):Prop where
 kin:K.In base
 glob:base.Ns mainGlobals mg
 blt:∃mb,base.Ns builtinsNs mb∧∀x:Str,x≠"__name__"→mb x=bootBuiltins x
 nolimit:base.NoLimit
structure Cx where
 prog:Program
 w:World
 K:PySem.W.Frag
 mg:Str→Option Value
 base:Heap
 A:Around
 N:List Str
 s₀:Shared
 H₀:Hp
 env:Env
 outer:List Env
 stack:List Env
 ex:List Addr
 fn:Str→Bool
 calm:Bool
 pn:List (Addr×Obj)
 xe:Value→Shared→Prop
noncomputable def frs(l:List Env):List Addr:=l.filterMap (·.frame)
noncomputable abbrev Cx.fs (X:Cx):List Addr:=frs X.outer
def Vis(sc:Scope)(x:Str):Prop:=sc.names.lookup x=some .local∨sc.names.lookup x=some .cell∨sc.names.lookup x=some .free
def Loc(sc:Scope)(x:Str):Prop:=sc.names.lookup x=some .local∨sc.names.lookup x=some .cell
def Look(env:Env)(h:Heap)(m:Str→Option Value)(x:Str)(u:Value):Prop:=
 (env.kindOf x=some .local∧m x=some u)∨((env.kindOf x=some .cell∨env.kindOf x=some .free)∧∃c,env.cells.lookup x=some c∧h.IsCell c (some u))
structure Cx.Ok(X:Cx):Prop where
 mod:Mod X.K X.mg X.base
 kind:X.env.scope.kind= .function
 glob:X.env.globals=mainGlobals
 blt:X.env.builtins=builtinsNs
 above:X.s₀.heap.objs.size≤X.env.locals
 inj:∀x y c,X.env.cells.lookup x=some c→X.env.cells.lookup y=some c→x=y
 has:∀x,(X.env.kindOf x=some .cell∨X.env.kindOf x=some .free)→∃c,X.env.cells.lookup x=some c
 cab:∀x c,X.fn x=true→X.env.cells.lookup x=some c→X.s₀.heap.objs.size≤c
 hd:X.calm=true→X.A.handled=none
 frames:X.A.frames=some X.stack
 stk:X.stack=X.outer∨(X.stack=X.env::X.outer∧X.env.frame=some X.env.locals)
 exf:∀b∈X.ex,b≠X.env.locals∧∀x c,X.env.cells.lookup x=some c→c≠b
 bs:∀b o,X.base.get? b=some o→X.s₀.heap.get? b=some o∧X.H₀ b=none
 bsz:X.base.objs.size≤X.s₀.heap.objs.size
 Gj:∀b o,X.base.get? b=some o→b∉X.ex
 Gk:∀b∈X.ex,b∉X.fs
 qC:X.s₀.heap.FunFrames X.base X.outer
 frf:∀b∈X.fs,X.H₀ b=none
structure Inv(X:Cx)(pins:List (Addr×Obj))(σ:List (Option V))(H:Hp)(s:Shared):Prop where
 ok:X.Ok
 os:s.os=X.s₀.os
 bare:AllBare s.gens
 base:Un X.fs X.ex X.H₀ H X.s₀.heap s.heap
 loc:∃m,s.heap.Ns X.env.locals m∧∀(i:Nat) (x:Str) (v:V),X.N[i]? =some x→σ[i]? =some (some v)→Vis X.env.scope x→∃u,RelV v u∧Look X.env s.heap m x u
 cell:∀x c,X.env.cells.lookup x=some c→∃v,s.heap.IsCell c v
 free:H X.env.locals=none
 ko:∀x c,X.env.cells.lookup x=some c→H c=none
 pin:∀p∈X.pn++pins,s.heap.get? p.1=some p.2∧H p.1=none∧p.1≠X.env.locals∧p.1∉X.fs∧∀v,p.2.data≠ .cell v
 hok:HOk X.prog X.w H s.heap
 len:σ.length=X.N.length
section
variable{X:Cx}{pins:List (Addr×Obj)}{σ:List (Option V)}{H H' :Hp}{s:Shared}{h' :Heap}
theorem Cx.Ok.NI(ok:X.Ok){b:Addr}{o:Obj}(e:X.base.get? b=some o):b∉X.fs:=λhb=>by
 have:=(ok.qC.mem hb).1
 rw[e] at this;cases this
theorem Inv.bs(I:Inv X pins σ H s):∀b o,X.base.get? b=some o→s.heap.get? b=some o∧H b=none:=λb o e=>
 ⟨I.base.keep b o (I.ok.bs b o e).1 (I.ok.bs b o e).2 (I.ok.NI e) (I.ok.Gj b o e),I.base.free b o (I.ok.bs b o e).1 (I.ok.bs b o e).2 (I.ok.Gj b o e)⟩
theorem Inv.bk(I:Inv X pins σ H s):∀b o,X.base.get? b=some o→s.heap.get? b=some o:=λb o e=>(I.bs b o e).1
theorem Inv.mod(I:Inv X pins σ H s):Mod X.K X.mg X.base:=I.ok.mod
theorem Inv.kIn(I:Inv X pins σ H s):X.K.In s.heap:=I.ok.mod.kin.keeps I.bk
theorem Inv.nolimit(I:Inv X pins σ H s):s.heap.NoLimit:=I.ok.mod.nolimit.keeps I.bk
theorem Inv.fr(I:Inv X pins σ H s):∃m,Fr X.base X.env.locals s.heap m:=
 let⟨m,hn,_⟩:=I.loc
 ⟨m,hn,I.bk,Gbp I.ok.bsz I.ok.above⟩
theorem Inv.lt(I:Inv X pins σ H s):X.env.locals<s.heap.objs.size:=let⟨_,hn,_⟩:=I.loc;hn.lt
theorem Inv.sz(I:Inv X pins σ H s):X.s₀.heap.objs.size≤s.heap.objs.size:=Gbp I.ok.above (Gdk I.lt)
theorem Inv.NJ(I:Inv X pins σ H s){a:Addr}(h:s.heap.objs.size≤a):a∉X.fs:=λhb=>by
 obtain⟨_,o,ho,_⟩:=I.ok.qC.mem hb
 exact absurd (GaP (Gax ho) (Gbp I.sz h)) (Gby _)
theorem Inv.cne(I:Inv X pins σ H s):∀x c,X.env.cells.lookup x=some c→c≠X.env.locals:=λx c e z=>by
 obtain⟨v,o,ho,hd⟩:=I.cell x c e
 obtain⟨m,⟨o',es,ep,ho',hd',_⟩,_⟩:=I.loc
 rw[z,ho'] at ho;cases ho;rw[hd'] at hd;cases hd
theorem Inv.qC(I:Inv X pins σ H s):s.heap.FunFrames X.base X.outer:=by
 have all:∀(l:List Env),(∀b∈frs l,b∈X.fs)→X.s₀.heap.FunFrames X.base l→s.heap.FunFrames X.base l:=by
  intro l
  induction l with
  |nil=>intro _ _;trivial
  |cons env r ih=>
   intro hs hl
   obtain⟨hk,⟨L,o,hf,hn,ho,hd⟩,hr⟩:=hl
   have hL:L∈X.fs:=hs L (by unfold frs;rw[Gdp,hf];exact Gan)
   obtain⟨sl,e⟩:=I.base.slot L o ho (I.ok.frf L hL) hL λz=>I.ok.Gk L z hL
   exact⟨hk,⟨L,_,hf,hn,e,hd⟩,ih (λb hb=>hs b (by unfold frs;rw[Gdp,hf];exact Gag _ hb)) hr⟩
 exact all X.outer (λ_ hb=>hb) I.ok.qC
theorem Inv.stack(I:Inv X pins σ H s):s.heap.FunFrames X.base X.stack:=by
 rcases I.ok.stk with e| ⟨e,hf⟩
 ·rw[e];exact I.qC
 ·rw[e]
  obtain⟨m,hn,_⟩:=I.loc
  refine .cons (by rw[I.ok.kind];decide) hf hn ?_ I.qC
  exact Heap.get?_none_of_le (Gbp I.ok.bsz I.ok.above)
theorem Inv.As(I:Inv X pins σ H s):∀b∈frs X.stack,b∈X.env.locals::X.fs:=λb hb=>by
 rcases I.ok.stk with e| ⟨e,hf⟩
 ·rw[e] at hb;exact Gag _ hb
 ·rw[e] at hb
  unfold frs at hb
  rw[Gdp,hf] at hb
  exact hb
theorem Inv.Bs(I:Inv X pins σ H s):∀b∈frs X.stack,H b=none:=λb hb=>by
 rcases Gay.mp (I.As b hb) with e|hb
 ·rw[e];exact I.free
 ·obtain⟨_,o,ho,_⟩:=I.ok.qC.mem hb
  exact I.base.free b o ho (I.ok.frf b hb) λz=>I.ok.Gk b z hb
theorem Inv.step{g' :Array GenState}{t' :Nat}{d' :Drawn}{ch:List Addr}(I:Inv X pins σ H s)
  (hch:∀b∈ch,(b∈X.ex∨X.s₀.heap.objs.size≤b)∧b≠X.env.locals∧(∀x c,X.env.cells.lookup x=some c→c≠b)∧∀p∈X.pn++pins,p.1≠b)
  (keep:∀b o,b≠X.env.locals→b∉X.fs→b∉ch→s.heap.get? b=some o→H b=none→h'.get? b=some o)
  (slot:∀b o,b≠X.env.locals→b∈X.fs→b∉ch→s.heap.get? b=some o→H b=none→∃sl,h'.get? b=some {o with slots:=sl})(free:∀b o,b∉ch→s.heap.get? b=some o→H b=none→H' b=none)
  (there:∀b o,b∉ch→s.heap.get? b=some o→∃o',h'.get? b=some o')
  (pS:∀b xs,H b=some (.tup xs)→H' b=some (.tup xs))(nP:∀b o u,H b=some (.frz o u)→H' b=some (.frz o u))(pT:∀b ps,H b=some (.tbl ps)→∃more,H' b=some (.tbl (ps++more)))
  (ns:∀m,s.heap.Ns X.env.locals m→h'.Ns X.env.locals m)(hok:HOk X.prog X.w H' h')(hg:AllBare g'):
  Inv X pins σ H' {s with heap:=h',gens:=g',drawn:=d',toks:=t' }:=by
 have neL:∀b o,X.s₀.heap.get? b=some o→b≠X.env.locals:=λb o e=>GaO (GaP (Gax e) I.ok.above)
 have neC:∀b o,X.s₀.heap.get? b=some o→b∉X.ex→b∉ch:=λb o e hx hb=>by
  rcases(hch b hb).1 with z|z
  ·exact hx z
  ·exact absurd (GaP (Gax e) z) (Gby _)
 have cellK:∀x c,X.env.cells.lookup x=some c→∀v,s.heap.IsCell c v→h'.IsCell c v:=λx c e v ⟨o,ho,hd⟩=>by
  have nch:c∉ch:=λz=>(hch c z).2.2.1 x c e rfl
  by_cases hc:c∈X.fs
  ·obtain⟨sl,q⟩:=slot c o (I.cne x c e) hc nch ho (I.ko x c e)
   exact⟨_,q,hd⟩
  ·exact⟨o,keep c o (I.cne x c e) hc nch ho (I.ko x c e),hd⟩
 refine⟨I.ok,I.os,hg,⟨λb o e n hb hx=> ?_,λb o e n hb hx=> ?_,λb o e n hx=> ?_,λb o e hx=> ?_,λb xs e=>pS b xs (I.base.pS b xs e),λb o xs e=>nP b o xs (I.base.nP b o xs e),λb ps e=> ?_⟩, ?_,λx c e=> ?_, ?_,λx c e=> ?_,λp hp=> ?_,hok,I.len⟩
 ·exact keep b o (neL b o e) hb (neC b o e hx) (I.base.keep b o e n hb hx) (I.base.free b o e n hx)
 ·obtain⟨sl,e1⟩:=I.base.slot b o e n hb hx
  obtain⟨sl',e2⟩:=slot b _ (neL b o e) hb (neC b o e hx) e1 (I.base.free b o e n hx)
  exact⟨sl',e2⟩
 ·obtain⟨o',e1⟩:=I.base.there b o e hx
  exact free b o' (neC b o e hx) e1 (I.base.free b o e n hx)
 ·obtain⟨o',e1⟩:=I.base.there b o e hx
  exact there b o' (neC b o e hx) e1
 ·obtain⟨m1,e1⟩:=I.base.pT b ps e
  obtain⟨m2,e2⟩:=pT b _ e1
  exact⟨m1++m2,by rw[e2,Array.append_assoc]⟩
 ·obtain⟨m,hn,hl⟩:=I.loc
  refine⟨m,ns m hn,λi x v e1 e2 e3=> ?_⟩
  obtain⟨u,r,l⟩:=hl i x v e1 e2 e3
  refine⟨u,r, ?_⟩
  rcases l with l| ⟨k,c,e,z⟩
  ·exact .inl l
  ·exact .inr ⟨k,c,e,cellK x c e _ z⟩
 ·obtain⟨v,z⟩:=I.cell x c e
  exact⟨v,cellK x c e v z⟩
 ·obtain⟨m,⟨o,_,_,ho,_⟩,_⟩:=I.loc
  exact free _ o (λz=>(hch _ z).2.1 rfl) ho I.free
 ·obtain⟨v,o,ho,hd⟩:=I.cell x c e
  exact free c o (λz=>(hch c z).2.2.1 x c e rfl) ho (I.ko x c e)
 ·obtain⟨e,n,ne,nf,d⟩:=I.pin p hp
  have nch:p.1∉ch:=λz=>(hch p.1 z).2.2.2 p hp rfl
  exact⟨keep p.1 p.2 ne nf nch e n,free p.1 p.2 nch e n,ne,nf,d⟩
theorem Inv.un{t' :Nat}(I:Inv X pins σ H s)(u:Un X.fs [] H H' s.heap h')(hok:HOk X.prog X.w H' h'):Inv X pins σ H' {s with heap:=h',toks:=t' }:=by
 obtain⟨m,⟨o,es,ep,ho,r⟩,_⟩:=id I.loc
 obtain⟨sl,hL⟩:=u.any ho I.free (by simp)
 exact I.step (g' :=s.gens) (d' :=s.drawn) (ch:=[]) (λ_ z=>nomatch z) (λb o _ hb _ e n=>u.keep b o e n hb (by simp)) (λb o _ hb _ e n=>u.slot b o e n hb (by simp)) (λb o _ e n=>u.free b o e n (by simp)) (λb o _ e=>u.there b o e (by simp)) u.pS u.nP u.pT (λm' hm=>by
  obtain⟨o',es',ep',ho',r'⟩:=hm
  rw[ho] at ho';cases ho'
  exact⟨_,es',ep',hL,r'⟩) hok I.bare
theorem Inv.call{g' :Array GenState}{t' :Nat}{d' :Drawn}{ch:List Addr}(I:Inv X pins σ H s)(u:Un (frs X.stack) ch H H' s.heap h')(hok:HOk X.prog X.w H' h')(hg:AllBare g')
  (hch:∀b∈ch,(b∈X.ex∨X.s₀.heap.objs.size≤b)∧b≠X.env.locals∧(∀x c,X.env.cells.lookup x=some c→c≠b)∧∀p∈X.pn++pins,p.1≠b):
  Inv X pins σ H' {s with heap:=h',gens:=g',drawn:=d',toks:=t' }:=by
 obtain⟨m,⟨o,es,ep,ho,r⟩,_⟩:=id I.loc
 obtain⟨sl,hL⟩:=u.any ho I.free λz=>(hch _ z).2.1 rfl
 exact I.step (ch:=ch) hch (λb o hL hb hc e n=>u.keep b o e n (λz=>(Gay.mp (I.As b z)).elim hL hb) hc) (λb o _ _ hc e n=>u.any e n hc) (λb o hc e n=>u.free b o e n hc) (λb o hc e=>u.there b o e hc) u.pS u.nP u.pT (λm' hm=>by
  obtain⟨o',es',ep',ho',r'⟩:=hm
  rw[ho] at ho';cases ho'
  exact⟨_,es',ep',hL,r'⟩) hok hg
theorem Inv.turned{t' :Nat}{it:Addr}(I:Inv X pins σ H s)(k:∀b o,b≠it→s.heap.get? b=some o→h'.get? b=some o)(hn:H it=none)(hL:it≠X.env.locals)
  (h1:it∈X.ex∨X.s₀.heap.objs.size≤it)(h2:∀x c,X.env.cells.lookup x=some c→c≠it)(h3:∀p∈X.pn++pins,p.1≠it):Inv X pins σ H {s with heap:=h',toks:=t' }:=by
 have nit:∀b u,H b=some u→b≠it:=λb u e z=>by rw[z,hn] at e;cases e
 refine I.step (g' :=s.gens) (d' :=s.drawn) (ch:=[it]) (λb hb=> ?_) (λb o _ _ hc e _=>k b o (λz=>hc (by simp[z])) e) (λb o _ _ hc e _=> ⟨o.slots,k b o (λz=>hc (by simp[z])) e⟩) (λ_ _ _ _ n=>n)
  (λb o hc e=> ⟨o,k b o (λz=>hc (by simp[z])) e⟩) (λ_ _ e=>e) (λ_ _ _ e=>e) (λb ps e=> ⟨#[],by rw[e];simp⟩) (λm hm=> ?_) (λb u e=> ?_) I.bare
 ·have e:b=it:=by simpa using hb
  subst e
  exact⟨h1,hL,h2,h3⟩
 ·obtain⟨o,es,ep,ho,r⟩:=hm
  exact⟨o,es,ep,k _ o (GaX hL) ho,r⟩
 ·refine(I.hok b u e).dN (λc v hc q=>k c v ?_ q) (λ_ q=>q) λ_ _ q=>q
  rcases hc with z|z
  ·rw[z];exact nit b u e
  ·exact nit c _ z
theorem Inv.tok(I:Inv X pins σ H s)(t:Nat):Inv X pins σ H {s with toks:=t}:=I.un (h' :=s.heap) (t' :=t) Un.refl I.hok
theorem Inv.kept{t' :Nat}(I:Inv X pins σ H s)(k:∀b u,s.heap.get? b=some u→h'.get? b=some u):Inv X pins σ H {s with heap:=h',toks:=t' }:=I.un (Un.kept k) (I.hok.kept k)
theorem Inv.laid{a:Addr}{o:HO}{t' :Nat}(I:Inv X pins σ H s)(k:∀b u,s.heap.get? b=some u→h'.get? b=some u)(hp:s.heap.objs.size≤a)(new:cC X.prog X.w (upd H a o) h' a o):
  Inv X pins σ (upd H a o) {s with heap:=h',toks:=t' }:=I.un (Un.laid k hp (I.hok.fresh hp)) (I.hok.laid k hp new)
theorem Inv.write{x e:Addr}{o:HO}{t' :Nat}(I:Inv X pins σ H s)(mu:Mut (H x))(he:e=x∨H e=some (.own x))(k:∀b u,b≠e→s.heap.get? b=some u→h'.get? b=some u)(heo:∃u,h'.get? e=some u)
  (new:cC X.prog X.w (upd H x o) h' x o):Inv X pins σ (upd H x o) {s with heap:=h',toks:=t' }:=I.un (Un.write mu he k heo) (I.hok.write mu he k heo new)
theorem Inv.Bt{pins' :List (Addr×Obj)}(I:Inv X pins σ H s)(h:∀p∈pins',s.heap.get? p.1=some p.2∧H p.1=none∧p.1≠X.env.locals∧p.1∉X.fs∧∀v,p.2.data≠ .cell v):Inv X pins' σ H s:=
 ⟨I.ok,I.os,I.bare,I.base,I.loc,I.cell,I.free,I.ko,λp hp=>(Gaw.mp hp).elim (λz=>I.pin p (GbW _ z)) (h p),I.hok,I.len⟩
theorem vO{N:List Str}(hN:N.Nodup){i j:Nat}{x:Str}(a:N[i]? =some x)(b:N[j]? =some x):i=j:=by
 obtain⟨h1,e1⟩:=Gac.mp a
 obtain⟨h2,e2⟩:=Gac.mp b
 exact(List.getElem_inj hN).mp (e1.trans e2.symm)
theorem tL{M:Model}{A:Around}{E:Value→Shared→Prop}{i:Nat}{x:Str}{v:V}{u:Value}{Q:Unit→Shared→Prop}(I:Inv X pins σ H s)(hN:X.N.Nodup)(hi:X.N[i]? =some x)(hx:Loc X.env.scope x)(r:RelV v u)
  (h:∀s',Inv X pins (σ.set i (some v)) H s' →(∃a,Heap.SameBut a s.heap s'.heap∧(a=X.env.locals∨X.env.cells.lookup x=some a))→Q () s')(hf:X.fn x=true∨X.env.scope.names.lookup x=some .local:=by first|exact .inl rfl|exact .inr rfl|assumption):wpAny M A (storeName X.env x u) Q E s:=by
 obtain⟨m,hn,hl⟩:=id I.loc
 have hcls:(X.env.scope.kind== .class||(X.env.scope.kind== .module&&X.env.locals !=X.env.globals))=false:=by rw[I.ok.kind];rfl
 have hiσ:i<σ.length:=by rw[I.len];exact(Gac.mp hi).1
 have cne:=I.cne
 have tracked:∀{a:Addr} {h' :Heap},(∃o,s.heap.get? a=some o∧H a=none)→Heap.SameBut a s.heap h' →HOk X.prog X.w H h' :=λ{a h'} ha hs b ob e=>by
  obtain⟨_,_,hfree⟩:=ha
  refine(I.hok b ob e).dN (λc w' hc q=>(hs.2 c ?_).trans q) (λ_ q=>q) λ_ _ q=>q
  rintro rfl
  rcases hc with rfl|hc
  ·rw[hfree] at e;cases e
  ·rw[hfree] at hc;cases hc
 rcases hx with hk|hk
 ·refine wpAny_storeName_local hk hn (λh' hn' hs=> ?_) hcls
  obtain⟨oL,_,_,hoL,_⟩:=id hn
  refine h _ ⟨I.ok,I.os,I.bare,⟨λb o e n hb hx=> ?_,λb o e n hb hx=> ?_,I.base.free,λb o e hx=> ?_,I.base.pS,I.base.nP,I.base.pT⟩,⟨_,hn',λj y v' e1 e2 e3=> ?_⟩,λy c e=> ?_,I.free,I.ko,λp hp=> ?_,tracked ⟨oL,hoL,I.free⟩ hs,by simpa using I.len⟩ ⟨_,hs,.inl rfl⟩
  ·exact(hs.2 b (GaO (GaP (Gax e) I.ok.above))).trans (I.base.keep b o e n hb hx)
  ·obtain⟨sl,e1⟩:=I.base.slot b o e n hb hx
   exact⟨sl,(hs.2 b (GaO (GaP (Gax e) I.ok.above))).trans e1⟩
  ·obtain⟨o',e1⟩:=I.base.there b o e hx
   exact⟨o',(hs.2 b (GaO (GaP (Gax e) I.ok.above))).trans e1⟩
  ·by_cases hj:j=i
   ·subst hj
    rw[hi] at e1;cases e1
    rw[GaN hiσ] at e2
    cases e2
    exact⟨u,r,.inl ⟨hk,by simp⟩⟩
   ·rw[Gab (GaX hj)] at e2
    obtain⟨u',r',q⟩:=hl j y v' e1 e2 e3
    refine⟨u',r', ?_⟩
    rcases q with⟨k,e⟩| ⟨k,c,e,z⟩
    ·refine .inl ⟨k, ?_⟩
     have:y≠x:=λe=>hj (vO hN e1 (e▸hi))
     simp[this,e]
    ·exact .inr ⟨k,c,e,z.sameBut hs (cne y c e)⟩
  ·obtain⟨w',z⟩:=I.cell y c e
   exact⟨w',z.sameBut hs (cne y c e)⟩
  ·obtain⟨e,n,ne,nf,d⟩:=I.pin p hp
   exact⟨(hs.2 p.1 ne).trans e,n,ne,nf,d⟩
 ·have hfn:X.fn x=true:=by
   rcases hf with z|z
   ·exact z
   ·rw[z] at hk;cases hk
  obtain⟨c,hc⟩:=I.ok.has x (.inl hk)
  obtain⟨w',z⟩:=I.cell x c hc
  refine wpAny_storeName_cell I.ok.kind hk hc z (λh' hc' hs=> ?_)
  obtain⟨oc,hoc,hocd⟩:=id z
  refine h {s with heap:=h' } ⟨I.ok,I.os,I.bare,⟨λb o e n hb hx=> ?_,λb o e n hb hx=> ?_,I.base.free,λb o e hx=> ?_,I.base.pS,I.base.nP,I.base.pT⟩,⟨m,hn.sameBut hs (GaX (cne x c hc)),λj y v' e1 e2 e3=> ?_⟩,λy c' e=> ?_,I.free,I.ko,λp hp=> ?_,tracked ⟨oc,hoc,I.ko x c hc⟩ hs,by simpa using I.len⟩ ⟨c,hs,.inr hc⟩
  ·exact(hs.2 b (GaO (GaP (Gax e) (I.ok.cab x c hfn hc)))).trans (I.base.keep b o e n hb hx)
  ·obtain⟨sl,e1⟩:=I.base.slot b o e n hb hx
   exact⟨sl,(hs.2 b (GaO (GaP (Gax e) (I.ok.cab x c hfn hc)))).trans e1⟩
  ·obtain⟨o',e1⟩:=I.base.there b o e hx
   exact⟨o',(hs.2 b (GaO (GaP (Gax e) (I.ok.cab x c hfn hc)))).trans e1⟩
  ·by_cases hj:j=i
   ·subst hj
    rw[hi] at e1;cases e1
    rw[GaN hiσ] at e2
    cases e2
    exact⟨u,r,.inr ⟨.inl hk,c,hc,hc'⟩⟩
   ·rw[Gab (GaX hj)] at e2
    obtain⟨u',r',q⟩:=hl j y v' e1 e2 e3
    refine⟨u',r', ?_⟩
    rcases q with q| ⟨k,c',e,z'⟩
    ·exact .inl q
    ·refine .inr ⟨k,c',e,z'.sameBut hs ?_⟩
     rintro rfl
     exact hj (vO hN e1 (I.ok.inj _ _ _ e hc▸hi))
  ·by_cases hcc:c' =c
   ·subst hcc;exact⟨_,hc'⟩
   ·obtain⟨w2,z2⟩:=I.cell y c' e
    exact⟨w2,z2.sameBut hs hcc⟩
  ·obtain⟨e,n,ne,nf,d⟩:=I.pin p hp
   refine⟨(hs.2 p.1 ?_).trans e,n,ne,nf,d⟩
   intro q
   rw[q,hoc] at e
   have q' :oc=p.2:=Option.some.inj e
   exact d w' (by rw[←q'];exact hocd)
theorem vP{M:Model}{A:Around}{E:Value→Shared→Prop}{i:Nat}{x:Str}{v:V}{u:Value}{Q:Unit→Shared→Prop}(I:Inv X pins σ H s)(hN:X.N.Nodup)(hi:X.N[i]? =some x)(hx:Loc X.env.scope x)(r:RelV v u)
  (h:∀s',Inv X pins (σ.set i (some v)) H s' →Q () s')(hf:X.fn x=true∨X.env.scope.names.lookup x=some .local:=by first|exact .inl rfl|exact .inr rfl|assumption):wpAny M A (storeName X.env x u) Q E s:=
 tL I hN hi hx r (λs' I' _=>h s' I') hf
theorem Inv.IF{s' :Shared}{ch:List Addr}(I:Inv X pins σ H s)(ho:s'.os=s.os)(u:Un (frs X.stack) ch H H' s.heap s'.heap)(hok:HOk X.prog X.w H' s'.heap)(hg:AllBare s'.gens)
  (hch:∀b∈ch,(b∈X.ex∨X.s₀.heap.objs.size≤b)∧b≠X.env.locals∧(∀x c,X.env.cells.lookup x=some c→c≠b)∧∀p∈X.pn++pins,p.1≠b):Inv X pins σ H' s' :=by
 obtain⟨h',g',d',t',o'⟩:=s'
 have e:o' =s.os:=ho
 subst e
 exact I.call (g' :=g') (t' :=t') (d' :=d') u hok hg hch
end
abbrev XK:=Value→Option Addr→Hp→Prop
noncomputable abbrev St:=List (Option V)
abbrev VK:=V→Hp→Prop
abbrev TE:=St→Hp→VK→Prop
abbrev TT:=St→Hp→(Bool→Hp→Prop)→Prop
abbrev TA:=St→Hp→(List V→Hp→Prop)→Prop
structure Ends where
 nx:St→Hp→Prop
 rt:VK
 bk:St→Hp→Prop:=λ_ _=>False
 ct:St→Hp→Prop:=λ_ _=>False
abbrev TS:=Ends→St→Hp→Prop
def EP(X:Cx)(pins:List (Addr×Obj))(σ:St)(Q:VK)(u:Value)(s' :Shared):Prop:=∃v H',Inv X pins σ H' s' ∧RelV v u∧Q v H'
def TP(X:Cx)(pins:List (Addr×Obj))(σ:St)(Q:Bool→Hp→Prop)(b:Bool)(s' :Shared):Prop:=∃H',Inv X pins σ H' s' ∧Q b H'
def AP(X:Cx)(pins:List (Addr×Obj))(σ:St)(Q:List V→Hp→Prop)(us:List Value)(s' :Shared):Prop:=∃vs H',Inv X pins σ H' s' ∧Vals vs us∧Q vs H'
def SP(X:Cx)(pins:List (Addr×Obj))(D:Ends)(f:Flow)(s' :Shared):Prop:=
 match f with
 | .next=>∃σ' H',Inv X pins σ' H' s' ∧D.nx σ' H'
 | .brk=>∃σ' H',Inv X pins σ' H' s' ∧D.bk σ' H'
 | .cont=>∃σ' H',Inv X pins σ' H' s' ∧D.ct σ' H'
 | .ret u=>∃v σ' H',Inv X pins σ' H' s' ∧RelV v u∧D.rt v H'
def PE(X:Cx)(e:Expr)(t:TE):Prop:=
 ∀(pins:List (Addr×Obj)) (s:Shared) (σ:St) (H:Hp) (Q:VK),Inv X pins σ H s→t σ H Q→wpAny (model X.prog X.w) X.A (eval e X.env) (EP X pins σ Q) X.xe s
def PT(X:Cx)(e:Expr)(t:TT):Prop:=
 ∀(pins:List (Addr×Obj)) (s:Shared) (σ:St) (H:Hp) (Q:Bool→Hp→Prop),Inv X pins σ H s→t σ H Q→wpAny (model X.prog X.w) X.A (isTrue e X.env (eval e X.env)) (TP X pins σ Q) X.xe s
def PW(X:Cx)(e:Expr)(t:TT):Prop:=
 ∀(whole:Sem Value) (pins:List (Addr×Obj)) (s:Shared) (σ:St) (H:Hp) (Q:Bool→Hp→Prop),Inv X pins σ H s→t σ H Q→wpAny (model X.prog X.w) X.A (isTrue e X.env whole) (TP X pins σ Q) X.xe s
theorem PW.pt{X:Cx}{e:Expr}{t:TT}(h:PW X e t):PT X e t:=h _
def PA(X:Cx)(es:List Expr)(t:TA):Prop:=
 ∀(pos:Pos) (pins:List (Addr×Obj)) (s:Shared) (σ:St) (H:Hp) (Q:List V→Hp→Prop),Inv X pins σ H s→t σ H Q→wpAny (model X.prog X.w) X.A (spliced (backTo pos (starEach es X.env))) (AP X pins σ Q) X.xe s
def PS(X:Cx)(st:Stmt)(t:TS):Prop:=
 ∀(pins:List (Addr×Obj)) (s:Shared) (σ:St) (H:Hp) (D:Ends),Inv X pins σ H s→t D σ H→wpAny (model X.prog X.w) X.A (exec st X.env) (SP X pins D) X.xe s
def PSs(X:Cx)(st:List Stmt)(t:TS):Prop:=
 ∀(pins:List (Addr×Obj)) (s:Shared) (σ:St) (H:Hp) (D:Ends),Inv X pins σ H s→t D σ H→wpAny (model X.prog X.w) X.A (execs st X.env) (SP X pins D) X.xe s
theorem thn{α:Type}{t:Sem α}{Q Q' :α→Shared→Prop}{M:Model}{A:Around}{E:Value→Shared→Prop}{s:Shared}(h:wpAny M A t Q E s)(hQ:∀a s,Q a s→Q' a s):wpAny M A t Q' E s:=GbA h hQ λ_ _ x=>x
section
variable{X:Cx}
noncomputable def Lk(i:Nat):TE:=λσ H Q=>∃v,σ[i]? =some (some v)∧Q v H
noncomputable def tC(v:V):TE:=λ_ H Q=>Q v H
theorem lu{i:Nat}{x:Str}{pos:Pos}(hN:X.N[i]? =some x)(hv:Vis X.env.scope x)(hd:(x==("__debug__":Str))=false:=by decide)(hcd:(x==("__classdict__":Str))=false:=by decide):PE X (.Name x pos) (Lk i):=by
 intro pins s σ H Q I h
 obtain⟨v,e,h⟩:=h
 obtain⟨m,hn,hl⟩:=I.loc
 obtain⟨u,r,l⟩:=hl i x v hN e hv
 have fin:EP X pins σ Q u s:=⟨v,H,I,r,h⟩
 rcases l with⟨hk,hm⟩| ⟨hk,c,hc,hcell⟩
 ·exact wpAny_Name (wpAny_loadName_local I.ok.kind hk hn hm fin) hd
 ·rcases hk with hk|hk
  ·exact wpAny_Name (wpAny_loadName_cell I.ok.kind hk hc hcell fin) hd
  ·exact wpAny_Name (wpAny_loadName_free I.ok.kind hk hc hcell fin hcd) hd
theorem DU{i j pos}:PE X (.Constant (.int i) j pos) (tC (.int i)):=λ_ _ _ H _ I h=>wpAny_Constant_int ⟨.int i,H,I.tok _,⟨_,rfl⟩,h⟩
theorem Ll{b j pos}:PE X (.Constant (.bool b) j pos) (tC (.bl b)):=λ_ _ _ H _ I h=>Constant_bool ⟨.bl b,H,I,rfl,h⟩
theorem J8{j pos}:PE X (.Constant .none j pos) (tC .non):=λ_ _ _ H _ I h=>Constant_none ⟨.non,H,I,rfl,h⟩
theorem J9{x j pos}:PE X (.Constant (.str x) j pos) (tC (.str x)):=λ_ _ _ H _ I h=>Calls.Constant_str ⟨.str x,H,I.tok _,⟨_,rfl⟩,h⟩
def Gl(X:Cx)(x:Str):Prop:=X.env.kindOf x=some .globalImplicit
theorem Gp{E:Value→Shared→Prop}{pins:List (Addr×Obj)}{s:Shared}{σ:St}{H:Hp}{x:Str}{u:Value}{pos:Pos}{Q:Value→Shared→Prop}(I:Inv X pins σ H s)(hg:Gl X x)(hm:X.mg x=some u)(h:Q u s)
  (hd:(x==("__debug__":Str))=false:=by decide):wpAny (model X.prog X.w) X.A (eval (.Name x pos) X.env) Q E s:=
 Calls.Name_function_global I.ok.kind hg (Calls.loadGlobal_global (by rw[I.ok.glob];exact I.mod.glob.keeps I.bk) hm h) hd
theorem nC{E:Value→Shared→Prop}{pins:List (Addr×Obj)}{s:Shared}{σ:St}{H:Hp}{x:Str}{u:Value}{pos:Pos}{Q:Value→Shared→Prop}(I:Inv X pins σ H s)(hg:Gl X x)(hm:X.mg x=none)(hv:bootBuiltins x=some u)(h:Q u s)
  (hn:x≠"__name__":=by decide)(hd:(x==("__debug__":Str))=false:=by decide):wpAny (model X.prog X.w) X.A (eval (.Name x pos) X.env) Q E s:=by
 obtain⟨mb,h1,h2⟩:=I.mod.blt
 exact Calls.Name_function_global I.ok.kind hg (Calls.loadGlobal_builtin (by rw[I.ok.glob];exact I.mod.glob.keeps I.bk) hm (by rw[I.ok.blt];exact h1.keeps I.bk) ((h2 x hn).trans hv) h) hd
theorem Gq{x:Str}{v:V}{u:Value}{pos:Pos}(hg:Gl X x)(hm:X.mg x=none)(hv:bootBuiltins x=some u)(r:RelV v u)(hn:x≠"__name__":=by decide)(hd:(x==("__debug__":Str))=false:=by decide):PE X (.Name x pos) (tC v):=
 λ_ _ _ H _ I h=>nC I hg hm hv ⟨v,H,I,r,h⟩ hn hd
variable{a b:Expr}{ta tb:TE}{pos:Pos}
noncomputable def tB(t:TE):TT:=λσ H Q=>t σ H λx H1=>∃c,x= .bl c∧Q c H1
theorem Ja{e:Expr}{t:TE}(h:PE X e t)(he:∀whole,isTrue e X.env whole=(do let v←whole;standAt e.pos;holding [v] (truthy v)):=by intro _;rfl):PT X e (tB t):=by
 intro pins s σ H Q I hw
 refine isTrue_plain (thn (h pins s σ H _ I hw) λv s1 ⟨x,H1,I1,r1,q1⟩=> ?_) (he _)
 obtain⟨d,rfl,q⟩:=q1
 cases r1
 exact GbC ⟨H1,I1,q⟩
variable{tA tB' :TT}{rest:List Expr}
noncomputable def NK(t u:TT):TT:=λσ H Q=>t σ H λc H1=>if c=true then u σ H1 Q else Q false H1
noncomputable def tOr(t u:TT):TT:=λσ H Q=>t σ H λc H1=>if c=true then Q true H1 else u σ H1 Q
noncomputable def NL(t:TT):TT:=λσ H Q=>t σ H λc H1=>Q (!c) H1
theorem Gr(ha:PT X a tA):PW X (.BoolOp .And [a] pos) tA:=by
 intro wh pins s σ H Q I h
 refine isTrue_and (thn (ha pins s σ H Q I h) λc s1 e=> ?_)
 cases c with
 |true=>exact isTrue_and_nil e
 |false=>exact e
theorem Jb(ha:PT X a tA):PW X (.BoolOp .Or [a] pos) tA:=by
 intro wh pins s σ H Q I h
 refine isTrue_or (thn (ha pins s σ H Q I h) λc s1 e=> ?_)
 cases c with
 |false=>exact isTrue_or_nil e
 |true=>exact e
theorem Jc(ha:PT X a tA)(hb:PW X (.BoolOp .And (b::rest) pos) tB'):PW X (.BoolOp .And (a::b::rest) pos) (NK tA tB'):=by
 intro wh pins s σ H Q I h
 refine isTrue_and (thn (ha pins s σ H _ I h) λc s1 ⟨H1,I1,q1⟩=> ?_)
 cases c with
 |true=>exact hb wh pins s1 σ H1 Q I1 q1
 |false=>exact⟨H1,I1,q1⟩
theorem Lm(ha:PT X a tA)(hb:PW X (.BoolOp .Or (b::rest) pos) tB'):PW X (.BoolOp .Or (a::b::rest) pos) (tOr tA tB'):=by
 intro wh pins s σ H Q I h
 refine isTrue_or (thn (ha pins s σ H _ I h) λc s1 ⟨H1,I1,q1⟩=> ?_)
 cases c with
 |true=>exact⟨H1,I1,q1⟩
 |false=>exact hb wh pins s1 σ H1 Q I1 q1
theorem Jd(ha:PT X a tA):PT X (.UnaryOp .Not a pos) (NL tA):=by
 intro pins s σ H Q I h
 exact isTrue_not (ha pins s σ H (λc H1=>Q (!c) H1) I h)
noncomputable def Ln(ta tb:TE):TE:=λσ H Q=>ta σ H λx H1=>∃c,x= .bl c∧if c=true then tb σ H1 Q else Q (.bl false) H1
noncomputable def Lo(ta:TE):TE:=λσ H Q=>ta σ H λx H1=>∃c,x= .bl c∧Q (.bl (!c)) H1
theorem Je{op}{t:TE}(h:PE X a t):PE X (.BoolOp op [a] pos) t:=λpins s σ H Q I hw=>BoolOp_one (h pins s σ H Q I hw)
theorem Jf(ha:PE X a ta)(hb:PE X (.BoolOp .And (b::rest) pos) tb):PE X (.BoolOp .And (a::b::rest) pos) (Ln ta tb):=by
 intro pins s σ H Q I h
 refine BoolOp_and (thn (ha pins s σ H _ I h) λv s1 ⟨x,H1,I1,r1,q1⟩=> ?_)
 obtain⟨c,rfl,q1⟩:=q1
 cases r1
 refine GbC ?_
 cases c with
 |true=>exact hb pins s1 σ H1 Q I1 q1
 |false=>exact⟨.bl false,H1,I1,rfl,q1⟩
theorem Jg(ha:PE X a ta):PE X (.UnaryOp .Not a pos) (Lo ta):=by
 intro pins s σ H Q I h
 refine UnaryOp_ (thn (ha pins s σ H _ I h) λv s1 ⟨x,H1,I1,r1,q1⟩=> ?_)
 obtain⟨c,rfl,q1⟩:=q1
 cases r1
 exact not_of (GbC ⟨.bl (!c),H1,I1,rfl,q1⟩)
noncomputable def tIf(t:TT)(ta tb:TE):TE:=λσ H Q=>t σ H λc H1=>if c=true then ta σ H1 Q else tb σ H1 Q
theorem DV{c:Expr}(hc:PT X c tA)(ha:PE X a ta)(hb:PE X b tb):PE X (.IfExp c a b pos) (tIf tA ta tb):=by
 intro pins s σ H Q I h
 refine wpAny_IfExp (thn (hc pins s σ H _ I h) λd s1 ⟨H1,I1,q1⟩=> ?_)
 cases d with
 |true=>exact ha pins s1 σ H1 Q I1 q1
 |false=>exact hb pins s1 σ H1 Q I1 q1
end
def SqL(K:PySem.W.Frag)(H:Hp)(a:Addr)(xs:List V):Prop:=
 Rd H a (.lst xs)∨
  ∃(o:Obj) (its:Array Value) (n:Nat),K.lookup a=some o∧o.cls= .type "list"∧o.dict=none∧o.data= .seq its n∧its.size≤sizeLine∧Vals xs its.toList
def SqT(K:PySem.W.Frag)(H:Hp)(a:Addr)(xs:List V):Prop:=
 Rd H a (.tup xs)∨
  ∃(o:Obj) (its:Array Value) (n:Nat),K.lookup a=some o∧o.cls= .type "tuple"∧o.data= .seq its n∧its.size≤sizeLine∧Vals xs its.toList
noncomputable def NM:Value→Option V
 | .none=>some .non
 | .bool b=>some (.bl b)
 | .int i _=>some (.int i)
 | .str x _=>some (.str x)
 | .bytes b _=>some (.byt b)
 | .float b _=>some (.flt b)
 | .ref a=>some (.ref a)
 | .type n=>some (.ty n)
 |_=>none
theorem RelV.abs{x:V}{u:Value}(r:RelV x u):NM u=some x:=by
 cases x with
 |non=>cases r;rfl
 |bl _=>cases r;rfl
 |int _=>obtain⟨t,rfl⟩:=r;rfl
 |str _=>obtain⟨t,rfl⟩:=r;rfl
 |byt _=>obtain⟨t,rfl⟩:=r;rfl
 |flt _=>obtain⟨t,rfl⟩:=r;rfl
 |ref _=>cases r;rfl
 |ty _=>cases r;rfl
theorem RelV.inj{x y:V}{u:Value}(r:RelV x u)(q:RelV y u):x=y:=Option.some.inj (r.abs.symm.trans q.abs)
theorem Vals.inj:∀{xs ys:List V} {us:List Value},Vals xs us→Vals ys us→xs=ys
 |_,_,_,.nil,.nil=>rfl
 |_,_,_,.cons r t,.cons r' t' =>by rw[r.inj r',Vals.inj t t']
section
variable{X:Cx}{pins:List (Addr×Obj)}{σ:St}{H:Hp}{s:Shared}{a:Addr}{xs ys:List V}
theorem SqL.of{K:PySem.W.Frag}(h:H a=some (.lst xs)):SqL K H a xs:= .inl (.inl h)
theorem SqT.of{K:PySem.W.Frag}(h:H a=some (.tup xs)):SqT K H a xs:= .inl (.inl h)
theorem Inv.list(I:Inv X pins σ H s)(h:SqL X.K H a xs):∃its:List Value,Vals xs its∧PlainL s.heap a its.toArray∧xs.length≤sizeLine:=by
 rcases h with h| ⟨o,its,n,hk,hc,hd,hs,hz,r⟩
 ·obtain⟨z,its,n,r,e⟩:=h.ok I.hok
  exact⟨its,r,⟨_,n,e,rfl,rfl,rfl⟩,z⟩
 ·refine⟨its.toList,r,⟨o,n,I.kIn a o hk,hc,hd,by simpa using hs⟩, ?_⟩
  have e:=r.length
  simp only[GbO] at e
  omega
theorem Inv.tuple(I:Inv X pins σ H s)(h:SqT X.K H a xs):∃its:List Value,Vals xs its∧IsTup s.heap a its.toArray∧xs.length≤sizeLine:=by
 rcases h with h| ⟨o,its,n,hk,hc,hs,hz,r⟩
 ·obtain⟨z,its,r,p⟩:=h.ok I.hok
  exact⟨its,r,p,z⟩
 ·refine⟨its.toList,r,⟨o,I.kIn a o hk,hc,n,by simpa using hs⟩, ?_⟩
  have e:=r.length
  simp only[GbO] at e
  omega
theorem Inv.vQ(I:Inv X pins σ H s)(h:SqL X.K H a xs)(h' :SqL X.K H a ys):xs=ys:=by
 obtain⟨its,r,⟨o,n,e,_,_,d⟩,_⟩:=I.list h
 obtain⟨its',r',⟨o',n',e',_,_,d'⟩,_⟩:=I.list h'
 rw[e] at e';cases e'
 rw[d] at d'
 injection d' with d1 _
 have:its=its' :=by simpa using congrArg Array.toList d1
 subst this
 exact r.inj r'
theorem Inv.tN(I:Inv X pins σ H s)(h:SqT X.K H a xs)(h' :SqT X.K H a ys):xs=ys:=by
 obtain⟨its,r,⟨o,e,_,n,d⟩,_⟩:=I.tuple h
 obtain⟨its',r',⟨o',e',_,n',d'⟩,_⟩:=I.tuple h'
 rw[e] at e';cases e'
 rw[d] at d'
 injection d' with d1 _
 have:its=its' :=by simpa using congrArg Array.toList d1
 subst this
 exact r.inj r'
end
noncomputable abbrev Cx.qD (X:Cx) (E:Value→Shared→Prop):Cx:={X with xe:=E}
noncomputable abbrev Cx.nox (X:Cx):Cx:=X.qD λ_ _=>False
theorem Cx.Ok.qD{X:Cx}(ok:X.Ok)(E:Value→Shared→Prop):(X.qD E).Ok:=
 ⟨ok.mod,ok.kind,ok.glob,ok.blt,ok.above,ok.inj,ok.has,ok.cab,ok.hd,ok.frames,ok.stk,ok.exf,ok.bs,ok.bsz,ok.Gj,ok.Gk,ok.qC,ok.frf⟩
theorem Cx.Ok.jI{X:Cx}{E:Value→Shared→Prop}(ok:(X.qD E).Ok):X.Ok:=
 ⟨ok.mod,ok.kind,ok.glob,ok.blt,ok.above,ok.inj,ok.has,ok.cab,ok.hd,ok.frames,ok.stk,ok.exf,ok.bs,ok.bsz,ok.Gj,ok.Gk,ok.qC,ok.frf⟩
section
variable{X:Cx}{pins:List (Addr×Obj)}{σ:St}{H:Hp}{s:Shared}{E:Value→Shared→Prop}
theorem Inv.qD(I:Inv X pins σ H s)(E:Value→Shared→Prop):Inv (X.qD E) pins σ H s:=⟨I.ok.qD E,I.os,I.bare,I.base,I.loc,I.cell,I.free,I.ko,I.pin,I.hok,I.len⟩
theorem Inv.jI(I:Inv (X.qD E) pins σ H s):Inv X pins σ H s:=⟨I.ok.jI,I.os,I.bare,I.base,I.loc,I.cell,I.free,I.ko,I.pin,I.hok,I.len⟩
theorem SP.jI{D:Ends}{f:Flow}{s' :Shared}(h:SP (X.qD E) pins D f s'):SP X pins D f s' :=by
 cases f with
 |next=>obtain⟨σ',H',I,q⟩:=h;exact⟨σ',H',I.jI,q⟩
 |brk=>obtain⟨σ',H',I,q⟩:=h;exact⟨σ',H',I.jI,q⟩
 |cont=>obtain⟨σ',H',I,q⟩:=h;exact⟨σ',H',I.jI,q⟩
 |ret u=>obtain⟨v,σ',H',I,r,q⟩:=h;exact⟨v,σ',H',I.jI,r,q⟩
theorem PE.nox{e:Expr}{t:TE}(h:PE X.nox e t):PE X e t:=λpins s σ H Q I hw=>
 GbA (h pins s σ H Q (I.qD _) hw) (λ_ _ ⟨v,H',I',r,q⟩=> ⟨v,H',I'.jI,r,q⟩) λ_ _ z=>False.elim z
theorem PT.nox{e:Expr}{t:TT}(h:PT X.nox e t):PT X e t:=λpins s σ H Q I hw=>
 GbA (h pins s σ H Q (I.qD _) hw) (λ_ _ ⟨H',I',q⟩=> ⟨H',I'.jI,q⟩) λ_ _ z=>False.elim z
theorem PSs.nox{st:List Stmt}{t:TS}(h:PSs X.nox st t):PSs X st t:=λpins s σ H D I hw=>
 GbA (h pins s σ H D (I.qD _) hw) (λ_ _ q=>q.jI) λ_ _ z=>False.elim z
end
section
variable{X:Cx}{st:Stmt}{rest:List Stmt}{t u:TS}{e:Expr}{te:TE}{pos:Pos}
noncomputable def Lp:TS:=λD σ H=>D.nx σ H
noncomputable def NN(t u:TS):TS:=λD σ H=>t {D with nx:=u D} σ H
theorem Gs:PSs X [] Lp:=λ_ _ σ H _ I h=>Gdl ⟨σ,H,I,h⟩
theorem nQ(h1:PS X st t)(h2:PSs X rest u):PSs X (st::rest) (NN t u):=by
 intro pins s σ H D I h
 refine wpAny_execs_cons (thn (h1 pins s σ H {D with nx:=u D} I h) λf s1 q=> ?_)
 cases f with
 |next=>
  obtain⟨σ',H',I',q⟩:=q
  exact h2 pins s1 σ' H' D I' q
 |ret v=>exact q
 |brk=>exact q
 |cont=>exact q
theorem uI(h1:PS X st t):PSs X [st] t:=by
 intro pins s σ H D I h
 refine wpAny_execs_cons (thn (h1 pins s σ H D I h) λf s1 q=> ?_)
 cases f with
 |next=>exact Gdl q
 |ret v=>exact q
 |brk=>exact q
 |cont=>exact q
noncomputable def Jh:TS:=λD σ H=>D.bk σ H
theorem DW:PS X (.Break pos) Jh:=λ_ _ σ H _ I h=>wpAny_Break ⟨σ,H,I,h⟩
theorem Inv.quiet{pins:List (Addr×Obj)}{σ:St}{H:Hp}{s:Shared}(I:Inv X pins σ H s):interactive X.env=false:=by simp[interactive,I.ok.kind]
noncomputable def Lq(te:TE):TS:=λD σ H=>te σ H λ_ H1=>D.nx σ H1
theorem qL(he:PE X e te)(hs:swapsWith e none pos.line X.env=pure false:=by rfl):PS X (.Expr e pos) (Lq te):=by
 intro pins s σ H D I h
 exact wpAny_Expr_any (thn (he pins s σ H _ I h) λv s1 ⟨x,H1,I1,r1,q1⟩=> ⟨σ,H1,I1,q1⟩) I.quiet hs
noncomputable def NO(te:TE):TS:=λD σ H=>te σ H D.rt
theorem DX(he:PE X e te):PS X (.Return (some e) pos) (NO te):=by
 intro pins s σ H D I h
 exact wpAny_Return_some (thn (he pins s σ H _ I h) λv s1 ⟨x,H1,I1,r1,q1⟩=> ⟨x,σ,H1,I1,r1,q1⟩)
noncomputable def NP(c:TT)(t u:TS):TS:=λD σ H=>c σ H λb H1=>if b=true then t D σ H1 else u D σ H1
theorem Lr{c:Expr}{a b:List Stmt}{tc:TT}(hc:PT X c tc)(ha:PSs X a t)(hb:PSs X b u):PS X (.If c a b pos) (NP tc t u):=by
 intro pins s σ H D I h
 refine wpAny_If (thn (hc pins s σ H _ I h) λd s1 ⟨H1,I1,q1⟩=> ?_)
 cases d with
 |true=>exact ha pins s1 σ H1 D I1 q1
 |false=>exact hb pins s1 σ H1 D I1 q1
end
abbrev TG:=V→St→Hp→(St→Hp→Prop)→Prop
abbrev TGs:=List V→St→Hp→(St→Hp→Prop)→Prop
def PG(X:Cx)(target:Expr)(t:TG):Prop:=
 ∀(pins:List (Addr×Obj)) (s:Shared) (σ:St) (H:Hp) (v:V) (u:Value) (Q:St→Hp→Prop),Inv X pins σ H s→RelV v u→t v σ H Q→
  wpAny (model X.prog X.w) X.A (assign target X.env u) (λ_ s' =>∃σ' H',Inv X pins σ' H' s' ∧Q σ' H') X.xe s
def PGs(X:Cx)(ts:List Expr)(t:TGs):Prop:=
 ∀(pins:List (Addr×Obj)) (s:Shared) (σ:St) (H:Hp) (vs:List V) (us:List Value) (Q:St→Hp→Prop),Inv X pins σ H s→Vals vs us→t vs σ H Q→
  wpAny (model X.prog X.w) X.A (assignInOrder ((assignEach ts X.env).map (·.2)) us) (λ_ s' =>∃σ' H',Inv X pins σ' H' s' ∧Q σ' H') X.xe s
abbrev NQ:=V→V→V→Hp→(Hp→Prop)→Prop
def Ls(X:Cx)(t:NQ):Prop:=
 ∀(pins:List (Addr×Obj)) (s:Shared) (σ:St) (H:Hp) (o i v:V) (ov iv u:Value) (Q:Hp→Prop),Inv X pins σ H s→RelV o ov→RelV i iv→RelV v u→t o i v H Q→
  wpAny (model X.prog X.w) X.A (setItem ov iv u) (λ_ s' =>∃H',Inv X pins σ H' s' ∧Q H') X.xe s
section
variable{X:Cx}{pos:Pos}
noncomputable def IG(i:Nat):TG:=λv σ H Q=>Q (σ.set i (some v)) H
theorem Bu{i:Nat}{x:Str}(hN:X.N.Nodup)(hi:X.N[i]? =some x)(hx:Loc X.env.scope x)(hf:X.fn x=true∨X.env.scope.names.lookup x=some .local:=by first|exact .inl rfl|exact .inr rfl|assumption):PG X (.Name x pos) (IG i):=by
 intro pins s σ H v u Q I r h
 exact wpAny_assign_Name (vP I hN hi hx r (λs' I' => ⟨_,H,I',h⟩) hf)
noncomputable def NR:TGs:=λvs σ H Q=>vs=[]∧Q σ H
noncomputable def Lu(t:TG)(u:TGs):TGs:=λvs σ H Q=>∃v r,vs=v::r∧t v σ H λσ' H' =>u r σ' H' Q
theorem Gu:PGs X [] NR:=by
 intro pins s σ H vs us Q I r h
 obtain⟨e,h⟩:=h
 subst e
 cases r
 exact assignInOrder_nil ⟨σ,H,I,h⟩
theorem DY{e:Expr}{es:List Expr}{t:TG}{u:TGs}(h1:PG X e t)(h2:PGs X es u)
  (hs:(assignEach (e::es) X.env).map (·.2)=assign e X.env::(assignEach es X.env).map (·.2):=by rfl):PGs X (e::es) (Lu t u):=by
 intro pins s σ H vs us Q I r h
 obtain⟨v,vr,e1,h⟩:=h
 subst e1
 cases r with
 |cons r rr=>
  rw[hs]
  refine assignInOrder_cons (thn (h1 pins s σ H _ _ _ I r h) λ_ s1 ⟨σ1,H1,I1,q1⟩=> ?_)
  exact h2 pins s1 σ1 H1 _ _ Q I1 rr q1
noncomputable def NS(K:PySem.W.Frag)(n:Nat)(t:TGs):TG:=λv σ H Q=>∃a xs,v= .ref a∧SqT K H a xs∧xs.length=n∧t xs σ H Q
theorem Ji{es:List Expr}{k:Nat}{t:TGs}{n:Nat}(hc:X.calm=true)(h:PGs X es t)
  (hn:(assignEach es X.env).length=n:=by rfl)(hst:(assignEach es X.env).findIdx? (·.1)=none:=by rfl):PG X (.Tuple es k pos) (NS X.K n t):=by
 intro pins s σ H v u Q I r hw
 obtain⟨a,xs,e1,hq,hl,hw⟩:=hw
 subst e1
 cases r
 obtain⟨its,rv,ht,hz⟩:=I.tuple hq
 refine assign_Tuple_tuple (I.ok.hd hc) ht (by simp[hn,←hl,rv.length]) hst λh' hx=> ?_
 have I1:Inv X pins σ H {s with heap:=h' }:=I.kept (t' :=s.toks) λb o e=>hx b o (GaO (Gax e)) e
 exact h pins _ σ H xs _ Q I1 (by simpa using rv) hw
noncomputable def NT(te:TE)(g:TG):TS:=λD σ H=>te σ H λx H1=>g x σ H1 D.nx
theorem Au{i:Nat}{x:Str}{e:Expr}{te:TE}{pos' :Pos}(hN:X.N.Nodup)(hi:X.N[i]? =some x)(hx:Loc X.env.scope x)(he:PE X e te)(hs:swapsWith e (some (.Name x pos')) pos.line X.env=pure false:=by rfl)(hf:X.fn x=true∨X.env.scope.names.lookup x=some .local:=by first|exact .inl rfl|exact .inr rfl|assumption):
  PS X (.Assign [.Name x pos'] e pos) (NT te (IG i)):=by
 intro pins s σ H D I h
 refine wpAny_Assign_Name (thn (he pins s σ H _ I h) λv s1 ⟨y,H1,I1,r1,q1⟩=> ?_) hs
 exact vP I1 hN hi hx r1 (λs2 I2=> ⟨_,H1,I2,q1⟩) hf
end
section
variable{X:Cx}{pos:Pos}
noncomputable def Jj(c:TT)(tb:TS):TS:=λD σ H=>∃W:Nat→St→Hp→Prop,(∃m,W m σ H)∧∀m σ H,W m σ H→
 c σ H λb H1=>if b=true then∃N:St→Hp→Prop,(∀σ' H',N σ' H' →∃m',m' <m∧W m' σ' H')∧tb {D with nx:=N,ct:=N,bk:=D.nx} σ H1 else D.nx σ H1
theorem DZ{c:Expr}{body:List Stmt}{tc:TT}{tb:TS}(hp:PassesOwn (model X.prog X.w) X.A X.env X.xe)(hc:PT X c tc)(hb:PSs X body tb):PS X (.While c body [] pos) (Jj tc tb):=by
 intro pins s σ H D I h
 obtain⟨W,⟨m0,w0⟩,turn⟩:=h
 refine wpAny_While (codeAny_whileLoop (λn s' =>∃σ' H',Inv X pins σ' H' s' ∧W n σ' H') ?_ m0 ⟨σ,H,I,w0⟩)
 rintro n s1 ⟨σ1,H1,I1,w1⟩
 refine GbU hp (thn (hc pins s1 σ1 H1 _ I1 (turn n σ1 H1 w1)) λb s2 ⟨H2,I2,q2⟩=> ?_)
 cases b with
 |true=>
  obtain⟨N,hN,q2⟩:=q2
  rw[Gaf rfl]
  refine GbU hp (thn (hb pins s2 σ1 H2 _ I2 q2) λf s3 q3=> ?_)
  cases f with
  |next=>
   obtain⟨σ3,H3,I3,n3⟩:=q3
   obtain⟨m',hm,w3⟩:=hN σ3 H3 n3
   exact⟨m',hm,σ3,H3,I3,w3⟩
  |cont=>
   obtain⟨σ3,H3,I3,n3⟩:=q3
   obtain⟨m',hm,w3⟩:=hN σ3 H3 n3
   exact⟨m',hm,σ3,H3,I3,w3⟩
  |brk=>exact q3
  |ret v=>exact q3
 |false=>
  rw[Gah Gaz]
  exact Gdl ⟨σ1,H2,I2,q2⟩
end
structure It where
 go:Nat→Hp→Prop
 yld:Nat→Hp→V→Hp→Prop
 stop:Nat→Hp→Prop
def nD(X:Cx)(pins:List (Addr×Obj))(H:Hp)(b:Addr):Prop:=
 H b=none∧b≠X.env.locals∧b∉X.fs∧(b∈X.ex∨X.s₀.heap.objs.size≤b)∧(∀x c,X.env.cells.lookup x=some c→c≠b)∧∀p∈X.pn++pins,p.1≠b
theorem Inv.Cu{X:Cx}{pins:List (Addr×Obj)}{σ:St}{H H' :Hp}{s:Shared}{b:Addr}(I:Inv X pins σ H s)(hb:s.heap.objs.size≤b)(hn:H' b=none):nD X pins H' b:=by
 refine⟨hn,GcL (GaP I.lt hb),I.NJ hb,.inr (Gbp I.sz hb),λx c e z=> ?_,λp hp z=> ?_⟩
 ·obtain⟨v,q⟩:=I.cell x c e
  exact absurd (GaP q.lt (by rw[z];exact hb)) (Gby _)
 ·exact absurd (GaP (Gax (I.pin p hp).1) (by rw[z];exact hb)) (Gby _)
structure Turn(P:Program)(w:World)(K:PySem.W.Frag)(tg:Expr)(J:It)(fp:List Addr)(it:Addr)(tn:Nat→Heap→Prop):Prop where
 mem:it∈fp
 obj:∀i h,tn i h→∀b∈fp,∃o,h.get? b=some o∧∀v,o.data≠ .cell v
 keep:∀i h h',tn i h→(∀b∈fp,∀o,h.get? b=some o→h'.get? b=some o)→tn i h'
 item:∀(X:Cx),X.prog=P→X.w=w→X.K=K→X.calm=true→∀(i:Nat) (pins:List (Addr×Obj)) (s:Shared) (σ:St) (H:Hp) (E:Value→Shared→Prop),Inv X pins σ H s→(∀b∈fp,nD X pins H b)→tn i s.heap→J.go i H→
  wpAny (model P w) X.A (pyNext (.ref it)) (λr s1=>∃u,r=some u∧
   wpAny (model P w) X.A (letOwnedTupleGo tg (.ref it) u) (λ_ s2=>∃x H',Inv X pins σ H' s2∧RelV x u∧J.yld i H x H' ∧tn (i+1) s2.heap∧∀b∈fp,H' b=none) E s1) E s
 done:∀(X:Cx),X.prog=P→X.w=w→X.K=K→X.calm=true→∀(i:Nat) (pins:List (Addr×Obj)) (s:Shared) (σ:St) (H:Hp) (E:Value→Shared→Prop),Inv X pins σ H s→(∀b∈fp,nD X pins H b)→tn i s.heap→J.stop i H→
  wpAny (model P w) X.A (pyNext (.ref it)) (λr s1=>r=none∧Inv X pins σ H s1) E s
 self:∀(A:Around) (i:Nat) (s:Shared) (Q:Value→Shared→Prop) (E:Value→Shared→Prop),tn i s.heap→Q (.ref it) s→wpAny (model P w) A (pyIter (.ref it)) Q E s
abbrev TI:=St→Hp→(It→Hp→Prop)→Prop
def PIE(X:Cx)(pins:List (Addr×Obj))(σ:St)(tg:Expr)(R:It→Hp→Prop)(itv:Value)(s2:Shared):Prop:=
 ∃(it:Addr) (fp:List Addr) (tn:Nat→Heap→Prop) (J:It) (H' :Hp),itv= .ref it∧Inv X pins σ H' s2∧Turn X.prog X.w X.K tg J fp it tn∧tn 0 s2.heap∧(∀b∈fp,nD X pins H' b)∧R J H'
def PI(X:Cx)(tg iter:Expr)(wi:TI):Prop:=
 ∀(pins:List (Addr×Obj)) (s:Shared) (σ:St) (H:Hp) (R:It→Hp→Prop),Inv X pins σ H s→wi σ H R→
  wpAny (model X.prog X.w) X.A (eval iter X.env) (λv s1=>wpAny (model X.prog X.w) X.A (pyIter v) (PIE X pins σ tg R) X.xe s1) X.xe s
theorem E5{M:Model}{A:Around}{E:Value→Shared→Prop}{s:Shared}{tg:Expr}{it:Addr}{u:Value}{o:Obj}{n:String}{vs:Array Value}{Q:Unit→Shared→Prop}(ho:s.heap.get? it=some o)(hc:o.cls= .type n)(hd:o.data= .fields vs)
  (hn:["enumerate","zip","dict_itemiterator","dict_reverseitemiterator","odict_iterator","itertools.zip_longest","itertools.pairwise"].contains n=false)(hQ:Q () s):wpAny M A (letOwnedTupleGo tg (.ref it) u) Q E s:=by
 unfold letOwnedTupleGo
 cases tg<;>first
  |exact Gaq hQ
  |(cases u<;>first
    |exact Gaq hQ
    |(refine Gad (wpAny_load ho ?_)
      rw[hc,hd]
      show wpAny M A (if(["enumerate","zip","dict_itemiterator","dict_reverseitemiterator","odict_iterator","itertools.zip_longest","itertools.pairwise"].contains n&&vs[0]? ==some (rawInt _))=true then _ else _) Q E s
      rw[Gah (by intro h;rw[hn,Bool.false_and] at h;cases h)]
      exact Gaq hQ))
noncomputable def Itl(K:PySem.W.Frag)(a:Addr):It:=
 ⟨λi H=>∃xs x,SqL K H a xs∧xs[i]? =some x,λi H x H' =>H' =H∧∀xs,SqL K H a xs→xs[i]? =some x,λi H=>∃xs,SqL K H a xs∧xs.length≤i⟩
noncomputable def Itt(K:PySem.W.Frag)(a:Addr):It:=
 ⟨λi H=>∃xs x,SqT K H a xs∧xs[i]? =some x,λi H x H' =>H' =H∧∀xs,SqT K H a xs→xs[i]? =some x,λi H=>∃xs,SqT K H a xs∧xs.length≤i⟩
noncomputable def Itr(lo:Int)(n:Nat):It:=⟨λi _=>i<n,λi H x H' =>H' =H∧x= .int (lo+i),λi _=>n≤i⟩
theorem Cv{P:Program}{w:World}{K:PySem.W.Frag}{tg:Expr}(a it:Addr):Turn P w K tg (Itl K a) [it] it (λi h=>h.IsListIter it a i) where
 mem:=by simp
 obj:=λi h st b hb=>by
  have e:b=it:=by simpa using hb
  subst e
  obtain⟨o,e,c,d⟩:=st
  exact⟨o,e,λv z=>by rw[d] at z;cases z⟩
 keep:=λi h h' st k=>st.at λo e=>k it (by simp) o e
 item:=by
  intro X hP hw hK hc i pins s σ H E I hf st hg
  subst hP hw hK
  obtain⟨xs,x,hq,hx⟩:=hg
  obtain⟨its,rv,p,hz⟩:=I.list hq
  obtain⟨u,hu,ru⟩:=rv.get hx
  obtain⟨f0,f1,f2,f3,f4,f5⟩:=hf it (by simp)
  refine wpAny_pyNext_list_item st p.isList (x:=u) (by simpa using hu) λh' st' sb=> ?_
  have I1:Inv X pins σ H {s with heap:=h' }:=I.turned (t' :=s.toks) (λb o hb e=>(sb.2 b hb).trans e) f0 f1 f3 f4 f5
  obtain⟨o,e,c,d⟩:=id st'
  exact⟨u,rfl,E5 (s:={s with heap:=h' }) e c d (by decide) ⟨x,H,I1,ru,⟨rfl,λys hy=>by rw[I.vQ hy hq];exact hx⟩,st',λb hb=>(hf b hb).1⟩⟩
 done:=by
  intro X hP hw hK hc i pins s σ H E I hf st hg
  subst hP hw hK
  obtain⟨xs,hq,hx⟩:=hg
  obtain⟨its,rv,p,hz⟩:=I.list hq
  obtain⟨f0,f1,f2,f3,f4,f5⟩:=hf it (by simp)
  have hl:=rv.length
  exact wpAny_pyNext_list_end (I.ok.hd hc) st p.isList (by simp;omega) λh' eb=> ⟨rfl,I.turned (t' :=s.toks) (λb o hb e=>eb b o hb e) f0 f1 f3 f4 f5⟩
 self:=λ_ _ _ _ _ st h=>wpAny_pyIter_listiter st h
theorem Av{P:Program}{w:World}{K:PySem.W.Frag}{tg:Expr}(a it:Addr):Turn P w K tg (Itt K a) [it] it (λi h=>h.IsTupleIter it a i) where
 mem:=by simp
 obj:=λi h st b hb=>by
  have e:b=it:=by simpa using hb
  subst e
  obtain⟨o,e,c,d⟩:=st
  exact⟨o,e,λv z=>by rw[d] at z;cases z⟩
 keep:=λi h h' st k=>st.at λo e=>k it (by simp) o e
 item:=by
  intro X hP hw hK hc i pins s σ H E I hf st hg
  subst hP hw hK
  obtain⟨xs,x,hq,hx⟩:=hg
  obtain⟨its,rv,p,hz⟩:=I.tuple hq
  obtain⟨u,hu,ru⟩:=rv.get hx
  obtain⟨f0,f1,f2,f3,f4,f5⟩:=hf it (by simp)
  refine wpAny_pyNext_tuple_item st (show s.heap.IsTuple a its.toArray from p) (x:=u) (by simpa using hu) λh' st' sb=> ?_
  have I1:Inv X pins σ H {s with heap:=h' }:=I.turned (t' :=s.toks) (λb o hb e=>(sb.2 b hb).trans e) f0 f1 f3 f4 f5
  obtain⟨o,e,c,d⟩:=id st'
  exact⟨u,rfl,E5 (s:={s with heap:=h' }) e c d (by decide) ⟨x,H,I1,ru,⟨rfl,λys hy=>by rw[I.tN hy hq];exact hx⟩,st',λb hb=>(hf b hb).1⟩⟩
 done:=by
  intro X hP hw hK hc i pins s σ H E I hf st hg
  subst hP hw hK
  obtain⟨xs,hq,hx⟩:=hg
  obtain⟨its,rv,p,hz⟩:=I.tuple hq
  obtain⟨f0,f1,f2,f3,f4,f5⟩:=hf it (by simp)
  have hl:=rv.length
  exact wpAny_pyNext_tuple_end (I.ok.hd hc) st (show s.heap.IsTuple a its.toArray from p) (by simp;omega) λh' eb=> ⟨rfl,I.turned (t' :=s.toks) (λb o hb e=>eb b o hb e) f0 f1 f3 f4 f5⟩
 self:=λ_ _ _ _ _ st h=>wpAny_pyIter_tupleiter st h
theorem Aw{P:Program}{w:World}{K:PySem.W.Frag}{tg:Expr}(it:Addr)(lo:Int)(n:Nat):Turn P w K tg (Itr lo n) [it] it (λi h=>IsRangeIter h it (lo+(i:Nat)*1) ((n:Int)-(i:Nat)) 1) where
 mem:=by simp
 obj:=λi h st b hb=>by
  have e:b=it:=by simpa using hb
  subst e
  exact⟨_,st,λv z=>by
   have z' :Data.fields _=Data.cell v:=z
   cases z'⟩
 keep:=λi h h' st k=>k it (by simp) _ st
 item:=by
  intro X hP hw hK hc i pins s σ H E I hf st hg
  subst hP hw hK
  obtain⟨f0,f1,f2,f3,f4,f5⟩:=hf it (by simp)
  have W:=Walks.range (prog:=X.prog) (w:=X.w) (I.ok.hd hc) it lo 1 n
  refine W.item i s _ _ hg st λv h' tk hv st' kk=> ?_
  obtain⟨t,rfl⟩:=hv
  have I1:Inv X pins σ H {s with heap:=h',toks:=tk}:=I.turned (λb o hb e=>kk b o (by simpa using hb) e) f0 f1 f3 f4 f5
  refine⟨_,rfl,E5 (s:={s with heap:=h',toks:=tk}) (n:="range_iterator") st' rfl rfl (by decide) ⟨.int (lo+i),H,I1,⟨t, ?_⟩,⟨rfl,rfl⟩,st',λb hb=>(hf b hb).1⟩⟩
  rw[Int.mul_one]
 done:=by
  intro X hP hw hK hc i pins s σ H E I hf st hg
  subst hP hw hK
  obtain⟨f0,f1,f2,f3,f4,f5⟩:=hf it (by simp)
  exact wpAny_pyNext_range_end (I.ok.hd hc) st (by have:n≤i:=hg;omega) λh' eb=> ⟨rfl,I.turned (t' :=s.toks) (λb o hb e=>eb b o hb e) f0 f1 f3 f4 f5⟩
 self:=λ_ _ _ _ _ st h=>wpAny_pyIter_rangeiter st h
section
variable{X:Cx}{tg:Expr}
theorem lA{pins:List (Addr×Obj)}{σ:St}{H:Hp}{s:Shared}{R:It→Hp→Prop}{E:Value→Shared→Prop}{lo hi:Int}{t u v:Tok}{tk:Nat}(I:Inv X pins σ H s)(h1: -(2^62)≤lo)(h2:lo<2^62)(h3: -(2^62)≤hi)(h4:hi<2^62)
  (q:R (Itr lo (hi -lo).toNat) H):wpAny (model X.prog X.w) X.A (pyIter (.ref s.heap.objs.size)) (PIE X pins σ tg R) E {s with heap:=s.heap.push {cls:= .type "range",data:= .fields #[.int lo t,.int hi u,.int 1 v]},toks:=tk}:=by
 refine wpAny_pyIter_range (IsRange.new ..) (small_one h1 h2 h3 h4) ?_
 have I1:Inv X pins σ H {s with heap:=s.heap.push {cls:= .type "range",data:= .fields #[.int lo t,.int hi u,.int 1 v]},toks:=tk}:=I.kept λb o e=>Gaj _ e
 refine⟨(s.heap.push {cls:= .type "range",data:= .fields #[.int lo t,.int hi u,.int 1 v]}).objs.size,[(s.heap.push {cls:= .type "range",data:= .fields #[.int lo t,.int hi u,.int 1 v]}).objs.size],_,_,H,rfl,
  I1.kept (t' :=tk) λb o e=>Gaj _ e,Aw _ lo (hi -lo).toNat, ?_,λb hb=> ?_,q⟩
 ·have e1:lo+((0:Nat):Int)*1=lo:=by simp
  have e2:(((hi -lo).toNat:Nat):Int)-((0:Nat):Int)=Builtin.Range.rangeSize lo hi 1:=by rw[rangeSize_one];split<;>omega
  show IsRangeIter _ _ (lo+((0:Nat):Int)*1) ((((hi -lo).toNat:Nat):Int)-((0:Nat):Int)) 1
  rw[e1,e2]
  exact GaC _ rfl
 ·have e:b=(s.heap.push {cls:= .type "range",data:= .fields #[.int lo t,.int hi u,.int 1 v]}).objs.size:=by simpa using hb
  subst e
  exact I1.Cu (Gap _) (I1.hok.fresh (Gap _))
noncomputable def Lv(ta:TA):TI:=λσ H R=>ta σ H λvs H1=>∃j:Int,vs=[.int j]∧-(2^62)≤j∧j<2^62∧R (Itr 0 j.toNat) H1
noncomputable def Lw(ta:TA):TI:=λσ H R=>ta σ H λvs H1=>∃i j:Int,vs=[.int i,.int j]∧(-(2^62)≤i∧i<2^62∧-(2^62)≤j∧j<2^62)∧R (Itr i (j -i).toNat) H1
theorem Cw{a:Expr}{ta:TA}{p pos:Pos}(hg:Gl X "range")(hm:X.mg "range"=none)(ha:PA X [a] ta)(hs:starEach [a] X.env=[(false,eval a X.env)]:=by rfl):PI X tg (.Call (.Name "range" p) [a] [] pos) (Lv ta):=by
 intro pins s σ H R I h
 refine Call_ (nC I hg hm boot_range (GbS (thn (ha pos pins s σ H _ I h) λus s1 ⟨vs,H1,I1,r1,q1⟩=> ?_) hs rfl))
 obtain⟨j,e,q1,q2,q⟩:=q1
 subst e
 cases r1 with
 |cons r rr=>
  cases rr
  obtain⟨t,rfl⟩:=r
  exact call_range_1 (lA I1 (by omega) (by omega) q1 q2 (by simpa using q))
theorem Cy{a b:Expr}{ta:TA}{p pos:Pos}(hg:Gl X "range")(hm:X.mg "range"=none)(ha:PA X [a,b] ta)(hs:starEach [a,b] X.env=[(false,eval a X.env),(false,eval b X.env)]:=by rfl)(hs2:starEach [b] X.env=[(false,eval b X.env)]:=by rfl):
  PI X tg (.Call (.Name "range" p) [a,b] [] pos) (Lw ta):=by
 intro pins s σ H R I h
 refine Call_ (nC I hg hm boot_range (GbS (thn (ha pos pins s σ H _ I h) λus s1 ⟨vs,H1,I1,r1,q1⟩=> ?_) (by rw[hs,hs2]) (by rw[hs2];rfl)))
 obtain⟨i,j,e,⟨q1,q2,q3,q4⟩,q⟩:=q1
 subst e
 cases r1 with
 |cons r rr=>
  cases rr with
  |cons r' rr=>
   cases rr
   obtain⟨t,rfl⟩:=r
   obtain⟨t',rfl⟩:=r'
   exact call_range_2 (lA I1 q1 q2 q3 q4 q)
noncomputable def NU(wi:TI)(g:TG)(tb:TS):TS:=λD σ H=>wi σ H λJ H1=>∃W:Nat→Nat→St→Hp→Prop,(∃m,W 0 m σ H1)∧∀i m σ H,W i m σ H→
 (J.stop i H∧D.nx σ H)∨(J.go i H∧∃N:St→Hp→Prop,(∀σ' H',N σ' H' →∃m',m' <m∧W (i+1) m' σ' H')∧∀x H',J.yld i H x H' →g x σ H' λσ2 H2=>tb {D with nx:=N,ct:=N,bk:=D.nx} σ2 H2)
noncomputable def qU(fp:List Addr)(h:Heap):List (Addr×Obj):=fp.filterMap λb=>(h.get? b).map λo=>(b,o)
theorem kq{fp:List Addr}{h:Heap}{b:Addr}{o:Obj}(hb:b∈fp)(e:h.get? b=some o):(b,o)∈qU fp h:=List.mem_filterMap.mpr ⟨b,hb,by rw[e];rfl⟩
theorem Cz{fp:List Addr}{h:Heap}{p:Addr×Obj}(hp:p∈qU fp h):p.1∈fp∧h.get? p.1=some p.2:=by
 obtain⟨b,hb,e⟩:=List.mem_filterMap.mp hp
 cases q:h.get? b with
 |none=>rw[q] at e;cases e
 |some o=>
  rw[q] at e
  have e' :(b,o)=p:=Option.some.inj e
  subst e'
  exact⟨hb,q⟩
theorem Inv.pinned{pins:List (Addr×Obj)}{σ:St}{H:Hp}{s:Shared}{fp:List Addr}(I:Inv X pins σ H s)(hf:∀b∈fp,nD X pins H b)(ho:∀b∈fp,∃o,s.heap.get? b=some o∧∀v,o.data≠ .cell v):Inv X (pins++qU fp s.heap) σ H s:=
 I.Bt λp hp=>(Gaw.mp hp).elim (λz=>I.pin p (GaY _ z)) λz=>by
  obtain⟨hb,e⟩:=Cz z
  obtain⟨f0,f1,f2,_⟩:=hf p.1 hb
  obtain⟨o,e',d⟩:=ho p.1 hb
  rw[e] at e';cases e'
  exact⟨e,f0,f1,f2,d⟩
theorem Inv.nR{pins pl:List (Addr×Obj)}{σ:St}{H:Hp}{s:Shared}(I:Inv X (pins++pl) σ H s):Inv X pins σ H s:=I.Bt λp hp=>I.pin p (GaY _ (GbW _ hp))
theorem E9{iter:Expr}{body:List Stmt}{wi:TI}{g:TG}{tb:TS}{pos:Pos}(hp:PassesOwn (model X.prog X.w) X.A X.env X.xe)(hc:X.calm=true)(hi:PI X tg iter wi)(hg:PG X tg g)(hb:PSs X body tb)
  (hs:∀x,foldedSetIterable iter X.env x=pure x:=by intro _;rfl):PS X (.For tg iter body [] pos) (NU wi g tb):=by
 intro pins s σ H D I h
 refine wpAny_For (thn (hi pins s σ H _ I h) λv s1 h1=>thn h1 λitv s2 h2=> ?_) hs
 obtain⟨it,fp,tn,J,H2,e,I2,T,st2,f2,W,⟨m0,w0⟩,turn⟩:=h2
 subst e
 have stat:∀{H' :Hp},(∀b∈fp,H' b=none)→∀b∈fp,nD X pins H' b:=λhn b hb=> ⟨hn b hb,(f2 b hb).2⟩
 refine codeAny_forLoop_any (λn s' =>∃i σ' H',Inv X pins σ' H' s' ∧tn i s'.heap∧(∀b∈fp,H' b=none)∧W i n σ' H') ?_ m0 ⟨0,σ,H2,I2,st2,λb hb=>(f2 b hb).1,w0⟩
 rintro n s3 ⟨i,σ3,H3,I3,st3,fr3,w3⟩
 rcases turn i n σ3 H3 w3 with⟨stop,qn⟩| ⟨go,N,hN,step⟩
 ·refine GbU hp (thn (T.done X rfl rfl rfl hc i pins s3 σ3 H3 X.xe I3 (stat fr3) st3 stop) λr s4 ⟨hr,I4⟩=> ?_)
  subst hr
  exact Gdl ⟨σ3,H3,I4,qn⟩
 ·refine GbU hp (thn (T.item X rfl rfl rfl hc i pins s3 σ3 H3 X.xe I3 (stat fr3) st3 go) λr s4 ⟨u,hr,h4⟩=> ?_)
  subst hr
  refine GbU hp (thn h4 λ_ s5 ⟨x,H5,I5,r5,y5,st5,fr5⟩=> ?_)
  have I5' :=I5.pinned (stat fr5) (T.obj _ _ st5)
  refine GbU hp (thn (hg _ s5 σ3 H5 x u _ I5' r5 (step x H5 y5)) λ_ s6 ⟨σ6,H6,I6,q6⟩=> ?_)
  refine GbU hp (thn (hb _ s6 σ6 H6 _ I6 q6) λf s7 q7=> ?_)
  have again:∀{σ7:St} {H7:Hp},Inv X (pins++qU fp s5.heap) σ7 H7 s7→N σ7 H7→∃m,m<n∧∃i σ' H',Inv X pins σ' H' s7∧tn i s7.heap∧(∀b∈fp,H' b=none)∧W i m σ' H' :=λ{σ7 H7} I7 n7=>by
   obtain⟨m',hm,w7⟩:=hN σ7 H7 n7
   refine⟨m',hm,i+1,σ7,H7,I7.nR,T.keep _ _ _ st5 λb hb o e=>(I7.pin (b,o) (GaY _ (GaY _ (kq hb e)))).1,λb hb=> ?_,w7⟩
   obtain⟨o,e,d⟩:=T.obj _ _ st5 b hb
   exact(I7.pin (b,o) (GaY _ (GaY _ (kq hb e)))).2.1
  cases f with
  |next=>obtain⟨σ7,H7,I7,n7⟩:=q7;exact again I7 n7
  |cont=>obtain⟨σ7,H7,I7,n7⟩:=q7;exact again I7 n7
  |brk=>obtain⟨σ7,H7,I7,q7⟩:=q7;exact⟨σ7,H7,I7.nR,q7⟩
  |ret v=>obtain⟨x7,σ7,H7,I7,r7,q7⟩:=q7;exact⟨x7,σ7,H7,I7.nR,r7,q7⟩
end
abbrev R2:=V→V→Hp→VK→Prop
def OpR(X:Cx)(f:Value→Value→Sem Value)(r:R2):Prop:=
 ∀(pins:List (Addr×Obj)) (s:Shared) (σ:St) (H:Hp) (x y:V) (v u:Value) (Q:VK),Inv X pins σ H s→RelV x v→RelV y u→r x y H Q→
  wpAny (model X.prog X.w) X.A (f v u) (EP X pins σ Q) X.xe s
def UnR(X:Cx)(f:Value→Sem Value)(r:V→Hp→VK→Prop):Prop:=
 ∀(pins:List (Addr×Obj)) (s:Shared) (σ:St) (H:Hp) (x:V) (v:Value) (Q:VK),Inv X pins σ H s→RelV x v→r x H Q→
  wpAny (model X.prog X.w) X.A (f v) (EP X pins σ Q) X.xe s
def i7(X:Cx)(f:Value)(r:List V→Hp→VK→Prop):Prop:=
 ∀(pins:List (Addr×Obj)) (s:Shared) (σ:St) (H:Hp) (xs:List V) (us:List Value) (Q:VK),Inv X pins σ H s→Vals xs us→r xs H Q→
  wpAny (model X.prog X.w) X.A (call f us) (EP X pins σ Q) X.xe s
noncomputable def tOp(r:R2)(ta tb:TE):TE:=λσ H Q=>ta σ H λx H1=>tb σ H1 λy H2=>r x y H2 Q
noncomputable def tUn(r:V→Hp→VK→Prop)(ta:TE):TE:=λσ H Q=>ta σ H λx H1=>r x H1 Q
noncomputable def rI(C:Int→Int→Prop)(g:Int→Int→V):R2:=λx y H Q=>∃i j,x= .int i∧y= .int j∧C i j∧Q (g i j) H
noncomputable def rI0(g:Int→Int→V):R2:=λx y H Q=>∃i j,x= .int i∧y= .int j∧Q (g i j) H
def rU(g:Int→V):V→Hp→VK→Prop:=λx H Q=>∃i,x= .int i∧Q (g i) H
section
variable{X:Cx}{a b c:Expr}{ta tb tc:TE}{pos:Pos}
theorem Jk(ha:PE X a ta)(hb:PE X b tb){pins:List (Addr×Obj)}{s:Shared}{σ:St}{H:Hp}{R:V→V→Hp→Prop}(I:Inv X pins σ H s)
  (h:ta σ H λx H1=>tb σ H1 λy H2=>R x y H2){Q:Value→Shared→Prop}{f:Value→Value→Sem Value}
  (hf:∀v u s2 x y H2,Inv X pins σ H2 s2→RelV x v→RelV y u→R x y H2→wpAny (model X.prog X.w) X.A (f v u) Q X.xe s2):
  wpAny (model X.prog X.w) X.A (eval a X.env) (λv s₁=>wpAny (model X.prog X.w) X.A (eval b X.env) (λu s₂=>wpAny (model X.prog X.w) X.A (f v u) Q X.xe s₂) X.xe s₁) X.xe s:=by
 refine thn (ha pins s σ H _ I h) λv s1 ⟨x,H1,I1,r1,q1⟩=> ?_
 refine thn (hb pins s1 σ H1 _ I1 q1) λu s2 ⟨y,H2,I2,r2,q2⟩=> ?_
 exact hf v u s2 x y H2 I2 r1 r2 q2
theorem Lx{op:Operator}{r:R2}(ho:OpR X (binaryOp op) r)(ha:PE X a ta)(hb:PE X b tb):PE X (.BinOp a op b pos) (tOp r ta tb):=by
 intro pins s σ H Q I h
 exact wpAny_BinOp (Jk ha hb I h λv u s2 x y H2 I2 rx ry q=>ho pins s2 σ H2 x y v u Q I2 rx ry q)
theorem Ly{op:UnaryOp}{r:V→Hp→VK→Prop}(ho:UnR X (unaryOp op) r)(ha:PE X a ta):PE X (.UnaryOp op a pos) (tUn r ta):=by
 intro pins s σ H Q I h
 exact UnaryOp_ (thn (ha pins s σ H _ I h) λv s1 ⟨x,H1,I1,r1,q1⟩=>ho pins s1 σ H1 x v Q I1 r1 q1)
theorem opI{f:Value→Value→Sem Value}{C:Int→Int→Prop}{g:Int→Int→Int}
  (rule:∀(i j:Int) (t u:Tok) (s:Shared) (Q:Value→Shared→Prop) (E:Value→Shared→Prop),C i j→Q (.int (g i j) s.toks) {s with toks:=s.toks+1}→wpAny (model X.prog X.w) X.A (f (.int i t) (.int j u)) Q E s):
  OpR X f (rI C λi j=> .int (g i j)):=by
 intro pins s σ H x y v u Q I rx ry h
 obtain⟨i,j,rfl,rfl,hc,q⟩:=h
 obtain⟨t,rfl⟩:=rx
 obtain⟨t',rfl⟩:=ry
 exact rule i j t t' s _ _ hc ⟨.int (g i j),H,I.tok _,⟨_,rfl⟩,q⟩
theorem Lz{f:Value→Value→Sem Value}{g:Int→Int→Int}
  (rule:∀(i j:Int) (t u:Tok) (s:Shared) (Q:Value→Shared→Prop) (E:Value→Shared→Prop),Q (.int (g i j) s.toks) {s with toks:=s.toks+1}→wpAny (model X.prog X.w) X.A (f (.int i t) (.int j u)) Q E s):
  OpR X f (rI0 λi j=> .int (g i j)):=by
 intro pins s σ H x y v u Q I rx ry h
 obtain⟨i,j,rfl,rfl,q⟩:=h
 obtain⟨t,rfl⟩:=rx
 obtain⟨t',rfl⟩:=ry
 exact rule i j t t' s _ _ ⟨.int (g i j),H,I.tok _,⟨_,rfl⟩,q⟩
theorem Gv{f:Value→Value→Sem Value}{g:Int→Int→Bool}
  (rule:∀(i j:Int) (t u:Tok) (s:Shared) (Q:Value→Shared→Prop) (E:Value→Shared→Prop),Q (.bool (g i j)) s→wpAny (model X.prog X.w) X.A (f (.int i t) (.int j u)) Q E s):
  OpR X f (rI0 λi j=> .bl (g i j)):=by
 intro pins s σ H x y v u Q I rx ry h
 obtain⟨i,j,rfl,rfl,q⟩:=h
 obtain⟨t,rfl⟩:=rx
 obtain⟨t',rfl⟩:=ry
 exact rule i j t t' s _ _ ⟨.bl (g i j),H,I,rfl,q⟩
def LA(i j:Int):Prop:=0<j∧j<1073741824
def LB(i j:Int):Prop:=0≤j∧j≤1000000∧i.natAbs<2^64
def Gw(i j:Int):Prop:=(-(2^64)<i∧i<2^64)∨(-(2^64)<j∧j<2^64)
theorem Gw.ok{i j:Int}(h:Gw i j):IntMulOk i j:=by
 rcases h with⟨h1,h2⟩| ⟨h1,h2⟩
 ·exact .of_left (intBits_le_64 h1 h2)
 ·exact .of_right (intBits_le_64 h1 h2)
theorem Jl:OpR X (binaryOp .Add) (rI0 λi j=> .int (i+j)):=Lz λ_ _ _ _ _ _ _ q=>add_int q
theorem Jm:OpR X (binaryOp .Sub) (rI0 λi j=> .int (i -j)):=Lz λ_ _ _ _ _ _ _ q=>sub_int q
theorem Jn:OpR X (binaryOp .Mult) (rI Gw λi j=> .int (i*j)):=opI λ_ _ _ _ _ _ _ hc q=>mul_int q hc.ok
theorem Gx:OpR X (binaryOp .FloorDiv) (rI LA λi j=> .int (i/j)):=opI λi j _ _ _ _ _ hc q=>by
 have h1:(0:Int)<j:=hc.1
 have h2:j<1073741824:=hc.2
 exact floordiv_int (by omega) (by rw[Int.fdiv_eq_ediv_of_nonneg i (by omega)];exact q) (.inl (PyProof.noPylong_small (by omega)))
theorem Jo:OpR X (binaryOp .Mod) (rI (λ_ j=>0<j) λi j=> .int (i%j)):=opI λi j _ _ _ _ _ hc q=>by
 have h1:(0:Int)<j:=hc
 exact mod_int' (by omega) (by rw[Int.fmod_eq_emod_of_nonneg i (by omega)];exact q)
theorem Jp:OpR X (binaryOp .Pow) (rI LB λi j=> .int (i^j.toNat)):=opI λ_ _ _ _ _ _ _ hc q=>pow_int_small hc.1 hc.2.1 hc.2.2 q
theorem unI{f:Value→Sem Value}{g:Int→Int}
  (rule:∀(i:Int) (t:Tok) (s:Shared) (Q:Value→Shared→Prop) (E:Value→Shared→Prop),Q (.int (g i) s.toks) {s with toks:=s.toks+1}→wpAny (model X.prog X.w) X.A (f (.int i t)) Q E s):
  UnR X f (rU λi=> .int (g i)):=by
 intro pins s σ H x v Q I rx h
 obtain⟨i,rfl,q⟩:=h
 obtain⟨t,rfl⟩:=rx
 exact rule i t s _ _ ⟨.int (g i),H,I.tok _,⟨_,rfl⟩,q⟩
theorem Jq:UnR X (unaryOp .USub) (rU λi=> .int (-i)):=unI λ_ _ _ _ _ q=>neg_int q
end
section
variable{X:Cx}{a b c:Expr}{ta tb tc:TE}{pos:Pos}
theorem Ea{pins:List (Addr×Obj)}{σ:St}{H:Hp}{s:Shared}{Q:VK}{k k' :Bool}(I:Inv X pins σ H s)(q:Q (.bl k) H)(e:k=k'):EP X pins σ Q (.bool k') s:=by
 subst e
 exact⟨.bl k,H,I,rfl,q⟩
theorem lB:OpR X (compareOp .Lt) (rI0 λi j=> .bl (decide (i<j))):=Gv λ_ _ _ _ _ _ _ q=>lt_int q
theorem tP:OpR X (compareOp .LtE) (rI0 λi j=> .bl (decide (i≤j))):=Gv λ_ _ _ _ _ _ _ q=>le_int q
theorem mO:OpR X (compareOp .Gt) (rI0 λi j=> .bl (decide (j<i))):=Gv λ_ _ _ _ _ _ _ q=>gt_int q
theorem LC:OpR X (compareOp .GtE) (rI0 λi j=> .bl (decide (j≤i))):=Gv λ_ _ _ _ _ _ _ q=>ge_int q
theorem qV:OpR X (compareOp .Is) (λx y H Q=>y= .non∧Q (.bl (decide (x= .non))) H):=by
 intro pins s σ H x y v u Q I rx ry h
 obtain⟨rfl,q⟩:=h
 cases ry
 refine is_none_gen (Ea I q ?_)
 cases x<;>first
  |(cases rx;rfl)
  |(obtain⟨t,rfl⟩:=rx;rfl)
theorem uJ:OpR X (compareOp .IsNot) (λx y H Q=>y= .non∧Q (.bl (!decide (x= .non))) H):=by
 intro pins s σ H x y v u Q I rx ry h
 obtain⟨rfl,q⟩:=h
 cases ry
 refine isnot_none_gen (Ea I q ?_)
 cases x<;>first
  |(cases rx;rfl)
  |(obtain⟨t,rfl⟩:=rx;rfl)
theorem OpR.or{f:Value→Value→Sem Value}{r r' :R2}(h:OpR X f r)(h' :OpR X f r'):OpR X f (λx y H Q=>r x y H Q∨r' x y H Q):=by
 intro pins s σ H x y v u Q I rx ry q
 rcases q with q|q
 ·exact h pins s σ H x y v u Q I rx ry q
 ·exact h' pins s σ H x y v u Q I rx ry q
theorem aK(b:Expr){op:CmpOp}(h:op≠ .In:=by decide)(h2:op≠ .NotIn:=by decide):behindInMarks op b=false:=by
 have e1:(op==CmpOp.In)=false:=by cases op<;>first|rfl|exact absurd rfl h
 have e2:(op==CmpOp.NotIn)=false:=by cases op<;>first|rfl|exact absurd rfl h2
 cases b<;>simp[behindInMarks,e1,e2]
theorem Gy{op:CmpOp}{r:R2}(ho:OpR X (compareOp op) r)(ha:PE X a ta)(hb:PE X b tb)(hm:behindInMarks op b=false):PE X (.Compare a [op] [b] pos) (tOp r ta tb):=by
 intro pins s σ H Q I h
 exact wpAny_Compare1 (Jk ha hb I h λv u s2 x y H2 I2 rx ry q=>ho pins s2 σ H2 x y v u Q I2 rx ry q) hm
noncomputable def IH(t:TE):TT:=λσ H Q=>t σ H λx H' =>∃k,x= .bl k∧Q k H'
theorem Gz{op:CmpOp}{r:R2}(ho:OpR X (compareOp op) r)(ha:PE X a ta)(hb:PE X b tb)(hm:behindInMarks op b=false):PT X (.Compare a [op] [b] pos) (IH (tOp r ta tb)):=by
 intro pins s σ H Q I h
 refine wpAny_isTrue_Compare1 (thn (ha pins s σ H _ I h) λv s1 ⟨x,H1,I1,r1,q1⟩=>thn (hb pins s1 σ H1 _ I1 q1) λu s2 ⟨y,H2,I2,r2,q2⟩=>
  thn (ho pins s2 σ H2 x y v u _ I2 r1 r2 q2) λc s3 ⟨z,H3,I3,r3,k,e,q3⟩=> ?_) hm
 subst e
 cases r3
 exact GbC ⟨H3,I3,q3⟩
noncomputable def Jr(r r' :R2)(ta tb tc:TE):TE:=λσ H Q=>ta σ H λx H1=>tb σ H1 λy H2=>r x y H2 λz H3=>∃k,z= .bl k∧
 (if k=true then tc σ H3 λw' H4=>r' y w' H4 Q else Q (.bl false) H3)
theorem Eb{op op' :CmpOp}{r r' :R2}(ho:OpR X (compareOp op) r)(ho' :OpR X (compareOp op') r')(ha:PE X a ta)(hb:PE X b tb)(hc:PE X c tc)
  (hm:lastMarks [op,op'] [b,c]=false:=by with_unfolding_all rfl):PT X (.Compare a [op,op'] [b,c] pos) (IH (Jr r r' ta tb tc)):=by
 intro pins s σ H Q I h
 refine isTrue_chain (thn (ha pins s σ H _ I h) λv s1 ⟨x,H1,I1,r1,q1⟩=>test_link (thn (hb pins s1 σ H1 _ I1 q1) λu s2 ⟨y,H2,I2,r2,q2⟩=>
  thn (ho pins s2 σ H2 x y v u _ I2 r1 r2 q2) λd s3 ⟨z,H3,I3,r3,k,e,q3⟩=> ?_)) hm
 subst e
 cases r3
 refine GbC ?_
 cases k with
 |false=>
  obtain⟨k',e',q'⟩:=q3
  cases e'
  exact ite_ff ⟨H3,I3,q'⟩
 |true=>
  refine ite_tt (test_last (thn (hc pins s3 σ H3 _ I3 q3) λw' s4 ⟨z',H4,I4,r4,q4⟩=>thn (ho' pins s4 σ H4 y z' u w' _ I4 r2 r4 q4) λd' s5 ⟨z2,H5,I5,r5,k2,e2,q5⟩=> ?_))
  subst e2
  cases r5
  exact GbC ⟨H5,I5,q5⟩
theorem qW:(sizeLine:Nat)<2^63:=by rw[Gbz];decide
theorem Ax:OpR X (binaryOp .Add) (λx y H Q=>∃i j,x= .str i∧y= .str j∧i.length+j.length≤sizeLine∧Q (.str (i++j)) H):=by
 intro pins s σ H x y v u Q I rx ry h
 obtain⟨i,j,rfl,rfl,hz,q⟩:=h
 obtain⟨t,rfl⟩:=rx
 obtain⟨t',rfl⟩:=ry
 exact add_str (λt' tk=> ⟨.str (i++j),H,I.tok _,⟨_,rfl⟩,q⟩) hz
theorem vals1{x:V}{us:List Value}(r:Vals [x] us):∃u,us=[u]∧RelV x u:=by
 cases r with
 |cons r1 r2=>cases r2;exact⟨_,rfl,r1⟩
theorem vals2{x y:V}{us:List Value}(r:Vals [x,y] us):∃u w',us=[u,w']∧RelV x u∧RelV y w' :=by
 cases r with
 |cons r1 r2=>
  cases r2 with
  |cons r3 r4=>cases r4;exact⟨_,_,rfl,r1,r3⟩
theorem CA(hc:X.calm=true):i7 X (.builtin "max") (λxs H Q=>∃i j,xs=[.int i,.int j]∧Q (.int (if j>i then j else i)) H):=by
 intro pins s σ H xs us Q I r h
 obtain⟨i,j,rfl,q⟩:=h
 obtain⟨u,w',rfl,⟨t,rfl⟩,⟨t',rfl⟩⟩:=vals2 r
 refine max_two_ints (I.ok.hd hc) λh' tk k=> ⟨_,H,I.kept k, ?_,q⟩
 by_cases hj:j>i
 ·rw[Gaf hj,Gaf hj];exact⟨_,rfl⟩
 ·rw[Gah hj,Gah hj];exact⟨_,rfl⟩
theorem tQ(hc:X.calm=true):i7 X (.builtin "min") (λxs H Q=>∃i j,xs=[.int i,.int j]∧Q (.int (if j<i then j else i)) H):=by
 intro pins s σ H xs us Q I r h
 obtain⟨i,j,rfl,q⟩:=h
 obtain⟨u,w',rfl,⟨t,rfl⟩,⟨t',rfl⟩⟩:=vals2 r
 refine min_two_ints (I.ok.hd hc) λh' tk k=> ⟨_,H,I.kept k, ?_,q⟩
 by_cases hj:j<i
 ·rw[Gaf hj,Gaf hj];exact⟨_,rfl⟩
 ·rw[Gah hj,Gah hj];exact⟨_,rfl⟩
def LD(K:PySem.W.Frag)(x:V)(H:Hp)(n:Nat):Prop:=
 match x with
 | .str y=>y.length≤sizeLine∧n=y.length
 | .byt y=>y.size≤sizeLine∧n=y.size
 | .ref p=>(∃xs,SqL K H p xs∧n=xs.length)∨∃xs,SqT K H p xs∧n=xs.length
 |_=>False
theorem cT:i7 X (.builtin "len") (λxs H Q=>∃x n,xs=[x]∧LD X.K x H n∧Q (.int n) H):=by
 intro pins s σ H xs us Q I r h
 obtain⟨x,n,rfl,e,q⟩:=h
 obtain⟨u,rfl,rx⟩:=vals1 r
 have hl:=qW
 have hs:sizeLine=16777216:=Gbz
 cases x with
 |str y=>
  obtain⟨t,rfl⟩:=rx
  obtain⟨hy,e'⟩:y.length≤sizeLine∧n=y.length:=e
  subst e'
  exact len_str (by omega) ⟨.int _,H,I.tok _,⟨_,rfl⟩,q⟩
 |byt y=>
  obtain⟨t,rfl⟩:=rx
  obtain⟨hy,e'⟩:y.size≤sizeLine∧n=y.size:=e
  subst e'
  exact PySem.W.len_bytes (by omega) ⟨.int _,H,I.tok _,⟨_,rfl⟩,q⟩
 |ref p=>
  cases rx
  have e' :(∃xs,SqL X.K H p xs∧n=xs.length)∨∃xs,SqT X.K H p xs∧n=xs.length:=e
  rcases e' with⟨xs,hx,e'⟩| ⟨xs,hx,e'⟩
  ·subst e'
   obtain⟨its,r',pl,hz⟩:=I.list hx
   have hlen:=r'.length
   exact Calls.call_len_list pl.isList (by simp only[Gam];omega) ⟨.int xs.length,H,I.tok _,⟨_,by simp only[Gam];rw[hlen]⟩,q⟩
  ·subst e'
   obtain⟨its,r',pl,hz⟩:=I.tuple hx
   have hlen:=r'.length
   exact len_tuple pl (by simp only[Gam];omega) ⟨.int xs.length,H,I.tok _,⟨_,by simp only[Gam];rw[hlen]⟩,q⟩
 |_=>exact(show False from e).elim
end
structure Js(h:Heap)(x dx C:Addr)(mA:Str→Option Value):Prop where
 obj:h.get? x=some (PySem.W.instObj C dx)
 ns:h.Ns1 dx mA
 ne:dx≠x
theorem CB{h:Heap}{dx:Addr}{mA:Str→Option Value}(n:h.Ns1 dx mA):∃od,h.get? dx=some od∧∀name,PySem.W.lookIn name od=some (mA name):=by
 obtain⟨o,es,ep,ho,hd,hk,_,hm⟩:=n
 refine⟨o,ho,λname=> ?_⟩
 have e:=hm name
 unfold nsFind findBy at e
 rw[←Array.find?_toList] at e
 unfold PySem.W.lookIn
 rw[hd]
 dsimp only
 split
 ·rename_i y q
  rw[q] at e
  exact congrArg some e
 ·rename_i q
  rw[q] at e
  have a:es.toList.any (·.refKey)=false:=by
   rw[List.any_eq_false]
   intro y hy
   obtain⟨z,t,hkey⟩:=hk y (Array.mem_toList_iff.mp hy)
   simp[DictEntry.refKey,hkey]
  have a' :¬es.toList.any (·.refKey)=true:=by rw[a];exact Gaz
  rw[Gah a']
  exact congrArg some e
theorem Js.look{h:Heap}{x dx C:Addr}{mA:Str→Option Value}(I:Js h x dx C mA):∃od,PySem.W.InstAt h x (PySem.W.instObj C dx) C (some od)∧∀name,PySem.W.lookIn name od=some (mA name):=
 let⟨od,ho,hl⟩:=CB I.ns
 ⟨od,⟨I.obj,rfl,rfl,ho⟩,hl⟩
theorem oX.some_of{v:V}{o:Option Value}(r:oX (some v) o):∃u,o=some u∧RelV v u:=by
 cases o with
 |none=>exact(show False from r).elim
 |some u=>exact⟨u,rfl,r⟩
section
variable{P:Program}{w:World}{H H' :Hp}{h h' :Heap}{a C dx:Addr}{fs fs' :List (Str×V)}
theorem GA(hok:HOk P w H h)(e:H a=some (.ins C dx fs)):∃mA,Js h a dx C mA∧(∀f,oX (fs.lookup f) (mA f))∧PySem.Within mA (fs.map (·.1))∧fs.length≤1000∧H dx=some (.own a):=by
 obtain⟨d,z,ne,ob,mA,n,r,q⟩:=(show cC P w H h a (.ins C dx fs) from hok a _ e)
 exact⟨mA,⟨ob,n,ne⟩,r,q,z,d⟩
end
structure Cls(K:PySem.W.Frag)(C:Addr):Prop where
 pg:PySem.W.plainGet K C Str.empty=true
 hd:PySem.W.hasDictIn K C=true
 po:PySem.W.plainOver K C=true
 sa:PySem.W.findIn K (.ref C) "__setattr__"=some (some (.builtin "object.__setattr__"))
theorem Cls.get{K:PySem.W.Frag}{C:Addr}(c:Cls K C)(f:Str):PySem.W.plainGet K C f=true:=c.pg
section
variable{X:Cx}{pins:List (Addr×Obj)}{σ:St}{H:Hp}{s:Shared}{A:Around}{E:Value→Shared→Prop}{Q:Value→Shared→Prop}{c:Value}{b:Bool}
inductive nE(K:PySem.W.Frag)(H:Hp):V→Value→Prop where
 |non:nE K H .non (.type "NoneType")
 |bl (x:Bool):nE K H (.bl x) (.type "bool")
 |int (i:Int):nE K H (.int i) (.type "int")
 |str (x:Str):nE K H (.str x) (.type "str")
 |flt (x:UInt64):nE K H (.flt x) (.type "float")
 |lst {a:Addr} {xs:List V} (e:H a=some (.lst xs)):nE K H (.ref a) (.type "list")
 |frz {a:Addr} {o:Obj} {xs:List V} (e:H a=some (.frz o (.lst xs))):nE K H (.ref a) (.type "list")
 |tup {a:Addr} {xs:List V} (e:H a=some (.tup xs)):nE K H (.ref a) (.type "tuple")
 |dK {a:Addr} {kvs:List (Key×V)} (e:H a=some (.dK kvs)):nE K H (.ref a) (.type "dict")
 |dT {a:Addr} {kvs:List (List Key×V)} (e:H a=some (.dT kvs)):nE K H (.ref a) (.type "dict")
 |ins {a C dx:Addr} {fs:List (Str×V)} (e:H a=some (.ins C dx fs)) (cl:Cls K C) (ha:PySem.W.findIn K (.ref C) "__class__"=some (some (.builtin "object.__class__")))
   (hn:PySem.W.specialIn K (.builtin "object.__class__") "__get__"=some (some (.builtin "getset_descriptor.__get__"))) (htk:PySem.W.takesIn K (.builtin "object.__class__")=some true)
   (hm:PySem.W.mroIn K C (.type "object")=some true):nE K H (.ref a) (.ref C)
theorem CD{x:V}{u t:Value}(I:Inv X pins σ H s)(rx:RelV x u)(ty:nE X.K H x t)(e:PySem.W.kitOne X.K t c=some b)(h:∀tk,Q (.bool b) {s with toks:=tk}):
  wpAny (model X.prog X.w) A (call (.builtin "isinstance") [u,c]) Q E s:=by
 cases ty with
 |non=>cases(show u=Value.none from rx);exact Gbm PySem.W.kitx_none I.kIn True.intro e (λz=>nomatch z) h
 |bl y=>cases(show u=Value.bool y from rx);exact Gbm PySem.W.kitx_bool I.kIn True.intro e (λz=>nomatch z) h
 |int i=>obtain⟨t,q⟩:=(show∃t,u=Value.int i t from rx);cases q;exact Gbm PySem.W.kitx_int I.kIn True.intro e (λz=>nomatch z) h
 |str y=>obtain⟨t,q⟩:=(show∃t,u=Value.str y t from rx);cases q;exact Gbm PySem.W.kitx_str I.kIn True.intro e (λz=>nomatch z) h
 |flt y=>obtain⟨t,q⟩:=(show∃t,u=Value.float y t from rx);cases q;exact Gbm PySem.W.kitx_float I.kIn True.intro e (λz=>nomatch z) h
 | @lst a xs ea=>
  cases(show u=Value.ref a from rx)
  obtain⟨_,_,n,_,h1⟩:=(show cC X.prog X.w H s.heap a (.lst xs) from I.hok a _ ea)
  exact Gbm PySem.W.kitx_list I.kIn ⟨_,h1,rfl⟩ e (λz=>nomatch z) h
 | @frz a ob xs ea=>
  cases(show u=Value.ref a from rx)
  obtain⟨_,_,_,n,_,h1⟩:=(show cC X.prog X.w H s.heap a (.frz ob (.lst xs)) from I.hok a _ ea)
  exact Gbm PySem.W.kitx_list I.kIn ⟨_,h1,rfl⟩ e (λz=>nomatch z) h
 | @tup a xs ea=>
  cases(show u=Value.ref a from rx)
  obtain⟨_,_,_,p⟩:=(show cC X.prog X.w H s.heap a (.tup xs) from I.hok a _ ea)
  obtain⟨o,h1,h2,_⟩:=p
  exact Gbm PySem.W.kitx_tuple I.kIn ⟨o,h1,h2⟩ e (λz=>nomatch z) h
 | @dK a kvs ea=>
  cases(show u=Value.ref a from rx)
  obtain⟨_,_,vs,_,p⟩:=(show cC X.prog X.w H s.heap a (.dK kvs) from I.hok a _ ea)
  obtain⟨o,es,ep,h1,h2,_⟩:=p
  exact Gbm PySem.W.kitx_dict I.kIn ⟨o,h1,h2.1⟩ e (λz=>nomatch z) h
 | @dT a kvs ea=>
  cases(show u=Value.ref a from rx)
  obtain⟨_,_,xs,_,o,es,ep,h1,h2,_⟩:=(show cC X.prog X.w H s.heap a (.dT kvs) from I.hok a _ ea)
  exact Gbm PySem.W.kitx_dict I.kIn ⟨o,h1,h2.1⟩ e (λz=>nomatch z) h
 | @ins a C dx fs ea cl ha hn htk hm=>
  cases(show u=Value.ref a from rx)
  obtain⟨mA,O,_⟩:=GA I.hok ea
  obtain⟨od,J,_⟩:=O.look
  exact Gbm (PySem.W.kitx_own (cl.get _) cl.hd ha hn htk hm) I.kIn J e (λz=>nomatch z) h
end
structure gU(k:Nat)(A:Around):Prop where
 hd:A.handled=none
 dp:A.depth+3*k+5<recursionLimit
 un:A.units+16*k+200<cLine
theorem gU.mono{j k:Nat}{A:Around}(r:gU k A)(h:j≤k):gU j A:=⟨r.hd,by have:=r.dp;omega,by have:=r.un;omega⟩
theorem gU.deeper{k:Nat}{A:Around}(r:gU (k+1) A)(env:Env):gU k (A.deeper env):=
 ⟨r.hd,by have:=r.dp;show A.depth+1+3*k+5<_;omega,by have:=r.un;show A.units+3+16*k+200<_;omega⟩
theorem Ay{A:Around}{C:Addr}{us:List Value}{kw:List (Str×Value)}:(A.under (.builtin "type.__call__" ⟨.ref C::us,kw⟩)).depth=A.depth+1:=by
 first|rfl|simp[Around.under,Code.weight,Code.isCreation,Code.isGuard,Code.isCaller,Code.frames,Code.isFrame,guardIds]
theorem Az{A:Around}{C:Addr}{us:List Value}{kw:List (Str×Value)}:(A.under (.builtin "type.__call__" ⟨.ref C::us,kw⟩)).units=A.units+1:=by
 first|rfl|simp[Around.under,Code.cUnits,Code.frames,Code.isFrame]
theorem gU.make{k:Nat}{A:Around}(r:gU (k+1) A)(C:Addr)(us:List Value)(kw:List (Str×Value)):gU k (A.under (.builtin "type.__call__" ⟨.ref C::us,kw⟩)):=
 ⟨r.hd,by have:=r.dp;rw[Ay];omega,by have:=r.un;rw[Az];omega⟩
theorem gU.depth{k:Nat}{A:Around}(r:gU k A):A.depth<recursionLimit:=by have:=r.dp;omega
theorem gU.units{k:Nat}{A:Around}(r:gU k A):A.units+64<cLine:=by have:=r.un;omega
noncomputable def NV:TA:=λ_ H Q=>Q [] H
noncomputable def LF(ta:TE)(tr:TA):TA:=λσ H Q=>ta σ H λx H1=>tr σ H1 λxs H2=>Q (x::xs) H2
section
variable{X:Cx}{e:Expr}{es:List Expr}{te:TE}{t:TA}{pos:Pos}
theorem AA:PA X [] NV:=λ_ _ _ _ H Q I h=>Calls.spliced_nil ⟨[],H,I,.nil,h⟩
theorem uK(ha:PE X e te)(hr:PA X es t)(hs:starEach (e::es) X.env=(false,eval e X.env)::starEach es X.env:=by rfl):PA X (e::es) (LF te t):=by
 intro pos pins s σ H Q I h
 rw[hs]
 show wpAny _ _ (spliced ((false,eval e X.env)::backTo pos (starEach es X.env))) _ _ s
 refine Gcl (thn (ha pins s σ H _ I h) λu s1 ⟨x,H1,I1,r1,q1⟩=> ?_)
 exact thn (hr pos pins s1 σ H1 _ I1 q1) λus s2 ⟨xs,H2,I2,r2,q2⟩=> ⟨x::xs,H2,I2,.cons r1 r2,q2⟩
noncomputable def NW(t:TA):TE:=λσ H Q=>t σ H λxs H1=>xs.length≤sizeLine∧∀p,H1 p=none→Q (.ref p) (upd H1 p (.tup xs))
noncomputable def NX(t:TA):TE:=λσ H Q=>t σ H λxs H1=>xs.length≤sizeLine∧∀p,H1 p=none→Q (.ref p) (upd H1 p (.lst xs))
theorem Jt{x1}(h:PA X es t):PE X (.Tuple es x1 pos) (NW t):=by
 intro pins s σ H Q I hq
 refine wpAny_Tuple_spliced (thn (h pos pins s σ H _ I hq) λus s1 ⟨xs,H1,I1,r,z,q⟩=> ⟨by rw[←r.length];exact z, ?_⟩)
 have hf:H1 s1.heap.objs.size=none:=I1.hok.fresh (Gap _)
 refine⟨.ref s1.heap.objs.size,upd H1 s1.heap.objs.size (.tup xs),I1.laid (t' :=s1.toks) (λb u e=>Gaj _ e) (Gap _) ?_,rfl,q _ hf⟩
 exact⟨z,us,r,⟨_,GaC _ rfl,rfl,_,rfl⟩⟩
theorem Ec(h:PA X es t):PE X (.List es pos) (NX t):=by
 intro pins s σ H Q I hq
 refine wpAny_List_spliced (thn (h pos pins s σ H _ I hq) λus s1 ⟨xs,H1,I1,r,z,q⟩=> ⟨by rw[←r.length];exact z, ?_⟩)
 have hf:H1 s1.heap.objs.size=none:=I1.hok.fresh (Gap _)
 refine⟨.ref s1.heap.objs.size,upd H1 s1.heap.objs.size (.lst xs),I1.laid (t' :=s1.toks) (λb u e=>Gaj _ e) (Gap _) ?_,rfl,q _ hf⟩
 exact⟨z,us,0,r,GaC _ rfl⟩
end
abbrev Sp:=List V→Hp→VK→XK→Prop
abbrev CXT:=List Env→Hp→Shared→XK→Value→Shared→Prop
structure AB(P:Program)(w:World)(K:PySem.W.Frag)(mg:Str→Option Value)(base:Heap)(A:Around)(outer:List Env)(s:Shared)(H:Hp):Prop where
 frames:A.frames=some outer
 mod:Mod K mg base
 bs:∀b o,base.get? b=some o→s.heap.get? b=some o∧H b=none
 bsz:base.objs.size≤s.heap.objs.size
 qC:s.heap.FunFrames base outer
 frf:∀b∈frs outer,H b=none
 hok:HOk P w H s.heap
 bare:AllBare s.gens
def CE(outer:List Env)(P:Program)(w:World)(H:Hp)(s:Shared)(Q:VK)(u:Value)(s' :Shared):Prop:=
 ∃v H',s'.os=s.os∧AllBare s'.gens∧Un (frs outer) [] H H' s.heap s'.heap∧HOk P w H' s'.heap∧RelV v u∧Q v H'
def CR(CX:CXT)(outer:List Env)(P:Program)(w:World)(H:Hp)(s:Shared)(Q:VK)(E:XK)(r:Result)(s' :Shared):Prop:=
 match r with
 | .ok (.ret u)=>CE outer P w H s Q u s'
 | .ok _=>False
 | .error e=>CX outer H s E e s'
structure cD(P:Program)(w:World)(K:PySem.W.Frag)(mg:Str→Option Value)(base:Heap)(CX:CXT)(k:Nat)(f:Addr)(fd:FuncData)(ps:List Str)(sp:Sp):Prop where
 len:∀vs H Q E,sp vs H Q E→vs.length=ps.length
 run:∀(A:Around) (outer:List Env) (s:Shared) (H:Hp) (args:Args) (us:List Value) (vs:List V) (Q:VK) (E:XK),gU k A→AB P w K mg base A outer s H→BindsTo s fd args (ps.zip us)→Vals vs us→sp vs H Q E→
  codeAny (model P w) A (.call (.ref f) args) (CR CX outer P w H s Q E) s
theorem cD.mono{P:Program}{w:World}{K:PySem.W.Frag}{mg:Str→Option Value}{base:Heap}{CX:CXT}{j k:Nat}{f:Addr}{fd:FuncData}{ps:List Str}{sp:Sp}(F:cD P w K mg base CX j f fd ps sp)(h:j≤k):
  cD P w K mg base CX k f fd ps sp:=⟨F.len,λA outer s H args us vs Q E hr=>F.run A outer s H args us vs Q E (hr.mono h)⟩
theorem cD.imp{P:Program}{w:World}{K:PySem.W.Frag}{mg:Str→Option Value}{base:Heap}{CX:CXT}{k:Nat}{f:Addr}{fd:FuncData}{ps:List Str}{sp sp' :Sp}(F:cD P w K mg base CX k f fd ps sp)
  (h:∀vs H Q E,sp' vs H Q E→sp vs H Q E):cD P w K mg base CX k f fd ps sp' :=
 ⟨λvs H Q E q=>F.len vs H Q E (h _ _ _ _ q),λA outer s H args us vs Q E hr he hb hv hs=>F.run A outer s H args us vs Q E hr he hb hv (h _ _ _ _ hs)⟩
theorem AB.make{P:Program}{w:World}{K:PySem.W.Frag}{mg:Str→Option Value}{base:Heap}{A:Around}{outer:List Env}{s:Shared}{H:Hp}(e:AB P w K mg base A outer s H)(C:Addr)(us:List Value)(kw:List (Str×Value)):
  AB P w K mg base (A.under (.builtin "type.__call__" ⟨.ref C::us,kw⟩)) outer s H:=⟨by first|exact e.frames|(simpa[Around.under,Code.envs,Code.isFrame,pushEnvs] using e.frames),e.mod,e.bs,e.bsz,e.qC,e.frf,e.hok,e.bare⟩
section
variable{X:Cx}{pins:List (Addr×Obj)}{σ:St}{H:Hp}{s s' :Shared}
theorem Inv.NY(I:Inv X pins σ H s):AB X.prog X.w X.K X.mg X.base X.A X.stack s H:=
 ⟨I.ok.frames,I.ok.mod,I.bs,Gbp I.ok.bsz I.sz,I.stack,I.Bs,I.hok,I.bare⟩
theorem Inv.after{Q:VK}{u:Value}(I:Inv X pins σ H s)(h:CE X.stack X.prog X.w H s Q u s'):EP X pins σ Q u s' :=by
 obtain⟨v,H',os,bare,un,hok,r,q⟩:=h
 obtain⟨hh,g,d,t,os'⟩:=s'
 obtain rfl:os' =s.os:=os
 exact⟨v,H',I.call (h' :=hh) (g' :=g) (d' :=d) (t' :=t) (ch:=[]) un hok bare (λb z=>absurd z (by simp)),r,q⟩
end
noncomputable def LH(sp:Sp)(dvs:List V)(E:XK)(t:TA):TE:=λσ H Q=>t σ H λvs H1=>sp (vs++dvs) H1 Q E
def Binds(K:PySem.W.Frag)(fd:FuncData)(ps:List Str)(ds:List Value):Prop:=
 ∀(s:Shared) (us:List Value),K.In s.heap→(us++ds).length=ps.length→BindsTo s fd ⟨us,[]⟩ (ps.zip (us++ds))
theorem Binds.all{K:PySem.W.Frag}{fd:FuncData}{ps:List Str}(h:∀us:List Value,us.length=ps.length→bindArgs fd ⟨us,[]⟩=pure (ps.zip us)):Binds K fd ps []:=λs us _ hl=>by
 rw[Gbh] at hl⊢
 exact .of_eq (h us hl)
def Passes(CX:CXT)(X:Cx)(E:XK):Prop:=∀(pins:List (Addr×Obj)) (σ:St) (H:Hp) (s:Shared) (e:Value) (s' :Shared),Inv X pins σ H s→CX X.stack H s E e s' →X.xe e s'
section
variable{X:Cx}{CX:CXT}{k:Nat}{f C:Addr}{fd:FuncData}{ps:List Str}{sp:Sp}{dvs:List V}{ds:List Value}{E:XK}{x m:Str}{p pos apos:Pos}{e o:Expr}{es:List Expr}{ta:TE}{t:TA}
theorem Ju{pins:List (Addr×Obj)}{σ:St}{H:Hp}{s:Shared}{Q:VK}{us:List Value}{vs:List V}(F:cD X.prog X.w X.K X.mg X.base CX k f fd ps sp)(hr:gU k X.A)(hb:Binds X.K fd ps ds)(hd:Vals dvs ds)(hx:Passes CX X E)
  (I:Inv X pins σ H s)(r:Vals vs us)(h:sp (vs++dvs) H Q E):wpAny (model X.prog X.w) X.A (call (.ref f) us) (EP X pins σ Q) X.xe s:=by
 have r2:Vals (vs++dvs) (us++ds):=r.append hd
 have hl:(us++ds).length=ps.length:=by rw[←r2.length];exact F.len _ _ _ _ h
 refine wpAny_call (codeAny_mono (F.run X.A X.stack s H ⟨us,[]⟩ (us++ds) (vs++dvs) Q E hr I.NY (hb s us I.kIn hl) r2 h) λr s' hq=> ?_)
 cases r with
 |error e=>exact hx pins σ H s e s' I hq
 |ok fl=>
  cases fl with
  |ret u=>exact I.after hq
  |next=>exact False.elim hq
  |brk=>exact False.elim hq
  |cont=>exact False.elim hq
theorem GB(F:cD X.prog X.w X.K X.mg X.base CX k f fd ps sp)(hr:gU k X.A)(hg:Gl X x)(hm:X.mg x=some (.ref f))(hk:PySem.W.keepIn X.K (.ref f)=true)(hb:Binds X.K fd ps ds)(hd:Vals dvs ds)(hx:Passes CX X E)
  (ha:PA X (e::es) t)(hdb:(x==("__debug__":Str))=false:=by decide)(he:starEach (e::es) X.env=(false,eval e X.env)::starEach es X.env:=by rfl)(hpl:(backTo pos (starEach es X.env)).any (·.1)=false:=by rfl):
  PE X (.Call (.Name x p) (e::es) [] pos) (LH sp dvs E t):=by
 intro pins s σ H Q I h
 refine GcM (Gp I hg hm ?_ hdb)
 refine PySem.W.callWith_K (h₀:=X.base) I.ok.mod.kin hk (thn (ha pos pins s σ H _ I h) λus s1 ⟨vs,H1,I1,r,q⟩=> ⟨I1.kIn, ?_⟩) he hpl
 exact Ju F hr hb hd hx I1 r q
end
structure aW(N P:List Str)(sc:Scope):Prop where
 kind:sc.kind= .function
 co:sc.isCoroutine=false
 gen:sc.isGenerator=false
 nd:N.Nodup
 pre:N.take P.length=P
 par:∀x∈P,sc.names.lookup x=some .local∨sc.names.lookup x=some .cell
 KZ:∀y∈sc.names,y.2≠ .free
theorem tR{kindOf:Str→Option NameKind}{x:Str}:∀{binds:List (Str×Value)} {m:Str→Option Value},(∀v,(x,v)∉binds)→bindL kindOf binds m x=m x
 |[],_,_=>rfl
 |(n,v)::r,m,h=>by
  unfold bindL
  rw[tR λw hw=>h w (Gag _ hw)]
  split
  ·have:x≠n:=by rintro rfl;exact h v Gan
   simp[this]
  ·rfl
theorem tU{kindOf:Str→Option NameKind}{x:Str}:∀{binds:List (Str×Value)} {m:Str→Option Value},(∀v,(x,v)∉binds)→bindC kindOf binds m x=m x
 |[],_,_=>rfl
 |(n,v)::r,m,h=>by
  unfold bindC
  rw[tU λw hw=>h w (Gag _ hw)]
  split
  ·rfl
  ·have:x≠n:=by rintro rfl;exact h v Gan
   simp[this]
theorem tV{kindOf:Str→Option NameKind}{x:Str}{v:Value}:∀{P:List Str} {vs:List Value} {i:Nat} {m:Str→Option Value},P.Nodup→P[i]? =some x→vs[i]? =some v→kindOf x=some .local→
  bindL kindOf (P.zip vs) m x=some v
 |[],_,_,_,_,h,_,_=>by simp at h
 |_::_,[],_,_,_,_,h,_=>by simp at h
 |p::P,w::vs,0,m,nd,h1,h2,hk=>by
  simp at h1 h2;subst h1;subst h2
  show bindL kindOf ((p,w)::P.zip vs) m p=_
  unfold bindL
  rw[tR λv hv=>(Gcm.mp nd).1 (List.of_mem_zip hv).1,Gaf hk]
  simp
 |p::P,w::vs,i+1,m,nd,h1,h2,hk=>by
  show bindL kindOf ((p,w)::P.zip vs) m x=_
  unfold bindL
  exact tV (i:=i) (Gcm.mp nd).2 (by simpa using h1) (by simpa using h2) hk
theorem tW{kindOf:Str→Option NameKind}{x:Str}{v:Value}:∀{P:List Str} {vs:List Value} {i:Nat} {m:Str→Option Value},P.Nodup→P[i]? =some x→vs[i]? =some v→kindOf x≠some .local→
  bindC kindOf (P.zip vs) m x=some v
 |[],_,_,_,_,h,_,_=>by simp at h
 |_::_,[],_,_,_,_,h,_=>by simp at h
 |p::P,w::vs,0,m,nd,h1,h2,hk=>by
  simp at h1 h2;subst h1;subst h2
  show bindC kindOf ((p,w)::P.zip vs) m p=_
  unfold bindC
  rw[tU λv hv=>(Gcm.mp nd).1 (List.of_mem_zip hv).1,Gah hk]
  simp
 |p::P,w::vs,i+1,m,nd,h1,h2,hk=>by
  show bindC kindOf ((p,w)::P.zip vs) m x=_
  unfold bindC
  exact tW (i:=i) (Gcm.mp nd).2 (by simpa using h1) (by simpa using h2) hk
noncomputable def start(N:List Str)(vs:List V):St:=vs.map some++List.replicate (N.length -vs.length) none
noncomputable def AD(CX:CXT)(P:Program)(w:World)(K:PySem.W.Frag)(mg:Str→Option Value)(base:Heap)(N:List Str)(qual:Str)(scope:Scope)(f:Addr)(cd:Value)(A:Around)(outer:List Env)(s:Shared)(H:Hp)(E:XK):Cx where
 prog:=P
 w:=w
 K:=K
 mg:=mg
 base:=base
 A:=A.deeper (envOfC qual scope s.heap.objs.size f cd)
 N:=N
 s₀:=s
 H₀:=H
 env:=envOfC qual scope s.heap.objs.size f cd
 outer:=outer
 stack:=envOfC qual scope s.heap.objs.size f cd::outer
 ex:=[]
 calm:=true
 fn:=λ_=>true
 pn:=[]
 xe:=λe s' =>wpAny (model P w) (A.deeper (envOfC qual scope s.heap.objs.size f cd)) (leaving (envOfC qual scope s.heap.objs.size f cd) e) (λ_ s'' =>CX outer H s E e s'') (λe' s'' =>CX outer H s E e' s'') s'
theorem vR{sc:Scope}{n:Nat}{x:Str}(h:sc.names.lookup x=some .cell):∃c,(cellsFrom n sc.names []).lookup x=some c:=by
 have q:=PySem.W.cellsFrom_some sc.names n [] (.inl h)
 exact Option.isSome_iff_exists.mp q
theorem CF{CX:CXT}{P:Program}{w:World}{K:PySem.W.Frag}{mg:Str→Option Value}{base:Heap}{N ps:List Str}{qual:Str}{scope:Scope}{f:Addr}{cd:Value}{A:Around}{outer:List Env}{s s1:Shared}{H:Hp}{E:XK}{us:List Value}{vs:List V}
  (S:aW N ps scope)(hd:A.handled=none)(e0:AB P w K mg base A outer s H)(hl:vs.length=ps.length)(r:Vals vs us)
  (x:InCallC s s.heap.objs.size (bindL (envOfC qual scope s.heap.objs.size f cd).kindOf (ps.zip us) λ_=>none) (cellsFrom (s.heap.objs.size+1) scope.names []) (bindC (envOfC qual scope s.heap.objs.size f cd).kindOf (ps.zip us) λ_=>none) s1):
  Inv (AD CX P w K mg base N qual scope f cd A outer s H E) [] (start N vs) H s1:=by
 have hpl:ps.length≤N.length:=by have:=congrArg List.length S.pre;rw[GcD] at this;omega
 obtain⟨h1,tk,rfl,hk⟩:=x.done
 have noA:∀b:Addr,b∉(AD CX P w K mg base N qual scope f cd A outer s H E).ex:=λb z=>absurd (show b∈([]:List Addr) from z) (by simp)
 refine⟨⟨e0.mod,S.kind,rfl,rfl,Gap _,λy z c h1 h2=> ?_,λy hy=> ?_,λy c _ h=> ?_,λ_=>hd,Around.frames_deeper e0.frames,.inr ⟨rfl,rfl⟩,λb z=>absurd z (noA b),e0.bs,e0.bsz,λb _ _=>noA b,λb z=>absurd z (noA b),e0.qC,e0.frf⟩,
  rfl,e0.bare,Un.kept hk,⟨_,x.toInCall.ns,λi y v h1 h2 h3=> ?_⟩,λy c h=> ⟨_,x.cell y c h⟩,e0.hok.fresh (Gap _),λy c h=> ?_,λp hp=>absurd (show p∈([]:List (Addr×Obj)) from hp) (by simp),e0.hok.kept hk, ?_⟩
 ·exact name_of_addr x.apart (PySem.mem_of_lookup h1) (PySem.mem_of_lookup h2)
 ·have hy:scope.names.lookup y=some .cell∨scope.names.lookup y=some .free:=hy
  rcases hy with hy|hy
  ·exact vR hy
  ·exact absurd rfl (S.KZ _ (PySem.mem_of_lookup hy))
 ·exact Gdk (x.above y c (PySem.mem_of_lookup h))
 ·have hi:i<vs.length:=by
   unfold start at h2
   by_cases hi:i<vs.length
   ·exact hi
   ·rw[GaJ (by simpa using hi)] at h2
    rw[Gch] at h2
    split at h2<;>cases h2
  have ha:vs[i]? =some v:=by
   unfold start at h2
   rw[GaR (by simpa using hi),Gal] at h2
   cases e:vs[i]? with
   |none=>rw[e] at h2;cases h2
   |some a=>rw[e] at h2;cases h2;rfl
  obtain⟨u,hu,rv⟩:=r.get ha
  have hp:ps[i]? =some y:=by
   rw[←S.pre,GaS (by omega)];exact h1
  have ndP:ps.Nodup:=by rw[←S.pre];exact S.nd.sublist (List.take_sublist _ _)
  refine⟨u,rv, ?_⟩
  rcases S.par y (GaF hp) with k|k
  ·exact .inl ⟨k,tV ndP hp hu k⟩
  ·obtain⟨c,e⟩:=vR (n:=s.heap.objs.size+1) k
   refine .inr ⟨.inl k,c,e, ?_⟩
   have q:=x.cell y c e
   rw[tW ndP hp hu (by show scope.names.lookup y≠_;rw[k];decide)] at q
   exact q
 ·exact e0.hok.fresh (Gdk (x.above y c (PySem.mem_of_lookup h)))
 ·unfold start
  show _=N.length
  rw[Gar,Gae,Gdh]
  omega
theorem LI{CX:CXT}{P:Program}{w:World}{K:PySem.W.Frag}{mg:Str→Option Value}{base:Heap}{k:Nat}{f:Addr}{name qual:Str}{params:Arguments}{body:List Stmt}{scope:Scope}{dV kV doc pm cdv ct oc:Value}{an od:Option Addr}
  {osl:Array (Option Value)}{N ps:List Str}{sp:Sp}(lk:K.lookup f=some ⟨oc,od,.func (PySem.W.fnOf name qual params body scope dV kV doc pm an cdv ct),osl⟩)(hcd:PySem.W.codeIn K cdv qual=true)(S:aW N ps scope)
  (len:∀vs H Q E,sp vs H Q E→vs.length=ps.length)
  (hbody:∀(A:Around) (outer:List Env) (s:Shared) (H:Hp) (vs:List V) (Q:VK) (E:XK),gU k (A.deeper (envOfC qual scope s.heap.objs.size f cdv))→sp vs H Q E→
   ∃t,PSs (AD CX P w K mg base N qual scope f cdv A outer s H E) body t∧t {nx:=λ_ H' =>Q .non H',rt:=Q} (start N vs) H):
  cD P w K mg base CX (k+1) f (PySem.W.fnOf name qual params body scope dV kV doc pm an cdv ct) ps sp:=by
 refine⟨len,λA outer s H args us vs Q E hr e0 hb r hsp=> ?_⟩
 have hl:=len _ _ _ _ hsp
 have KX:K.In s.heap:=e0.mod.kin.keeps λb o e=>(e0.bs b o e).1
 have lim:s.heap.NoLimit:=e0.mod.nolimit.keeps λb o e=>(e0.bs b o e).1
 have hkind:∀y∈ps.zip us,scope.names.lookup y.1=some .local∨(scope.names.lookup y.1=some .cell∧((cellsFrom (s.heap.objs.size+1) scope.names []).lookup y.1).isSome=true):=λ⟨n,v⟩ hy=>by
  rcases S.par n (List.of_mem_zip hy).1 with q|q
  ·exact .inl q
  ·exact .inr ⟨q,PySem.W.cellsFrom_some _ _ _ (.inl q)⟩
 refine codeAny_call_function hr.depth (KX _ _ lk) rfl S.co S.gen rfl (PySem.W.codeRec_of KX hcd) (hb _ _ _ _ ?_)
 refine wpAny_newFunctionEnv_cells S.kind hkind λenv he s1 x=> ?_
 subst he
 refine⟨lim.keeps x.toInCall.keep,codeAny_func ?_⟩
 obtain⟨t,ht,hq⟩:=hbody A outer s H vs Q E (hr.deeper _) hsp
 have I:Inv (AD CX P w K mg base N qual scope f cdv A outer s H E) [] (start N vs) H s1:=CF S hr.hd e0 hl r x
 refine GbA (ht [] s1 (start N vs) H _ I hq) (λfl s' hs=> ?_) λe s' hs=>hs
 have fin:∀{σ' :St} {H' :Hp} {v:V} {u:Value},Inv (AD CX P w K mg base N qual scope f cdv A outer s H E) [] σ' H' s' →RelV v u→Q v H' →CE outer P w H s Q u s' :=
  λ{σ' H' v u} J rv q=> ⟨v,H',J.os,J.bare,J.base,J.hok,rv,q⟩
 cases fl with
 |ret u=>
  obtain⟨v,σ',H',J,rv,q⟩:=hs
  exact fin J rv q
 |next=>
  obtain⟨σ',H',J,q⟩:=hs
  exact fin (v:=V.non) (u:=Value.none) J rfl q
 |brk=>
  obtain⟨_,_,_,q⟩:=hs
  exact False.elim q
 |cont=>
  obtain⟨_,_,_,q⟩:=hs
  exact False.elim q
section
variable{X:Cx}{x:Str}{p pos:Pos}{e:Expr}{es:List Expr}{t:TA}{id T:String}{r:List V→Hp→VK→Prop}
noncomputable def tCB(r:List V→Hp→VK→Prop)(t:TA):TE:=λσ H Q=>t σ H λvs H1=>r vs H1 Q
theorem vS(hc:i7 X (.builtin id) r)(hg:Gl X x)(hm:X.mg x=none)(hv:bootBuiltins x=some (.builtin id))(ha:PA X (e::es) t)(hn:x≠"__name__":=by decide)(hdb:(x==("__debug__":Str))=false:=by decide)
  (he:starEach (e::es) X.env=(false,eval e X.env)::starEach es X.env:=by rfl)(hpl:(backTo pos (starEach es X.env)).any (·.1)=false:=by rfl):PE X (.Call (.Name x p) (e::es) [] pos) (tCB r t):=by
 intro pins s σ H Q I h
 refine GcM (nC I hg hm hv ?_ hn hdb)
 exact PyProof.Rows.callWith_builtin1 (thn (ha pos pins s σ H _ I h) λus s1 ⟨vs,H1,I1,r1,q1⟩=>hc pins s1 σ H1 vs us Q I1 r1 q1) he hpl
theorem CG(hc:i7 X (.type T) r)(hg:Gl X x)(hm:X.mg x=none)(hv:bootBuiltins x=some (.type T))(ha:PA X (e::es) t)(hn:x≠"__name__":=by decide)(hdb:(x==("__debug__":Str))=false:=by decide)
  (he:starEach (e::es) X.env=(false,eval e X.env)::starEach es X.env:=by rfl)(hpl:(backTo pos (starEach es X.env)).any (·.1)=false:=by rfl):PE X (.Call (.Name x p) (e::es) [] pos) (tCB r t):=by
 intro pins s σ H Q I h
 refine GcM (nC I hg hm hv ?_ hn hdb)
 exact GbS (thn (ha pos pins s σ H _ I h) λus s1 ⟨vs,H1,I1,r1,q1⟩=>hc pins s1 σ H1 vs us Q I1 r1 q1) he hpl
end
end L2
namespace HT
open PySem PyProof.Rows
section
open PySem.SeqAt
open PySem.AutoSeq1 (wpAny_loadPart')
open PySem.MeetsSeq PySem.MeetsSeq2 PySem.MeetsSeq3
end
section
variable{prog:Program}{w:World}{A:Around}{E:Value→Shared→Prop}{s:Shared}
theorem GC{t b:Addr}{vs ws:List Value}{Q:Value→Shared→Prop}(ht:IsTup s.heap t vs.toArray)(hb:IsTup s.heap b ws.toArray)(hv:vs≠[])
  (h1:ws=[]→Q (.ref t) s)(h2:ws≠[]→Q (.ref s.heap.objs.size) {s with heap:=s.heap.push {cls:= .type "tuple",data:= .seq (vs++ws).toArray}})
  (hsz:vs.length+ws.length≤sizeLine):wpAny (model prog w) A (binaryOp .Add (.ref t) (.ref b)) Q E s:=by
 obtain⟨⟨cls,dd,data,sl⟩,ho,hc,n,hd⟩:=id ht
 obtain⟨⟨cls2,dd2,data2,sl2⟩,ho2,hc2,n2,hd2⟩:=id hb
 simp only at hc hd hc2 hd2
 subst hc hd hc2 hd2
 have e:vs.toArray++ws.toArray=(vs++ws).toArray:=by simp
 by_cases hw:ws=[]
 ·exact concat_meets ⟨_,ho,rfl⟩ ⟨_,ho2,rfl⟩ noFill_tuple_add seq_tuple_add PySem.F.slot_tuple_add PySem.F.entry_tuple_add (PySem.F.args_tuple_add_2 _ _)
   (tuple_addW1 t b vs.toArray ws.toArray n n2 dd dd2 sl sl2 (by simpa using hv) (by simp[hw])) ⟨ho,ho2,h1 hw⟩
 ·refine concat_meets ⟨_,ho,rfl⟩ ⟨_,ho2,rfl⟩ noFill_tuple_add seq_tuple_add PySem.F.slot_tuple_add PySem.F.entry_tuple_add (PySem.F.args_tuple_add_2 _ _)
   (tuple_addW2 t b vs.toArray ws.toArray n n2 dd dd2 sl sl2 (by simpa using hv) (by simpa using hw) (by rw[Gam,Gam];exact hsz)) ⟨ho,ho2, ?_⟩
  rw[e]
  exact h2 hw
noncomputable def sIx(n d:Nat):Option Int→Nat
 |none=>d
 |some v=>if v<0 then(v+(n:Int)).toNat else min v.toNat n
theorem Jv(n d:Nat)(hd:d≤n)(o:Option Int):sIx n d o≤n:=by
 cases o with
 |none=>exact hd
 |some v=>
  show(if v<0 then(v+(n:Int)).toNat else min v.toNat n)≤n
  by_cases hv:v<0
  ·rw[Gaf hv];omega
  ·rw[Gah hv];exact Nat.min_le_right _ _
theorem Bv(v:Int)(n d:Nat):(if v<0 then max (v+(n:Int)) 0 else min v (n:Int))=((sIx n d (some v):Nat):Int):=by
 show(if v<0 then max (v+(n:Int)) 0 else min v (n:Int))=(((if v<0 then(v+(n:Int)).toNat else min v.toNat n):Nat):Int)
 by_cases hv:v<0
 ·simp only[Gaf hv];omega
 ·simp only[Gah hv];omega
theorem AE(lo hi:Option Int)(n:Nat):Builtin.Slice.sliceAdjust lo hi 1 (n:Int)=(((sIx n 0 lo:Nat):Int),((sIx n n hi:Nat):Int)):=by
 have h1:¬((1:Int)<0):=by omega
 unfold Builtin.Slice.sliceAdjust
 simp only[h1,Gbf]
 refine Prod.ext ?_ ?_
 ·cases lo with
  |none=>rfl
  |some v=>exact Bv v n 0
 ·cases hi with
  |none=>rfl
  |some v=>exact Bv v n n
theorem AF(i j:Nat):Builtin.Slice.slicePlaces (i:Int) (j:Int) 1=j -i:=by
 unfold Builtin.Slice.slicePlaces
 have h1:(1:Int)>0:=by omega
 simp only[h1,Gbs,Int.ediv_one]
 split<;>omega
theorem qX{v:Value}{o:Option Int}{Q:Option Int→Shared→Prop}(p:IsPart v o)(h:Q o s):wpAny (model prog w) A (Builtin.Slice.slicePartIndex v) Q E s:=by
 cases p with
 |none=>exact slicePart_none h
 |int i t=>exact slicePart_int h
theorem oY{sl:Addr}{vl vu:Value}{lo hi:Option Int}{n:Nat}{Q:Int×Int×Nat→Shared→Prop}(hs:s.heap.IsSliceOf sl vl vu .none)(pl:IsPart vl lo)(pu:IsPart vu hi)
  (h:Q (((sIx n 0 lo:Nat):Int),1,sIx n n hi -sIx n 0 lo) s):wpAny (model prog w) A (Builtin.Slice.sliceApplied (.ref sl) (pure (n:Int))) Q E s:=by
 obtain⟨os,hos,hcs,hds⟩:=id hs
 unfold Builtin.Slice.sliceApplied Builtin.Slice.sliceFields
 refine Gad (Gad (wpAny_field hos hds (x:=vl) rfl (Gad (wpAny_field hos hds (x:=vu) rfl (Gad (wpAny_field hos hds (x:= .none) rfl (Gaq ?_)))))))
 refine Gad (slicePart_none ?_)
 show wpAny _ _ (if((1:Int)==0)=true then _ else _) _ _ s
 rw[Gah (by decide)]
 refine Gad (qX pl (Gad (qX pu (Gad (Gaq ?_)))))
 show wpAny _ _ (match Builtin.Slice.sliceAdjust lo hi 1 (n:Int) with|(lo,hi)=>pure (lo,(1:Int),Builtin.Slice.slicePlaces lo hi 1)) _ _ s
 rw[AE lo hi n]
 show wpAny _ _ (pure (((sIx n 0 lo:Nat):Int),(1:Int),Builtin.Slice.slicePlaces ((sIx n 0 lo:Nat):Int) ((sIx n n hi:Nat):Int) 1)) _ _ s
 rw[AF]
 exact Gaq h
theorem Ed(xs:Array Value)(i k:Nat):((List.range k).filterMap λ(m:Nat)=>xs[((i:Int)+(m:Int)*1).toNat]?).toArray=((xs.toList.drop i).take k).toArray:=by
 have e:(λ(m:Nat)=>xs[((i:Int)+(m:Int)*1).toNat]?)=λm=>xs[i+m]? :=by
  funext m
  have:((i:Int)+(m:Int)*1).toNat=i+m:=by omega
  rw[this]
 rw[e]
 have:=pick_run xs i k
 rw[List.filterMap_map] at this
 have e2:((λx=>xs[x]?)∘λx=>i+x)=λm=>xs[i+m]? :=rfl
 rw[e2] at this
 rw[this]
theorem nS{t sl:Addr}{items:Array Value}{vl vu:Value}{lo hi:Option Int}{Q:Value→Shared→Prop}(ht:IsTup s.heap t items)(hs:s.heap.IsSliceOf sl vl vu .none)(pl:IsPart vl lo)(pu:IsPart vu hi)
  (hw:¬(sIx items.size 0 lo=0∧sIx items.size items.size hi=items.size))
  (h:Q (.ref s.heap.objs.size) {s with heap:=s.heap.push {cls:= .type "tuple",data:= .seq ((items.toList.drop (sIx items.size 0 lo)).take (sIx items.size items.size hi -sIx items.size 0 lo)).toArray}})
  (hsz:items.size≤sizeLine):wpAny (model prog w) A (getItem (.ref t) (.ref sl)) Q E s:=by
 have htake:sizeOk (.seq ((items.toList.drop (sIx items.size 0 lo)).take (sIx items.size items.size hi -sIx items.size 0 lo)).toArray):=by
  show((items.toList.drop (sIx items.size 0 lo)).take (sIx items.size items.size hi -sIx items.size 0 lo)).toArray.size≤sizeLine
  rw[Gam,GcD,GbP,GbO]
  omega
 have hj:sIx items.size items.size hi≤items.size:=Jv _ _ (Gap _) hi
 obtain⟨os,hos,hcs,hds⟩:=id hs
 have hTs:s.TypeIs (.ref sl) "slice":=⟨os,hos,hcs⟩
 unfold getItem
 try with_reducible refine GcG ?_
 first|refine Gad (Gaq ?_)|skip
 refine Gad (wpAny_sequenceKey ht.typeIs (by decide) ?_)
 refine Gad (Gci (name:=Str.ofString "__getitem__") ht.typeIs Gcg
  (GbQ Gcg ht.typeIs entry_tuple_getitem ?_ (args_tuple_getitem _ _)))
 show wpAny _ _ (Builtin.Tuple.tupleItemsOf (.ref t)>>=_) _ _ s
 refine Gad (tupleItemsOf_ ht ?_)
 refine Gad (wpAny_typeOf hTs ?_)
 rw[Gaf (by decide)]
 refine Gad (oY hs pl pu ?_)
 have hno:¬((((sIx items.size 0 lo:Nat):Int)==0&&(1:Int)==1&&(sIx items.size items.size hi -sIx items.size 0 lo)==items.size)=true):=by
  intro q
  rw[Gas,Gas] at q
  have q1:((sIx items.size 0 lo:Nat):Int)=0:=eq_of_beq q.1.1
  have q2:sIx items.size items.size hi -sIx items.size 0 lo=items.size:=eq_of_beq q.2
  exact hw ⟨by omega,by omega⟩
 show wpAny _ _ (if(((sIx items.size 0 lo:Nat):Int)==0&&(1:Int)==1&&(sIx items.size items.size hi -sIx items.size 0 lo)==items.size)=true then _ else _) _ _ s
 rw[Gah hno,Ed]
 first
  |exact Gad (m:=Builtin.Tuple.tupleExact _) (Gbc (Gaq ⟨_,rfl,Gaq h⟩) htake)
  |exact Gad (m:=Builtin.Tuple.tupleExact _) (Gbc (Gad (Gaq (Gaq ⟨_,rfl,Gaq h⟩))) htake)
  |exact Gad (Gad (m:=Builtin.Tuple.tupleExact _) (Gbc (Gaq (Gaq ⟨_,rfl,Gaq h⟩)) htake))
  |exact Gad (Gad (m:=Builtin.Tuple.tupleExact _) (Gbc (Gaq ⟨_,rfl,Gaq h⟩) htake))
end
end HT
namespace L2
open PySem PySem.Spec PyProof.Rows
abbrev TO:=St→Hp→(Option Int→Hp→Prop)→Prop
def PO(X:Cx)(e:Option Expr)(t:TO):Prop:=
 ∀(pins:List (Addr×Obj)) (s:Shared) (σ:St) (H:Hp) (Q:Option Int→Hp→Prop),Inv X pins σ H s→t σ H Q→
  wpAny (model X.prog X.w) X.A (evalPart e X.env) (λu s' =>∃o H',Inv X pins σ H' s' ∧IsPart u o∧Q o H') X.xe s
noncomputable def GF:TO:=λ_ H Q=>Q none H
noncomputable def LJ(t:TE):TO:=λσ H Q=>t σ H λx H1=>∃i,x= .int i∧Q (some i) H1
section
variable{X:Cx}{e:Expr}{te:TE}{lo hi:Option Expr}{tl th:TO}{pos p2:Pos}
theorem GH:PO X none GF:=by
 intro pins s σ H Q I h
 rw[evalPart_none]
 exact Gaq ⟨none,H,I,.none,h⟩
theorem GI(h:PE X e te):PO X (some e) (LJ te):=by
 intro pins s σ H Q I hw
 rw[evalPart_some]
 refine thn (h pins s σ H _ I hw) λu s1 ⟨x,H1,I1,r1,q1⟩=> ?_
 obtain⟨i,rfl,q⟩:=q1
 obtain⟨t,rfl⟩:=r1
 exact⟨some i,H1,I1,.int i t,q⟩
def SlR(X:Cx)(r:V→Option Int→Option Int→Hp→VK→Prop):Prop:=
 ∀(pins:List (Addr×Obj)) (s:Shared) (σ:St) (H:Hp) (x:V) (v vl vu:Value) (lo hi:Option Int) (sl:Addr) (Q:VK),Inv X pins σ H s→RelV x v→s.heap.IsSliceOf sl vl vu .none→IsPart vl lo→IsPart vu hi→r x lo hi H Q→
  ∃T id,typeLookup (.type T) "__getitem__"=pure (some (.builtin id))∧s.TypeIs v T∧wpAny (model X.prog X.w) X.A (getItem v (.ref sl)) (EP X pins σ Q) X.xe s
theorem SlR.or{r r' :V→Option Int→Option Int→Hp→VK→Prop}(h:SlR X r)(h' :SlR X r'):SlR X (λx lo hi H Q=>r x lo hi H Q∨r' x lo hi H Q):=by
 intro pins s σ H x v vl vu lo hi sl Q I rx hs pl pu q
 rcases q with q|q
 ·exact h pins s σ H x v vl vu lo hi sl Q I rx hs pl pu q
 ·exact h' pins s σ H x v vl vu lo hi sl Q I rx hs pl pu q
noncomputable def tSl(r:V→Option Int→Option Int→Hp→VK→Prop)(te:TE)(tl th:TO):TE:=λσ H Q=>te σ H λx H1=>tl σ H1 λl H2=>th σ H2 λu H3=>r x l u H3 Q
theorem Ee{r:V→Option Int→Option Int→Hp→VK→Prop}(hr:SlR X r)(he:PE X e te)(hl:PO X lo tl)(hu:PO X hi th):PE X (.Subscript e (.Slice lo hi none p2) pos) (tSl r te tl th):=by
 intro pins s σ H Q I h
 refine Subscript_ (thn (he pins s σ H _ I h) λv s1 ⟨x,H1,I1,r1,q1⟩=> ?_)
 refine wpAny_Slice (thn (hl pins s1 σ H1 _ I1 q1) λvl s2 ⟨l,H2,I2,pl,q2⟩=>thn (hu pins s2 σ H2 _ I2 q2) λvu s3 ⟨u,H3,I3,pu,q3⟩=> ?_)
 rw[evalPart_none]
 refine Gaq ?_
 have I4:Inv X pins σ H3 {s3 with heap:=s3.heap.push {cls:= .type "slice",data:= .fields #[vl,vu,.none]}}:=I3.kept (t' :=s3.toks) λb ob q=>Gaj _ q
 obtain⟨T,id,hT,ht,hg⟩:=hr pins {s3 with heap:=s3.heap.push {cls:= .type "slice",data:= .fields #[vl,vu,.none]}} σ H3 x v vl vu l u s3.heap.objs.size Q I4 r1 (Heap.IsSliceOf.new ..) pl pu q3
 show wpAny (model X.prog X.w) X.A (subscriptTail e (.Slice lo hi none p2) v (.ref s3.heap.objs.size)) (EP X pins σ Q) X.xe {s3 with heap:=s3.heap.push {cls:= .type "slice",data:= .fields #[vl,vu,.none]}}
 exact tail_any (ops:=[.ref s3.heap.objs.size,v]) ht hT hg (by with_unfolding_all rfl)
noncomputable def vT(xs:List V)(lo hi:Option Int):List V:=(xs.drop (HT.sIx xs.length 0 lo)).take (HT.sIx xs.length xs.length hi -HT.sIx xs.length 0 lo)
theorem pU(xs:List V)(lo hi:Option Int):(vT xs lo hi).length≤xs.length:=by
 unfold vT
 rw[GcD,GbP]
 omega
def NZ(K:PySem.W.Frag):V→Option Int→Option Int→Hp→VK→Prop:=λx lo hi H Q=>∃a xs,x= .ref a∧SqT K H a xs∧
 ¬(HT.sIx xs.length 0 lo=0∧HT.sIx xs.length xs.length hi=xs.length)∧∀p,H p=none→Q (.ref p) (upd H p (.tup (vT xs lo hi)))
theorem Jw:SlR X (NZ X.K):=by
 intro pins s σ H x v vl vu lo hi sl Q I rx hs pl pu h
 obtain⟨a,xs,rfl,hx,hw,q⟩:=h
 cases rx
 obtain⟨its,r,ht,hz⟩:=I.tuple hx
 have hlen:its.toArray.size=xs.length:=by rw[Gam];exact r.length.symm
 refine⟨"tuple",_,Gcg.lookup,ht.typeIs, ?_⟩
 refine HT.nS ht hs pl pu (by rw[hlen];exact hw) ?_ (by rw[hlen];exact hz)
 rw[hlen]
 refine⟨.ref s.heap.objs.size,_,I.laid (t' :=s.toks) (o:= .tup (vT xs lo hi)) (λb ob q=>Gaj _ q) (Gap _) ?_,rfl,q _ (I.hok.fresh (Gap _))⟩
 exact⟨Gbp (pU xs lo hi) hz,_,(r.drop (HT.sIx xs.length 0 lo)).take (HT.sIx xs.length xs.length hi -HT.sIx xs.length 0 lo),IsTup.new _ _⟩
noncomputable def II(K:PySem.W.Frag):R2:=λx y H Q=>∃a b xs ys,x= .ref a∧y= .ref b∧SqT K H a xs∧SqT K H b ys∧xs≠[]∧xs.length+ys.length≤sizeLine∧
 (ys=[]→Q (.ref a) H)∧(ys≠[]→∀p,H p=none→Q (.ref p) (upd H p (.tup (xs++ys))))
theorem Vals.cU{xs:List V}{us:List Value}(r:Vals xs us):us=[]↔xs=[]:=by
 cases r with
 |nil=>simp
 |cons _ _=>simp
theorem GJ:OpR X (binaryOp .Add) (II X.K):=by
 intro pins s σ H x y v u Q I rx ry h
 obtain⟨a,b,xs,ys,rfl,rfl,ha,hb,hx,hz,q1,q2⟩:=h
 cases rx
 cases ry
 obtain⟨its,r1,p1,_⟩:=I.tuple ha
 obtain⟨its2,r2,p2,_⟩:=I.tuple hb
 refine HT.GC p1 p2 (λz=>hx (r1.cU.mp z)) (λz=> ⟨.ref a,H,I,rfl,q1 (r2.cU.mp z)⟩) (λz=> ?_) (by rw[←r1.length,←r2.length];exact hz)
 refine⟨.ref s.heap.objs.size,_,I.laid (t' :=s.toks) (o:= .tup (xs++ys)) (λb ob q=>Gaj _ q) (Gap _) ?_,rfl,q2 (λw=>z (r2.cU.mpr w)) _ (I.hok.fresh (Gap _))⟩
 exact⟨by rw[Gar];exact hz,_,r1.append r2,IsTup.new _ _⟩
end
noncomputable def ixN(n:Nat)(i:Int):Option Nat:=if 0≤i then(if i<n then some i.toNat else none) else if -(n:Int)≤i then some (i+n).toNat else none
noncomputable def atI{α:Type}(xs:List α)(i:Int):Option α:=(ixN xs.length i).bind λj=>xs[j]?
theorem Bw{n:Nat}{i:Int}{j:Nat}(h:ixN n i=some j):seqIndex? i n=some j∧j<n∧-(n:Int)≤i∧i<n:=by
 unfold ixN at h
 by_cases h0:0≤i
 ·rw[Gaf h0] at h
  by_cases h1:i<n
  ·rw[Gaf h1] at h
   have e:i.toNat=j:=Option.some.inj h
   exact⟨by rw[seqIndex_of h0 h1,e],by omega,by omega,h1⟩
  ·rw[Gah h1] at h;cases h
 ·rw[Gah h0] at h
  by_cases h1: -(n:Int)≤i
  ·rw[Gaf h1] at h
   have e:(i+n).toNat=j:=Option.some.inj h
   exact⟨by rw[seqIndex_neg (by omega) h1,e],by omega,h1,by omega⟩
  ·rw[Gah h1] at h;cases h
theorem uL{α:Type}{xs:List α}{i:Int}{v:α}(h:atI xs i=some v):∃j,seqIndex? i xs.length=some j∧xs[j]? =some v∧j<xs.length∧-(xs.length:Int)≤i∧i<xs.length:=by
 unfold atI at h
 cases e:ixN xs.length i with
 |none=>rw[e] at h;cases h
 |some j=>
  rw[e] at h
  obtain⟨h1,h2,h3,h4⟩:=Bw e
  exact⟨j,h1,h,h2,h3,h4⟩
def Bx(b:Expr):Prop:=∀o i,subscripted b false o i=operate [o,i] (getItem o i)
def IxR(X:Cx)(r:R2):Prop:=
 ∀(value slice:Expr) (pins:List (Addr×Obj)) (s:Shared) (σ:St) (H:Hp) (x y:V) (v u:Value) (Q:VK),Inv X pins σ H s→RelV x v→RelV y u→r x y H Q→
  subscripted slice false v u=operate [v,u] (getItem v u)→wpAny (model X.prog X.w) X.A (subscriptTail value slice v u) (EP X pins σ Q) X.xe s
def MtR(X:Cx)(id:String)(r:V→List V→Hp→VK→Prop):Prop:=
 ∀(pins:List (Addr×Obj)) (s:Shared) (σ:St) (H:Hp) (x:V) (xs:List V) (v:Value) (us:List Value) (Q:VK),Inv X pins σ H s→RelV x v→Vals xs us→r x xs H Q→
  wpAny (model X.prog X.w) X.A (call (.builtin id) (v::us)) (EP X pins σ Q) X.xe s
section
variable{X:Cx}{a b:Expr}{ta tb:TE}{pos:Pos}
theorem IxR.or{r r' :R2}(h:IxR X r)(h' :IxR X r'):IxR X (λx y H Q=>r x y H Q∨r' x y H Q):=by
 intro value slice pins s σ H x y v u Q I rx ry q hs
 rcases q with q|q
 ·exact h value slice pins s σ H x y v u Q I rx ry q hs
 ·exact h' value slice pins s σ H x y v u Q I rx ry q hs
theorem MtR.or{id:String}{r r' :V→List V→Hp→VK→Prop}(h:MtR X id r)(h' :MtR X id r'):MtR X id (λx xs H Q=>r x xs H Q∨r' x xs H Q):=by
 intro pins s σ H x xs v us Q I rx rs q
 rcases q with q|q
 ·exact h pins s σ H x xs v us Q I rx rs q
 ·exact h' pins s σ H x xs v us Q I rx rs q
theorem LK{r:R2}(hr:IxR X r)(ha:PE X a ta)(hb:PE X b tb)(hs:Bx b):PE X (.Subscript a b pos) (tOp r ta tb):=by
 intro pins s σ H Q I h
 exact Subscript_ (Jk ha hb I h λv u s2 x y H2 I2 rx ry q=>hr a b pins s2 σ H2 x y v u Q I2 rx ry q (hs _ _))
noncomputable def LL(K:PySem.W.Frag):R2:=λx y H Q=>∃p xs i v,x= .ref p∧y= .int i∧SqL K H p xs∧atI xs i=some v∧Q v H
noncomputable def LM(K:PySem.W.Frag):R2:=λx y H Q=>∃p xs i v,x= .ref p∧y= .int i∧SqT K H p xs∧atI xs i=some v∧Q v H
noncomputable def LN:R2:=λx y H Q=>∃z i c,x= .str z∧y= .int i∧z.length≤sizeLine∧atI z.cps.toList i=some c∧Q (.str ⟨#[c]⟩) H
theorem GK:IxR X (LL X.K):=by
 intro value slice pins s σ H x y v u Q I rx ry h hs
 obtain⟨p,xs,i,z,rfl,rfl,hq,he,q⟩:=h
 cases rx
 obtain⟨t,rfl⟩:=ry
 obtain⟨its,r,pl,hz⟩:=I.list hq
 obtain⟨j,h1,h2,h3,h4,h5⟩:=uL he
 obtain⟨w,ew,rw'⟩:=r.get h2
 have hl:=r.length
 have hn:=qW
 have fin:EP X pins σ Q w s:=⟨z,H,I,rw',q⟩
 by_cases h0:0≤i
 ·have hj:i.toNat=j:=by
   rw[seqIndex_of h0 h5] at h1
   exact Option.some.inj h1
  exact item_listR pl.isList h0 (by omega) (by rw[hj];simpa using ew) fin hs
 ·have hj:(i+(its.toArray.size:Int)).toNat=j:=by
   rw[seqIndex_neg (by omega) h4] at h1
   rw[Gam,←hl]
   exact Option.some.inj h1
  exact subscriptTail_builtinR (x:=w) pl.isList.typeIs slot_list_getitem.lookup
   (wpAny_getItem_list_neg (Q:=λr s' =>r=w∧EP X pins σ Q r s') pl.isList (by omega) (by rw[Gam]<;>omega) (by omega) (by rw[hj];simpa using ew) ⟨rfl,fin⟩) hs
theorem Jx:IxR X (LM X.K):=by
 intro value slice pins s σ H x y v u Q I rx ry h hs
 obtain⟨p,xs,i,z,rfl,rfl,hq,he,q⟩:=h
 cases rx
 obtain⟨t,rfl⟩:=ry
 obtain⟨its,r,pl,hz⟩:=I.tuple hq
 obtain⟨j,h1,h2,h3,h4,h5⟩:=uL he
 obtain⟨w,ew,rw'⟩:=r.get h2
 have hl:=r.length
 have hn:=qW
 have fin:EP X pins σ Q w s:=⟨z,H,I,rw',q⟩
 exact subscriptTail_builtinR (x:=w) pl.typeIs slot_tuple_getitem.lookup
  (getItem_tuple (j:=j) (Q:=λr s' =>r=w∧EP X pins σ Q r s') pl (by omega) (by omega) (by rw[Gam,←hl];exact h1) (by simpa using ew) ⟨rfl,fin⟩) hs
theorem Jy:IxR X LN:=by
 intro value slice pins s σ H x y v u Q I rx ry h hs
 obtain⟨z,i,c,rfl,rfl,hz,he,q⟩:=h
 obtain⟨t,rfl⟩:=rx
 obtain⟨t',rfl⟩:=ry
 obtain⟨j,h1,h2,h3,h4,h5⟩:=uL he
 have hl:z.cps.toList.length=z.length:=by simp[Str.length]
 rw[hl] at h1 h4 h5
 have hn:=qW
 exact tail_any (typeIs_str s z t) slot_str_getitem.lookup (getItem_str (c:=c) (by
  have e1:decide (i< -(2^63:Int))=false:=GaL (by omega)
  have e2:decide (i≥2^63)=false:=GaL (by omega)
  rw[e1,e2,Bool.or_false]) (by rw[h1];simpa using h2) ⟨.str ⟨#[c]⟩,H,I.tok _,⟨_,rfl⟩,q⟩) hs
noncomputable def rIx(K:PySem.W.Frag):R2:=λx y H Q=>LL K x y H Q∨LM K x y H Q∨LN x y H Q
theorem Jz:IxR X (rIx X.K):=GK.or (Jx.or Jy)
theorem AG(its:List Value)(n j:Nat)(u:Value):Obj.mapSeq (·.setIfInBounds j u) {cls:= .type "list",data:= .seq its.toArray n}={cls:= .type "list",data:= .seq (its.set j u).toArray n}:=by
 simp[Obj.mapSeq]
theorem Inv.lst{pins:List (Addr×Obj)}{σ:St}{H:Hp}{s:Shared}{p:Addr}{xs:List V}(I:Inv X pins σ H s)(h:H p=some (.lst xs)):
  ∃(its:List Value) (n:Nat),Vals xs its∧s.heap.get? p=some {cls:= .type "list",data:= .seq its.toArray n}∧xs.length≤sizeLine:=by
 obtain⟨z,its,n,r,e⟩:=I.hok p _ h
 exact⟨its,n,r,e,z⟩
theorem Inv.JA{pins:List (Addr×Obj)}{σ:St}{H:Hp}{s:Shared}{p:Addr}{xs ys:List V}{its its' :List Value}{n n' :Nat}{f:Obj→Obj}(I:Inv X pins σ H s)(h:H p=some (.lst xs))
  (ho:s.heap.get? p=some {cls:= .type "list",data:= .seq its.toArray n})(hf:f {cls:= .type "list",data:= .seq its.toArray n}={cls:= .type "list",data:= .seq its'.toArray n' })(r:Vals ys its')(hz:ys.length≤sizeLine)(t:Nat):
  Inv X pins σ (upd H p (.lst ys)) {s with heap:=s.heap.update p f,toks:=t}:=by
 have e:(s.heap.update p f).get? p=some {cls:= .type "list",data:= .seq its'.toArray n' }:=by
  rw[GbJ f ho (by rw[hf]<;>rfl),hf]
 refine I.write (x:=p) (e:=p) (by rw[h];trivial) (.inl rfl) (λb u hb q=>(GbD _ _ (GaX hb)).trans q) ⟨_,e⟩ ?_
 exact⟨hz,its',n',r,e⟩
def IJ:V→V→V→Hp→(Hp→Prop)→Prop:=λo i v H Q=>∃p xs k j,o= .ref p∧i= .int k∧H p=some (.lst xs)∧ixN xs.length k=some j∧Q (upd H p (.lst (xs.set j v)))
theorem set_list:Ls X IJ:=by
 intro pins s σ H o i v ov iv u Q I ro ri rv h
 obtain⟨p,xs,k,j,rfl,rfl,hp,hj,q⟩:=h
 cases ro
 obtain⟨t,rfl⟩:=ri
 obtain⟨its,n,r,ho,hz⟩:=I.lst hp
 obtain⟨h1,h2,h3,h4⟩:=Bw hj
 have hl:=r.length
 have hn:=qW
 have I' :Inv X pins σ (upd H p (.lst (xs.set j v))) {s with heap:=s.heap.update p (Obj.mapSeq (·.setIfInBounds j u))}:=
  I.JA hp ho (AG its n j u) (r.set rv j) (by rw[GcK];exact hz) s.toks
 by_cases h0:0≤k
 ·have hk:k.toNat=j:=by
   rw[seqIndex_of h0 h4] at h1
   exact Option.some.inj h1
  exact PySem.W.ki_setAt ho h0 (by omega) (by rw[Gam,←hl];exact h4) (by rw[hk];exact⟨_,I',q⟩)
 ·have hk:(k+(its.toArray.size:Int)).toNat=j:=by
   rw[seqIndex_neg (by omega) h3] at h1
   rw[Gam,←hl]
   exact Option.some.inj h1
  exact PySem.W.ki_setBack ho (by omega) (by rw[Gam,←hl];exact h3) (by omega) (by rw[hk];exact⟨_,I',q⟩)
theorem uM(lo hi:Option Int)(n:Nat):(sliceBounds lo hi none n).1=((HT.sIx n 0 lo:Nat):Int)∧(sliceBounds lo hi none n).2.1=((HT.sIx n n hi:Nat):Int)∧(sliceBounds lo hi none n).2.2=1:=by
 refine⟨?_, ?_,rfl⟩
 ·cases lo with
  |none=>simp[sliceBounds,HT.sIx]
  |some i=>
   simp only[sliceBounds,HT.sIx,Option.getD_none,show(1:Int)>0 by decide,Gbs]
   by_cases h:i<0
   ·simp only[h,Gbs]<;>omega
   ·simp only[h,Gbf]<;>omega
 ·cases hi with
  |none=>simp[sliceBounds,HT.sIx]
  |some i=>
   simp only[sliceBounds,HT.sIx,Option.getD_none,show(1:Int)>0 by decide,Gbs]
   by_cases h:i<0
   ·simp only[h,Gbs]<;>omega
   ·simp only[h,Gbf]<;>omega
theorem sZ(its:List Value)(lo hi:Option Int):slicePick its.toArray lo hi none=((its.drop (HT.sIx its.length 0 lo)).take (HT.sIx its.length its.length hi -HT.sIx its.length 0 lo)).toArray:=by
 obtain⟨h1,h2,h3⟩:=uM lo hi its.toArray.size
 unfold slicePick
 rw[h1,h2,h3]
 simp only[sliceRange_one,pick_run,Gam]<;>rfl
def O0(K:PySem.W.Frag):V→Option Int→Option Int→Hp→VK→Prop:=λx lo hi H Q=>∃a xs,x= .ref a∧SqL K H a xs∧∀p,H p=none→Q (.ref p) (upd H p (.lst (vT xs lo hi)))
theorem GL:SlR X (O0 X.K):=by
 intro pins s σ H x v vl vu lo hi sl Q I rx hs pl pu h
 obtain⟨a,xs,rfl,hx,q⟩:=h
 cases rx
 obtain⟨its,r,ht,hz⟩:=I.list hx
 have hlen:=r.length
 refine⟨"list",_,slot_list_getitem.lookup,ht.isList.typeIs, ?_⟩
 refine wpAny_getItem_list_slice ht.isList hs pl pu .none (by simp) ?_ (by rw[Gam]<;>omega)
 rw[sZ,←hlen]
 refine⟨.ref s.heap.objs.size,_,I.laid (t' :=s.toks) (o:= .lst (vT xs lo hi)) (λb ob q=>Gaj _ q) (Gap _) ?_,rfl,q _ (I.hok.fresh (Gap _))⟩
 exact⟨Gbp (pU xs lo hi) hz,_,0,(r.drop (HT.sIx xs.length 0 lo)).take (HT.sIx xs.length xs.length hi -HT.sIx xs.length 0 lo),GaC _ rfl⟩
noncomputable def tX:V→Bool
 | .non=>true
 | .bl _=>true
 | .int _=>true
 | .str _=>true
 |_=>false
noncomputable def eqV:V→V→Bool
 | .non,.non=>true
 | .bl a,.bl b=>a==b
 | .bl a,.int b=>(if a then 1 else 0)==b
 | .int a,.bl b=>a==(if b then 1 else 0)
 | .int a,.int b=>a==b
 | .str a,.str b=>a==b
 |_,_=>false
theorem JB{A:Around}{s:Shared}{y x:V}{u v:Value}(ry:RelV y u)(rx:RelV x v)(fy:tX y=true)(fx:tX x=true):SeqAt.EqAt A s u v (eqV y x):=by
 cases y with
 |non=>
  cases ry
  cases x with
  |non=>cases rx;exact SeqAt.EqAt.same _
  |bl b=>cases rx;exact SeqAt.EqAt.none_bool b
  |int b=>obtain⟨t,rfl⟩:=rx;exact SeqAt.EqAt.none_int b t
  |str b=>obtain⟨t,rfl⟩:=rx;exact SeqAt.EqAt.none_str b t
  |_=>exact absurd (show false=true from fx) Gaz
 |bl a=>
  cases ry
  cases x with
  |non=>cases rx;exact SeqAt.EqAt.bool_none a
  |bl b=>cases rx;exact SeqAt.EqAt.bool_bool a b
  |int b=>obtain⟨t,rfl⟩:=rx;exact SeqAt.EqAt.bool_int a b t
  |str b=>obtain⟨t,rfl⟩:=rx;exact SeqAt.EqAt.bool_str a b t
  |_=>exact absurd (show false=true from fx) Gaz
 |int a=>
  obtain⟨t',rfl⟩:=ry
  cases x with
  |non=>cases rx;exact SeqAt.EqAt.int_none a t'
  |bl b=>cases rx;exact SeqAt.EqAt.int_bool a t' b
  |int b=>obtain⟨t,rfl⟩:=rx;exact SeqAt.EqAt.int_int a t' b t
  |str b=>obtain⟨t,rfl⟩:=rx;exact SeqAt.EqAt.int_str a t' b t
  |_=>exact absurd (show false=true from fx) Gaz
 |str a=>
  obtain⟨t',rfl⟩:=ry
  cases x with
  |non=>cases rx;exact SeqAt.EqAt.str_none a t'
  |bl b=>cases rx;exact SeqAt.EqAt.str_bool a t' b
  |int b=>obtain⟨t,rfl⟩:=rx;exact SeqAt.EqAt.str_int a t' b t
  |str b=>obtain⟨t,rfl⟩:=rx;exact SeqAt.EqAt.str_str a t' b t
  |_=>exact absurd (show false=true from fx) Gaz
 |_=>exact absurd (show false=true from fy) Gaz
theorem i7.or{f:Value}{r r' :List V→Hp→VK→Prop}(h:i7 X f r)(h' :i7 X f r'):i7 X f (λxs H Q=>r xs H Q∨r' xs H Q):=by
 intro pins s σ H xs us Q I rs q
 rcases q with q|q
 ·exact h pins s σ H xs us Q I rs q
 ·exact h' pins s σ H xs us Q I rs q
theorem cY:i7 X (.type "tuple") (λxs H Q=>∃p ys,xs=[.ref p]∧((SqL X.K H p ys∧∀l,H l=none→Q (.ref l) (upd H l (.tup ys)))∨(SqT X.K H p ys∧Q (.ref p) H))):=by
 intro pins s σ H xs us Q I r h
 obtain⟨p,ys,rfl,h⟩:=h
 obtain⟨u,rfl,rx⟩:=vals1 r
 cases rx
 rcases h with⟨hq,q⟩| ⟨hq,q⟩
 ·obtain⟨its,r',pl,hz⟩:=I.list hq
  have hlen:=r'.length
  refine call_tuple_list pl.isList (λh' kp=> ?_) (by simp only[Gam]<;>omega)
  have I1:Inv X pins σ H {s with heap:=h' }:=I.kept (t' :=s.toks) kp
  have I2:Inv X pins σ (upd H h'.objs.size (.tup ys)) {s with heap:=h'.push {cls:= .type "tuple",data:= .seq its.toArray}}:=
   I1.laid (t' :=s.toks) (λb o e=>Gaj _ e) (Gap _) (show cC X.prog X.w _ _ _ (.tup ys) from⟨hz,its,r',IsTup.new _ _⟩)
  exact⟨.ref h'.objs.size,_,I2,rfl,q _ (I1.hok.fresh (Gap _))⟩
 ·obtain⟨its,r',pl,hz⟩:=I.tuple hq
  exact call_tuple_same pl ⟨.ref p,H,I,rfl,q⟩
def tyV(K:PySem.W.Frag)(T:String)(x:V)(H:Hp):Prop:=match x with
 | .str _=>T="str"
 | .int _=>T="int"
 | .ref p=>(T="list"∧∃xs,SqL K H p xs)∨(T="tuple"∧∃o,K.lookup p=some o∧o.cls= .type "tuple"∧o.dict=none)∨
   (T="dict"∧((∃kvs,H p=some (.dK kvs))∨∃kvs,H p=some (.dT kvs)))∨(T="set"∧∃S n,H p=some (.set S n))
 |_=>False
theorem JC{pins:List (Addr×Obj)}{σ:St}{H:Hp}{s:Shared}{T:String}{x:V}{v:Value}(I:Inv X pins σ H s)(r:RelV x v)(ty:tyV X.K T x H):
  s.TypeIs v T∧∀a,v= .ref a→∃ob,s.heap.get? a=some ob∧ob.dict=none:=by
 cases x with
 |str z=>
  obtain⟨t,rfl⟩:=r
  cases(show T="str" from ty)
  exact⟨typeIs_str s z t,λ_ e=>nomatch e⟩
 |int i=>
  obtain⟨t,rfl⟩:=r
  cases(show T="int" from ty)
  exact⟨typeIs_int s i t,λ_ e=>nomatch e⟩
 |ref p=>
  cases r
  rcases ty with⟨rfl,xs,hq⟩| ⟨rfl,o,hk,hc,hd⟩| ⟨rfl,hk⟩| ⟨rfl,S,n,hk⟩
  ·obtain⟨its,_,pl,_⟩:=I.list hq
   refine⟨pl.isList.typeIs,λa e=> ?_⟩
   cases e
   obtain⟨o,n,e,c,hd,_⟩:=pl
   exact⟨o,e,hd⟩
  ·refine⟨⟨o,I.kIn p o hk,hc⟩,λa e=> ?_⟩
   cases e
   exact⟨o,I.kIn _ o hk,hd⟩
  ·have z:∃o,s.heap.get? p=some o∧o.ExactDict:=by
    rcases hk with⟨kvs,hk⟩| ⟨kvs,hk⟩
    ·obtain⟨_,_,_,_,o,_,_,e,ex,_⟩:=I.hok p _ hk
     exact⟨o,e,ex⟩
    ·obtain⟨_,_,_,_,o,_,_,e,ex,_⟩:=I.hok p _ hk
     exact⟨o,e,ex⟩
   obtain⟨o,e,ex⟩:=z
   refine⟨⟨o,e,ex.1⟩,λa e2=> ?_⟩
   cases e2
   exact⟨o,e,ex.2.1⟩
  ·obtain⟨o,_,_,_,e,ex,_⟩:=I.hok p _ hk
   refine⟨⟨o,e,ex.1⟩,λa e2=> ?_⟩
   cases e2
   exact⟨o,e,ex.2.1⟩
 |_=>exact False.elim ty
noncomputable def tBM(K:PySem.W.Frag)(T:String)(r:V→List V→Hp→VK→Prop)(to:TE)(t:TA):TE:=λσ H Q=>to σ H λx H1=>tyV K T x H1∧t σ H1 λxs H2=>r x xs H2 Q
variable{o e:Expr}{es:List Expr}{to:TE}{t:TA}{name:Str}{apos cpos:Pos}{T id:String}{r:V→List V→Hp→VK→Prop}
theorem By(pa:PlainAttrs T)(slot:Slot T name id)(hty:typeOf (.builtin id)=pure (.type "method_descriptor"))(hm:MtR X id r)(ho:PE X o to)(ha:PA X (e::es) t)
  (hbase:attributeBase o name X.env (eval o X.env)=eval o X.env:=by rfl)
  (hfew:((backTo cpos (starEach (e::es) X.env)).all (λx=> !x.1)&&(backToKw cpos (keywordEach [] X.env)).all (λx=>x.1.isSome)
   &&decide ((e::es).length+([]:List Keyword).length+(if([]:List Keyword).isEmpty then 0 else 1)<30))=true:=by rfl)
  (hline:(apos.endLine==cpos.line)=true:=by rfl)(hs:starEach (e::es) X.env=(false,eval e X.env)::starEach es X.env:=by rfl)(hplain:(backTo cpos (starEach es X.env)).any (·.1)=false:=by rfl):
  PE X (.Call (.Attribute o name apos) (e::es) [] cpos) (tBM X.K T r to t):=by
 intro pins s σ H Q I h
 refine wpAny_Call_method_late hbase hfew hline rfl (thn (ho pins s σ H _ I h) λv s1 ⟨x,H1,I1,r1,ty,q1⟩=> ?_)
 obtain⟨h1,h2⟩:=JC I1 r1 ty
 refine⟨T,id,pa,slot,hty,h1,h2, ?_⟩
 have hA:=ha cpos pins s1 σ H1 _ I1 q1
 rw[hs] at hA⊢
 refine Gcu (by show(false||(backTo cpos (starEach es X.env)).any (·.1))=false;rw[hplain]<;>rfl) (Gdm ?_)
 exact thn hA λus s2 ⟨vs,H2,I2,r2,q2⟩=>hm pins s2 σ H2 x vs v us Q I2 r1 r2 q2
end
def MtM(X:Cx)(id:String)(r:V→List V→Hp→VK→Prop):Prop:=
 ∀(pins:List (Addr×Obj)) (s:Shared) (σ:St) (H:Hp) (x:V) (xs:List V) (v:Value) (us:List Value) (Q:VK),Inv X pins σ H s→RelV x v→Vals xs us→r x xs H Q→
  wpAny (model X.prog X.w) X.A (call (.builtin id) (v::us)) (EP X pins σ Q) X.xe s
theorem Vals.one:∀{x:V} {us:List Value},Vals [x] us→∃u,us=[u]∧RelV x u
 |_,_,.cons r .nil=> ⟨_,rfl,r⟩
theorem Vals.zero:∀{us:List Value},Vals [] us→us=[]
 |_,.nil=>rfl
theorem Vals.reverse{xs:List V}{us:List Value}(h:Vals xs us):Vals xs.reverse us.reverse:=by
 induction h with
 |nil=>exact .nil
 |cons r t ih=>rw[List.reverse_cons,List.reverse_cons];exact Vals.append ih (.cons r .nil)
theorem Vals.rep{xs:List V}{us:List Value}(h:Vals xs us):∀k:Nat,Vals (List.replicate k xs).flatten (List.replicate k us).flatten
 |0=> .nil
 |k+1=>by
  rw[List.replicate_succ,List.replicate_succ,List.flatten_cons,List.flatten_cons]
  exact Vals.append h (Vals.rep h k)
section
variable{X:Cx}{pins:List (Addr×Obj)}{σ:St}{H:Hp}{s:Shared}{l b:Addr}{xs ys zs:List V}
theorem Inv.JD{its its' :List Value}{n:Nat}{f:Array Value→Array Value}{t' :Nat}(I:Inv X pins σ H s)(hH:H l=some (.lst xs))
  (e:s.heap.get? l=some {cls:= .type "list",data:= .seq its.toArray n})(hf:f its.toArray=its'.toArray)(hv:Vals ys its')(hz:ys.length≤sizeLine):
  Inv X pins σ (upd H l (.lst ys)) {s with heap:=s.heap.update l (Obj.mapSeq f),toks:=t' }:=by
 have q:=PySem.IsL.update e f
 rw[hf] at q
 refine I.write (x:=l) (e:=l) (by rw[hH];exact trivial) (.inl rfl) (λb' u hb hu=>(GbD s.heap (Obj.mapSeq f) (GaX hb)).trans hu) ⟨_,q⟩ ?_
 exact⟨hz,its',_,hv,q⟩
theorem Inv.O1{its:List Value}{t' :Nat}(I:Inv X pins σ H s)(hv:Vals ys its)(hz:ys.length≤sizeLine):
  Inv X pins σ (upd H s.heap.objs.size (.lst ys)) {s with heap:=s.heap.push {cls:= .type "list",data:= .seq its.toArray},toks:=t' }:=
 I.laid (λ_ _ q=>Gaj _ q) (Gap _) ⟨hz,its,0,hv,GaC _ rfl⟩
theorem Inv.fresh(I:Inv X pins σ H s):H s.heap.objs.size=none:=I.hok.fresh (Gap _)
theorem Inv.GN(I:Inv X pins σ H s)(hH:H l=some (.lst xs)):xs.length≤sizeLine∧∃(its:List Value) (n:Nat),Vals xs its∧xs.length=its.length∧s.heap.get? l=some {cls:= .type "list",data:= .seq its.toArray n}:=by
 obtain⟨z,its,n,r,e⟩:=I.hok l _ hH
 exact⟨z,its,n,r,r.length,e⟩
theorem Ef{n:Nat}(h:n≤sizeLine):Builtin.List.listTooLong n=false:=by
 unfold Builtin.List.listTooLong
 exact GaL (by omega)
end
section
variable{X:Cx}
def Bz:V→List V→Hp→VK→Prop:=λx vs H Q=>∃l xs y,x= .ref l∧vs=[y]∧H l=some (.lst xs)∧xs.length<sizeLine∧Q .non (upd H l (.lst (xs++[y])))
theorem oZ:MtM X "list.append" Bz:=by
 intro pins s σ H x vs v us Q I rx rv h
 obtain⟨l,xs,y,rfl,rfl,hH,hz,q⟩:=h
 cases rx
 obtain⟨u,rfl,ru⟩:=rv.one
 obtain⟨z,its,n,r,hl,e⟩:=I.GN hH
 refine call_meets F.slot_list_append ⟨_,e,rfl⟩ F.entry_list_append (F.args_list_append_2 _ _) (PySem.list_append l its.toArray n u (by rw[Gam];omega)) ⟨e, ?_⟩
 refine⟨.non,_,I.JD (its' :=its++[u]) hH e (by simp) (r.append (.cons ru .nil)) ?_,rfl,q⟩
 rw[Gar,List.length_singleton]
 omega
def GO:V→List V→Hp→VK→Prop:=λx vs H Q=>∃l b xs zs,x= .ref l∧vs=[.ref b]∧H l=some (.lst xs)∧H b=some (.lst zs)∧xs.length+zs.length≤sizeLine∧Q .non (upd H l (.lst (xs++zs)))
theorem CH:MtM X "list.extend" GO:=by
 intro pins s σ H x vs v us Q I rx rv h
 obtain⟨l,b,xs,zs,rfl,rfl,hH,hB,hz,q⟩:=h
 cases rx
 obtain⟨u,rfl,ru⟩:=rv.one
 cases ru
 obtain⟨z,its,n,r,hl,e⟩:=I.GN hH
 obtain⟨z2,its2,n2,r2,hl2,e2⟩:=I.GN hB
 have hsz:its.toArray.size+its2.toArray.size≤sizeLine:=by rw[Gam,Gam];omega
 have hlong:¬(!its.toArray.isEmpty&&Builtin.List.listTooLong (its.toArray.size+its2.toArray.size))=true:=by
  rw[Ef hsz,Gdr]
  exact Gaz
 refine call_meets F.slot_list_extend ⟨_,e,rfl⟩ F.entry_list_extend (F.args_list_extend_2 _ _)
  (AutoSeq1.list_extend_list_list_0 l its.toArray n b its2.toArray n2 hlong (by rw[Gam];omega) (by omega)) ⟨e,e2, ?_⟩
 refine⟨.non,_,I.JD (its' :=its++its2) hH e (by simp) (r.append r2) ?_,rfl,q⟩
 rw[Gar]
 omega
end
section
variable{κ:Type} [DecidableEq κ]
noncomputable def gr(kvs:List (κ×V))(k:κ):Option V:=(kvs.find? λkv=>decide (kv.1=k)).map (·.2)
noncomputable def putK(kvs:List (κ×V))(k:κ)(v:V):List (κ×V):=
 if(kvs.any λkv=>decide (kv.1=k))=true then kvs.map (λkv=>if kv.1=k then(kv.1,v) else kv) else kvs++[(k,v)]
noncomputable def IK(kvs:List (κ×V))(k:κ):List (κ×V):=kvs.filter λkv=>decide (kv.1≠k)
theorem lC{p:κ×V}{r:List (κ×V)}{k:κ}(e:p.1=k):gr (p::r) k=some p.2:=by simp[gr,Gbu,e]
theorem iX{p:κ×V}{r:List (κ×V)}{k:κ}(e:¬p.1=k):gr (p::r) k=gr r k:=by simp[gr,Gbu,e]
theorem qY(k:κ):∀kvs:List (κ×V),(kvs.any λkv=>decide (kv.1=k))=(gr kvs k).isSome
 |[]=>rfl
 |p::r=>by
  rw[GcH]
  by_cases e:p.1=k
  ·simp only[lC e,GaK e,Bool.true_or,Option.isSome_some]
  ·rw[iX e,GaL e,Bool.false_or];exact qY k r
theorem lD(kvs:List (κ×V))(k:κ)(v:V):(putK kvs k v).length≤kvs.length+1:=by
 unfold putK
 split
 ·rw[Gae];omega
 ·rw[Gar,GaH,Gcn];omega
theorem Eg{kvs:List (κ×V)}{k:κ}(v:V)(h:gr kvs k=none):putK kvs k v=kvs++[(k,v)]:=by
 unfold putK
 rw[qY,h]
 exact Gah (by decide)
theorem oX.p8{o:Option V}{u:Option Value}(r:oX o u):o.isSome=u.isSome:=by
 cases o with
 |none=>cases u with
  |none=>rfl
  |some _=>exact(show False from r).elim
 |some _=>cases u with
  |none=>exact(show False from r).elim
  |some _=>rfl
theorem oX.getD{o:Option V}{u:Option Value}{d:V}{d' :Value}(r:oX o u)(rd:RelV d d'):RelV (o.getD d) (u.getD d'):=by
 cases o with
 |none=>cases u with
  |none=>exact rd
  |some _=>exact(show False from r).elim
 |some _=>cases u with
  |none=>exact(show False from r).elim
  |some _=>exact r
theorem KV.val{kvs:List (κ×V)}{vs:List (κ×Value)}(r:KV kvs vs)(k:κ):oX (gr kvs k) (valueAt vs k):=by
 unfold KV at r
 induction r with
 |nil=>exact True.intro
 | @cons p q ps qs h t ih=>
  obtain⟨h1,h2⟩:=h
  by_cases e:p.1=k
  ·have e' :q.1=k:=h1.symm.trans e
   have b:valueAt (q::qs) k=some q.2:=by simp[valueAt,Gbu,e']
   rw[lC e,b];exact h2
  ·have e' :¬q.1=k:=λz=>e (h1.trans z)
   have b:valueAt (q::qs) k=valueAt qs k:=by simp[valueAt,Gbu,e']
   rw[iX e,b];exact ih
theorem KV.any{kvs:List (κ×V)}{vs:List (κ×Value)}(r:KV kvs vs)(k:κ):(kvs.any λkv=>decide (kv.1=k))=vs.any λkv=>decide (kv.1=k):=by
 unfold KV at r
 induction r with
 |nil=>rfl
 |cons h t ih=>rw[GcH,GcH,ih,h.1]
theorem KV.JE{kvs:List (κ×V)}{vs:List (κ×Value)}(r:KV kvs vs)(k:κ){y:V}{u:Value}(ry:RelV y u):
  KV (kvs.map λkv=>if kv.1=k then(kv.1,y) else kv) (vs.map λkv=>if kv.1=k then(kv.1,u) else kv):=by
 unfold KV at r⊢
 induction r with
 |nil=>exact .nil
 | @cons p q ps qs h t ih=>
  rw[Gau,Gau]
  refine .cons ?_ ih
  obtain⟨h1,h2⟩:=h
  by_cases e:p.1=k
  ·rw[Gaf e,Gaf (h1.symm.trans e)];exact⟨h1,ry⟩
  ·rw[Gah e,Gah (λz=>e (h1.trans z))];exact⟨h1,h2⟩
theorem KV.put{kvs:List (κ×V)}{vs:List (κ×Value)}(r:KV kvs vs)(k:κ){y:V}{u:Value}(ry:RelV y u):KV (putK kvs k y) (stored vs k u):=by
 unfold putK stored
 rw[r.any k]
 by_cases e:(vs.any λkv=>decide (kv.1=k))=true
 ·rw[Gaf e,Gaf e];exact r.JE k ry
 ·rw[Gah e,Gah e];exact Paired.snoc r ⟨rfl,ry⟩
theorem KV.drop{kvs:List (κ×V)}{vs:List (κ×Value)}(r:KV kvs vs)(k:κ):KV (IK kvs k) (without vs k):=by
 unfold KV at r⊢
 unfold IK without
 induction r with
 |nil=>exact .nil
 | @cons p q ps qs h t ih=>
  obtain⟨h1,h2⟩:=h
  rw[Gba,Gba]
  by_cases e:p.1=k
  ·have a:¬decide (p.1≠k)=true:=by simp[e]
   have b:¬decide (q.1≠k)=true:=by simp[h1.symm.trans e]
   rw[Gah a,Gah b];exact ih
  ·have e' :¬q.1=k:=λz=>e (h1.trans z)
   have a:decide (p.1≠k)=true:=by simp[e]
   have b:decide (q.1≠k)=true:=by simp[e']
   rw[Gaf a,Gaf b];exact .cons ⟨h1,h2⟩ ih
theorem KV.keys{kvs:List (κ×V)}{vs:List (κ×Value)}(r:KV kvs vs):kvs.map (·.1)=vs.map (·.1):=by
 unfold KV at r
 induction r with
 |nil=>rfl
 |cons h t ih=>rw[Gau,Gau,ih,h.1]
theorem KV.length{kvs:List (κ×V)}{vs:List (κ×Value)}(r:KV kvs vs):kvs.length=vs.length:=Paired.length r
end
theorem vU{P:Program}{w:World}{k:Key}{u:Value}(r:RelV (kV k) u):(cH P w).is k u=true:=by
 cases k with
 |inl i=>obtain⟨t,e⟩:=(show∃t,u=Value.int i t from r);subst e;exact vM P w i t
 |inr x=>obtain⟨t,e⟩:=(show∃t,u=Value.str x t from r);subst e;exact vN P w x t
theorem tY{P:Program}{w:World}:∀{ks:List Key} {us:List Value},Vals (ks.map kV) us→ItemsAre (cH P w) ks us
 |[],_,r=>by rw[Gdy] at r;cases r;exact .nil
 |k::ks,_,r=>by
  rw[Gau] at r
  cases r with
  |cons h t=>exact .cons (vU h) (tY t)
abbrev KT(H:Hp):List (List Key×V)→List (List Key×Addr×Value)→Prop:=Paired λp q=>p.1=q.1∧H q.2.1=some (.tup (p.1.map kV))∧RelV p.2 q.2.2
theorem KT.val{H:Hp}{kvs:List (List Key×V)}{xs:List (List Key×Addr×Value)}(r:KT H kvs xs)(k:List Key):oX (gr kvs k) ((atKey xs k).map (·.2)):=by
 induction r with
 |nil=>exact True.intro
 | @cons p q ps qs h t ih=>
  obtain⟨h1,_,h2⟩:=h
  by_cases e:p.1=k
  ·have e' :q.1=k:=h1.symm.trans e
   have b:atKey (q::qs) k=some q.2:=by simp[atKey,Gbu,e']
   rw[lC e,b];exact h2
  ·have e' :¬q.1=k:=λz=>e (h1.trans z)
   have b:atKey (q::qs) k=atKey qs k:=by simp[atKey,Gbu,e']
   rw[iX e,b];exact ih
theorem KT.JE{H:Hp}{kvs:List (List Key×V)}{xs:List (List Key×Addr×Value)}(r:KT H kvs xs)(k:List Key){y:V}{u:Value}(ry:RelV y u):
  KT H (kvs.map λkv=>if kv.1=k then(kv.1,y) else kv) (xs.map (putAt k u)):=by
 induction r with
 |nil=>exact .nil
 | @cons p q ps qs h t ih=>
  rw[Gau,Gau]
  refine .cons ?_ ih
  obtain⟨h1,h2,h3⟩:=h
  unfold putAt
  by_cases e:p.1=k
  ·rw[Gaf e,Gaf (h1.symm.trans e)];exact⟨h1,h2,ry⟩
  ·rw[Gah e,Gah (λz=>e (h1.trans z))];exact⟨h1,h2,h3⟩
theorem KT.put{H:Hp}{kvs:List (List Key×V)}{xs:List (List Key×Addr×Value)}(r:KT H kvs xs)(k:List Key){b:Addr}{y:V}{u:Value}(hb:H b=some (.tup (k.map kV)))(ry:RelV y u):
  KT H (putK kvs k y) (storedH xs k b u):=by
 have e:(kvs.any λkv=>decide (kv.1=k))=(atKey xs k).isSome:=by
  rw[qY,(r.val k).p8,Option.isSome_map]
 unfold putK storedH
 rw[e]
 by_cases q:(atKey xs k).isSome=true
 ·rw[Gaf q,Gaf q];exact r.JE k ry
 ·rw[Gah q,Gah q];exact Paired.snoc r ⟨rfl,hb,ry⟩
theorem KT.keeps{H H' :Hp}{kvs:List (List Key×V)}{xs:List (List Key×Addr×Value)}(r:KT H kvs xs)(ht:∀b ys,H b=some (.tup ys)→H' b=some (.tup ys)):KT H' kvs xs:=
 Paired.J7 r λ_ _ z=> ⟨z.1,ht _ _ z.2.1,z.2.2⟩
section
variable{P:Program}{w:World}{H:Hp}{h:Heap}{a:Addr}
theorem IL{u:HO}(ok:HOk P w H h)(e:Rd H a u):cC P w H h a u:=e.ok ok
theorem qZ{kvs:List (Key×V)}(ok:HOk P w H h)(e:Rd H a (.dK kvs)):kvs.length≤sizeLine∧(a==sysModules)=false∧∃vs,KV kvs vs∧h.DictOf (cH P w) a vs:=
 show cC P w H h a (.dK kvs) from IL ok e
theorem LP{kvs:List (Key×V)}(ok:HOk P w H h)(e:H a=some (.dK kvs)):kvs.length≤sizeLine∧(a==sysModules)=false∧∃vs,KV kvs vs∧h.DictOf (cH P w) a vs:=qZ ok (.inl e)
theorem lE{ks:List Key}(ok:HOk P w H h)(e:H a=some (.tup (ks.map kV))):(tupleKind (cH P w)).is h ks a:=by
 obtain⟨_,its,r,o,h1,h2,n,h3⟩:=(show cC P w H h a (.tup (ks.map kV)) from ok a _ e)
 exact⟨o,its.toArray,n,h1,h2,h3,by simpa using tY r⟩
theorem tZ{kvs:List (List Key×V)}(ok:HOk P w H h)(e:Rd H a (.dT kvs)):kvs.length≤sizeLine∧(a==sysModules)=false∧
  ∃xs,KT H kvs xs∧h.DictOfH (tupleKind (cH P w)) a xs:=by
 obtain⟨z,y,xs,r,o,es,ep,h1,h2,h3,h4,h5⟩:=(show cC P w H h a (.dT kvs) from IL ok e)
 refine⟨z,y,xs,r,o,es,ep,h1,h2,h3,h4,λx hx=> ?_,h5⟩
 have all:∀{l:List (List Key×V)} {m:List (List Key×Addr×Value)},KT H l m→∀x∈m,(tupleKind (cH P w)).is h x.1 x.2.1:=by
  intro l m q
  induction q with
  |nil=>intro x hx;exact nomatch hx
  | @cons p q ps qs hq t ih=>
   intro x hx
   rcases Gay.mp hx with e|hx
   ·subst e
    exact lE ok (by rw[←hq.1];exact hq.2.1)
   ·exact ih x hx
 exact all r x hx
theorem Eh{kvs:List (List Key×V)}(ok:HOk P w H h)(e:H a=some (.dT kvs)):kvs.length≤sizeLine∧(a==sysModules)=false∧
  ∃xs,KT H kvs xs∧h.DictOfH (tupleKind (cH P w)) a xs:=tZ ok (.inl e)
end
def nT(H:Hp)(a:Addr)(y:V)(r:Option V):Prop:=
 (∃kvs k,Rd H a (.dK kvs)∧y=kV k∧r=gr kvs k)∨∃kvs k b,Rd H a (.dT kvs)∧y= .ref b∧H b=some (.tup (k.map kV))∧r=gr kvs k
def vV(H:Hp)(a:Addr)(y v:V)(H' :Hp):Prop:=
 (∃kvs k,H a=some (.dK kvs)∧y=kV k∧kvs.length<sizeLine∧H' =upd H a (.dK (putK kvs k v)))∨
 ∃kvs k b,H a=some (.dT kvs)∧y= .ref b∧H b=some (.tup (k.map kV))∧kvs.length<sizeLine∧H' =upd H a (.dT (putK kvs k v))
theorem nT.k{H:Hp}{a:Addr}{kvs:List (Key×V)}{k:Key}(e:H a=some (.dK kvs)):nT H a (kV k) (gr kvs k):= .inl ⟨kvs,k,.inl e,rfl,rfl⟩
theorem nT.t{H:Hp}{a b:Addr}{kvs:List (List Key×V)}{k:List Key}(e:H a=some (.dT kvs))(eb:H b=some (.tup (k.map kV))):nT H a (.ref b) (gr kvs k):= .inr ⟨kvs,k,b,.inl e,rfl,eb,rfl⟩
theorem vV.k{H:Hp}{a:Addr}{kvs:List (Key×V)}{k:Key}{v:V}(e:H a=some (.dK kvs))(hl:kvs.length<sizeLine):vV H a (kV k) v (upd H a (.dK (putK kvs k v))):= .inl ⟨kvs,k,e,rfl,hl,rfl⟩
theorem vV.t{H:Hp}{a b:Addr}{kvs:List (List Key×V)}{k:List Key}{v:V}(e:H a=some (.dT kvs))(eb:H b=some (.tup (k.map kV)))(hl:kvs.length<sizeLine):
  vV H a (.ref b) v (upd H a (.dT (putK kvs k v))):= .inr ⟨kvs,k,b,e,rfl,eb,hl,rfl⟩
section
variable{X:Cx}{pins:List (Addr×Obj)}{σ:St}{H:Hp}{s:Shared}{a:Addr}{y v:V}{u r:Value}{o:Option V}{A:Around}{E:Value→Shared→Prop}
theorem Inv.big(I:Inv X pins σ H s):sysModules<s.heap.objs.size:=by
 have h:mainGlobals<s.heap.objs.size:=(I.mod.glob.keeps I.bk).lt
 exact Nat.lt_trans (by decide) h
theorem CI{Q:Value→Shared→Prop}(hu:A.units+1<cLine)(I:Inv X pins σ H s)(g:nT H a y (some v))(ry:RelV y u)(h:∀w' s',Inv X pins σ H s' →RelV v w' →Q w' s'):
  wpAny (model X.prog X.w) A (getItem (.ref a) u) Q E s:=by
 rcases g with⟨kvs,k,e,ey,l⟩| ⟨kvs,k,b,e,ey,eb,l⟩
 ·subst ey
  obtain⟨z,hd,vs,rel,dd⟩:=qZ I.hok e
  obtain⟨w',hw,rw'⟩:=oX.some_of (v:=v) (o:=valueAt vs k) (by rw[l];exact rel.val k)
  exact wpAny_getItem_of (vU ry) dd.mapOf hw (h w' _ (I.tok _) rw')
 ·subst ey
  cases(show u=Value.ref b from ry)
  obtain⟨z,hd,xs,rel,dd⟩:=tZ I.hok e
  obtain⟨w',hw,rw'⟩:=oX.some_of (v:=v) (o:=(atKey xs k).map (·.2)) (by rw[l];exact rel.val k)
  obtain⟨p,hp,hp2⟩:=Gak.mp hw
  refine wpAny_getItem_heap (Gco hu) (lE I.hok eb) dd hp ?_
  rw[hp2]
  exact h w' _ (I.tok _) rw'
theorem O2{Q:Value→Shared→Prop}(hu:A.units+1<cLine)(I:Inv X pins σ H s)(g:nT H a y o)(ry:RelV y u)(h:∀s',Inv X pins σ H s' →Q (.bool o.isSome) s'):
  wpAny (model X.prog X.w) A (compareOp .In u (.ref a)) Q E s:=by
 rcases g with⟨kvs,k,e,ey,l⟩| ⟨kvs,k,b,e,ey,eb,l⟩
 ·subst ey
  obtain⟨z,hd,vs,rel,dd⟩:=qZ I.hok e
  refine wpAny_in_of (vU ry) hd dd.mapOf ?_
  rw[←(rel.val k).p8,←l]
  exact h _ (I.tok _)
 ·subst ey
  cases(show u=Value.ref b from ry)
  obtain⟨z,hd,xs,rel,dd⟩:=tZ I.hok e
  refine wpAny_in_heap (Gco hu) (lE I.hok eb) hd dd ?_
  have q:=(rel.val k).p8
  rw[Option.isSome_map] at q
  rw[←q,←l]
  exact h _ (I.tok _)
theorem qM{h' :Heap}{t' :Nat}{ob:HO}(I:Inv X pins σ H s)(mu:Mut (H a))(hs:Heap.SameBut a s.heap h')(he:∃q,h'.get? a=some q)(new:cC X.prog X.w (upd H a ob) h' a ob):
  Inv X pins σ (upd H a ob) {s with heap:=h',toks:=t' }:=
 I.write (x:=a) (e:=a) mu (.inl rfl) (λb q hb z=>(hs.2 b hb).trans z) he new
theorem JF{P:Program}{w:World}{H' :Hp}{h' :Heap}{kvs:List (Key×V)}{vs:List (Key×Value)}(z:kvs.length≤sizeLine)(hd:(a==sysModules)=false)(rel:KV kvs vs)(dd:h'.DictOf (cH P w) a vs):
  cC P w H' h' a (.dK kvs):=⟨z,hd,vs,rel,dd⟩
theorem CJ{H' :Hp}{Q:Unit→Shared→Prop}(hu:A.units+1<cLine)(I:Inv X pins σ H s)(g:vV H a y v H')(ry:RelV y u)(rv:RelV v r)(h:∀s',Inv X pins σ H' s' →Q () s'):
  wpAny (model X.prog X.w) A (setItem (.ref a) u r) Q E s:=by
 rcases g with⟨kvs,k,e,ey,l,eH⟩| ⟨kvs,k,b,e,ey,eb,l,eH⟩
 ·subst ey eH
  obtain⟨z,hd,vs,rel,dd⟩:=LP I.hok e
  have hz:vs.length≤sizeLine:=by rw[←rel.length];exact z
  have hl:(putK kvs k v).length≤sizeLine:=by have:=lD kvs k v;omega
  refine wpAny_setItem_pairs (hsz:=hz) (vU ry) dd λh' dd' hs=>h _ ?_
  have he:∃q,h'.get? a=some q:=let⟨q,_,_,hq,_⟩:=dd';⟨q,hq⟩
  exact qM I (by rw[e];exact True.intro) hs he (JF hl hd (rel.put k rv) dd')
 ·subst ey eH
  cases(show u=Value.ref b from ry)
  obtain⟨z,hd,xs,rel,dd⟩:=Eh I.hok e
  have hz:xs.length≤sizeLine:=by rw[←Paired.length rel];exact z
  have hl:(putK kvs k v).length≤sizeLine:=by have:=lD kvs k v;omega
  refine wpAny_setItem_heap (hsz:=hz) (Gco hu) (lE I.hok eb) dd λh' dd' hs=>h _ ?_
  obtain⟨q,es,ep,hq,h2,h3,h4,_,h5⟩:=dd'
  refine qM I (by rw[e];exact True.intro) hs ⟨q,hq⟩ ⟨hl,hd,_,(rel.put k eb rv).keeps λc ys ec=> ?_,q,es,ep,hq,h2,h3,h4,h5⟩
  rw[az (Br ec e (λz=>nomatch z))]
  exact ec
end
section
variable{X:Cx}{pins:List (Addr×Obj)}{σ:St}{H:Hp}{s:Shared}{a:Addr}{kvs:List (Key×V)}{k:Key}{u:Value}{A:Around}{E:Value→Shared→Prop}
theorem LQ{Q:Value→Shared→Prop}(I:Inv X pins σ H s)(e:Rd H a (.dK kvs))(h:∀t s',Inv X pins σ H s' →Q (.int kvs.length t) s'):wpAny (model X.prog X.w) A (call (.builtin "len") [.ref a]) Q E s:=by
 obtain⟨z,hd,vs,rel,dd⟩:=qZ I.hok e
 refine call_len_dict hd dd (by rw[←rel.length];rw[Gbz] at z;omega) ?_
 rw[←rel.length]
 exact h _ _ (I.tok _)
end
theorem vW{X:Cx}{pins:List (Addr×Obj)}{σ:St}{H:Hp}{s:Shared}{a:Addr}{y:V}{o:Option V}(I:Inv X pins σ H s)(g:nT H a y o):s.TypeIs (.ref a) "dict":=by
 rcases g with⟨kvs,k,e,_,_⟩| ⟨kvs,k,b,e,_,_,_⟩
 ·obtain⟨_,_,vs,_,dd⟩:=qZ I.hok e
  exact dd.typeIs
 ·obtain⟨_,_,xs,_,dd⟩:=tZ I.hok e
  exact dd.typeIs
theorem Ej{P:Program}{w:World}{H:Hp}(h:Heap)(hb:sysModules<h.objs.size):cC P w H (h.push {cls:= .type "dict",data:= .dict #[]}) h.objs.size (.dT []):=
 ⟨GbE _,beq_eq_false_iff_ne.mpr (GaX (GaO hb)),[],.nil,_,#[],0,GaC _ rfl,⟨rfl,rfl,rfl⟩,rfl,rfl,List.nodup_nil⟩
noncomputable def JG:TE:=λ_ H Q=>∀p,H p=none→Q (.ref p) (upd H p (.dT []))
section
variable{X:Cx}{pos:Pos}
theorem vX:PE X (.Dict [] [] pos) JG:=λpins s σ H Q I h=>
 wpAny_Dict_empty ⟨.ref s.heap.objs.size,_,I.laid (a:=s.heap.objs.size) (o:= .dT []) (t' :=s.toks) (λ_ _ q=>Gaj _ q) (Gap _) (Ej s.heap I.big),rfl,h _ (I.hok.fresh (Gap _))⟩
end
structure M2(X:Cx)(o:Expr)(m:Str)(apos:Pos)(e f:Expr)(cpos:Pos):Prop where
 base:attributeBase o m X.env (eval o X.env)=eval o X.env
 few:((backTo cpos (starEach [e,f] X.env)).all (λx=> !x.1)&&(backToKw cpos (keywordEach [] X.env)).all (λx=>x.1.isSome)
  &&decide (([e,f]:List Expr).length+([]:List Keyword).length+(if([]:List Keyword).isEmpty then 0 else 1)<30))=true
 line:(apos.endLine==cpos.line)=true
 trees:backTo cpos (starEach [e,f] X.env)=[(false,eval e X.env),(false,eval f X.env)]
def IsD(H:Hp)(a:Addr):Prop:=(∃kvs,Rd H a (.dK kvs))∨∃kvs,Rd H a (.dT kvs)
theorem AH{X:Cx}{pins:List (Addr×Obj)}{σ:St}{H:Hp}{s:Shared}{a:Addr}(I:Inv X pins σ H s)(d:IsD H a):
  s.TypeIs (.ref a) "dict"∧(∀b,Value.ref a= .ref b→∃ob,s.heap.get? b=some ob∧ob.dict=none)∧(a==sysModules)=false:=by
 rcases d with⟨kvs,e⟩| ⟨kvs,e⟩
 ·obtain⟨_,hd,vs,_,dd⟩:=qZ I.hok e
  refine⟨dd.typeIs,λb q=> ?_,hd⟩
  cases q
  obtain⟨ob,_,_,h1,h2,_⟩:=dd
  exact⟨ob,h1,h2.2.1⟩
 ·obtain⟨_,hd,xs,_,dd⟩:=tZ I.hok e
  refine⟨dd.typeIs,λb q=> ?_,hd⟩
  cases q
  obtain⟨ob,_,_,h1,h2,_⟩:=dd
  exact⟨ob,h1,h2.2.1⟩
section
variable{X:Cx}{pins:List (Addr×Obj)}{σ:St}{H:Hp}{s:Shared}{a:Addr}{y d:V}{u r:Value}{o:Option V}{A:Around}{E:Value→Shared→Prop}
theorem JH{Q:Value→Shared→Prop}(hu:A.units+1<cLine)(I:Inv X pins σ H s)(g:nT H a y o)(ry:RelV y u)(rd:RelV d r)(h:∀w' s',Inv X pins σ H s' →RelV (o.getD d) w' →Q w' s'):
  wpAny (model X.prog X.w) A (call (.builtin "dict.get") [.ref a,u,r]) Q E s:=by
 rcases g with⟨kvs,k,e,ey,l⟩| ⟨kvs,k,b,e,ey,eb,l⟩
 ·subst ey
  obtain⟨z,hd,vs,rel,dd⟩:=qZ I.hok e
  refine call_meetsIn Gdi dd.typeIs PySem.F.entry_dict_get (PySem.F.args_dict_get_3 _ _ _) (meets_dict_get_default (cH X.prog X.w) a (vU ry) hd r) ⟨_,dd.mapOf,h _ _ (I.tok _) ?_⟩
  rw[l]
  exact(rel.val k).getD rd
 ·subst ey
  cases(show u=Value.ref b from ry)
  obtain⟨z,hd,xs,rel,dd⟩:=tZ I.hok e
  refine call_meetsIn Gdi dd.typeIs PySem.F.entry_dict_get (PySem.F.args_dict_get_3 _ _ _) (meetsH_dict_get_default (tupleKind (cH X.prog X.w)) a b hd r) ⟨Gco hu,k,xs,lE I.hok eb,dd,h _ _ (I.tok _) ?_⟩
  rw[l]
  exact(rel.val k).getD rd
end
noncomputable def JI(td ty tx:TE):TE:=λσ H Q=>td σ H λx H1=>∃a,x= .ref a∧IsD H1 a∧ty σ H1 λy H2=>tx σ H2 λz H3=>∃o,nT H3 a y o∧Q (o.getD z) H3
section
variable{X:Cx}{o e f:Expr}{apos cpos:Pos}{td ty tx:TE}
theorem Ek(hu:X.A.units+1<cLine)(ho:PE X o td)(he:PE X e ty)(hf:PE X f tx)(m:M2 X o "get" apos e f cpos):PE X (.Call (.Attribute o "get" apos) [e,f] [] cpos) (JI td ty tx):=by
 intro pins s σ H Q I h
 refine wpAny_Call_method m.base m.few m.line GcU Gdi PySem.F.type_dict_get (thn (ho pins s σ H _ I h) λu s1 ⟨x,H1,I1,rx,a,ex,d,q1⟩=> ?_)
 subst ex
 obtain rfl:u=Value.ref a:=rx
 obtain⟨t1,t2,_⟩:=AH I1 d
 refine⟨t1,t2, ?_⟩
 rw[m.trees]
 refine Gcu rfl (Gdm (Gcl (thn (he pins s1 σ H1 _ I1 q1) λiv s2 ⟨y,H2,I2,ry,q2⟩=>
  Gcl (thn (hf pins s2 σ H2 _ I2 q2) λfv s3 ⟨z,H3,I3,rz,ov,g,q3⟩=>Calls.spliced_nil ?_))))
 exact JH hu I3 g ry rz λw' s4 I4 rw' => ⟨_,H3,I4,rw',q3⟩
end
end L2
namespace Att
open PySem PySem.W PySem.Calls PyProof.Rows
theorem qE{P:Params}{h:Heap}:∀(ns:List Int) (vs:List Value),WellAll P h vs (ns.map WData.int)→IntsAre vs ns:=by
 intro ns
 induction ns with
 |nil=>
  intro vs w
  rw[Gdy] at w
  cases w
  exact .nil
 |cons n ns ih=>
  intro vs w
  rw[Gau] at w
  cases w with
  |cons a b=>
   cases a
   exact .cons _ _ (ih _ b)
theorem CK{l:OpenLaw}{n:Nat}(hn:l.most=some n){P:Params}{h:Heap}{args:List WData}{vals:List Value}
  (hpre:l.row.toRowW.claim.pre args=true)(hwl:WellAll P h vals args):
  ∃a vs ns,vals=[Value.ref a]∧args=[WData.list (ns.map WData.int)]∧h.get? a=some {cls:= .type "list",data:= .seq vs.toArray}∧IntsAre vs ns∧ns.length≤n:=by
 have hsh:WShape.hasAll [] args [.list .int]=true:=(pre_splitW hpre).1
 have hc:l.pre.holds [] {args:=args}=true:=(pre_splitW hpre).2
 obtain⟨d,r,rfl,h1,h2⟩:=hasAllW_cons hsh
 obtain rfl:=hasAllW_nil h2
 obtain⟨xs,rfl,h3⟩:=hasW_list h1
 obtain⟨ns,rfl⟩:=items_int h3
 have hlen:ns.length≤n:=by
  unfold OpenLaw.pre at hc
  have h4:(WTm.not (.lt (.lit (.int (n:Int))) (.len (.arg 0)))).holds [] {args:=[.list (ns.map .int)]}=true:=by
   have h4:=(holds_andW hc).1
   rw[hn] at h4
   exact h4
  have h5:=condW_of h4 (w_not (w_lt w_lit (w_len_list (w_arg rfl))))
  rw[Gae] at h5
  refine Nat.le_of_not_lt λq=> ?_
  have q' :(n:Int)<((ns.length:Nat):Int):=by omega
  first
   |(rw[GaK q'] at h5;exact absurd h5 (by decide))
   |(simp at h5;omega)
 cases hwl with
 |cons w1 w2=>
  cases w2
  cases w1 with
  |list ho hall=>exact⟨_,_,ns,rfl,rfl,ho,qE ns _ hall,hlen⟩
theorem CL(l:OpenLaw)(args:List WData):l.row.toRowW.claim.post args (.bool true) args=true:=
 postW_of (r:=l.row.toRowW) (X:=(true==true))
  (show WShape.has [] (.bool true) .bool=true by first|rfl|decide|simp[WShape.has,WShape.arms,WShape.armsAll])
  (show(WTm.eq .res (.lit (.bool true))).value [] {args:=args,res:=some (.bool true),after:=args}=some (.bool (true==true)) from w_eq_bool (w_res rfl) w_lit) rfl
theorem vY{l:OpenLaw}{n:Nat}{q:Program}{loose:List Str}{XP:(Str→Option Value)→Heap→Prop}{YP:World→Heap→Prop}{d:DefRec}
  (hn:l.most=some n)(hdf:d.params.defaults=[])
  (call:∀(w:World) (s₀ s₁:Shared) (mg mb:Str→Option Value) (fa:Addr) (o:Obj) (pm cd doc:Value) (a:Addr) (vs:List Value) (ns:List Int),
   Ground q loose [] XP w s₀ mg mb s₁.heap→YP w s₁.heap→
   s₁.heap.get? fa=some o→o.data= .func (docDef d.name d.params d.body d.scope pm cd doc)→s₁.heap.CodeRec cd d.name→mg d.name=some (.ref fa)→
   s₁.heap.get? a=some {cls:= .type "list",data:= .seq vs.toArray}→IntsAre vs ns→ns.length≤n→s₁.gens=#[]→
   codeAny (model l.prog w) callerA (.call (.ref fa) ⟨[.ref a],[]⟩) (λr s' =>r= .ok (.ret (.bool true))∧OldK s₁.heap s'.heap∧s'.os=s₁.os∧AllBare s'.gens) s₁):
  WalkO q loose XP YP l.row.toRowW d [] (λf vs=>PySem.call f vs):=by
 intro w s₀ s₁ mg mb G Y fa o pm cd doc dV kV ho hd hcd hD hmg hg args vals as hpre hlay hrd hwl hlo
 obtain rfl:dV= .none:=Dflts.none hD hdf
 obtain rfl:kV= .none:=Dflts.noKw hD
 obtain⟨a,vs,ns,rfl,rfl,hobj,hints,hlen⟩:=CK hn hpre hwl
 refine enter_call (codeAny_mono (call w s₀ s₁ mg mb fa o pm cd doc a vs ns G Y ho (fd_plain hd) hcd hmg hobj hints hlen hg) λr s' hq=> ?_)
 obtain⟨rfl,h2,h3,h4⟩:=hq
 exact⟨.inl ⟨.bool true,.bool true,[],rfl,λ_=>rfl,.bool true,CL l _,λ_=> ⟨List.Pairwise.nil,λ_ hm=>(nomatch hm)⟩⟩,h2,h3,h4⟩
end Att
namespace L2
open PySem PySem.Spec PyProof.Rows
theorem mC:∀{vs:List Value} {ns:List Int},IntsAre vs ns→Vals (ns.map V.int) vs
 |_,_,.nil=> .nil
 |_,_,.cons n t h=> .cons ⟨t,rfl⟩ (mC h)
def GP(H:Hp):Prop:=∀b,H b=none∨∃o xs,H b=some (.frz o (.lst xs))
theorem El{P:Program}{w:World}{K:PySem.W.Frag}{mg mb:Str→Option Value}{CX:CXT}{k:Nat}{fa a:Addr}{fd:FuncData}{x:Str}{sp:Sp}{s₁:Shared}{vs:List Value}{ns:List Int}
  (KX:K.In s₁.heap)(hns:s₁.heap.Ns mainGlobals mg)(hb:s₁.heap.Ns builtinsNs mb)(hbb:∀x:Str,x≠"__name__"→mb x=bootBuiltins x)(hlim:s₁.heap.NoLimit)(hg:s₁.gens=#[])
  (ha:s₁.heap.get? a=some {cls:= .type "list",data:= .seq vs.toArray})(hi:IntsAre vs ns)(hl:ns.length≤sizeLine)(hr:gU k callerA)
  (F:∀base:Heap,K.In base→base.Ns mainGlobals mg→cD P w K mg base CX k fa fd [x] sp)(hbind:∀(s:Shared) (u:Value),BindsTo s fd ⟨[u],[]⟩ [(x,u)])
  (hsp:∀H:Hp,GP H→SqL K H a (ns.map V.int)→sp [.ref a] H (λv _=>v= .bl true) λ_ _ _=>False)
  (hCX:∀H e s',CX [] H s₁ (λ_ _ _=>False) e s' →False):
  codeAny (model P w) callerA (.call (.ref fa) ⟨[.ref a],[]⟩) (λr s' =>r= .ok (.ret (.bool true))∧OldK s₁.heap s'.heap∧s'.os=s₁.os∧AllBare s'.gens) s₁:=by
 have rv:=mC hi
 have lenV:=hi.length
 have core:∀H:Hp,GP H→SqL K H a (ns.map V.int)→HOk P w H s₁.heap→(∀b,H b≠none→b=a)→(H a≠none→K.lookup a=none)→
   codeAny (model P w) callerA (.call (.ref fa) ⟨[.ref a],[]⟩) (λr s' =>r= .ok (.ret (.bool true))∧OldK s₁.heap s'.heap∧s'.os=s₁.os∧AllBare s'.gens) s₁:=by
  intro H hO hS hok hA hK
  have base_of:∀{b:Addr} {o:Obj},s₁.heap.get? b=some o→H b=none→(uH s₁.heap H).get? b=some o:=λe n=>DR e n
  have noA:∀{b:Addr} {o:Obj} {es:Array DictEntry} {ep:Nat},s₁.heap.get? b=some o→o.data= .dict es ep→H b=none:=λ{b o es ep} e d=>by
   cases q:H b with
   |none=>rfl
   |some u=>
    have e' :b=a:=hA b (by rw[q];simp)
    subst e'
    rw[ha] at e;cases e
    have d' :Data.seq vs.toArray _=Data.dict es ep:=d
    cases d'
  have nsK:∀{b:Addr} {m:Str→Option Value},s₁.heap.Ns b m→(uH s₁.heap H).Ns b m:=λ{b m} ⟨o,es,ep,e,d,r⟩=> ⟨o,es,ep,base_of e (noA e d),d,r⟩
  have hKb:K.In (uH s₁.heap H):=λb o e=>base_of (KX b o e) (by
   cases q:H b with
   |none=>rfl
   |some u=>
    have e' :b=a:=hA b (by rw[q];simp)
    subst e'
    rw[hK (by rw[q];simp)] at e;cases e)
  have hM:Mod K mg (uH s₁.heap H):=⟨hKb,nsK hns,⟨mb,nsK hb,hbb⟩,let⟨mc,h1,h2⟩:=hlim;⟨mc,nsK h1,h2⟩⟩
  have e0:AB P w K mg (uH s₁.heap H) callerA [] s₁ H:=⟨rfl,hM,λb o e=>Gm e,Nat.le_of_eq (Ct _ _),trivial,λb hb=>absurd (show b∈([]:List Addr) from hb) (by simp),hok,.of_eq hg⟩
  refine codeAny_mono ((F _ hKb (nsK hns)).run callerA [] s₁ H ⟨[.ref a],[]⟩ [.ref a] [.ref a] _ _ hr e0 (hbind s₁ (.ref a)) (.cons rfl .nil) (hsp H hO hS)) λr s' h=> ?_
  cases r with
  |error e=>exact(hCX H e s' h).elim
  |ok fl=>
   cases fl with
   |next=>exact False.elim h
   |brk=>exact False.elim h
   |cont=>exact False.elim h
   |ret u=>
    obtain⟨v,H',os,bare,un,hok',r',q⟩:=h
    have q' :v= .bl true:=q
    subst q'
    obtain rfl:u=Value.bool true:=r'
    refine⟨rfl,OldK.of_keep λb o e=> ?_,os,bare⟩
    cases q:H b with
    |none=>exact un.keep b o e q (by intro z;exact absurd (show b∈([]:List Addr) from z) (by simp)) (by simp)
    |some u=>
     rcases hO b with z| ⟨ob,xs,z⟩
     ·rw[q] at z;cases z
     ·have z2:=un.nP b ob _ z
      obtain⟨e1,_⟩:=hok b _ z
      obtain⟨e2,_⟩:=hok' b _ z2
      rw[e] at e1;cases e1
      exact e2
 cases hk:K.lookup a with
 |some o=>
  have e:=KX a o hk
  rw[ha] at e
  cases e
  refine core (λ_=>none) (λ_=> .inl rfl) (.inr ⟨_,vs.toArray,_,hk,rfl,rfl,rfl,by rw[Gam,lenV];exact hl,by simpa using rv⟩) (λb u z=>by have z' :(none:Option HO)=some u:=z;cases z') (λb z=>absurd rfl z) λz=>absurd rfl z
 |none=>
  refine core (λb=>if b=a then some (.frz {cls:= .type "list",data:= .seq vs.toArray} (.lst (ns.map V.int))) else none) (λb=> ?_) (.inl (.inr ⟨{cls:= .type "list",data:= .seq vs.toArray},Gaf rfl⟩)) (λb u z=> ?_) (λb z=> ?_) λ_=>hk
  ·by_cases hb:b=a
   ·exact .inr ⟨_,_,Gaf hb⟩
   ·exact .inl (Gah hb)
  ·by_cases hb:b=a
   ·have z' :=(Gaf hb).symm.trans z
    cases z'
    subst hb
    exact⟨ha,by rw[Gae];exact hl,vs,_,rv,ha⟩
   ·have z' :=(Gah hb).symm.trans z
    cases z'
  ·by_cases hb:b=a
   ·exact hb
   ·exact absurd (Gah hb) z
theorem GQ{l:PySem.W.OpenLaw}{n k:Nat}{q:Program}{loose:List Str}{XP:(Str→Option Value)→Heap→Prop}{YP:World→Heap→Prop}{d:DefRec}{K:Params→PySem.W.Frag}{CX:World→CXT}{sp:World→Sp}{x:Str}
  (hn:l.most=some n)(hn2:n≤sizeLine)(hdf:d.params.defaults=[])(hr:gU k callerA)
  (hY:∀(w:World) (h:Heap),YP w h→(K w.params).In h)
  (F:∀(w:World) (mg:Str→Option Value) (fa:Addr) (h:Heap),(K w.params).In h→h.Ns mainGlobals mg→mg d.name=some (.ref fa)→
   ∃fd:FuncData,(∀(s:Shared) (u:Value),BindsTo s fd ⟨[u],[]⟩ [(x,u)])∧
    ∀base:Heap,(K w.params).In base→base.Ns mainGlobals mg→cD l.prog w (K w.params) mg base (CX w) k fa fd [x] (sp w))
  (hsp:∀(w:World) (H:Hp) (a:Addr) (ns:List Int),ns.length≤n→GP H→SqL (K w.params) H a (ns.map V.int)→sp w [.ref a] H (λv _=>v= .bl true) λ_ _ _=>False)
  (hCX:∀(w:World) (H:Hp) (s:Shared) (e:Value) (s' :Shared),CX w [] H s (λ_ _ _=>False) e s' →False):
  PySem.W.WalkO q loose XP YP l.row.toRowW d [] (λf vs=>PySem.call f vs):=by
 refine Att.vY hn hdf λw s₀ s₁ mg mb fa o pm cd doc a vs ns G Y ho hd hcd hmg hobj hints hlen hg=> ?_
 have KX:=hY w _ Y
 obtain⟨fd,hb,hF⟩:=F w mg fa _ KX G.T.g hmg
 exact El KX G.T.g G.T.b G.T.builtins G.T.nolimit hg hobj hints (Gbp hlen hn2) hr hF hb (λH hO hS=>hsp w H a ns hlen hO hS) λH e s' =>hCX w H s₁ e s'
noncomputable def mD(s:Stmt):Arguments:=match s with
 | .FunctionDef _ a _ _ _ _ _ _ _ _=>a
 |_=>{posonlyargs:=[],args:=[],vararg:=none,kwonlyargs:=[],kw_defaults:=[],kwarg:=none,defaults:=[]}
noncomputable def jr(s:Stmt):List Stmt:=match s with
 | .FunctionDef _ _ b _ _ _ _ _ _ _=>b
 |_=>[]
noncomputable def aJ(s:Stmt):Scope:=match s with
 | .FunctionDef _ _ _ _ _ _ sc _ _ _=>sc
 |_=>{kind:= .function,names:=[],isGenerator:=false,isCoroutine:=false}
noncomputable abbrev CX0:CXT:=λ_ _ _ _ _ _=>False
noncomputable abbrev E0:XK:=λ_ _ _=>False
theorem LR{X:Cx}:Passes CX0 X E0:=λ_ _ _ _ _ _ _ h=>h.elim
structure Fun(K:PySem.W.Frag)(x qual:Str)(st:Stmt)(f:Addr)(fd:FuncData):Prop where
 ex:∃(oc:Value) (od:Option Addr) (kV doc pm:Value) (an:Option Addr) (cdv ct:Value) (osl:Array (Option Value)),
  fd=PySem.W.fnOf x qual (mD st) (jr st) (aJ st) .none kV doc pm an cdv ct∧K.lookup f=some ⟨oc,od,.func fd,osl⟩∧PySem.W.codeIn K cdv qual=true
 kp:PySem.W.keepIn K (.ref f)=true
section
variable{P:Program}{w:World}{K:PySem.W.Frag}{mg:Str→Option Value}{base:Heap}
theorem Fun.ok{x qual:Str}{st:Stmt}{f:Addr}{fd:FuncData}{N ps:List Str}{k:Nat}{sp:Sp}(F:Fun K x qual st f fd)(S:aW N ps (aJ st))(len:∀vs H Q E,sp vs H Q E→vs.length=ps.length)
  (hbody:∀(cdv:Value) (A:Around) (outer:List Env) (s:Shared) (H:Hp) (vs:List V) (Q:VK) (E:XK),gU k (A.deeper (envOfC qual (aJ st) s.heap.objs.size f cdv))→sp vs H Q E→
   ∃t,PSs (AD CX0 P w K mg base N qual (aJ st) f cdv A outer s H E).nox (jr st) t∧t {nx:=λ_ H' =>Q .non H',rt:=Q} (start N vs) H):cD P w K mg base CX0 (k+1) f fd ps sp:=by
 obtain⟨oc,od,kV,doc,pm,an,cdv,ct,osl,rfl,lk,hcd⟩:=F.ex
 refine LI lk hcd S len λA outer s H vs Q E hr hsp=> ?_
 obtain⟨t,h,q⟩:=hbody cdv A outer s H vs Q E hr hsp
 exact⟨t,h.nox,q⟩
theorem JJ{x qual:Str}{st:Stmt}{f:Addr}{oc:Value}{od an:Option Addr}{osl:Array (Option Value)}{kV doc pm cdv ct:Value}(l:K.lookup f=some ⟨oc,od,.func (PySem.W.fnOf x qual (mD st) (jr st) (aJ st) .none kV doc pm an cdv ct),osl⟩)
  (c:PySem.W.codeIn K cdv qual=true)(k:PySem.W.keepIn K (.ref f)=true):Fun K x qual st f (PySem.W.fnOf x qual (mD st) (jr st) (aJ st) .none kV doc pm an cdv ct):=⟨⟨oc,od,kV,doc,pm,an,cdv,ct,osl,rfl,l,c⟩,k⟩
end
theorem d9{A:Around}{k:Nat}(hr:gU k A):A.units+1<cLine:=GcN (Nat.add_le_add_left (by decide:1≤64) _) hr.units
def cj(H H' :Hp):Prop:=∀b o,H b=some o→H' b=some o
theorem cj.refl(H:Hp):cj H H:=λ_ _ h=>h
theorem cj.trans{H H1 H2:Hp}(a:cj H H1)(b:cj H1 H2):cj H H2:=λc o h=>b c o (a c o h)
theorem cj.free{H H' :Hp}(e:cj H H'){l:Addr}(h:H' l=Option.none):H l=Option.none:=by
 cases q:H l with
 |none=>rfl
 |some o=>
  rw[e l o q] at h
  cases h
end L2
namespace DL
open PySem
noncomputable abbrev Key:=Sum Int Str
inductive D where
 |non
 |bl (b:Bool)
 |int (i:Int)
 |str (x:Str)
 |tup (ds:List D)
 |lst (ds:List D)
 |dK (kvs:List (Key×D))
 |dT (kvs:List (List Key×D))
 |scr (ns:List Int)
 deriving Inhabited
mutual
@[simp] noncomputable def D.imm:D→Bool
 | .non=>true
 | .bl _=>true
 | .int _=>true
 | .str _=>true
 | .tup ds=>aP ds
 | .lst _=>false
 | .dK _=>false
 | .dT _=>false
 | .scr _=>true
@[simp] noncomputable def aP:List D→Bool
 |[]=>true
 |d::ds=>d.imm&&aP ds
end
noncomputable def D.pV:D→Bool
 | .lst ds=>aP ds
 | .dK kvs=>aP (kvs.map (·.2))
 | .dT kvs=>aP (kvs.map (·.2))
 |d=>d.imm
noncomputable def D.top:D→Bool
 | .lst _=>true
 | .dK _=>true
 | .dT _=>true
 |_=>false
noncomputable def ai:Nat:=16777216
inductive Slot where
 |sh (d:D)
 |own (d:D)
 |lok (d:D)
 |bor (d:D)
noncomputable abbrev Env:=List (Option Slot)
inductive Cls where
 |c|tn|to|tb
 deriving DecidableEq
structure RV where
 k:Cls
 d:D
noncomputable abbrev DE:=Env→Option RV
noncomputable abbrev DT:=Env→Option Bool
noncomputable abbrev DA:=Env→Option (List RV)
noncomputable abbrev DG:=D→Env→Option Env
inductive Out where
 |nx (e:Env)
 |ret (d:D)
 |bk (e:Env)
 |ct (e:Env)
noncomputable abbrev DS:=Env→Option Out
noncomputable def ku(d:D):RV:=⟨if d.top then .tn else .c,d⟩
noncomputable def RV.free(r:RV):Bool:=match r.k with
 | .c=>true
 | .tn=>true
 |_=>false
@[simp] noncomputable def vE(i:Nat):DE:=λenv=>match env[i]? with
 |some (some (.sh d))=>some ⟨.c,d⟩
 |some (some (.own d))=>some ⟨.to,d⟩
 |some (some (.lok d))=>some ⟨.tb,d⟩
 |some (some (.bor d))=>some ⟨.tb,d⟩
 |_=>none
@[simp] noncomputable def kE(d:D):DE:=λ_=>some ⟨.c,d⟩
@[simp] noncomputable def opE(o:D→D→Option RV)(f g:DE):DE:=λenv=>(f env).bind λx=>(g env).bind λy=>o x.d y.d
@[simp] noncomputable def unE(o:D→Option RV)(f:DE):DE:=λenv=>(f env).bind λx=>o x.d
noncomputable def aS:D→D→Option RV
 | .int i,.int j=>some ⟨.c,.int (i+j)⟩
 | .str x,.str y=>if x.length+y.length≤ai then some ⟨.c,.str (x++y)⟩ else none
 | .tup x,.tup y=>if x.length+y.length≤ai∧0<x.length then some ⟨.c,.tup (x++y)⟩ else none
 | .lst x,.lst y=>if x.length+y.length≤ai then some ⟨.tn,.lst (x++y)⟩ else none
 |_,_=>none
noncomputable def lj:D→D→Option RV
 | .int i,.int j=>some ⟨.c,.int (i -j)⟩
 |_,_=>none
noncomputable def ck(i j:Int):Bool:=decide (i.natAbs<18446744073709551616)||decide (j.natAbs<18446744073709551616)
noncomputable def dB:D→D→Option RV
 | .int i,.int j=>if ck i j then some ⟨.c,.int (i*j)⟩ else none
 |_,_=>none
noncomputable def mP:D→D→Option RV
 | .int i,.int j=>if 0<j∧j<1073741824 then some ⟨.c,.int (i/j)⟩ else none
 |_,_=>none
noncomputable def qF:D→D→Option RV
 | .int i,.int j=>if 0<j then some ⟨.c,.int (i%j)⟩ else none
 |_,_=>none
noncomputable def p9:D→D→Option RV
 | .int i,.int j=>if 0≤j∧j≤1000∧i.natAbs<1000000 then some ⟨.c,.int (i^j.toNat)⟩ else none
 |_,_=>none
noncomputable def CM:D→Option RV
 | .int i=>some ⟨.c,.int (-i)⟩
 |_=>none
@[simp] noncomputable def av:Nat→D→Bool
 |_,.non=>true
 |_,.bl _=>true
 |_,.int _=>true
 |_,.str _=>true
 |n+1,.tup ds=>ds.all (av n)
 |n+1,.lst ds=>ds.all (av n)
 |_,_=>false
@[simp] noncomputable def D.plain(d:D):Bool:=av 20 d
mutual
@[simp] noncomputable def eqD:D→D→Bool
 | .non,.non=>true
 | .bl a,.bl b=>a==b
 | .bl a,.int b=>(if a then 1 else 0)==b
 | .int a,.bl b=>a==(if b then 1 else 0)
 | .int a,.int b=>a==b
 | .str a,.str b=>a==b
 | .tup a,.tup b=>lF a b
 | .lst a,.lst b=>lF a b
 |_,_=>false
@[simp] noncomputable def lF:List D→List D→Bool
 |[],[]=>true
 |a::as,b::bs=>eqD a b&&lF as bs
 |_,_=>false
end
noncomputable def eqB(x y:D):Option Bool:=if x.plain&&y.plain then some (eqD x y) else none
noncomputable def neB(x y:D):Option Bool:=if x.plain&&y.plain then some (!eqD x y) else none
noncomputable def dm:D→Bool
 | .non=>true
 |_=>false
noncomputable def nF(x y:D):Option Bool:=if dm y then some (dm x) else none
noncomputable def kW(x y:D):Option Bool:=if dm y then some (!dm x) else none
noncomputable def ltB:D→D→Option Bool
 | .int i,.int j=>some (decide (i<j))
 |_,_=>none
noncomputable def leB:D→D→Option Bool
 | .int i,.int j=>some (decide (i≤j))
 |_,_=>none
noncomputable def gtB:D→D→Option Bool
 | .int i,.int j=>some (decide (j<i))
 |_,_=>none
noncomputable def geB:D→D→Option Bool
 | .int i,.int j=>some (decide (j≤i))
 |_,_=>none
@[simp] noncomputable def b8(o:D→D→Option Bool)(f g:DE):DT:=λenv=>(f env).bind λx=>(g env).bind λy=>o x.d y.d
@[simp] noncomputable def bE(t:DT):DE:=λenv=>(t env).map λb=> ⟨.c,.bl b⟩
@[simp] noncomputable def vZ(f:DE):DT:=λenv=>(f env).bind λx=>match x.d with
 | .bl b=>some b
 |_=>none
@[simp] noncomputable def kz(t u:DT):DT:=λenv=>(t env).bind λb=>if b then u env else some false
@[simp] noncomputable def orT(t u:DT):DT:=λenv=>(t env).bind λb=>if b then some true else u env
@[simp] noncomputable def uN(t:DT):DT:=λenv=>(t env).map (!·)
@[simp] noncomputable def Em(o p:D→D→Option Bool)(f g h:DE):DT:=λenv=>(f env).bind λx=>(g env).bind λy=>(o x.d y.d).bind λb=>if b then(h env).bind λz=>p y.d z.d else some false
@[simp] noncomputable def ifE(t:DT)(f g:DE):DE:=λenv=>(t env).bind λb=>if b then f env else g env
noncomputable def atD{α:Type}(xs:List α)(i:Int):Option α:=if 0≤i then xs[i.toNat]? else if -(xs.length:Int)≤i then xs[(i+xs.length).toNat]? else none
noncomputable def keyOf:D→Option Key
 | .int i=>some (.inl i)
 | .str x=>some (.inr x)
 |_=>none
@[simp] noncomputable def keysOf:List D→Option (List Key)
 |[]=>some []
 |d::ds=>(keyOf d).bind λk=>(keysOf ds).map (k:: ·)
section
variable{κ:Type} [DecidableEq κ]
noncomputable def look(kvs:List (κ×D))(k:κ):Option D:=(kvs.find? λkv=>decide (kv.1=k)).map (·.2)
noncomputable def put(kvs:List (κ×D))(k:κ)(v:D):List (κ×D):=
 if(kvs.any λkv=>decide (kv.1=k))=true then kvs.map (λkv=>if kv.1=k then(kv.1,v) else kv) else kvs++[(k,v)]
end
noncomputable def ixD:D→D→Option D
 | .lst xs,.int i=>atD xs i
 | .tup xs,.int i=>atD xs i
 | .str x,.int i=>if x.length≤ai then(atD x.cps.toList i).map λc=> .str ⟨#[c]⟩ else none
 | .dK kvs,k=>(keyOf k).bind λk=>look kvs k
 | .dT kvs,.tup ds=>(keysOf ds).bind λk=>look kvs k
 | .scr ns,.int i=>(atD ns i).map .int
 |_,_=>none
@[simp] noncomputable def ixE(f g:DE):DE:=λenv=>(f env).bind λx=>(g env).bind λy=>(ixD x.d y.d).map λd=> ⟨.c,d⟩
@[simp] noncomputable def ao:DA:=λ_=>some []
@[simp] noncomputable def a5(f:DE)(r:DA):DA:=λenv=>(f env).bind λx=>(r env).bind λxs=>some (x::xs)
@[simp] noncomputable def bD(a:DA):DE:=λenv=>(a env).bind λrs=>if rs.all (·.free)&&decide (rs.length≤ai) then some ⟨.c,.tup (rs.map (·.d))⟩ else none
@[simp] noncomputable def fQ(a:DA):DE:=λenv=>(a env).bind λrs=>if rs.all (·.free)&&decide (rs.length≤ai) then some ⟨.tn,.lst (rs.map (·.d))⟩ else none
@[simp] noncomputable def aH(sp:List D→Option D)(a:DA):DE:=λenv=>(a env).bind λrs=>(sp (rs.map (·.d))).map ku
@[simp] noncomputable def dQ(o:List D→Option RV)(a:DA):DE:=λenv=>(a env).bind λrs=>o (rs.map (·.d))
noncomputable def cV:List D→Option RV
 |[.lst xs]=>some ⟨.c,.int xs.length⟩
 |[.tup xs]=>some ⟨.c,.int xs.length⟩
 |[.str x]=>if x.length≤ai then some ⟨.c,.int x.length⟩ else none
 |[.dK kvs]=>some ⟨.c,.int kvs.length⟩
 |[.scr ns]=>some ⟨.c,.int ns.length⟩
 |_=>none
noncomputable def nU:List D→Option RV
 |[.int i,.int j]=>some ⟨.c,.int (if j<i then j else i)⟩
 |_=>none
noncomputable def u0:List D→Option RV
 |[.int i,.int j]=>some ⟨.c,.int (if j>i then j else i)⟩
 |_=>none
noncomputable def iY:List D→Option RV
 |[.lst xs]=>some ⟨.c,.tup xs⟩
 |[.tup xs]=>some ⟨.c,.tup xs⟩
 |_=>none
@[simp] noncomputable def uO:List D→Option (List Bool)
 |[]=>some []
 | .bl b::ds=>(uO ds).map (b:: ·)
 |_=>none
@[simp] noncomputable def BA:List D→Option (List Int)
 |[]=>some []
 | .int i::ds=>(BA ds).map (i:: ·)
 |_=>none
noncomputable def mQ:D→Option (List D)
 | .lst xs=>some xs
 | .tup xs=>some xs
 | .scr ns=>some (ns.map .int)
 |_=>none
noncomputable def one(o:List D→Option RV):List D→Option RV
 |[d]=>(mQ d).bind o
 |_=>none
noncomputable def anyS:List D→Option RV:=one λds=>(uO ds).map λbs=> ⟨.c,.bl (bs.any id)⟩
noncomputable def AI(i:Int)(ns:List Int):Int:=ns.foldl (λa b=>if b>a then b else a) i
noncomputable def jS(T:String):D→Bool
 | .non=>T=="NoneType"
 | .bl _=>T=="bool"||T=="int"
 | .int _=>T=="int"
 | .str _=>T=="str"
 | .tup _=>T=="tuple"
 | .lst _=>T=="list"
 | .dK _=>T=="dict"
 | .dT _=>T=="dict"
 | .scr _=>T=="list"
noncomputable def lG:D→Bool
 | .scr _=>true
 |_=>false
@[simp] noncomputable def CN(T:String)(f:DE):DT:=λenv=>(f env).bind λx=>if lG x.d then none else some (jS T x.d)
noncomputable def sIx(n d:Nat):Option Int→Nat
 |none=>d
 |some v=>if v<0 then(v+(n:Int)).toNat else min v.toNat n
noncomputable def cutD{α:Type}(xs:List α)(lo hi:Option Int):List α:=(xs.drop (sIx xs.length 0 lo)).take (sIx xs.length xs.length hi -sIx xs.length 0 lo)
noncomputable abbrev DO:=Env→Option (Option Int)
@[simp] noncomputable def noO:DO:=λ_=>some none
@[simp] noncomputable def En(f:DE):DO:=λenv=>(f env).bind λx=>match x.d with
 | .int i=>some (some i)
 |_=>none
noncomputable def slD(lo hi:Option Int):D→Option RV
 | .lst xs=>some ⟨.tn,.lst (cutD xs lo hi)⟩
 | .tup xs=>if sIx xs.length 0 lo=0∧sIx xs.length xs.length hi=xs.length then none else some ⟨.c,.tup (cutD xs lo hi)⟩
 | .scr ns=>some ⟨.tn,.lst (cutD (ns.map .int) lo hi)⟩
 |_=>none
@[simp] noncomputable def slE(f:DE)(lo hi:DO):DE:=λenv=>(f env).bind λx=>(lo env).bind λl=>(hi env).bind λh=>slD l h x.d
@[simp] noncomputable def gN(i:Nat):DG:=λd env=>some (env.set i (some (.sh d)))
@[simp] noncomputable def gNs:List Nat→List D→Env→Option Env
 |[],[],env=>some env
 |i::is,d::ds,env=>gNs is ds (env.set i (some (.sh d)))
 |_,_,_=>none
@[simp] noncomputable def gT(is:List Nat):DG:=λd env=>match d with
 | .tup ds=>gNs is ds env
 |_=>none
@[simp] noncomputable def bc:DS:=λenv=>some (.nx env)
@[simp] noncomputable def bkS:DS:=λenv=>some (.bk env)
@[simp] noncomputable def aE(f g:DS):DS:=λenv=>(f env).bind λo=>match o with
 | .nx e=>g e
 |o=>some o
noncomputable def stored(i:Nat)(r:RV)(env:Env):Option Env:=match r.k with
 | .c=>some (env.set i (some (.sh r.d)))
 | .tn=>some (env.set i (some (.own r.d)))
 |_=>none
@[simp] noncomputable def aT(i:Nat)(f:DE):DS:=λenv=>(f env).bind λr=>(stored i r env).map .nx
noncomputable def BB(r:RV):Bool:=match r.k with
 | .c=>r.d.imm
 | .tn=>r.d.pV
 | .to=>r.d.pV
 | .tb=>false
@[simp] noncomputable def retS(f:DE):DS:=λenv=>(f env).bind λr=>if BB r then some (.ret r.d) else none
@[simp] noncomputable def ifS(t:DT)(f g:DS):DS:=λenv=>(t env).bind λb=>if b then f env else g env
@[simp] noncomputable def forL(g:DG)(body:DS):List D→Env→Option Out
 |[],env=>some (.nx env)
 |d::ds,env=>(g d env).bind λe=>(body e).bind λo=>match o with
  | .nx e=>forL g body ds e
  | .ct e=>forL g body ds e
  | .bk e=>some (.nx e)
  | .ret d=>some (.ret d)
noncomputable abbrev DI:=Env→Option (List D)
@[simp] noncomputable def bF(l:Option Nat)(env:Env):Env:=match l with
 |none=>env
 |some i=>match env[i]? with
  |some (some (.own d))=>env.set i (some (.lok d))
  |_=>env
@[simp] noncomputable def r6(l:Option Nat)(env:Env):Bool:=match l with
 |none=>false
 |some i=>match env[i]? with
  |some (some (.own _))=>true
  |_=>false
@[simp] noncomputable def iZ(l:Option Nat)(env:Env):Env:=match l with
 |none=>env
 |some i=>match env[i]? with
  |some (some (.lok d))=>env.set i (some (.own d))
  |_=>env
noncomputable def freed(l:Option Nat)(b:Bool):Out→Out
 | .nx e=> .nx (if b then iZ l e else e)
 |o=>o
@[simp] noncomputable def gV(l:Option Nat)(src:DI)(g:DG)(body:DS):DS:=λenv=>(src (bF l env)).bind λds=>(forL g body ds (bF l env)).map (freed l (r6 l env))
noncomputable def gW(t:DT)(body:DS):Nat→Env→Option Out
 |0,_=>none
 |n+1,env=>(t env).bind λb=>if b then(body env).bind λo=>match o with
   | .nx e=>gW t body n e
   | .ct e=>gW t body n e
   | .bk e=>some (.nx e)
   | .ret d=>some (.ret d)
  else some (.nx env)
noncomputable def uP(t:DT)(body:DS):DS:=gW t body 100000
@[simp] noncomputable def ll(f:DE):DI:=λenv=>(f env).bind λr=>if r.k= .to then none else match r.d with
 | .lst xs=>some xs
 | .tup xs=>some xs
 | .scr ns=>some (ns.map .int)
 |_=>none
noncomputable def bB(lo:Int)(n:Nat):List D:=(List.range n).map λ(k:Nat)=> .int (lo+(k:Int))
noncomputable def cn(i:Int):Bool:=decide (-4611686018427387904≤i)&&decide (i<4611686018427387904)
@[simp] noncomputable def ij(f:DE):DI:=λenv=>(f env).bind λr=>match r.d with
 | .int j=>if cn j then some (bB 0 j.toNat) else none
 |_=>none
@[simp] noncomputable def BC(f g:DE):DI:=λenv=>(f env).bind λx=>(g env).bind λy=>match x.d,y.d with
 | .int i,.int j=>if cn i&&cn j then some (bB i (j -i).toNat) else none
 |_,_=>none
@[simp] noncomputable def ownAt(i:Nat)(env:Env):Option D:=match env[i]? with
 |some (some (.own d))=>some d
 |_=>none
@[simp] noncomputable def jq(i:Nat)(f:DE):DS:=λenv=>(f env).bind λr=>(ownAt i env).bind λd=>match d with
 | .lst xs=>if r.free&&decide (xs.length<ai) then some (.nx (env.set i (some (.own (.lst (xs++[r.d])))))) else none
 |_=>none
@[simp] noncomputable def LU(i:Nat)(f:DE):DS:=λenv=>(f env).bind λr=>(ownAt i env).bind λd=>match d,r.d with
 | .lst xs,.lst ys=>if(r.k== .tn)&&decide (xs.length+ys.length≤ai) then some (.nx (env.set i (some (.own (.lst (xs++ys)))))) else none
 |_,_=>none
noncomputable def putD(d k v:D):Option D:=match d with
 | .dK kvs=>if kvs.length<ai then(keyOf k).map λk=> .dK (put kvs k v) else none
 | .dT kvs=>match k with
  | .tup ks=>if kvs.length<ai then(keysOf ks).map λk=> .dT (put kvs k v) else none
  |_=>none
 | .lst xs=>match k with
  | .int j=>if 0≤j∧j<xs.length then some (.lst (xs.set j.toNat v)) else if j<0∧-(xs.length:Int)≤j then some (.lst (xs.set (j+xs.length).toNat v)) else none
  |_=>none
 |_=>none
@[simp] noncomputable def r9:DE:=λ_=>some ⟨.tn,.dT []⟩
@[simp] noncomputable def w6(i:Nat)(k v:DE):DS:=λenv=>(v env).bind λx=>(k env).bind λy=>(ownAt i env).bind λd=>if x.free then(putD d y.d x.d).map λd=> .nx (env.set i (some (.own d))) else none
noncomputable def fE:Option Slot→Option Slot
 |some (.sh d)=>some (.sh d)
 |some (.own d)=>some (.bor d)
 |some (.lok d)=>some (.bor d)
 |some (.bor d)=>some (.bor d)
 |none=>none
noncomputable def compEnv(n:Nat)(aO:List Nat)(env:Env):Env:=List.replicate n none++aO.map λi=>fE (env[i]?.getD none)
@[simp] noncomputable def cy(g:DG)(t:DT)(f:DE):List D→Env→Option (List D)
 |[],_=>some []
 |d::ds,env=>(g d env).bind λe=>(t e).bind λb=>if b then(f e).bind λr=>if r.free then(cy g t f ds e).map (r.d:: ·) else none else cy g t f ds e
@[simp] noncomputable def mR(l:Option Nat)(n:Nat)(aO:List Nat)(src:DI)(g:DG)(t:DT)(f:DE):DE:=λenv=>(src (bF l env)).bind λds=>if ds.length≤ai then(cy g t f ds (compEnv n aO env)).map λrs=> ⟨.tn,.lst rs⟩ else none
@[simp] noncomputable def j0:DT:=λ_=>some true
@[simp] noncomputable def bq(n:Nat)(ds:List D):Env:=ds.map (λd=>some (.sh d))++List.replicate (n -ds.length) none
@[simp] noncomputable def dW(n np:Nat)(body:DS):List D→Option D:=λds=>if ds.length=np then(body (bq n ds)).bind λo=>match o with
  | .ret d=>some d
  | .nx _=>some .non
  |_=>none
 else none
@[simp] theorem GR{a b:String}:Str.ofString a=Str.ofString b↔a=b:=by
 constructor
 ·intro h
  rw[Str.ofString_eq_toList,Str.ofString_eq_toList] at h
  have h1:a.toList.map Char.toNat=b.toList.map Char.toNat:=by
   injection h with h
   exact Gce.mpr h|>λz=>by simpa using z
  have h2:a.toList=b.toList:=by
   have inj:∀(x y:List Char),x.map Char.toNat=y.map Char.toNat→x=y:=by
    intro x
    induction x with
    |nil=>intro y e;cases y with
     |nil=>rfl
     |cons=>simp at e
    |cons c x ih=>intro y e;cases y with
     |nil=>simp at e
     |cons c' y=>
      simp only[Gau,List.cons.injEq] at e
      rw[ih y e.2,Char.toNat_inj.mp e.1]
   exact inj _ _ h1
  exact String.toList_inj.mp h2
 ·rintro rfl;rfl
section
variable{i j:Int}{x y:Str}{ds es:List D}{d:D}{env:Env}{n:Nat}
@[simp] theorem LV:aS (.int i) (.int j)=some ⟨.c,.int (i+j)⟩:=rfl
@[simp] theorem LW:aS (.str x) (.str y)=if x.length+y.length≤ai then some ⟨.c,.str (x++y)⟩ else none:=rfl
@[simp] theorem LX:aS (.tup ds) (.tup es)=if ds.length+es.length≤ai∧0<ds.length then some ⟨.c,.tup (ds++es)⟩ else none:=rfl
@[simp] theorem LY:aS (.lst ds) (.lst es)=if ds.length+es.length≤ai then some ⟨.tn,.lst (ds++es)⟩ else none:=rfl
@[simp] theorem LZ:lj (.int i) (.int j)=some ⟨.c,.int (i -j)⟩:=rfl
@[simp] theorem M0:dB (.int i) (.int j)=if ck i j then some ⟨.c,.int (i*j)⟩ else none:=rfl
@[simp] theorem L0:mP (.int i) (.int j)=if 0<j∧j<1073741824 then some ⟨.c,.int (i/j)⟩ else none:=rfl
@[simp] theorem M1:qF (.int i) (.int j)=if 0<j then some ⟨.c,.int (i%j)⟩ else none:=rfl
@[simp] theorem M3:p9 (.int i) (.int j)=if 0≤j∧j≤1000∧i.natAbs<1000000 then some ⟨.c,.int (i^j.toNat)⟩ else none:=rfl
@[simp] theorem M4:CM (.int i)=some ⟨.c,.int (-i)⟩:=rfl
@[simp] theorem Nf:ltB (.int i) (.int j)=some (decide (i<j)):=rfl
@[simp] theorem Ng:leB (.int i) (.int j)=some (decide (i≤j)):=rfl
@[simp] theorem Nh:gtB (.int i) (.int j)=some (decide (j<i)):=rfl
@[simp] theorem Nj:geB (.int i) (.int j)=some (decide (j≤i)):=rfl
@[simp] theorem Nk:eqB (.int i) (.int j)=some (i==j):=rfl
@[simp] theorem Nl:eqB (.str x) (.str y)=some (x==y):=rfl
@[simp] theorem O3:eqB .non (.int j)=some false:=rfl
@[simp] theorem O4:eqB (.int j) .non=some false:=rfl
@[simp] theorem O5:eqB .non .non=some true:=rfl
@[simp] theorem Nm:neB (.int i) (.int j)=some (!(i==j)):=rfl
@[simp] theorem Np:neB (.str x) (.str y)=some (!(x==y)):=rfl
@[simp] theorem O6:neB .non (.int j)=some true:=rfl
@[simp] theorem O7:neB (.int j) .non=some true:=rfl
@[simp] theorem O8:neB .non .non=some false:=rfl
@[simp] theorem L1:dm .non=true:=rfl
@[simp] theorem L3:dm (.int i)=false:=rfl
@[simp] theorem L4:dm (.str x)=false:=rfl
@[simp] theorem M5{b:Bool}:dm (.bl b)=false:=rfl
@[simp] theorem L5:dm (.tup ds)=false:=rfl
@[simp] theorem L6:dm (.lst ds)=false:=rfl
@[simp] theorem M6:nF d .non=some (dm d):=rfl
@[simp] theorem L7:kW d .non=some (!dm d):=rfl
@[simp] theorem jT:cV [.lst ds]=some ⟨.c,.int ds.length⟩:=rfl
@[simp] theorem j3:cV [.tup ds]=some ⟨.c,.int ds.length⟩:=rfl
@[simp] theorem M7:cV [.str x]=if x.length≤ai then some ⟨.c,.int x.length⟩ else none:=rfl
@[simp] theorem Eo{ns:List Int}:cV [.scr ns]=some ⟨.c,.int ns.length⟩:=rfl
@[simp] theorem Nq{kvs:List (Key×D)}:cV [.dK kvs]=some ⟨.c,.int kvs.length⟩:=rfl
@[simp] theorem L8:nU [.int i,.int j]=some ⟨.c,.int (if j<i then j else i)⟩:=rfl
@[simp] theorem L9:u0 [.int i,.int j]=some ⟨.c,.int (if j>i then j else i)⟩:=rfl
@[simp] theorem JK:iY [.lst ds]=some ⟨.c,.tup ds⟩:=rfl
@[simp] theorem JL:iY [.tup ds]=some ⟨.c,.tup ds⟩:=rfl
@[simp] theorem M8{T:String}:jS T .non=(T=="NoneType"):=rfl
@[simp] theorem Nr{T:String}{b:Bool}:jS T (.bl b)=(T=="bool"||T=="int"):=rfl
@[simp] theorem M9{T:String}:jS T (.int i)=(T=="int"):=rfl
@[simp] theorem Ma{T:String}:jS T (.str x)=(T=="str"):=rfl
@[simp] theorem Mb{T:String}:jS T (.tup ds)=(T=="tuple"):=rfl
@[simp] theorem Mc{T:String}:jS T (.lst ds)=(T=="list"):=rfl
@[simp] theorem La:lG .non=false:=rfl
@[simp] theorem Md{b:Bool}:lG (.bl b)=false:=rfl
@[simp] theorem Lb:lG (.int i)=false:=rfl
@[simp] theorem Lc:lG (.str x)=false:=rfl
@[simp] theorem Ld:lG (.tup ds)=false:=rfl
@[simp] theorem Le:lG (.lst ds)=false:=rfl
@[simp] theorem Nt{lo hi:Option Int}:slD lo hi (.lst ds)=some ⟨.tn,.lst (cutD ds lo hi)⟩:=rfl
@[simp] theorem Nu{lo hi:Option Int}:slD lo hi (.tup ds)=if sIx ds.length 0 lo=0∧sIx ds.length ds.length hi=ds.length then none else some ⟨.c,.tup (cutD ds lo hi)⟩:=rfl
@[simp] theorem Nv{lo hi:Option Int}{ns:List Int}:slD lo hi (.scr ns)=some ⟨.tn,.lst (cutD (ns.map .int) lo hi)⟩:=rfl
@[simp] theorem Me:stored n ⟨.c,d⟩ env=some (env.set n (some (.sh d))):=rfl
@[simp] theorem Lf:stored n ⟨.tn,d⟩ env=some (env.set n (some (.own d))):=rfl
@[simp] theorem Nw:BB ⟨.c,d⟩=d.imm:=rfl
@[simp] theorem Mf:BB ⟨.tn,d⟩=d.pV:=rfl
@[simp] theorem Mg:BB ⟨.to,d⟩=d.pV:=rfl
@[simp] theorem Lg:(D.lst ds).pV=aP ds:=rfl
@[simp] theorem Mh{kvs:List (List Key×D)}:(D.dT kvs).pV=aP (kvs.map (·.2)):=rfl
@[simp] theorem Mi{kvs:List (Key×D)}:(D.dK kvs).pV=aP (kvs.map (·.2)):=rfl
@[simp] theorem Mj:ku .non=⟨.c,.non⟩:=rfl
@[simp] theorem Nx{b:Bool}:ku (.bl b)=⟨.c,.bl b⟩:=rfl
@[simp] theorem Mk:ku (.int i)=⟨.c,.int i⟩:=rfl
@[simp] theorem Ml:ku (.str x)=⟨.c,.str x⟩:=rfl
@[simp] theorem Mm:ku (.tup ds)=⟨.c,.tup ds⟩:=rfl
@[simp] theorem Mn:ku (.lst ds)=⟨.tn,.lst ds⟩:=rfl
@[simp] theorem Ny{kvs:List (List Key×D)}:ku (.dT kvs)=⟨.tn,.dT kvs⟩:=rfl
@[simp] theorem Nz{kvs:List (Key×D)}:ku (.dK kvs)=⟨.tn,.dK kvs⟩:=rfl
@[simp] theorem O9:RV.free ⟨.c,d⟩=true:=rfl
@[simp] theorem NA:RV.free ⟨.tn,d⟩=true:=rfl
@[simp] theorem Mo{l:Option Nat}{b:Bool}:freed l b (.nx env)= .nx (if b then iZ l env else env):=rfl
@[simp] theorem Lh{l:Option Nat}{b:Bool}:freed l b (.ret d)= .ret d:=rfl
@[simp] theorem Li:keyOf (.int i)=some (.inl i):=rfl
@[simp] theorem Lj:keyOf (.str x)=some (.inr x):=rfl
@[simp] theorem NB:ixD (.lst ds) (.int i)=atD ds i:=rfl
@[simp] theorem NC:ixD (.tup ds) (.int i)=atD ds i:=rfl
@[simp] theorem ND{ns:List Int}:ixD (.scr ns) (.int i)=(atD ns i).map .int:=rfl
@[simp] theorem NF:ixD (.str x) (.int i)=if x.length≤ai then(atD x.cps.toList i).map λc=> .str ⟨#[c]⟩ else none:=rfl
@[simp] theorem Oa{kvs:List (List Key×D)}:ixD (.dT kvs) (.tup ds)=(keysOf ds).bind λk=>look kvs k:=rfl
theorem dA{α:Type}{xs:List α}{k:Nat}:atD xs (k:Int)=xs[k]? :=by
 unfold atD;rw[Gaf (by omega)];simp
@[simp] theorem Oj{α:Type}{xs:List α}:atD xs 0=xs[0]? :=rfl
@[simp] theorem Ol{α:Type}{xs:List α}:atD xs 1=xs[1]? :=rfl
@[simp] theorem Om{α:Type}{xs:List α}:atD xs 2=xs[2]? :=rfl
@[simp] theorem Oo{α:Type}{xs:List α}:atD xs 3=xs[3]? :=rfl
@[simp] theorem Oq{α:Type}{xs:List α}:atD xs 4=xs[4]? :=rfl
@[simp] theorem Ot{α:Type}{xs:List α}:atD xs 5=xs[5]? :=rfl
end
open PySem
noncomputable def b9:D→List Int
 | .non=>[0]
 | .int i=>[1,i]
 | .str x=>2::x.cps.toList.map Int.ofNat
 |_=>[3]
noncomputable def fR{α:Type} [DecidableEq α](lt:α→α→Bool):List α→List α→Bool
 |[],[]=>false
 |[],_::_=>true
 |_::_,[]=>false
 |a::as,b::bs=>if a=b then fR lt as bs else lt a b
noncomputable def ltI(a b:Int):Bool:=decide (a<b)
noncomputable def ltC:List (List Int)→List (List Int)→Bool:=fR (fR ltI)
noncomputable def code:D→List (List Int)
 | .tup ds=>ds.map b9
 |d=>[b9 d]
noncomputable def CO(d:D):List D→List D
 |[]=>[d]
 |e::es=>if ltC (code d) (code e) then d::e::es else e::CO d es
noncomputable def df:List D→List D
 |[]=>[]
 |d::ds=>CO d (df ds)
noncomputable def tyD:D→Nat
 | .non=>0
 | .int _=>1
 | .str _=>2
 |_=>3
noncomputable def mM(d:D):Bool:=tyD d !=3
noncomputable def mS:List D→List D→Bool
 |a::as,b::bs=>if b9 a=b9 b then mS as bs else(tyD a==tyD b&&(tyD a==1||tyD a==2))
 |_,_=>true
noncomputable def CP:D→Bool
 | .int _=>true
 |_=>false
noncomputable def mN(t:Nat):D→Bool
 | .tup (f::r)=>tyD f==t&&r.all mM
 |_=>false
noncomputable def w9:D→D→Bool
 | .tup a,.tup b=>mS a b
 |_,_=>false
noncomputable def keysOk(ds:List D):Bool:=ds.all CP||((ds.all (mN 1)||ds.all (mN 2))&&ds.all λx=>ds.all λy=>w9 x y)
noncomputable def sortedS:List D→Option RV:=one λds=>if decide (ds.length<64)&&keysOk ds then some ⟨.tn,.lst (df ds)⟩ else none
structure uQ{α:Type}(lt:α→α→Bool):Prop where
 irr:∀a,lt a a=false
 tr:∀a b c,lt a b=true→lt b c=true→lt a c=true
 tot:∀a b,lt a b=false→lt b a=false→a=b
theorem Ob:uQ ltI:=⟨λa=>by simp[ltI],λa b c h1 h2=>by simp[ltI] at*;omega,λa b h1 h2=>by simp[ltI] at*;omega⟩
section
variable{α:Type} [DecidableEq α]{lt:α→α→Bool}
theorem uQ.lex(L:uQ lt):uQ (fR lt):=by
 refine⟨λa=> ?_,λa=> ?_,λa=> ?_⟩
 ·induction a with
  |nil=>rfl
  |cons x xs ih=>simp[fR,ih]
 ·induction a with
  |nil=>
   intro b c h1 h2
   cases c with
   |nil=>cases b<;>simp[fR] at h1 h2
   |cons z zs=>rfl
  |cons x xs ih=>
   intro b c h1 h2
   cases b with
   |nil=>simp[fR] at h1
   |cons y ys=>
    cases c with
    |nil=>simp[fR] at h2
    |cons z zs=>
     unfold fR at h1 h2⊢
     by_cases e1:x=y
     ·subst e1
      rw[Gaf rfl] at h1
      by_cases e2:x=z
      ·subst e2
       rw[Gaf rfl] at h2⊢
       exact ih ys zs h1 h2
      ·rw[Gah e2] at h2⊢;exact h2
     ·rw[Gah e1] at h1
      by_cases e2:y=z
      ·subst e2
       rw[Gah e1];exact h1
      ·rw[Gah e2] at h2
       by_cases e3:x=z
       ·subst e3
        have:=L.tr x y x h1 h2
        rw[L.irr] at this;cases this
       ·rw[Gah e3];exact L.tr x y z h1 h2
 ·induction a with
  |nil=>
   intro b h1 h2
   cases b with
   |nil=>rfl
   |cons y ys=>simp[fR] at h1
  |cons x xs ih=>
   intro b h1 h2
   cases b with
   |nil=>simp[fR] at h2
   |cons y ys=>
    unfold fR at h1 h2
    by_cases e:x=y
    ·subst e
     rw[Gaf rfl] at h1 h2
     rw[ih ys h1 h2]
    ·rw[Gah e] at h1
     rw[Gah (GaX e)] at h2
     exact absurd (L.tot x y h1 h2) e
theorem uQ.nt(L:uQ lt){k x y:α}(h1:lt k y=true)(h2:lt x y=false):lt k x=true:=by
 cases h:lt y x with
 |true=>exact L.tr k y x h1 h
 |false=>rw[L.tot x y h2 h];exact h1
theorem uQ.Oc(L:uQ lt){x y:α}(h:lt x y=true):lt y x=false:=by
 cases q:lt y x with
 |false=>rfl
 |true=>have:=L.tr x y x h q;rw[L.irr] at this;cases this
end
theorem CQ:uQ ltC:=Ob.lex.lex
noncomputable def rank(cs:List (List (List Int)))(i:Nat):Int:=((cs.filter λc=>ltC c (cs[i]?.getD [])).length:Nat)
theorem nG{α:Type}{p q:α→Bool}:∀{l:List α},(∀x∈l,p x=true→q x=true)→(l.filter p).length≤(l.filter q).length
 |[],_=>Gap _
 |x::l,h=>by
  have ih:=nG (l:=l) λy hy=>h y (Gag _ hy)
  have hx:=h x Gan
  cases hp:p x with
  |false=>
   rw[Gba,hp]
   simp only[GaD,Gbf]
   refine Gbp ih ?_
   rw[Gba]
   split
   ·rw[GaH];omega
   ·exact Gap _
  |true=>rw[Gba,Gba,hp,hx hp];simp;exact ih
theorem mT{α:Type}{p q:α→Bool}:∀{l:List α} {z:α},z∈l→p z=false→q z=true→(∀x∈l,p x=true→q x=true)→(l.filter p).length<(l.filter q).length
 |[],z,hz,_,_,_=>by cases hz
 |x::l,z,hz,h1,h2,h=>by
  rcases Gay.mp hz with e|hz
  ·subst e
   have:=nG (l:=l) (p:=p) (q:=q) λy hy=>h y (Gag _ hy)
   rw[Gba,Gba,h1,h2]
   simp;omega
  ·have ih:=mT hz h1 h2 λy hy=>h y (Gag _ hy)
   have hx:=h x Gan
   cases hp:p x with
   |false=>
    rw[Gba,hp]
    simp only[GaD,Gbf]
    rw[Gba]
    split
    ·rw[GaH];omega
    ·exact ih
   |true=>rw[Gba,Gba,hp,hx hp];simp;exact ih
theorem BD{cs:List (List (List Int))}{i j:Nat}(hi:i<cs.length)(hj:j<cs.length):decide (rank cs i<rank cs j)=ltC cs[i] cs[j]:=by
 unfold rank
 rw[Gaa hi,Gaa hj]
 simp only[Option.getD_some]
 cases h:ltC cs[i] cs[j] with
 |true=>
  refine GaK (Int.ofNat_lt.mpr ?_)
  exact mT (z:=cs[i]) (GaA hi) (CQ.irr _) h λc _ hc=>CQ.tr _ _ _ hc h
 |false=>
  refine GaL (Int.not_lt.mpr (Int.ofNat_le.mpr ?_))
  exact nG λc _ hc=>CQ.nt hc h
def fF(ds:List D):Prop:=ds.Pairwise λa b=>ltC (code b) (code a)=false
theorem pb(d:D):∀es:List D,(CO d es).Perm (d::es)
 |[]=>List.Perm.refl _
 |e::es=>by
  unfold CO
  split
  ·exact List.Perm.refl _
  ·exact((pb d es).cons e).trans (List.Perm.swap d e es)
theorem fH:∀ds:List D,(df ds).Perm ds
 |[]=>List.Perm.refl _
 |d::ds=>(pb d _).trans ((fH ds).cons d)
theorem pW(d:D):∀{es:List D},fF es→fF (CO d es)
 |[],_=>GbN _ _
 |e::es,h=>by
  have h' :=GbK.mp h
  unfold CO
  split
  ·rename_i c
   refine GbK.mpr ⟨λb hb=> ?_,h⟩
   rcases Gay.mp hb with q|q
   ·subst q;exact CQ.Oc c
   ·cases z:ltC (code b) (code d) with
    |false=>rfl
    |true=>have:=CQ.tr _ _ _ z c;rw[h'.1 b q] at this;cases this
  ·rename_i c
   refine GbK.mpr ⟨λb hb=> ?_,pW d h'.2⟩
   rcases Gay.mp ((pb d es).mem_iff.mp hb) with q|q
   ·subst q;simpa using c
   ·exact h'.1 b q
theorem fS:∀ds:List D,fF (df ds)
 |[]=>List.Pairwise.nil
 |d::ds=>pW d (fS ds)
theorem jJ:∀{xs ys:List D},xs.Perm ys→fF xs→fF ys→(∀a∈xs,∀b∈xs,code a=code b→a=b)→xs=ys
 |[],ys,hp,_,_,_=>(List.nil_perm.mp hp).symm
 |x::xs,ys,hp,hx,hy,hi=>by
  cases ys with
  |nil=>exact absurd (List.perm_nil.mp hp) (by simp)
  |cons y ys=>
   have px:=GbK.mp hx
   have py:=GbK.mp hy
   have e:x=y:=by
    have mx:x∈y::ys:=hp.mem_iff.mp Gan
    have my:y∈x::xs:=hp.mem_iff.mpr Gan
    rcases Gay.mp mx with q|q
    ·exact q
    ·rcases Gay.mp my with r|r
     ·exact r.symm
     ·exact hi x Gan y my (CQ.tot _ _ (py.1 x q) (px.1 y r)).symm.symm
   subst e
   rw[jJ (List.perm_cons x|>.mp hp) px.2 py.2 λa ha b hb=>hi a (Gag _ ha) b (Gag _ hb)]
open PySem
@[simp] noncomputable def fq:Nat→List D→List D
 |_,[]=>[]
 |i,x::xs=> .tup [.int i,x]::fq (i+1) xs
@[simp] noncomputable def BE(f:DE):DI:=λenv=>(f env).bind λr=>if r.k= .to then none else match r.d with
 | .lst xs=>some (fq 0 xs)
 | .tup xs=>some (fq 0 xs)
 |_=>none
theorem jU:∀(i:Nat) (xs:List D),(fq i xs).length=xs.length
 |_,[]=>rfl
 |i,x::xs=>by simp[jU (i+1) xs]
theorem jV:∀(k:Nat) (xs:List D) (i:Nat),(fq k xs)[i]? =(xs[i]?).map λx=> .tup [.int ((k+i:Nat)),x]
 |_,[],i=>by simp
 |k,x::xs,i=>by
  cases i with
  |zero=>simp
  |succ i=>
   simp only[fq,GcV]
   rw[jV (k+1) xs i,show k+1+i=k+(i+1) by omega]
open PySem
noncomputable def wa(x:D)(ds:List D):Option Bool:=if av 10 x&&ds.all (av 10) then some (ds.any λy=>eqD y x) else none
noncomputable def inB(x y:D):Option Bool:=match y with
 | .dK kvs=>(keyOf x).map λk=>(look kvs k).isSome
 | .dT kvs=>match x with
  | .tup ks=>(keysOf ks).map λk=>(look kvs k).isSome
  |_=>none
 | .lst ds=>wa x ds
 | .tup ds=>wa x ds
 |_=>none
@[simp] theorem Od{x:D}{kvs:List (Key×D)}:inB x (.dK kvs)=(keyOf x).map λk=>(look kvs k).isSome:=rfl
@[simp] theorem Oe{ks:List D}{kvs:List (List Key×D)}:inB (.tup ks) (.dT kvs)=(keysOf ks).map λk=>(look kvs k).isSome:=rfl
open PySem
noncomputable def gw{α:Type}(xs:List α)(i:Int)(y:α):List α:=xs.take (if i<0 then(i+(xs.length:Int)).toNat else min i.toNat xs.length)++y::xs.drop (if i<0 then(i+(xs.length:Int)).toNat else min i.toNat xs.length)
theorem u3{α:Type}(xs:List α)(i:Int)(y:α):(gw xs i y).length=xs.length+1:=by
 unfold gw
 rw[Gar,GaH,GcD,GbP]
 omega
theorem AJ{α:Type}(xs:List α)(i:Int)(y:α):(gw xs i y).Perm (y::xs):=by
 unfold gw
 refine List.perm_middle.trans ?_
 rw[GaZ]
@[simp] noncomputable def Mp(i:Nat)(k v:DE):DS:=λenv=>(k env).bind λx=>(v env).bind λr=>(ownAt i env).bind λd=>match d,x.d with
 | .lst xs,.int j=>if r.free&&(decide (xs.length<ai)&&cn j) then some (.nx (env.set i (some (.own (.lst (gw xs j r.d)))))) else none
 |_,_=>none
open PySem
noncomputable def mmD(best:Int→List Int→Int)(dv:D)(d:D):Option RV:=(mQ d).bind λds=>(BA ds).map λns=>match ns with
 |[]=> ⟨.c,dv⟩
 |n::ns=> ⟨.c,.int (best n ns)⟩
@[simp] noncomputable def mmE(best:Int→List Int→Int)(dv:D)(f:DE):DE:=λenv=>(f env).bind λr=>mmD best dv r.d
open PySem
noncomputable def isInt:D→Bool
 | .int _=>true
 |_=>false
noncomputable def unI:D→Int
 | .int i=>i
 |_=>0
noncomputable def JM:Key→D
 | .inl i=> .int i
 | .inr x=> .str x
open PySem
noncomputable def CS:D→D→Option (Option D)
 | .dK kvs,k=>(keyOf k).map λk=>look kvs k
 | .dT kvs,.tup ks=>(keysOf ks).map λk=>look kvs k
 |_,_=>none
@[simp] noncomputable def GS(o k d:DE):DE:=λenv=>(o env).bind λx=>(k env).bind λy=>(d env).bind λr=>if r.k= .c then(CS x.d y.d).map λv=> ⟨.c,v.getD r.d⟩ else none
@[simp] theorem NG{kvs:List (List Key×D)}{ks:List D}:CS (.dT kvs) (.tup ks)=(keysOf ks).map λk=>look kvs k:=rfl
open PySem
open PySem
noncomputable def bO(kvs:List (List Key×D)):List D:=kvs.map λp=> .tup [.tup (p.1.map JM),p.2]
@[simp] noncomputable def Ep(vw:List (List Key×D)→List D)(f:DE):DI:=λenv=>(f env).bind λr=>if r.k= .tn then match r.d with
 | .dT kvs=>some (vw kvs)
 |_=>none
 else none
@[simp] noncomputable def Mq(i:Nat)(env:Env):Bool:=(List.range env.length).all λj=>j==i||match env[j]? with
 |some (some (.bor _))=>false
 |_=>true
@[simp] noncomputable def dictAt(i:Nat)(env:Env):Option (List (List Key×D)):=match env[i]? with
 |some (some (.own (.dT kvs)))=>some kvs
 |some (some (.lok (.dT kvs)))=>some kvs
 |some (some (.bor (.dT kvs)))=>if Mq i env then some kvs else none
 |_=>none
@[simp] noncomputable def pf(vw:List (List Key×D)→List D)(i n:Nat)(aO:List Nat)(g:DG)(t:DT)(f:DE):DE:=λenv=>(dictAt i env).bind λkvs=>
 if(vw kvs).length≤ai then(cy g t f (vw kvs) (compEnv n aO (env.set i none))).map λrs=> ⟨.tn,.lst rs⟩ else none
open PySem
open PySem
open PySem
open PySem
open PySem
noncomputable abbrev DN:=Env→List (List D)→Option (Env×List (List D))
@[simp] noncomputable def BF(env:Env):Bool:=env.all λz=>match z with
 |some (.bor _)=>false
 |_=>true
open PySem
noncomputable def fT:List D→Option RV:=one λds=>if decide (ds.length<1000000)&&keysOk ds then some ⟨.tn,.lst (df ds)⟩ else none
open PySem
noncomputable def dd1(ks:List Int)(k:Int):List Int:=if k∈ks then ks else ks++[k]
noncomputable def ddF(ns:List Int):List Int:=ns.foldl dd1 []
open PySem
noncomputable abbrev Rws:=List (List Key×D)
noncomputable abbrev DM:=Env→Rws→Option (Env×Rws)
@[simp] noncomputable def Mr(f g:DM):DM:=λenv rows=>(f env rows).bind λq=>g q.1 q.2
@[simp] noncomputable def setM(j:Nat)(f:DE):DM:=λenv rows=>(f env).bind λr=>match r.k with
 | .c=>some (env.set j (some (.sh r.d)),rows)
 |_=>none
noncomputable def Er(kvs:Rws)(k:List Key)(d:D):Option Rws:=if kvs.length<ai then match kvs.findIdx? (λp=>decide (p.1=k)) with
 |some j=>match kvs[j]? with
  |some (_,.lst ds)=>if ds.length<ai then some (kvs.set j (k,.lst (ds++[d]))) else none
  |_=>none
 |none=>some (kvs++[(k,.lst [d])])
 else none
@[simp] noncomputable def Ms(k f:DE):DM:=λenv rows=>(k env).bind λy=>(f env).bind λr=>match y.d with
 | .tup ks=>if r.d.imm&&BF env then(keysOf ks).bind λk=>(Er rows k r.d).map λrows' =>(env,rows') else none
 |_=>none
@[simp] noncomputable def nV(j:Nat)(f:DM):List D→DM
 |[],env,rows=>some (env,rows)
 |d::ds,env,rows=>(f (env.set j (some (.sh d))) rows).bind λq=>nV j f ds q.1 q.2
@[simp] noncomputable def IM(j:Nat)(e:DE)(f:DM):DM:=λenv rows=>(e env).bind λr=>match r.d with
 | .tup xs=>if aP xs then nV j f xs env rows else none
 |_=>none
@[simp] noncomputable def Es(i:Nat)(f:DM):DS:=λenv=>(f (env.set i none) []).bind λq=>some (.ret (.dT q.2))
open PySem PySem.Spec PyProof.Rows L2
noncomputable abbrev aD:=PySem.W.Frag
noncomputable abbrev St:=L2.St
def isT:HO→Prop
 | .tup _=>True
 | .frz _ _=>True
 |_=>False
def Kl(K:aD)(a:Addr)(xs:List V):Prop:=∃(o:Obj) (its:Array Value) (n:Nat),K.lookup a=some o∧o.cls= .type "list"∧o.dict=none∧o.data= .seq its n∧its.size≤sizeLine∧Vals xs its.toList
def Scr(K:aD)(H:Hp)(a:Addr)(ns:List Int):Prop:=(∃o,H a=some (.frz o (.lst (ns.map V.int))))∨Kl K a (ns.map V.int)
inductive Rep (K:aD) (F:Addr→Prop) (H:Hp):D→V→Prop where
 |non:Rep K F H .non .non
 |bl (b:Bool):Rep K F H (.bl b) (.bl b)
 |int (i:Int):Rep K F H (.int i) (.int i)
 |str (x:Str):Rep K F H (.str x) (.str x)
 |tup {a:Addr} {vs:List V} {ds:List D} (h:H a=some (.tup vs)) (l:ds.length=vs.length) (r:∀(i:Nat) d v,ds[i]? =some d→vs[i]? =some v→Rep K F H d v):Rep K F H (.tup ds) (.ref a)
 |lst {a:Addr} {vs:List V} {ds:List D} (f:F a) (h:Rd H a (.lst vs)) (l:ds.length=vs.length) (r:∀(i:Nat) d v,ds[i]? =some d→vs[i]? =some v→Rep K F H d v):Rep K F H (.lst ds) (.ref a)
 |scr {a:Addr} {ns:List Int} (h:Scr K H a ns):Rep K F H (.scr ns) (.ref a)
 |dK {a:Addr} {ws:List (Key×V)} {kvs:List (Key×D)} (f:F a) (h:H a=some (.dK ws)) (l:kvs.map (·.1)=ws.map (·.1)) (r:∀(i:Nat) p q,kvs[i]? =some p→ws[i]? =some q→Rep K F H p.2 q.2):Rep K F H (.dK kvs) (.ref a)
 |dT {a:Addr} {ws:List (List Key×V)} {kvs:List (List Key×D)} (f:F a) (h:H a=some (.dT ws)) (l:kvs.map (·.1)=ws.map (·.1)) (r:∀(i:Nat) p q,kvs[i]? =some p→ws[i]? =some q→Rep K F H p.2 q.2):Rep K F H (.dT kvs) (.ref a)
def aY(K:aD)(F:Addr→Prop)(H:Hp)(ds:List D)(vs:List V):Prop:=ds.length=vs.length∧∀(i:Nat) d v,ds[i]? =some d→vs[i]? =some v→Rep K F H d v
def bg{κ:Type}(K:aD)(F:Addr→Prop)(H:Hp)(kvs:List (κ×D))(ws:List (κ×V)):Prop:=kvs.map (·.1)=ws.map (·.1)∧∀(i:Nat) p q,kvs[i]? =some p→ws[i]? =some q→Rep K F H p.2 q.2
inductive Inn (K:aD) (F:Addr→Prop) (H:Hp):D→V→Prop where
 |non:Inn K F H .non .non
 |bl (b:Bool):Inn K F H (.bl b) (.bl b)
 |int (i:Int):Inn K F H (.int i) (.int i)
 |str (x:Str):Inn K F H (.str x) (.str x)
 |tup {a:Addr} {vs:List V} {ds:List D} (h:H a=some (.tup vs)) (r:aY K F H ds vs):Inn K F H (.tup ds) (.ref a)
 |lst {a:Addr} {vs:List V} {ds:List D} (h:Rd H a (.lst vs)) (r:aY K F H ds vs):Inn K F H (.lst ds) (.ref a)
 |scr {a:Addr} {ns:List Int} (h:Scr K H a ns):Inn K F H (.scr ns) (.ref a)
 |dK {a:Addr} {ws:List (Key×V)} {kvs:List (Key×D)} (h:H a=some (.dK ws)) (r:bg K F H kvs ws):Inn K F H (.dK kvs) (.ref a)
 |dT {a:Addr} {ws:List (List Key×V)} {kvs:List (List Key×D)} (h:H a=some (.dT ws)) (r:bg K F H kvs ws):Inn K F H (.dT kvs) (.ref a)
section
variable{K:aD}{F F' :Addr→Prop}{H H' :Hp}{d:D}{v:V}{ds:List D}{vs:List V}
theorem Rep.inn(h:Rep K F H d v):Inn K F H d v:=by
 cases h with
 |non=>exact .non
 |bl b=>exact .bl b
 |int i=>exact .int i
 |str x=>exact .str x
 |tup h l r=>exact .tup h ⟨l,r⟩
 |lst f h l r=>exact .lst h ⟨l,r⟩
 |scr h=>exact .scr h
 |dK f h l r=>exact .dK h ⟨l,r⟩
 |dT f h l r=>exact .dT h ⟨l,r⟩
theorem Inn.rep(h:Inn K F H d v)(hf:∀a,v= .ref a→d.top=true→F a):Rep K F H d v:=by
 cases h with
 |non=>exact .non
 |bl b=>exact .bl b
 |int i=>exact .int i
 |str x=>exact .str x
 |tup h r=>exact .tup h r.1 r.2
 |lst h r=>exact .lst (hf _ rfl rfl) h r.1 r.2
 |scr h=>exact .scr h
 |dK h r=>exact .dK (hf _ rfl rfl) h r.1 r.2
 |dT h r=>exact .dT (hf _ rfl rfl) h r.1 r.2
def j4(F:Addr→Prop)(H H' :Hp):Prop:=∀b o,H b=some o→(F b∨isT o)→H' b=some o
theorem j4.of_same(h:cj H H'):j4 F H H' :=λb o e _=>h b o e
theorem j4.tup{a:Addr}(s:j4 F H H')(h:H a=some (.tup vs)):H' a=some (.tup vs):=s _ _ h (.inr trivial)
theorem j4.scr{a:Addr}{ns:List Int}(s:j4 F H H')(h:Scr K H a ns):Scr K H' a ns:=by
 rcases h with⟨o,h⟩|h
 ·exact .inl ⟨o,s _ _ h (.inr trivial)⟩
 ·exact .inr h
theorem j4.rd{a:Addr}{u:HO}(s:j4 F H H')(f:F a)(h:Rd H a u):Rd H' a u:=by
 rcases h with h| ⟨o,h⟩
 ·exact .inl (s _ _ h (.inl f))
 ·exact .inr ⟨o,s _ _ h (.inl f)⟩
theorem Rd.there{a:Addr}{u:HO}(h:Rd H a u):H a≠none:=by
 rcases h with h| ⟨o,h⟩<;>rw[h]<;>simp
theorem Rep.gen(s:j4 F H H')(hF:∀b,F b→H b≠none→F' b)(h:Rep K F H d v):Rep K F' H' d v:=by
 induction h with
 |non=>exact .non
 |bl b=>exact .bl b
 |int i=>exact .int i
 |str x=>exact .str x
 |tup h l r ih=>exact .tup (s.tup h) l ih
 |lst f h l r ih=>exact .lst (hF _ f (Rd.there h)) (s.rd f h) l ih
 |scr h=>exact .scr (s.scr h)
 |dK f h l r ih=>exact .dK (hF _ f (by rw[h];simp)) (s _ _ h (.inl f)) l ih
 |dT f h l r ih=>exact .dT (hF _ f (by rw[h];simp)) (s _ _ h (.inl f)) l ih
theorem Rep.same(s:cj H H')(h:Rep K F H d v):Rep K F H' d v:=h.gen (.of_same s) λ_ f _=>f
theorem Rep.imp(hF:∀b,F b→F' b)(h:Rep K F H d v):Rep K F' H d v:=h.gen (.of_same λ_ _ e=>e) λb f _=>hF b f
theorem aY.gen(s:j4 F H H')(hF:∀b,F b→H b≠none→F' b)(h:aY K F H ds vs):aY K F' H' ds vs:=⟨h.1,λi d v e1 e2=>(h.2 i d v e1 e2).gen s hF⟩
theorem bg.gen{κ:Type}{kvs:List (κ×D)}{ws:List (κ×V)}(s:j4 F H H')(hF:∀b,F b→H b≠none→F' b)(h:bg K F H kvs ws):bg K F' H' kvs ws:=⟨h.1,λi p q e1 e2=>(h.2 i p q e1 e2).gen s hF⟩
theorem Inn.gen(s:j4 F H H')(hF:∀b,F b→H b≠none→F' b)(ht:∀a,v= .ref a→d.top=true→∀o,H a=some o→H' a=some o)(h:Inn K F H d v):Inn K F' H' d v:=by
 have rd:∀{a:Addr} {u:HO},(∀o,H a=some o→H' a=some o)→Rd H a u→Rd H' a u:=λk h=>by
  rcases h with h| ⟨o,h⟩
  ·exact .inl (k _ h)
  ·exact .inr ⟨o,k _ h⟩
 cases h with
 |non=>exact .non
 |bl b=>exact .bl b
 |int i=>exact .int i
 |str x=>exact .str x
 |tup h r=>exact .tup (s.tup h) (r.gen s hF)
 |lst h r=>exact .lst (rd (ht _ rfl rfl) h) (r.gen s hF)
 |scr h=>exact .scr (s.scr h)
 |dK h r=>exact .dK (ht _ rfl rfl _ h) (r.gen s hF)
 |dT h r=>exact .dT (ht _ rfl rfl _ h) (r.gen s hF)
theorem Inn.same(s:cj H H')(h:Inn K F H d v):Inn K F H' d v:=h.gen (.of_same s) (λ_ f _=>f) λ_ _ _ o e=>s _ o e
theorem Inn.imp(hF:∀b,F b→F' b)(h:Inn K F H d v):Inn K F' H d v:=h.gen (.of_same λ_ _ e=>e) (λb f _=>hF b f) λ_ _ _ _ e=>e
theorem Inn.any(h:Inn K F H d v):Rep K (λ_=>True) H d v:=(h.imp (F' :=λ_=>True) λ_ _=>trivial).rep λ_ _ _=>trivial
theorem qN{ds:List D}(h:aP ds=true):∀(i:Nat) d,ds[i]? =some d→d.imm=true:=by
 induction ds with
 |nil=>intro i d e;simp at e
 |cons x xs ih=>
  unfold aP at h
  rw[Gas] at h
  intro i d e
  cases i with
  |zero=>simp at e;subst e;exact h.1
  |succ i=>exact ih h.2 i d (by simpa using e)
theorem Rep.imm(h:Rep K F H d v)(hd:d.imm=true):Rep K F' H d v:=by
 induction h with
 |non=>exact .non
 |bl b=>exact .bl b
 |int i=>exact .int i
 |str x=>exact .str x
 |tup h l r ih=>
  unfold D.imm at hd
  exact .tup h l λi d v e1 e2=>ih i d v e1 e2 (qN hd i d e1)
 |lst f h l r ih=>simp[D.imm] at hd
 |scr h=>exact .scr h
 |dK f h l r ih=>simp[D.imm] at hd
 |dT f h l r ih=>simp[D.imm] at hd
theorem Inn.imm(h:Inn K F H d v)(hd:d.imm=true):Rep K F' H d v:=by
 refine Rep.imm (h.rep λa _ ht=> ?_) hd
 cases d<;>simp[D.top] at ht<;>simp[D.imm] at hd
theorem aY.nil:aY K F H [] []:=⟨rfl,λi d v e=>by simp at e⟩
theorem aY.cU(h:aY K F H [] vs):vs=[]:=Gcv h.1.symm
theorem aY.cons(h:Rep K F H d v)(r:aY K F H ds vs):aY K F H (d::ds) (v::vs):=by
 refine⟨by simp[r.1],λi x u e1 e2=> ?_⟩
 cases i with
 |zero=>simp at e1 e2;subst e1;subst e2;exact h
 |succ i=>exact r.2 i x u (by simpa using e1) (by simpa using e2)
theorem aY.cons_inv(h:aY K F H (d::ds) vs):∃v r,vs=v::r∧Rep K F H d v∧aY K F H ds r:=by
 cases vs with
 |nil=>exact absurd h.1 (by simp)
 |cons v r=>exact⟨v,r,rfl,h.2 0 d v rfl rfl,by simpa using h.1,λi x u e1 e2=>h.2 (i+1) x u (by simpa using e1) (by simpa using e2)⟩
theorem aY.append:∀{ds es:List D} {vs us:List V},aY K F H ds vs→aY K F H es us→aY K F H (ds++es) (vs++us)
 |[],es,vs,us,h,r=>by rw[h.cU];exact r
 |d::ds,es,vs,us,h,r=>by
  obtain⟨v,w,rfl,h1,h2⟩:=h.cons_inv
  exact .cons h1 (h2.append r)
theorem aY.take(n:Nat)(h:aY K F H ds vs):aY K F H (ds.take n) (vs.take n):=by
 refine⟨by simp[h.1],λi x u e1 e2=> ?_⟩
 by_cases hi:i<n
 ·rw[GaS hi] at e1 e2;exact h.2 i x u e1 e2
 ·rw[Gbk (by simp;omega)] at e1;cases e1
theorem aY.drop(n:Nat)(h:aY K F H ds vs):aY K F H (ds.drop n) (vs.drop n):=by
 refine⟨by simp[h.1],λi x u e1 e2=> ?_⟩
 rw[Gbg] at e1 e2
 exact h.2 _ x u e1 e2
theorem aY.reverse(h:aY K F H ds vs):aY K F H ds.reverse vs.reverse:=by
 refine⟨by simp[h.1],λi x u e1 e2=> ?_⟩
 have hi:i<ds.length:=by have:=(Gac.mp e1).1;simpa using this
 rw[List.getElem?_reverse hi] at e1
 rw[List.getElem?_reverse (by rw[←h.1];exact hi),←h.1] at e2
 exact h.2 _ x u e1 e2
theorem aY.set(h:aY K F H ds vs)(r:Rep K F H d v)(i:Nat):aY K F H (ds.set i d) (vs.set i v):=by
 refine⟨by simp[h.1],λj x u e1 e2=> ?_⟩
 by_cases hj:i=j
 ·subst hj
  have hi:i<ds.length:=by have:=(Gac.mp e1).1;simpa using this
  rw[GaN hi] at e1
  rw[GaN (by rw[←h.1];exact hi)] at e2
  cases e1;cases e2;exact r
 ·rw[Gab hj] at e1 e2
  exact h.2 j x u e1 e2
theorem aY.get{i:Nat}(h:aY K F H ds vs)(e:ds[i]? =some d):∃v,vs[i]? =some v∧Rep K F H d v:=by
 have hi:=(Gac.mp e).1
 have hi' :i<vs.length:=by rw[←h.1];exact hi
 exact⟨vs[i],by simp[hi'],h.2 i d _ e (by simp[hi'])⟩
theorem aY.imm(h:aY K F H ds vs)(hd:aP ds=true):aY K F' H ds vs:=⟨h.1,λi d v e1 e2=>(h.2 i d v e1 e2).imm (qN hd i d e1)⟩
end
def bx:Option (Option Slot)→Prop
 |some (some (.own _))=>True
 |some (some (.lok _))=>True
 |some (some (.bor _))=>True
 |_=>False
def wc:Option (Option Slot)→Prop
 |some (some (.own _))=>True
 |some (some (.lok _))=>True
 |_=>False
def isO:Option (Option Slot)→Prop
 |some (some (.own _))=>True
 |_=>False
def uR:Option (Option Slot)→Prop
 |some (some (.lok _))=>True
 |some (some (.bor _))=>True
 |_=>False
theorem u4{x:Option (Option Slot)}(h:bx x):isO x∨uR x:=by
 match x,h with
 |some (some (.own _)),_=>exact .inl trivial
 |some (some (.lok _)),_=>exact .inr trivial
 |some (some (.bor _)),_=>exact .inr trivial
theorem uR.top{x:Option (Option Slot)}(h:uR x):bx x:=by
 match x,h with
 |some (some (.lok _)),_=>trivial
 |some (some (.bor _)),_=>trivial
theorem isO.ol{x:Option (Option Slot)}(h:isO x):wc x:=by
 match x,h with
 |some (some (.own _)),_=>trivial
theorem wc.top{x:Option (Option Slot)}(h:wc x):bx x:=by
 match x,h with
 |some (some (.own _)),_=>trivial
 |some (some (.lok _)),_=>trivial
def Cln(Bad:Addr→Prop)(env:Env)(σ:St)(a:Addr):Prop:=¬Bad a∧∀i:Nat,bx env[i]? →σ[i]? ≠some (some (V.ref a))
def isW:HO→Prop
 | .lst _=>True
 | .dK _=>True
 | .dT _=>True
 |_=>False
def Wr(H:Hp)(a:Addr):Prop:=∃o,H a=some o∧isW o
def Ow(env:Env)(σ:St)(a:Addr):Prop:=∃i:Nat,isO env[i]? ∧σ[i]? =some (some (.ref a))
structure aI(K:aD)(H₀:Hp)(Bad:Addr→Prop)(env:Env)(σ:St)(H:Hp):Prop where
 same:cj H₀ H
 len:env.length=σ.length
 bad:∀a,Bad a→H a≠none
 sh:∀(i:Nat) d,env[i]? =some (some (.sh d))→∃v,σ[i]? =some (some v)∧Rep K (Cln Bad env σ) H d v
 ow:∀(i:Nat) d,(env[i]? =some (some (.own d))∨env[i]? =some (some (.lok d)))→∃a,σ[i]? =some (some (.ref a))∧H₀ a=none∧¬Bad a∧Wr H a∧d.top=true∧Inn K (Cln Bad env σ) H d (.ref a)
 bo:∀(i:Nat) d,env[i]? =some (some (.bor d))→∃a,σ[i]? =some (some (.ref a))∧Wr H a∧d.top=true∧Inn K (Cln Bad env σ) H d (.ref a)
 dj:∀(i j:Nat) a,wc env[i]? →bx env[j]? →σ[i]? =some (some (.ref a))→σ[j]? =some (some (.ref a))→i=j
structure Stp(env:Env)(σ:St)(H:Hp)(env' :Env)(σ' :St)(H' :Hp):Prop where
 keep:∀b o,H b=some o→¬Ow env σ b→H' b=some o
 ow:∀b,Ow env' σ' b→Ow env σ b∨H b=none
 lk:∀i:Nat,uR env'[i]? →env'[i]? =env[i]? ∧σ'[i]? =σ[i]?
theorem Stp.refl{env:Env}{σ:St}{H:Hp}:Stp env σ H env σ H:=⟨λ_ _ e _=>e,λ_ h=> .inl h,λ_ _=> ⟨rfl,rfl⟩⟩
theorem Stp.of_same{env:Env}{σ:St}{H H' :Hp}(s:cj H H'):Stp env σ H env σ H' :=⟨λb o e _=>s b o e,λ_ h=> .inl h,λ_ _=> ⟨rfl,rfl⟩⟩
theorem Stp.trans{e1 e2 e3:Env}{s1 s2 s3:St}{H1 H2 H3:Hp}(a:Stp e1 s1 H1 e2 s2 H2)(b:Stp e2 s2 H2 e3 s3 H3):Stp e1 s1 H1 e3 s3 H3:=by
 refine⟨λc o e n=>b.keep c o (a.keep c o e n) λh=> ?_,λc h=> ?_,λi h=> ?_⟩
 ·rcases a.ow c h with q|q
  ·exact n q
  ·rw[e] at q;cases q
 ·rcases b.ow c h with q|q
  ·exact a.ow c q
  ·by_cases z:Ow e1 s1 c
   ·exact .inl z
   ·right
    cases e:H1 c with
    |none=>rfl
    |some o=>rw[a.keep c o e z] at q;cases q
 ·obtain⟨h1,h2⟩:=b.lk i h
  rw[h1] at h
  obtain⟨h3,h4⟩:=a.lk i h
  exact⟨h1.trans h3,h2.trans h4⟩
section
variable{K:aD}{H₀ H H' H1:Hp}{Bad:Addr→Prop}{env env' :Env}{σ σ' :St}{d:D}{v:V}{a:Addr}{i:Nat}
theorem Wr.same(s:cj H H')(w:Wr H a):Wr H' a:=let⟨o,h1,h2⟩:=w;⟨o,s a o h1,h2⟩
theorem Wr.there(w:Wr H a):H a≠none:=let⟨o,h1,_⟩:=w;by rw[h1];simp
theorem aI.mono(E:aI K H₀ Bad env σ H)(s:cj H H'):aI K H₀ Bad env σ H' where
 same:=E.same.trans s
 len:=E.len
 bad:=λa h e=>E.bad a h (s.free e)
 sh:=λi d e=>let⟨v,h1,h2⟩:=E.sh i d e;⟨v,h1,h2.same s⟩
 ow:=λi d e=>let⟨a,h1,h2,h3,h4,h5,h6⟩:=E.ow i d e;⟨a,h1,h2,h3,h4.same s,h5,h6.same s⟩
 bo:=λi d e=>let⟨a,h1,h2,h3,h4⟩:=E.bo i d e;⟨a,h1,h2.same s,h3,h4.same s⟩
 dj:=E.dj
theorem aI.Mt(E:aI K H₀ Bad env σ H)(h:bx env[i]?):∃d a,d.top=true∧σ[i]? =some (some (.ref a))∧Wr H a∧Inn K (Cln Bad env σ) H d (.ref a):=by
 match e:env[i]?,h with
 |some (some (.own d)),_=>obtain⟨a,h1,_,_,h4,h5,h6⟩:=E.ow i d (.inl e);exact⟨d,a,h5,h1,h4,h6⟩
 |some (some (.lok d)),_=>obtain⟨a,h1,_,_,h4,h5,h6⟩:=E.ow i d (.inr e);exact⟨d,a,h5,h1,h4,h6⟩
 |some (some (.bor d)),_=>obtain⟨a,h1,h4,h5,h6⟩:=E.bo i d e;exact⟨d,a,h5,h1,h4,h6⟩
theorem aI.IP(E:aI K H₀ Bad env σ H)(h:bx env[i]?)(e:σ[i]? =some (some (.ref a))):Wr H a:=by
 obtain⟨d,b,h1,h2,h3,h4⟩:=E.Mt h
 rw[e] at h2;cases h2
 exact h3
theorem aI.nW(E:aI K H₀ Bad env σ H)(h:bx env[i]?)(e:σ[i]? =some (some (.ref a))):H a≠none:=(E.IP h e).there
theorem aI.uS(E:aI K H₀ Bad env σ H)(h:H a=none):Cln Bad env σ a:=⟨λb=>E.bad a b h,λi t e=>E.nW t e h⟩
def jK(K:aD)(H₀:Hp)(Bad:Addr→Prop)(env:Env)(σ:St)(H H' :Hp)(r:RV)(v:V):Prop:=
 match r.k with
 | .c=>Rep K (Cln Bad env σ) H' r.d v
 | .tn=>∃a,v= .ref a∧H a=none∧Wr H' a∧r.d.top=true∧Inn K (λb=>Cln Bad env σ b∧b≠a) H' r.d v
 | .to=>∃a,v= .ref a∧H₀ a=none∧Wr H' a∧r.d.top=true∧Inn K (Cln Bad env σ) H' r.d v
 | .tb=>Inn K (Cln Bad env σ) H' r.d v∧∀a,v= .ref a→r.d.top=true→¬Ow env σ a
theorem jK.inn{r:RV}(h:jK K H₀ Bad env σ H H' r v):Inn K (Cln Bad env σ) H' r.d v:=by
 obtain⟨k,d⟩:=r
 cases k with
 |c=>exact Rep.inn h
 |tn=>obtain⟨_,_,_,_,_,h⟩:=h;exact h.imp λ_ z=>z.1
 |to=>obtain⟨_,_,_,_,_,h⟩:=h;exact h
 |tb=>exact h.1
theorem jK.rep{r:RV}(h:jK K H₀ Bad env σ H H' r v)(E:aI K H₀ Bad env σ H)(hf:r.free=true):Rep K (Cln Bad env σ) H' r.d v:=by
 obtain⟨k,d⟩:=r
 cases k with
 |c=>exact h
 |tn=>
  obtain⟨a,e,h1,_,_,h2⟩:=h
  exact(h2.imp λ_ z=>z.1).rep λb eb _=>by rw[e] at eb;cases eb;exact E.uS h1
 |to=>simp[RV.free] at hf
 |tb=>simp[RV.free] at hf
theorem jK.same{r:RV}{H2:Hp}(h:jK K H₀ Bad env σ H H' r v)(s:cj H' H2):jK K H₀ Bad env σ H H2 r v:=by
 obtain⟨k,d⟩:=r
 cases k with
 |c=>exact Rep.same s h
 |tn=>obtain⟨a,e,h1,w,t,h2⟩:=h;subst e;exact⟨a,rfl,h1,w.same s,t,h2.same s⟩
 |to=>obtain⟨a,e,h1,w,t,h2⟩:=h;subst e;exact⟨a,rfl,h1,w.same s,t,h2.same s⟩
 |tb=>exact⟨h.1.same s,h.2⟩
theorem jK.from{r:RV}(s:cj H H1)(h:jK K H₀ Bad env σ H1 H' r v):jK K H₀ Bad env σ H H' r v:=by
 obtain⟨k,d⟩:=r
 cases k with
 |c=>exact h
 |tn=>obtain⟨a,e,h1,w,t,h2⟩:=h;exact⟨a,e,s.free h1,w,t,h2⟩
 |to=>exact h
 |tb=>exact h
def u5(K:aD)(H₀ H' :Hp)(d:D)(v:V):Prop:=
 (d.top=true→∃a,v= .ref a∧H₀ a=none∧Wr H' a)∧Inn K (λb=>H₀ b=none∧v≠ .ref b) H' d v
theorem u5.rv(E:aI K H₀ Bad env σ H)(h:u5 K H H' d v):jK K H₀ Bad env σ H H' (ku d) v:=by
 obtain⟨h1,h2⟩:=h
 unfold ku
 by_cases t:d.top=true
 ·rw[Gaf t]
  obtain⟨a,e,n,w⟩:=h1 t
  subst e
  exact⟨a,rfl,n,w,t,h2.imp λb z=> ⟨E.uS z.1,λq=>z.2 (by rw[q])⟩⟩
 ·rw[Gah t]
  exact(h2.imp λb z=>E.uS z.1).rep λ_ _ z=>absurd z t
end
open PySem PySem.Spec PyProof.Rows L2
noncomputable def tE(X:Cx)(f:DE):TE:=λσ H Q=>∃H₀ Bad env r,aI X.K H₀ Bad env σ H∧f env=some r∧∀v H',cj H H' →jK X.K H₀ Bad env σ H H' r v→Q v H'
noncomputable def tT(X:Cx)(t:DT):TT:=λσ H Q=>∃H₀ Bad env b,aI X.K H₀ Bad env σ H∧t env=some b∧∀H',cj H H' →Q b H'
noncomputable def tA(X:Cx)(a:DA):TA:=λσ H Q=>∃H₀ Bad env rs,aI X.K H₀ Bad env σ H∧a env=some rs∧∀vs H',cj H H' →Paired (jK X.K H₀ Bad env σ H H') rs vs→Q vs H'
def Mu(X:Cx)(H₀:Hp)(Bad:Addr→Prop)(env:Env)(σ:St)(H:Hp)(E:Ends):Out→Prop
 | .nx e=>∀σ' H',aI X.K H₀ Bad e σ' H' →Stp env σ H e σ' H' →E.nx σ' H'
 | .bk e=>∀σ' H',aI X.K H₀ Bad e σ' H' →Stp env σ H e σ' H' →E.bk σ' H'
 | .ct e=>∀σ' H',aI X.K H₀ Bad e σ' H' →Stp env σ H e σ' H' →E.ct σ' H'
 | .ret d=>∀v H',cj H₀ H' →u5 X.K H₀ H' d v→E.rt v H'
noncomputable def tS(X:Cx)(f:DS):TS:=λE σ H=>∃H₀ Bad env o,aI X.K H₀ Bad env σ H∧f env=some o∧Mu X H₀ Bad env σ H E o
noncomputable def tG(X:Cx)(g:DG):TG:=λv σ H Q=>∃H₀ Bad env d env',aI X.K H₀ Bad env σ H∧g d env=some env' ∧Rep X.K (Cln Bad env σ) H d v∧∀σ' H',aI X.K H₀ Bad env' σ' H' →Stp env σ H env' σ' H' →Q σ' H'
abbrev PEd(X:Cx)(e:Expr)(f:DE):Prop:=PE X e (tE X f)
abbrev PTd(X:Cx)(e:Expr)(t:DT):Prop:=PT X e (tT X t)
abbrev PWd(X:Cx)(e:Expr)(t:DT):Prop:=PW X e (tT X t)
abbrev PAd(X:Cx)(es:List Expr)(a:DA):Prop:=PA X es (tA X a)
abbrev PSd(X:Cx)(st:Stmt)(f:DS):Prop:=PS X st (tS X f)
abbrev lq(X:Cx)(st:List Stmt)(f:DS):Prop:=PSs X st (tS X f)
abbrev PGd(X:Cx)(e:Expr)(g:DG):Prop:=PG X e (tG X g)
section
variable{X:Cx}{e a b c:Expr}{f g h:DE}{t u:DT}{pos:Pos}
theorem _root_.L2.PE.aU{t t' :TE}(h:PE X e t')(i:∀σ H Q,t σ H Q→t' σ H Q):PE X e t:=λpins s σ H Q I q=>h pins s σ H Q I (i σ H Q q)
theorem _root_.L2.PT.aU{t t' :TT}(h:PT X e t')(i:∀σ H Q,t σ H Q→t' σ H Q):PT X e t:=λpins s σ H Q I q=>h pins s σ H Q I (i σ H Q q)
theorem _root_.L2.PW.aU{t t' :TT}(h:PW X e t')(i:∀σ H Q,t σ H Q→t' σ H Q):PW X e t:=λwh pins s σ H Q I q=>h wh pins s σ H Q I (i σ H Q q)
theorem _root_.L2.PA.aU{es:List Expr}{t t' :TA}(h:PA X es t')(i:∀σ H Q,t σ H Q→t' σ H Q):PA X es t:=λpos pins s σ H Q I q=>h pos pins s σ H Q I (i σ H Q q)
theorem _root_.L2.PS.aU{st:Stmt}{t t' :TS}(h:PS X st t')(i:∀D σ H,t D σ H→t' D σ H):PS X st t:=λpins s σ H D I q=>h pins s σ H D I (i D σ H q)
theorem _root_.L2.PSs.aU{st:List Stmt}{t t' :TS}(h:PSs X st t')(i:∀D σ H,t D σ H→t' D σ H):PSs X st t:=λpins s σ H D I q=>h pins s σ H D I (i D σ H q)
theorem _root_.L2.PG.aU{t t' :TG}(h:PG X e t')(i:∀v σ H Q,t v σ H Q→t' v σ H Q):PG X e t:=λpins s σ H v u Q I r q=>h pins s σ H v u Q I r (i v σ H Q q)
theorem bU{H:Hp}:cj H H:=λ_ _ e=>e
theorem bind_some{α β:Type}{o:Option α}{k:α→Option β}{y:β}(h:o.bind k=some y):∃x,o=some x∧k x=some y:=Option.bind_eq_some_iff.mp h
theorem cK(i:Nat){x:Str}(hN:X.N[i]? =some x:=by rfl)(hv:Vis X.env.scope x:=by first|exact Or.inl rfl|exact Or.inr (Or.inl rfl)|exact Or.inr (Or.inr rfl))(hd:(x==("__debug__":Str))=false:=by decide)
  (hcd:(x==("__classdict__":Str))=false:=by decide):PEd X (.Name x pos) (vE i):=by
 refine(lu hN hv hd hcd).aU ?_
 rintro σ H Q ⟨H₀,Bad,env,r,E,e,k⟩
 unfold vE at e
 match q:env[i]?,e with
 |some (some (.sh d)),e=>
  cases e
  obtain⟨v,h1,h2⟩:=E.sh i d q
  exact⟨v,h1,k v H bU h2⟩
 |some (some (.own d)),e=>
  cases e
  obtain⟨a,h1,h2,h3,h4,h5,h6⟩:=E.ow i d (.inl q)
  exact⟨_,h1,k _ H bU ⟨a,rfl,h2,h4,h5,h6⟩⟩
 |some (some (.lok d)),e=>
  cases e
  obtain⟨a,h1,h2,h3,h4,h5,h6⟩:=E.ow i d (.inr q)
  refine⟨_,h1,k _ H bU ⟨h6,λb eb _ ⟨j,ho,hj⟩=> ?_⟩⟩
  cases eb
  have:=E.dj j i a ho.ol (by rw[q];trivial) hj h1
  subst this
  rw[q] at ho;exact ho
 |some (some (.bor d)),e=>
  cases e
  obtain⟨a,h1,h4,h5,h6⟩:=E.bo i d q
  refine⟨_,h1,k _ H bU ⟨h6,λb eb _ ⟨j,ho,hj⟩=> ?_⟩⟩
  cases eb
  have:=E.dj j i a ho.ol (by rw[q];trivial) hj h1
  subst this
  rw[q] at ho;exact ho
theorem a6{i:Int}{j:Nat}:PEd X (.Constant (.int i) j pos) (kE (.int i)):=DU.aU λσ H Q ⟨_,_,_,_,_,e,k⟩=>by cases e;exact k _ H bU (.int i)
theorem we{b:Bool}{j:Nat}:PEd X (.Constant (.bool b) j pos) (kE (.bl b)):=Ll.aU λσ H Q ⟨_,_,_,_,_,e,k⟩=>by cases e;exact k _ H bU (.bl b)
theorem fI{j:Nat}:PEd X (.Constant .none j pos) (kE .non):=J8.aU λσ H Q ⟨_,_,_,_,_,e,k⟩=>by cases e;exact k _ H bU .non
theorem aZ{x:Str}{j:Nat}:PEd X (.Constant (.str x) j pos) (kE (.str x)):=J9.aU λσ H Q ⟨_,_,_,_,_,e,k⟩=>by cases e;exact k _ H bU (.str x)
def RvN(K:aD)(F:Addr→Prop)(H H' :Hp)(r:RV)(v:V):Prop:=
 match r.k with
 | .c=>Rep K F H' r.d v
 | .tn=>∃a,v= .ref a∧H a=none∧Wr H' a∧r.d.top=true∧Inn K (λb=>F b∧b≠a) H' r.d v
 |_=>False
theorem RvN.ok{K:aD}{H₀ H H1 H' :Hp}{Bad:Addr→Prop}{env:Env}{σ:St}{r:RV}{v:V}(h:RvN K (Cln Bad env σ) H1 H' r v)(s:cj H H1):jK K H₀ Bad env σ H H' r v:=by
 obtain⟨k,d⟩:=r
 cases k with
 |c=>exact h
 |tn=>obtain⟨a,e,h1,w,t,h2⟩:=h;exact⟨a,e,s.free h1,w,t,h2⟩
 |to=>exact(show False from h).elim
 |tb=>exact(show False from h).elim
def OpD(X:Cx)(o:D→D→Option RV)(r:R2):Prop:=∀(F:Addr→Prop) (H:Hp) (dx dy:D) (x y:V) (rv:RV) (Q:VK),Inn X.K F H dx x→Inn X.K F H dy y→o dx dy=some rv→
 (∀v H',cj H H' →RvN X.K F H H' rv v→Q v H')→r x y H Q
theorem u6{op:Operator}{o:D→D→Option RV}{r:R2}(ho:OpR X (binaryOp op) r)(hd:OpD X o r)(ha:PEd X a f)(hb:PEd X b g):PEd X (.BinOp a op b pos) (opE o f g):=by
 refine(Lx ho ha hb).aU ?_
 rintro σ H Q ⟨H₀,Bad,env,rv,E,e,k⟩
 obtain⟨x,hx,e⟩:=bind_some e
 obtain⟨y,hy,e⟩:=bind_some e
 exact⟨H₀,Bad,env,x,E,hx,λvx H1 s1 R1=> ⟨H₀,Bad,env,y,E.mono s1,hy,λvy H2 s2 R2=>hd _ H2 x.d y.d vx vy rv Q (R1.inn.same s2) R2.inn e λv H3 s3 R3=>
  k v H3 (s1.trans (s2.trans s3)) (R3.ok (s1.trans s2))⟩⟩
theorem JN{o:D→D→Option RV}{gi:Int→Int→Int}(h:∀dx dy rv,o dx dy=some rv→∃i j,dx= .int i∧dy= .int j∧rv=⟨.c,.int (gi i j)⟩):OpD X o (rI0 λi j=> .int (gi i j)):=by
 intro F H dx dy x y rv Q ix iy e k
 obtain⟨i,j,rfl,rfl,rfl⟩:=h dx dy rv e
 cases ix;cases iy
 exact⟨i,j,rfl,rfl,k _ H bU (.int _)⟩
theorem BG{o:D→D→Option RV}{C:Int→Int→Prop}{gi:Int→Int→Int}(h:∀dx dy rv,o dx dy=some rv→∃i j,dx= .int i∧dy= .int j∧C i j∧rv=⟨.c,.int (gi i j)⟩):OpD X o (rI C λi j=> .int (gi i j)):=by
 intro F H dx dy x y rv Q ix iy e k
 obtain⟨i,j,rfl,rfl,hc,rfl⟩:=h dx dy rv e
 cases ix;cases iy
 exact⟨i,j,rfl,rfl,hc,k _ H bU (.int _)⟩
theorem GU:OpD X lj (rI0 λi j=> .int (i -j)):=JN λdx dy rv e=>by
 unfold lj at e
 split at e
 ·cases e;exact⟨_,_,rfl,rfl,rfl⟩
 ·cases e
theorem GV:OpD X dB (rI Gw λi j=> .int (i*j)):=BG λdx dy rv e=>by
 unfold dB at e
 split at e
 ·split at e
  ·rename_i i j q
   cases e
   refine⟨i,j,rfl,rfl, ?_,rfl⟩
   unfold ck at q
   rw[GaW] at q
   rcases q with q|q
   ·left;have:=GaB q;omega
   ·right;have:=GaB q;omega
  ·cases e
 ·cases e
theorem Et:OpD X mP (rI LA λi j=> .int (i/j)):=BG λdx dy rv e=>by
 unfold mP at e
 split at e
 ·split at e
  ·rename_i i j q
   cases e
   exact⟨i,j,rfl,rfl,q,rfl⟩
  ·cases e
 ·cases e
theorem GW:OpD X qF (rI (λ_ j=>0<j) λi j=> .int (i%j)):=BG λdx dy rv e=>by
 unfold qF at e
 split at e
 ·split at e
  ·rename_i i j q
   cases e
   exact⟨i,j,rfl,rfl,q,rfl⟩
  ·cases e
 ·cases e
theorem GX:OpD X p9 (rI LB λi j=> .int (i^j.toNat)):=BG λdx dy rv e=>by
 unfold p9 at e
 split at e
 ·split at e
  ·rename_i i j q
   cases e
   exact⟨i,j,rfl,rfl,⟨q.1,by omega,by omega⟩,rfl⟩
  ·cases e
 ·cases e
noncomputable def IQ:R2:=λx y H Q=>∃l b xs zs,x= .ref l∧y= .ref b∧Rd H l (.lst xs)∧Rd H b (.lst zs)∧xs.length+zs.length≤sizeLine∧∀p,H p=none→Q (.ref p) (upd H p (.lst (xs++zs)))
theorem GY:OpR X (binaryOp .Add) IQ:=by
 intro pins s σ H x y v u Q I rx ry h
 obtain⟨l,b,xs,zs,rfl,rfl,hH,hB,hz,q⟩:=h
 cases rx
 cases ry
 obtain⟨z,its,n,r,e⟩:=(show cC X.prog X.w H s.heap l (.lst xs) from hH.ok I.hok)
 obtain⟨z2,its2,n2,r2,e2⟩:=(show cC X.prog X.w H s.heap b (.lst zs) from hB.ok I.hok)
 have hl:=r.length
 have hl2:=r2.length
 refine PySem.P.add_list e e2 ?_ (by rw[Gam,Gam];omega)
 have ea:its.toArray++its2.toArray=(its++its2).toArray:=by simp
 rw[ea]
 exact⟨.ref _,_,I.O1 (t' :=s.toks) (r.append r2) (by rw[Gar];omega),rfl,q _ I.fresh⟩
theorem size_eq:ai=sizeLine:=by rw[Gbz];rfl
theorem bL{H:Hp}{p:Addr}{o:HO}(n:H p=none):cj H (upd H p o):=λb u e=>by rw[az (dP e n)];exact e
theorem fJ{K:aD}{F:Addr→Prop}{H:Hp}{p:Addr}{ds:List D}{vs:List V}(n:H p=none)(r:aY K F H ds vs):Rep K F (upd H p (.tup vs)) (.tup ds) (.ref p):=by
 have r2:=r.gen (F' :=F) (.of_same (bL (o:= .tup vs) n)) λ_ f _=>f
 exact .tup aN r2.1 r2.2
theorem j5{K:aD}{F:Addr→Prop}{H:Hp}{p:Addr}{ds:List D}{vs:List V}(n:H p=none)(r:aY K F H ds vs):Inn K (λb=>F b∧b≠p) (upd H p (.lst vs)) (.lst ds) (.ref p):=
 .lst (.inl aN) (r.gen (F' :=λb=>F b∧b≠p) (.of_same (bL (o:= .lst vs) n)) λb f hb=> ⟨f,λz=>hb (z▸n)⟩)
theorem rf{H:Hp}{p:Addr}{xs:List V}:Wr (upd H p (.lst xs)) p:=⟨_,aN,trivial⟩
noncomputable def IS(K:aD):R2:=λx y H Q=>rI0 (λi j=> .int (i+j)) x y H Q∨(∃i j,x= .str i∧y= .str j∧i.length+j.length≤sizeLine∧Q (.str (i++j)) H)∨IQ x y H Q∨II K x y H Q
theorem GZ:OpR X (binaryOp .Add) (IS X.K):=Jl.or (Ax.or (GY.or GJ))
theorem aY.ne{K:aD}{F:Addr→Prop}{H:Hp}{ds:List D}{vs:List V}(r:aY K F H ds vs):vs=[]↔ds=[]:=by
 constructor
 ·intro z;subst z;exact Gcv r.1
 ·intro z;subst z;exact r.cU
theorem H0:OpD X aS (IS X.K):=by
 intro F H dx dy x y rv Q ix iy e k
 unfold aS at e
 split at e
 ·cases e;cases ix;cases iy
  exact .inl ⟨_,_,rfl,rfl,k _ H bU (.int _)⟩
 ·split at e
  ·rename_i q
   cases e;cases ix;cases iy
   exact .inr (.inl ⟨_,_,rfl,rfl,by rw[←size_eq];exact q,k _ H bU (.str _)⟩)
  ·cases e
 ·split at e
  ·rename_i xs ys q
   cases e
   cases ix with
   |tup hx rx=>
    cases iy with
    |tup hy ry=>
     refine .inr (.inr (.inr ⟨_,_,_,_,rfl,rfl,SqT.of hx,SqT.of hy, ?_, ?_, ?_, ?_⟩))
     ·intro z
      have:=rx.ne.mp z
      subst this
      exact absurd q.2 (by simp)
     ·rw[←rx.1,←ry.1,←size_eq];exact q.1
     ·intro z
      have:=ry.ne.mp z
      subst this
      refine k _ H bU ?_
      rw[Gbh]
      exact .tup hx rx.1 rx.2
     ·intro z p n
      exact k _ _ (bL n) (fJ n (rx.append ry))
  ·cases e
 ·split at e
  ·rename_i xs ys q
   cases e
   cases ix with
   |lst hx rx=>
    cases iy with
    |lst hy ry=>
     refine .inr (.inr (.inl ⟨_,_,_,_,rfl,rfl,hx,hy,by rw[←rx.1,←ry.1,←size_eq];exact q,λp n=> ?_⟩))
     exact k _ _ (bL n) ⟨p,rfl,n,rf,rfl,j5 n (rx.append ry)⟩
  ·cases e
 ·cases e
def UnD(X:Cx)(o:D→Option RV)(r:V→Hp→VK→Prop):Prop:=∀(F:Addr→Prop) (H:Hp) (dx:D) (x:V) (rv:RV) (Q:VK),Inn X.K F H dx x→o dx=some rv→(∀v H',cj H H' →RvN X.K F H H' rv v→Q v H')→r x H Q
theorem Mv{op:UnaryOp}{o:D→Option RV}{r:V→Hp→VK→Prop}(ho:UnR X (unaryOp op) r)(hd:UnD X o r)(ha:PEd X a f):PEd X (.UnaryOp op a pos) (unE o f):=by
 refine(Ly ho ha).aU ?_
 rintro σ H Q ⟨H₀,Bad,env,rv,E,e,k⟩
 obtain⟨x,hx,e⟩:=bind_some e
 exact⟨H₀,Bad,env,x,E,hx,λvx H1 s1 R1=>hd _ H1 x.d vx rv Q R1.inn e λv H3 s3 R3=>k v H3 (s1.trans s3) (R3.ok s1)⟩
theorem Ha:UnD X CM (rU λi=> .int (-i)):=by
 intro F H dx x rv Q ix e k
 unfold CM at e
 split at e
 ·cases e;cases ix;exact⟨_,rfl,k _ H bU (.int _)⟩
 ·cases e
theorem aB(ha:PEd X a f)(hb:PEd X b g):PEd X (.BinOp a .Add b pos) (opE aS f g):=u6 GZ H0 ha hb
theorem j6(ha:PEd X a f)(hb:PEd X b g):PEd X (.BinOp a .Sub b pos) (opE lj f g):=u6 Jm GU ha hb
theorem bw(ha:PEd X a f)(hb:PEd X b g):PEd X (.BinOp a .Mult b pos) (opE dB f g):=u6 Jn GV ha hb
theorem mE(ha:PEd X a f)(hb:PEd X b g):PEd X (.BinOp a .FloorDiv b pos) (opE mP f g):=u6 Gx Et ha hb
theorem lH(ha:PEd X a f)(hb:PEd X b g):PEd X (.BinOp a .Mod b pos) (opE qF f g):=u6 Jo GW ha hb
theorem lI(ha:PEd X a f)(hb:PEd X b g):PEd X (.BinOp a .Pow b pos) (opE p9 f g):=u6 Jp GX ha hb
theorem Eu(ha:PEd X a f):PEd X (.UnaryOp .USub a pos) (unE CM f):=Mv Jq Ha ha
def OpB(X:Cx)(o:D→D→Option Bool)(r:R2):Prop:=∀(F:Addr→Prop) (H:Hp) (dx dy:D) (x y:V) (b:Bool) (Q:VK),Inn X.K F H dx x→Inn X.K F H dy y→o dx dy=some b→Q (.bl b) H→r x y H Q
theorem aM{op:CmpOp}{o:D→D→Option Bool}{r:R2}(ho:OpR X (compareOp op) r)(hd:OpB X o r)(ha:PEd X a f)(hb:PEd X b g)(hm:behindInMarks op b=false):PTd X (.Compare a [op] [b] pos) (b8 o f g):=by
 refine(Gz ho ha hb hm).aU ?_
 rintro σ H Q ⟨H₀,Bad,env,bb,E,e,k⟩
 obtain⟨x,hx,e⟩:=bind_some e
 obtain⟨y,hy,e⟩:=bind_some e
 exact⟨H₀,Bad,env,x,E,hx,λvx H1 s1 R1=> ⟨H₀,Bad,env,y,E.mono s1,hy,λvy H2 s2 R2=>hd _ H2 x.d y.d vx vy bb _ (R1.inn.same s2) R2.inn e ⟨bb,rfl,k H2 (s1.trans s2)⟩⟩⟩
theorem uT{op:CmpOp}{o:D→D→Option Bool}{r:R2}(ho:OpR X (compareOp op) r)(hd:OpB X o r)(ha:PEd X a f)(hb:PEd X b g)(hm:behindInMarks op b=false):PEd X (.Compare a [op] [b] pos) (bE (b8 o f g)):=by
 refine(Gy ho ha hb hm).aU ?_
 rintro σ H Q ⟨H₀,Bad,env,rv,E,e,k⟩
 obtain⟨bb,e',rfl⟩:=Gak.mp e
 clear e
 have e:=e'
 clear e'
 obtain⟨x,hx,e⟩:=bind_some e
 obtain⟨y,hy,e⟩:=bind_some e
 exact⟨H₀,Bad,env,x,E,hx,λvx H1 s1 R1=> ⟨H₀,Bad,env,y,E.mono s1,hy,λvy H2 s2 R2=>hd _ H2 x.d y.d vx vy bb _ (R1.inn.same s2) R2.inn e (k _ H2 (s1.trans s2) (.bl bb))⟩⟩
theorem BH{o:D→D→Option Bool}{gb:Int→Int→Bool}(h:∀dx dy b,o dx dy=some b→∃i j,dx= .int i∧dy= .int j∧b=gb i j):OpB X o (rI0 λi j=> .bl (gb i j)):=by
 intro F H dx dy x y b Q ix iy e q
 obtain⟨i,j,rfl,rfl,rfl⟩:=h dx dy b e
 cases ix;cases iy
 exact⟨i,j,rfl,rfl,q⟩
theorem j7:OpB X ltB (rI0 λi j=> .bl (decide (i<j))):=BH λdx dy b e=>by
 unfold ltB at e;split at e<;>cases e;exact⟨_,_,rfl,rfl,rfl⟩
theorem ph:OpB X leB (rI0 λi j=> .bl (decide (i≤j))):=BH λdx dy b e=>by
 unfold leB at e;split at e<;>cases e;exact⟨_,_,rfl,rfl,rfl⟩
theorem jL:OpB X gtB (rI0 λi j=> .bl (decide (j<i))):=BH λdx dy b e=>by
 unfold gtB at e;split at e<;>cases e;exact⟨_,_,rfl,rfl,rfl⟩
theorem JO:OpB X geB (rI0 λi j=> .bl (decide (j≤i))):=BH λdx dy b e=>by
 unfold geB at e;split at e<;>cases e;exact⟨_,_,rfl,rfl,rfl⟩
theorem u7{K:aD}{F:Addr→Prop}{H:Hp}{d:D}{x:V}(h:Inn K F H d x):decide (x= .non)=dm d:=by
 cases h<;>simp[dm]
theorem nX:OpB X nF (λx y H Q=>y= .non∧Q (.bl (decide (x= .non))) H):=by
 intro F H dx dy x y b Q ix iy e q
 simp only[nF,kW] at e
 split at e
 ·rename_i h
  cases e
  cases iy<;>simp[dm] at h
  exact⟨rfl,by rw[u7 ix];exact q⟩
 ·cases e
theorem rh:OpB X kW (λx y H Q=>y= .non∧Q (.bl (!decide (x= .non))) H):=by
 intro F H dx dy x y b Q ix iy e q
 simp only[nF,kW] at e
 split at e
 ·rename_i h
  cases e
  cases iy<;>simp[dm] at h
  exact⟨rfl,by rw[u7 ix];exact q⟩
 ·cases e
theorem nH(h:PEd X e f)(he:∀whole,isTrue e X.env whole=(do let v←whole;standAt e.pos;holding [v] (truthy v)):=by intro _;rfl):PTd X e (vZ f):=by
 refine(Ja h he).aU ?_
 rintro σ H Q ⟨H₀,Bad,env,bb,E,e,k⟩
 obtain⟨x,hx,e⟩:=bind_some e
 split at e
 ·rename_i b hb
  cases e
  refine⟨H₀,Bad,env,x,E,hx,λvx H1 s1 R1=> ⟨bb, ?_,k H1 s1⟩⟩
  have i:=R1.inn
  rw[hb] at i
  cases i;rfl
 ·cases e
theorem dX(ha:PTd X a t):PWd X (.BoolOp .And [a] pos) t:=Gr ha
theorem pj(ha:PTd X a t):PWd X (.BoolOp .Or [a] pos) t:=Jb ha
theorem gx{rest:List Expr}(ha:PTd X a t)(hb:PWd X (.BoolOp .And (b::rest) pos) u):PWd X (.BoolOp .And (a::b::rest) pos) (kz t u):=by
 refine(Jc ha hb).aU ?_
 rintro σ H Q ⟨H₀,Bad,env,bb,E,e,k⟩
 obtain⟨x,hx,e⟩:=bind_some e
 refine⟨H₀,Bad,env,x,E,hx,λH1 s1=> ?_⟩
 cases x with
 |true=>rw[Gaf rfl];rw[Gaf rfl] at e;exact⟨H₀,Bad,env,bb,E.mono s1,e,λH2 s2=>k H2 (s1.trans s2)⟩
 |false=>rw[Gah Gaz];rw[Gah Gaz] at e;cases e;exact k H1 s1
theorem rm{rest:List Expr}(ha:PTd X a t)(hb:PWd X (.BoolOp .Or (b::rest) pos) u):PWd X (.BoolOp .Or (a::b::rest) pos) (orT t u):=by
 refine(Lm ha hb).aU ?_
 rintro σ H Q ⟨H₀,Bad,env,bb,E,e,k⟩
 obtain⟨x,hx,e⟩:=bind_some e
 refine⟨H₀,Bad,env,x,E,hx,λH1 s1=> ?_⟩
 cases x with
 |false=>rw[Gah Gaz];rw[Gah Gaz] at e;exact⟨H₀,Bad,env,bb,E.mono s1,e,λH2 s2=>k H2 (s1.trans s2)⟩
 |true=>rw[Gaf rfl];rw[Gaf rfl] at e;cases e;exact k H1 s1
theorem pk(ha:PTd X a t):PTd X (.UnaryOp .Not a pos) (uN t):=by
 refine(Jd ha).aU ?_
 rintro σ H Q ⟨H₀,Bad,env,bb,E,e,k⟩
 obtain⟨x,hx,rfl⟩:=Gak.mp e
 exact⟨H₀,Bad,env,x,E,hx,λH1 s1=>k H1 s1⟩
theorem JP{op:BoolOp}(ha:PEd X a (bE t)):PEd X (.BoolOp op [a] pos) (bE t):=Je ha
theorem JQ{rest:List Expr}(ha:PEd X a (bE t))(hb:PEd X (.BoolOp .And (b::rest) pos) (bE u)):PEd X (.BoolOp .And (a::b::rest) pos) (bE (kz t u)):=by
 refine(Jf ha hb).aU ?_
 rintro σ H Q ⟨H₀,Bad,env,rv,E,e,k⟩
 obtain⟨bb,e',rfl⟩:=Gak.mp e
 clear e
 have e:=e'
 clear e'
 obtain⟨x,hx,e⟩:=bind_some e
 refine⟨H₀,Bad,env,⟨.c,.bl x⟩,E,by unfold bE;rw[hx];rfl,λv H1 s1 R=> ?_⟩
 have R' :Inn X.K (Cln Bad env σ) H1 (.bl x) v:=R.inn
 cases R'
 refine⟨x,rfl, ?_⟩
 cases x with
 |true=>rw[Gaf rfl];rw[Gaf rfl] at e;exact⟨H₀,Bad,env,⟨.c,.bl bb⟩,E.mono s1,by unfold bE;rw[e];rfl,λv2 H2 s2 R2=>k v2 H2 (s1.trans s2) (R2.from s1)⟩
 |false=>rw[Gah Gaz];rw[Gah Gaz] at e;cases e;exact k _ H1 s1 (.bl false)
theorem JR(ha:PEd X a (bE t)):PEd X (.UnaryOp .Not a pos) (bE (uN t)):=by
 refine(Jg ha).aU ?_
 rintro σ H Q ⟨H₀,Bad,env,rv,E,e,k⟩
 obtain⟨bb,e',rfl⟩:=Gak.mp e
 clear e
 have e:=e'
 clear e'
 obtain⟨x,hx,rfl⟩:=Gak.mp e
 refine⟨H₀,Bad,env,⟨.c,.bl x⟩,E,by unfold bE;rw[hx];rfl,λv H1 s1 R=> ?_⟩
 have R' :Inn X.K (Cln Bad env σ) H1 (.bl x) v:=R.inn
 cases R'
 exact⟨x,rfl,k _ H1 s1 (.bl _)⟩
theorem Ew(hc:PTd X c t)(ha:PEd X a f)(hb:PEd X b g):PEd X (.IfExp c a b pos) (ifE t f g):=by
 refine(DV hc ha hb).aU ?_
 rintro σ H Q ⟨H₀,Bad,env,rv,E,e,k⟩
 obtain⟨x,hx,e⟩:=bind_some e
 refine⟨H₀,Bad,env,x,E,hx,λH1 s1=> ?_⟩
 cases x with
 |true=>rw[Gaf rfl];rw[Gaf rfl] at e;exact⟨H₀,Bad,env,rv,E.mono s1,e,λv H2 s2 R=>k v H2 (s1.trans s2) (R.from s1)⟩
 |false=>rw[Gah Gaz];rw[Gah Gaz] at e;exact⟨H₀,Bad,env,rv,E.mono s1,e,λv H2 s2 R=>k v H2 (s1.trans s2) (R.from s1)⟩
theorem Ex{op op' :CmpOp}{o p:D→D→Option Bool}{r r' :R2}(ho:OpR X (compareOp op) r)(hd:OpB X o r)(ho' :OpR X (compareOp op') r')(hd' :OpB X p r')(ha:PEd X a f)(hb:PEd X b g)(hc:PEd X c h)
  (hm:lastMarks [op,op'] [b,c]=false:=by with_unfolding_all rfl):PTd X (.Compare a [op,op'] [b,c] pos) (Em o p f g h):=by
 refine(Eb ho ho' ha hb hc hm).aU ?_
 rintro σ H Q ⟨H₀,Bad,env,bb,E,e,k⟩
 obtain⟨x,hx,e⟩:=bind_some e
 obtain⟨y,hy,e⟩:=bind_some e
 obtain⟨b1,h1,e⟩:=bind_some e
 refine⟨H₀,Bad,env,x,E,hx,λvx H1 s1 R1=> ⟨H₀,Bad,env,y,E.mono s1,hy,λvy H2 s2 R2=>hd _ H2 x.d y.d vx vy b1 _ (R1.inn.same s2) R2.inn h1 ⟨b1,rfl, ?_⟩⟩⟩
 cases b1 with
 |true=>
  rw[Gaf rfl];rw[Gaf rfl] at e
  obtain⟨z,hz,e⟩:=bind_some e
  exact⟨H₀,Bad,env,z,(E.mono s1).mono s2,hz,λvz H3 s3 R3=>hd' _ H3 y.d z.d vy vz bb _ (R2.inn.same s3) R3.inn e ⟨bb,rfl,k H3 (s1.trans (s2.trans s3))⟩⟩
 |false=>
  rw[Gah Gaz];rw[Gah Gaz] at e;cases e
  exact⟨false,rfl,k H2 (s1.trans s2)⟩
end
open PySem PySem.Spec PyProof.Rows L2
section
variable{X:Cx}{e a b c:Expr}{f g h:DE}{t u:DT}{pos:Pos}
theorem Scr.sq{K:aD}{H:Hp}{a:Addr}{ns:List Int}(h:Scr K H a ns):SqL K H a (ns.map V.int):=by
 rcases h with⟨o,h⟩|h
 ·exact .inl (.inr ⟨o,h⟩)
 ·exact .inr h
theorem Ey{K:aD}{F:Addr→Prop}{H:Hp}{ds:List D}{vs:List V}{i:Int}{d:D}(r:aY K F H ds vs)(e:atD ds i=some d):∃v,atI vs i=some v∧Rep K F H d v:=by
 unfold atD at e
 unfold atI ixN
 rw[←r.1]
 split at e
 ·rename_i h0
  obtain⟨v,h1,h2⟩:=r.get e
  have hi:=(Gac.mp e).1
  refine⟨v, ?_,h2⟩
  rw[Gaf h0,Gaf (by omega)]
  exact h1
 ·rename_i h0
  split at e
  ·rename_i h1
   obtain⟨v,h2,h3⟩:=r.get e
   refine⟨v, ?_,h3⟩
   rw[Gah h0,Gaf h1]
   exact h2
  ·cases e
noncomputable def Mw:R2:=λx y H Q=>∃a v,x= .ref a∧nT H a y (some v)∧Q v H
theorem Hb(hu:X.A.units+1<cLine):IxR X Mw:=by
 intro value slice pins s σ H x y v u Q I rx ry h hs
 obtain⟨a,z,rfl,g,q⟩:=h
 cases rx
 exact tail_any (vW I g) PySem.F.slot_dict_getitem.lookup (CI hu I g ry λw' s3 I3 rw' => ⟨z,H,I3,rw',q⟩) hs
noncomputable def Of(K:aD):R2:=λx y H Q=>rIx K x y H Q∨Mw x y H Q
theorem Hc(hu:X.A.units+1<cLine):IxR X (Of X.K):=Jz.or (Hb hu)
theorem jW{κ:Type} [DecidableEq κ]{K:aD}{F:Addr→Prop}{H:Hp}:∀{kvs:List (κ×D)} {ws:List (κ×V)} {k:κ} {d:D},bg K F H kvs ws→look kvs k=some d→∃v,gr ws k=some v∧Rep K F H d v
 |[],ws,k,d,_,e=>by simp[look] at e
 |p::kvs,[],k,d,r,_=>absurd r.1 (by simp)
 |p::kvs,q::ws,k,d,r,e=>by
  have h1:p.1=q.1∧kvs.map (·.1)=ws.map (·.1):=by have:=r.1;simpa using this
  have r2:bg K F H kvs ws:=⟨h1.2,λi x y e1 e2=>r.2 (i+1) x y (by simpa using e1) (by simpa using e2)⟩
  by_cases z:p.1=k
  ·have e' :look (p::kvs) k=some p.2:=by simp[look,Gbu,z]
   rw[e'] at e;cases e
   exact⟨q.2,lC (h1.1.symm.trans z),r.2 0 p q rfl rfl⟩
  ·have e' :look (p::kvs) k=look kvs k:=by simp[look,Gbu,z]
   rw[e'] at e
   obtain⟨v,h3,h4⟩:=jW r2 e
   exact⟨v,by rw[iX (λw=>z (h1.1.trans w))];exact h3,h4⟩
theorem mF{κ:Type} [DecidableEq κ]{K:aD}{F:Addr→Prop}{H:Hp}:∀{kvs:List (κ×D)} {ws:List (κ×V)} {k:κ},bg K F H kvs ws→look kvs k=none→gr ws k=none
 |[],[],k,_,_=>rfl
 |[],q::ws,k,r,_=>absurd r.1 (by simp)
 |p::kvs,[],k,r,_=>absurd r.1 (by simp)
 |p::kvs,q::ws,k,r,e=>by
  have h1:p.1=q.1∧kvs.map (·.1)=ws.map (·.1):=by have:=r.1;simpa using this
  have r2:bg K F H kvs ws:=⟨h1.2,λi x y e1 e2=>r.2 (i+1) x y (by simpa using e1) (by simpa using e2)⟩
  by_cases z:p.1=k
  ·have e' :look (p::kvs) k=some p.2:=by simp[look,Gbu,z]
   rw[e'] at e;cases e
  ·have e' :look (p::kvs) k=look kvs k:=by simp[look,Gbu,z]
   rw[e'] at e
   rw[iX (λw=>z (h1.1.trans w))]
   exact mF r2 e
theorem pq{K:aD}{F:Addr→Prop}{H:Hp}{d:D}{x:V}{k:Key}(i:Inn K F H d x)(e:keyOf d=some k):x=kV k:=by
 unfold keyOf at e
 split at e<;>cases e<;>cases i<;>rfl
theorem js{K:aD}{F:Addr→Prop}{H:Hp}:∀{ds:List D} {vs:List V} {ks:List Key},aY K F H ds vs→keysOf ds=some ks→vs=ks.map kV
 |[],vs,ks,r,e=>by cases e;rw[r.cU];rfl
 |d::ds,vs,ks,r,e=>by
  obtain⟨v,w,rfl,h1,h2⟩:=r.cons_inv
  unfold keysOf at e
  obtain⟨k,hk,e⟩:=bind_some e
  obtain⟨ks',hks,rfl⟩:=Gak.mp e
  rw[pq h1.inn hk,js h2 hks]
  rfl
theorem nY{K:aD}{F:Addr→Prop}{H:Hp}{d k:D}{x y:V}(ix:Inn K F H d x)(iy:Inn K F H k y):
  (∀kvs key,d= .dK kvs→keyOf k=some key→∃a ws,x= .ref a∧bg K F H kvs ws∧nT H a y (gr ws key))∧
  (∀kvs ks key,d= .dT kvs→k= .tup ks→keysOf ks=some key→∃a ws,x= .ref a∧bg K F H kvs ws∧nT H a y (gr ws key)):=by
 refine⟨λkvs key ed ek=> ?_,λkvs ks key ed ek e=> ?_⟩
 ·subst ed
  cases ix with
  |dK h r=>exact⟨_,_,rfl,r,.inl ⟨_,key,.inl h,pq iy ek,rfl⟩⟩
 ·subst ed ek
  cases ix with
  |dT h r=>
   cases iy with
   |tup hy ry=>exact⟨_,_,rfl,r,.inr ⟨_,key,_,.inl h,rfl,by rw[←js ry e];exact hy,rfl⟩⟩
theorem af(hu:X.A.units+1<cLine)(ha:PEd X a f)(hb:PEd X b g)(hs:Bx b:=by exactλ_ _=>rfl):PEd X (.Subscript a b pos) (ixE f g):=by
 refine(LK (Hc hu) ha hb hs).aU ?_
 rintro σ H Q ⟨H₀,Bad,env,rv,E,e,k⟩
 obtain⟨x,hx,e⟩:=bind_some e
 obtain⟨y,hy,e⟩:=bind_some e
 obtain⟨d,e',rfl⟩:=Gak.mp e
 clear e
 have e:=e'
 clear e'
 refine⟨H₀,Bad,env,x,E,hx,λvx H1 s1 R1=> ⟨H₀,Bad,env,y,E.mono s1,hy,λvy H2 s2 R2=> ?_⟩⟩
 have ix:=R1.inn.same s2
 have iy:=R2.inn
 have fin:∀v,Rep X.K (Cln Bad env σ) H2 d v→Q v H2:=λv r=>k v H2 (s1.trans s2) r
 generalize x.d=dx at ix e
 generalize y.d=dy at iy e
 unfold ixD at e
 split at e
 ·cases iy
  cases ix with
  |lst h r=>
   obtain⟨v,h1,h2⟩:=Ey r e
   exact .inl (.inl ⟨_,_,_,v,rfl,rfl,.inl h,h1,fin v h2⟩)
 ·cases iy
  cases ix with
  |tup h r=>
   obtain⟨v,h1,h2⟩:=Ey r e
   exact .inl (.inr (.inl ⟨_,_,_,v,rfl,rfl,SqT.of h,h1,fin v h2⟩))
 ·split at e
  ·rename_i hz
   obtain⟨ch,e',rfl⟩:=Gak.mp e
   clear e
   have e:=e'
   clear e'
   cases iy;cases ix
   refine .inl (.inr (.inr ⟨_,_,ch,rfl,rfl,by rw[←size_eq];exact hz, ?_,fin _ (.str _)⟩))
   unfold atD at e
   unfold atI ixN
   split at e
   ·rename_i h0
    have hi:=(Gac.mp e).1
    rw[Gaf h0,Gaf (by omega)]
    exact e
   ·rename_i h0
    split at e
    ·rename_i h1
     rw[Gah h0,Gaf h1]
     exact e
    ·cases e
  ·cases e
 ·obtain⟨key,hk,e⟩:=bind_some e
  obtain⟨p,ws,rfl,r,dg⟩:=(nY ix iy).1 _ key rfl hk
  obtain⟨v,h1,h2⟩:=jW r e
  rw[h1] at dg
  exact .inr ⟨p,v,rfl,dg,fin v h2⟩
 ·obtain⟨key,hk,e⟩:=bind_some e
  obtain⟨p,ws,rfl,r,dg⟩:=(nY ix iy).2 _ _ key rfl rfl hk
  obtain⟨v,h1,h2⟩:=jW r e
  rw[h1] at dg
  exact .inr ⟨p,v,rfl,dg,fin v h2⟩
 ·obtain⟨n,e',rfl⟩:=Gak.mp e
  clear e
  have e:=e'
  clear e'
  cases iy
  cases ix with
  |scr h=>
   refine .inl (.inl ⟨_,_,_,.int n,rfl,rfl,h.sq, ?_,fin _ (.int n)⟩)
   unfold atD at e
   unfold atI ixN
   rw[Gae]
   split at e
   ·rename_i h0
    have hi:=(Gac.mp e).1
    rw[Gaf h0,Gaf (by omega)]
    show(List.map V.int _)[_]? =_
    rw[Gal,e];rfl
   ·rename_i h0
    split at e
    ·rename_i h1
     rw[Gah h0,Gaf h1]
     show(List.map V.int _)[_]? =_
     rw[Gal,e];rfl
    ·cases e
 ·cases e
theorem aa:PAd X [] ao:=by
 refine AA.aU ?_
 rintro σ H Q ⟨H₀,Bad,env,rs,E,e,k⟩
 cases e
 exact k [] H bU .nil
theorem pX{K:aD}{H₀ H H1 H' :Hp}{Bad:Addr→Prop}{env:Env}{σ:St}(s:cj H H1):∀{rs:List RV} {vs:List V},Paired (jK K H₀ Bad env σ H1 H') rs vs→Paired (jK K H₀ Bad env σ H H') rs vs
 |_,_,.nil=> .nil
 |_,_,.cons h t=> .cons (h.from s) (pX s t)
theorem a4{es:List Expr}{r:DA}(ha:PEd X e f)(hr:PAd X es r)(hs:starEach (e::es) X.env=(false,eval e X.env)::starEach es X.env:=by rfl):PAd X (e::es) (a5 f r):=by
 refine(uK ha hr hs).aU ?_
 rintro σ H Q ⟨H₀,Bad,env,rs,E,e,k⟩
 obtain⟨x,hx,e⟩:=bind_some e
 obtain⟨xs,hxs,e⟩:=bind_some e
 cases e
 exact⟨H₀,Bad,env,x,E,hx,λvx H1 s1 R1=> ⟨H₀,Bad,env,xs,E.mono s1,hxs,λvs H2 s2 Rs=>k _ H2 (s1.trans s2) (.cons (R1.same s2) (pX s1 Rs))⟩⟩
theorem pv{K:aD}{H₀ H H' :Hp}{Bad:Addr→Prop}{env:Env}{σ:St}(E:aI K H₀ Bad env σ H):∀{rs:List RV} {vs:List V},Paired (jK K H₀ Bad env σ H H') rs vs→rs.all (·.free)=true→aY K (Cln Bad env σ) H' (rs.map (·.d)) vs
 |_,_,.nil,_=>aY.nil
 |r::rs,v::vs,.cons h t,f=>by
  rw[Gbq,Gas] at f
  exact aY.cons (h.rep E f.1) (pv E t f.2)
theorem aX{es:List Expr}{r:DA}{j:Nat}(ha:PAd X es r):PEd X (.Tuple es j pos) (bD r):=by
 refine(Jt ha).aU ?_
 rintro σ H Q ⟨H₀,Bad,env,rv,E,e,k⟩
 obtain⟨rs,hr,e⟩:=bind_some e
 split at e
 ·rename_i q
  rw[Gas] at q
  cases e
  refine⟨H₀,Bad,env,rs,E,hr,λvs H1 s1 Rs=> ?_⟩
  have rep:=pv E Rs q.1
  refine⟨by rw[←rep.1,Gae,←size_eq];exact GaB q.2,λp n=> ?_⟩
  exact k _ _ (s1.trans (bL n)) (fJ n rep)
 ·cases e
theorem bP{es:List Expr}{r:DA}(ha:PAd X es r):PEd X (.List es pos) (fQ r):=by
 refine(Ec ha).aU ?_
 rintro σ H Q ⟨H₀,Bad,env,rv,E,e,k⟩
 obtain⟨rs,hr,e⟩:=bind_some e
 split at e
 ·rename_i q
  rw[Gas] at q
  cases e
  refine⟨H₀,Bad,env,rs,E,hr,λvs H1 s1 Rs=> ?_⟩
  have rep:=pv E Rs q.1
  refine⟨by rw[←rep.1,Gae,←size_eq];exact GaB q.2,λp n=> ?_⟩
  exact k _ _ (s1.trans (bL n)) ⟨p,rfl,s1.free n,rf,rfl,j5 n rep⟩
 ·cases e
noncomputable def spD(K:aD)(np:Nat)(sp:List D→Option D):Sp:=λvs H Q _=>∃ds d,ds.length=np∧aY K (λ_=>True) H ds vs∧sp ds=some d∧∀v H',cj H H' →u5 K H H' d v→Q v H'
theorem u9{K:aD}{H₀ H H' :Hp}{Bad:Addr→Prop}{env:Env}{σ:St}:∀{rs:List RV} {vs:List V},Paired (jK K H₀ Bad env σ H H') rs vs→aY K (λ_=>True) H' (rs.map (·.d)) vs
 |_,_,.nil=>aY.nil
 |r::rs,v::vs,.cons h t=>aY.cons h.inn.any (u9 t)
theorem He{CX:CXT}{k:Nat}{fa:Addr}{fd:FuncData}{ps:List Str}{np:Nat}{sp:List D→Option D}{x:Str}{p:Pos}{es:List Expr}{r:DA}{E:XK}(F:cD X.prog X.w X.K X.mg X.base CX k fa fd ps (spD X.K np sp))(hr:gU k X.A)(hg:Gl X x)
  (hm:X.mg x=some (.ref fa))(hk:PySem.W.keepIn X.K (.ref fa)=true)(hb:Binds X.K fd ps [])(hx:Passes CX X E)(ha:PAd X (e::es) r)(hl:∀env rs,r env=some rs→rs.length=np)
  (hdb:(x==("__debug__":Str))=false:=by decide)(he:starEach (e::es) X.env=(false,eval e X.env)::starEach es X.env:=by rfl)(hpl:(backTo pos (starEach es X.env)).any (·.1)=false:=by rfl):
  PEd X (.Call (.Name x p) (e::es) [] pos) (aH sp r):=by
 refine(GB (dvs:=[]) F hr hg hm hk hb .nil hx ha hdb he hpl).aU ?_
 rintro σ H Q ⟨H₀,Bad,env,rv,E,e,k⟩
 obtain⟨rs,hrs,e⟩:=bind_some e
 obtain⟨d,hd,rfl⟩:=Gak.mp e
 refine⟨H₀,Bad,env,rs,E,hrs,λvs H1 s1 Rs=> ⟨rs.map (·.d),d,by rw[Gae];exact hl env rs hrs, ?_,hd,λv H2 s2 R2=>k v H2 (s1.trans s2) ((R2.rv (E.mono s1)).from s1)⟩⟩
 rw[Gbh]
 exact u9 Rs
def CallD(X:Cx)(o:List D→Option RV)(r:List V→Hp→VK→Prop):Prop:=∀(F:Addr→Prop) (H:Hp) (ds:List D) (vs:List V) (rv:RV) (Q:VK),Paired (Inn X.K F H) ds vs→o ds=some rv→(∀v H',cj H H' →RvN X.K F H H' rv v→Q v H')→r vs H Q
theorem nI{K:aD}{H₀ H H' :Hp}{Bad:Addr→Prop}{env:Env}{σ:St}:∀{rs:List RV} {vs:List V},Paired (jK K H₀ Bad env σ H H') rs vs→Paired (Inn K (Cln Bad env σ) H') (rs.map (·.d)) vs
 |_,_,.nil=> .nil
 |_,_,.cons h t=> .cons h.inn (nI t)
theorem cq{id:String}{o:List D→Option RV}{r:List V→Hp→VK→Prop}{x:Str}{p:Pos}{es:List Expr}{ra:DA}(hc:i7 X (.builtin id) r)(hd:CallD X o r)(hg:Gl X x)(hm:X.mg x=none)(hv:bootBuiltins x=some (.builtin id))(ha:PAd X (e::es) ra)
  (hn:x≠"__name__":=by decide)(hdb:(x==("__debug__":Str))=false:=by decide)(he:starEach (e::es) X.env=(false,eval e X.env)::starEach es X.env:=by rfl)(hpl:(backTo pos (starEach es X.env)).any (·.1)=false:=by rfl):
  PEd X (.Call (.Name x p) (e::es) [] pos) (dQ o ra):=by
 refine(vS hc hg hm hv ha hn hdb he hpl).aU ?_
 rintro σ H Q ⟨H₀,Bad,env,rv,E,e,k⟩
 obtain⟨rs,hrs,e⟩:=bind_some e
 exact⟨H₀,Bad,env,rs,E,hrs,λvs H1 s1 Rs=>hd _ H1 _ vs rv Q (nI Rs) e λv H2 s2 R2=>k v H2 (s1.trans s2) (R2.ok s1)⟩
theorem j8{T:String}{o:List D→Option RV}{r:List V→Hp→VK→Prop}{x:Str}{p:Pos}{es:List Expr}{ra:DA}(hc:i7 X (.type T) r)(hd:CallD X o r)(hg:Gl X x)(hm:X.mg x=none)(hv:bootBuiltins x=some (.type T))(ha:PAd X (e::es) ra)
  (hn:x≠"__name__":=by decide)(hdb:(x==("__debug__":Str))=false:=by decide)(he:starEach (e::es) X.env=(false,eval e X.env)::starEach es X.env:=by rfl)(hpl:(backTo pos (starEach es X.env)).any (·.1)=false:=by rfl):
  PEd X (.Call (.Name x p) (e::es) [] pos) (dQ o ra):=by
 refine(CG hc hg hm hv ha hn hdb he hpl).aU ?_
 rintro σ H Q ⟨H₀,Bad,env,rv,E,e,k⟩
 obtain⟨rs,hrs,e⟩:=bind_some e
 exact⟨H₀,Bad,env,rs,E,hrs,λvs H1 s1 Rs=>hd _ H1 _ vs rv Q (nI Rs) e λv H2 s2 R2=>k v H2 (s1.trans s2) (R2.ok s1)⟩
theorem il{R:D→V→Prop}{d:D}{vs:List V}(h:Paired R [d] vs):∃v,vs=[v]∧R d v:=by
 cases h with
 |cons h t=>cases t;exact⟨_,rfl,h⟩
theorem BI{R:D→V→Prop}{d d2:D}{vs:List V}(h:Paired R [d,d2] vs):∃v w,vs=[v,w]∧R d v∧R d2 w:=by
 cases h with
 |cons h t=>cases t with
  |cons h2 t=>cases t;exact⟨_,_,rfl,h,h2⟩
theorem bV:i7 X (.builtin "len") (λxs H Q=>∃a kvs,xs=[.ref a]∧Rd H a (.dK kvs)∧Q (.int kvs.length) H):=by
 intro pins s σ H xs us Q I r h
 obtain⟨a,kvs,rfl,e,q⟩:=h
 obtain⟨u,rfl,rx⟩:=vals1 r
 cases rx
 exact LQ I e λt s' I' => ⟨.int kvs.length,H,I',⟨t,rfl⟩,q⟩
theorem bW:CallD X cV (λxs H Q=>(∃x n,xs=[x]∧LD X.K x H n∧Q (.int n) H)∨(∃a kvs,xs=[.ref a]∧Rd H a (.dK kvs)∧Q (.int kvs.length) H)):=by
 intro F H ds vs rv Q ps e k
 unfold cV at e
 split at e
 ·cases e
  obtain⟨v,rfl,i⟩:=il ps
  cases i with
  |lst h r=>exact .inl ⟨_,_,rfl,.inl ⟨_,.inl h,r.1⟩,k _ H bU (.int _)⟩
 ·cases e
  obtain⟨v,rfl,i⟩:=il ps
  cases i with
  |tup h r=>exact .inl ⟨_,_,rfl,.inr ⟨_,SqT.of h,r.1⟩,k _ H bU (.int _)⟩
 ·split at e
  ·rename_i q
   cases e
   obtain⟨v,rfl,i⟩:=il ps
   cases i
   exact .inl ⟨_,_,rfl,⟨by rw[←size_eq];exact q,rfl⟩,k _ H bU (.int _)⟩
  ·cases e
 ·cases e
  obtain⟨v,rfl,i⟩:=il ps
  cases i with
  |dK h r=>
   have hl:=congrArg List.length r.1
   rw[Gae,Gae] at hl
   exact .inr ⟨_,_,rfl,.inl h,by rw[←hl];exact k _ H bU (.int _)⟩
 ·cases e
  obtain⟨v,rfl,i⟩:=il ps
  cases i with
  |scr h=>exact .inl ⟨_,_,rfl,.inl ⟨_,h.sq,by simp⟩,k _ H bU (.int _)⟩
 ·cases e
theorem rn:CallD X nU (λxs H Q=>∃i j,xs=[.int i,.int j]∧Q (.int (if j<i then j else i)) H):=by
 intro F H ds vs rv Q ps e k
 unfold nU at e
 split at e
 ·cases e
  obtain⟨v,w,rfl,i1,i2⟩:=BI ps
  cases i1;cases i2
  exact⟨_,_,rfl,k _ H bU (.int _)⟩
 ·cases e
theorem AK:CallD X u0 (λxs H Q=>∃i j,xs=[.int i,.int j]∧Q (.int (if j>i then j else i)) H):=by
 intro F H ds vs rv Q ps e k
 unfold u0 at e
 split at e
 ·cases e
  obtain⟨v,w,rfl,i1,i2⟩:=BI ps
  cases i1;cases i2
  exact⟨_,_,rfl,k _ H bU (.int _)⟩
 ·cases e
theorem dR:CallD X iY (λxs H Q=>∃p ys,xs=[.ref p]∧((SqL X.K H p ys∧∀l,H l=none→Q (.ref l) (upd H l (.tup ys)))∨(SqT X.K H p ys∧Q (.ref p) H))):=by
 intro F H ds vs rv Q ps e k
 unfold iY at e
 split at e
 ·cases e
  obtain⟨v,rfl,i⟩:=il ps
  cases i with
  |lst h r=>
   refine⟨_,_,rfl,.inl ⟨.inl h,λl n=> ?_⟩⟩
   exact k _ _ (bL n) (fJ n r)
 ·cases e
  obtain⟨v,rfl,i⟩:=il ps
  cases i with
  |tup h r=>exact⟨_,_,rfl,.inr ⟨SqT.of h,k _ H bU (.tup h r.1 r.2)⟩⟩
 ·cases e
end
open PySem PySem.Spec PyProof.Rows L2
section
variable{K:aD}{H₀ H H' :Hp}{Bad:Addr→Prop}{env env' :Env}{σ σ' :St}{d:D}{v:V}{a:Addr}{i:Nat}
theorem get_set{α:Type}{l:List α}{i j:Nat}{x y:α}(e:(l.set i x)[j]? =some y):(i=j∧y=x)∨(i≠j∧l[j]? =some y):=by
 by_cases h:i=j
 ·subst h
  have hi:i<l.length:=by have:=(Gac.mp e).1;simpa using this
  rw[GaN hi] at e
  cases e
  exact .inl ⟨rfl,rfl⟩
 ·rw[Gab h] at e
  exact .inr ⟨h,e⟩
theorem set_same{α:Type}{l:List α}{i:Nat}{x:α}(e:l[i]? =some x):l.set i x=l:=by
 apply GcW
 intro j
 by_cases h:i=j
 ·subst h
  rw[GaN (Gac.mp e).1,e]
 ·rw[Gab h]
theorem cI{α:Type}{l:List α}{i:Nat}{x:α}(h:i<l.length):(l.set i x)[i]? =some x:=GaN h
theorem gy{j:Nat}(h:bx (env.set i (some (.sh d)))[j]?):i≠j∧bx env[j]? :=by
 by_cases q:i=j
 ·subst q
  by_cases z:i<env.length
  ·rw[cI z] at h;exact h.elim
  ·rw[Gbk (by simpa using Nat.le_of_not_lt z)] at h;exact h.elim
 ·rw[Gab q] at h
  exact⟨q,h⟩
theorem aI.lJ(E:aI K H₀ Bad env σ H)(r:Rep K (Cln Bad env σ) H d v):aI K H₀ Bad (env.set i (some (.sh d))) (σ.set i (some v)) H:=by
 have cln:∀b,Cln Bad env σ b→Cln Bad (env.set i (some (.sh d))) (σ.set i (some v)) b:=λb ⟨h1,h2⟩=> ⟨h1,λj t e=>by
  obtain⟨q,t⟩:=gy t
  rw[Gab q] at e
  exact h2 j t e⟩
 refine⟨E.same,by simp[E.len],E.bad,λj dj e=> ?_,λj dj e=> ?_,λj dj e=> ?_,λj k b t1 t2 e1 e2=> ?_⟩
 ·rcases get_set e with⟨q,e⟩| ⟨q,e⟩
  ·cases e
   subst q
   have hi:i<env.length:=by have:=(Gac.mp e);simpa using this.1
   exact⟨v,cI (by rw[←E.len];exact hi),r.imp cln⟩
  ·obtain⟨w,h1,h2⟩:=E.sh j dj e
   exact⟨w,by rw[Gab q];exact h1,h2.imp cln⟩
 ·have e' :i≠j∧(env[j]? =some (some (.own dj))∨env[j]? =some (some (.lok dj))):=by
   rcases e with e|e
   ·rcases get_set e with⟨q,e⟩| ⟨q,e⟩
    ·cases e
    ·exact⟨q,.inl e⟩
   ·rcases get_set e with⟨q,e⟩| ⟨q,e⟩
    ·cases e
    ·exact⟨q,.inr e⟩
  obtain⟨b,h1,h2,h3,h4,h5,h6⟩:=E.ow j dj e'.2
  exact⟨b,by rw[Gab e'.1];exact h1,h2,h3,h4,h5,h6.imp cln⟩
 ·rcases get_set e with⟨q,e⟩| ⟨q,e⟩
  ·cases e
  ·obtain⟨b,h1,hw,h2,h3⟩:=E.bo j dj e
   exact⟨b,by rw[Gab q];exact h1,hw,h2,h3.imp cln⟩
 ·obtain⟨q1,t1'⟩:=gy t1.top
  obtain⟨q2,t2⟩:=gy t2
  rw[Gab q1] at e1 t1
  rw[Gab q2] at e2
  exact E.dj j k b t1 t2 e1 e2
theorem Stp.lJ:Stp env σ H (env.set i (some (.sh d))) (σ.set i (some v)) H:=⟨λ_ _ e _=>e,λb ⟨j,h,e⟩=>by
 have h' :bx (env.set i (some (.sh d)))[j]? :=h.ol.top
 obtain⟨q,_⟩:=gy h'
 rw[Gab q] at h e
 exact .inl ⟨j,h,e⟩,λj h=>by
 obtain⟨q,_⟩:=gy h.top
 rw[Gab q,Gab q]
 exact⟨rfl,rfl⟩⟩
theorem jt{j:Nat}(h:bx (env.set i (some (.own d)))[j]?)(hi:i<env.length):i=j∨(i≠j∧bx env[j]?):=by
 by_cases q:i=j
 ·exact .inl q
 ·rw[Gab q] at h
  exact .inr ⟨q,h⟩
theorem aI.Ez(E:aI K H₀ Bad env σ H)(hi:i<env.length)(n0:H₀ a=none)(nb:¬Bad a)(w:Wr H' a)(t:d.top=true)(s:cj H₀ H')(bd:∀b,Bad b→H' b≠none)
  (ne:∀j b,j≠i→bx env[j]? →σ[j]? =some (some (.ref b))→b≠a∧H' b=H b)
  (inn:Inn K (Cln Bad (env.set i (some (.own d))) (σ.set i (some (.ref a)))) H' d (.ref a))
  (cln:∀b,Cln Bad env σ b→H b≠none→Cln Bad (env.set i (some (.own d))) (σ.set i (some (.ref a))) b)
  (dN:j4 (Cln Bad env σ) H H'):
  aI K H₀ Bad (env.set i (some (.own d))) (σ.set i (some (.ref a))) H' :=by
 have keep:∀{j:Nat} {b:Addr} {dj:D},j≠i→bx env[j]? →σ[j]? =some (some (.ref b))→Inn K (Cln Bad env σ) H dj (.ref b)→Inn K (Cln Bad (env.set i (some (.own d))) (σ.set i (some (.ref a)))) H' dj (.ref b):=λ{j b dj} hj tj ej h=>
  h.gen dN cln λb' eb _ o e=>by cases eb;rw[(ne j b hj tj ej).2];exact e
 refine⟨s,by simp[E.len],bd,λj dj e=> ?_,λj dj e=> ?_,λj dj e=> ?_,λj k b t1 t2 e1 e2=> ?_⟩
 ·rcases get_set e with⟨q,e⟩| ⟨q,e⟩
  ·cases e
  ·obtain⟨u,h1,h2⟩:=E.sh j dj e
   exact⟨u,by rw[Gab q];exact h1,h2.gen dN cln⟩
 ·have e' :(i=j∧dj=d)∨(i≠j∧(env[j]? =some (some (.own dj))∨env[j]? =some (some (.lok dj)))):=by
   rcases e with e|e
   ·rcases get_set e with⟨q,e⟩| ⟨q,e⟩
    ·cases e;exact .inl ⟨q,rfl⟩
    ·exact .inr ⟨q,.inl e⟩
   ·rcases get_set e with⟨q,e⟩| ⟨q,e⟩
    ·cases e
    ·exact .inr ⟨q,.inr e⟩
  rcases e' with⟨q,rfl⟩| ⟨q,e'⟩
  ·subst q
   exact⟨a,cI (by rw[←E.len];exact hi),n0,nb,w,t,inn⟩
  ·obtain⟨b,h1,h2,h3,h4,h5,h6⟩:=E.ow j dj e'
   have tj:bx env[j]? :=by rcases e' with e' |e' <;>rw[e']<;>trivial
   refine⟨b,by rw[Gab q];exact h1,h2,h3, ?_,h5,keep (GaX q) tj h1 h6⟩
   unfold Wr
   rw[(ne j b (GaX q) tj h1).2]
   exact h4
 ·rcases get_set e with⟨q,e⟩| ⟨q,e⟩
  ·cases e
  ·obtain⟨b,h1,hw,h2,h3⟩:=E.bo j dj e
   have tj:bx env[j]? :=by rw[e];trivial
   refine⟨b,by rw[Gab q];exact h1, ?_,h2,keep (GaX q) tj h1 h3⟩
   unfold Wr
   rw[(ne j b (GaX q) tj h1).2]
   exact hw
 ·rcases jt t1.top hi with q1| ⟨q1,t1'⟩
  ·rcases jt t2 hi with q2| ⟨q2,t2'⟩
   ·rw[←q1,←q2]
   ·subst q1
    rw[cI (by rw[←E.len];exact hi)] at e1
    cases e1
    rw[Gab q2] at e2
    exact absurd rfl (ne k a (GaX q2) t2' e2).1
  ·rcases jt t2 hi with q2| ⟨q2,t2'⟩
   ·subst q2
    rw[cI (by rw[←E.len];exact hi)] at e2
    cases e2
    rw[Gab q1] at e1
    exact absurd rfl (ne j a (GaX q1) t1' e1).1
   ·rw[Gab q1] at e1 t1
    rw[Gab q2] at e2
    exact E.dj j k b t1 t2' e1 e2
theorem wg(hi:i<env.length)(hs:env.length=σ.length){b:Addr}(h:Cln Bad env σ b)(hb:b≠a):Cln Bad (env.set i (some (.own d))) (σ.set i (some (.ref a))) b:=⟨h.1,λj t e=>by
 rcases jt t hi with q| ⟨q,t⟩
 ·subst q
  rw[cI (by rw[←hs];exact hi)] at e
  cases e
  exact hb rfl
 ·rw[Gab q] at e
  exact h.2 j t e⟩
theorem aI.rq(E:aI K H₀ Bad env σ H)(s:cj H H')(hi:i<env.length)(n:H a=none)(w:Wr H' a)(t:d.top=true)(hin:Inn K (λb=>Cln Bad env σ b∧b≠a) H' d (.ref a)):
  aI K H₀ Bad (env.set i (some (.own d))) (σ.set i (some (.ref a))) H' :=by
 have cln:∀b,Cln Bad env σ b→b≠a→Cln Bad (env.set i (some (.own d))) (σ.set i (some (.ref a))) b:=λb h hb=>wg hi E.len h hb
 have cln' :∀b,Cln Bad env σ b→H b≠none→Cln Bad (env.set i (some (.own d))) (σ.set i (some (.ref a))) b:=λb h hb=>cln b h λz=>hb (z▸n)
 refine E.Ez (H' :=H') hi (E.same.free n) (λb=>E.bad a b n) w t (E.same.trans s) (λb h e=>E.bad b h (s.free e)) (λj b hj tj ej=> ?_) (hin.imp λb h=>cln b h.1 h.2) cln' (.of_same s)
 have hb:=E.nW tj ej
 refine⟨λz=>hb (z▸n), ?_⟩
 cases q:H b with
 |none=>exact absurd q hb
 |some o=>exact s b o q
theorem Stp.rq(s:cj H H')(hi:i<env.length)(hs:env.length=σ.length)(n:H a=none):Stp env σ H (env.set i (some (.own d))) (σ.set i (some (.ref a))) H' :=⟨λb o e _=>s b o e,λb ⟨j,h,e⟩=>by
 by_cases q:i=j
 ·subst q
  rw[cI (by rw[←hs];exact hi)] at e
  cases e
  exact .inr n
 ·rw[Gab q] at h e
  exact .inl ⟨j,h,e⟩,λj h=>by
 by_cases q:i=j
 ·subst q
  rw[cI hi] at h;exact h.elim
 ·rw[Gab q,Gab q]
  exact⟨rfl,rfl⟩⟩
theorem aI.change{d' :D}{o:HO}(E:aI K H₀ Bad env σ H)(e:env[i]? =some (some (.own d)))(ea:σ[i]? =some (some (.ref a)))(wo:isW o)(t:d'.top=true)
  (inn:Inn K (Cln Bad env σ) (upd H a o) d' (.ref a)):aI K H₀ Bad (env.set i (some (.own d'))) σ (upd H a o)∧Stp env σ H (env.set i (some (.own d'))) σ (upd H a o):=by
 have hi:i<env.length:=(Gac.mp e).1
 obtain⟨a',h1,h2,h3,h4,h5,h6⟩:=E.ow i d (.inl e)
 rw[ea] at h1;cases h1
 have hσ:σ.set i (some (.ref a))=σ:=set_same ea
 have tops:∀j,bx (env.set i (some (.own d')))[j]? ↔bx env[j]? :=λj=>by
  by_cases q:i=j
  ·subst q;rw[cI hi,e];exact⟨λ_=>trivial,λ_=>trivial⟩
  ·rw[Gab q]
 have clnE:∀b,Cln Bad env σ b→Cln Bad (env.set i (some (.own d'))) σ b:=λb h=> ⟨h.1,λj tj ej=>h.2 j ((tops j).mp tj) ej⟩
 have ca:∀b,Cln Bad env σ b→b≠a:=λb h z=>by subst z;exact h.2 i (by rw[e];trivial) ea
 have dN:j4 (Cln Bad env σ) H (upd H a o):=λb x hb q=>by
  have:b≠a:=by
   rintro rfl
   rcases q with q|q
   ·exact ca b q rfl
   ·obtain⟨y,hy,wy⟩:=h4
    rw[hb] at hy;cases hy
    cases x<;>simp[isT] at q<;>exact wy
  rw[az this];exact hb
 have keepA:∀b x,H b=some x→b≠a→(upd H a o) b=some x:=λb x hb hn=>by rw[az hn];exact hb
 refine⟨?_,⟨λb x hb n=>keepA b x hb λz=>n ⟨i,by rw[e];trivial,by rw[z];exact ea⟩,λb ⟨j,h,ej⟩=> .inl ?_,λj h=> ?_⟩⟩
 ·have:=E.Ez (H' :=upd H a o) (a:=a) (d:=d') hi h2 h3 ⟨o,aN,wo⟩ t (λb x hb=>keepA b x (E.same b x hb) λz=>by rw[z,h2] at hb;cases hb)
   (λb hb z=>by
    by_cases q:b=a
    ·subst q;rw[aN] at z;cases z
    ·rw[az q] at z;exact E.bad b hb z)
   (λj b hj tj ej=>by
    have:b≠a:=by rintro rfl;exact hj (E.dj i j b (by rw[e];trivial) tj ea ej).symm
    exact⟨this,by rw[az this]⟩)
   (by rw[hσ];exact inn.imp clnE) (λb h _=>by rw[hσ];exact clnE b h) dN
  rw[hσ] at this
  exact this
 ·by_cases q:i=j
  ·subst q;exact⟨i,by rw[e];trivial,ej⟩
  ·rw[Gab q] at h;exact⟨j,h,ej⟩
 ·by_cases q:i=j
  ·subst q;rw[cI hi] at h;exact h.elim
  ·rw[Gab q];exact⟨rfl,rfl⟩
end
open PySem PySem.Spec PyProof.Rows L2
section
variable{X:Cx}{e a b c:Expr}{f g h:DE}{t u:DT}{pos:Pos}{st:Stmt}{rest:List Stmt}{s1 s2:DS}
theorem b6:lq X [] bc:=by
 refine Gs.aU ?_
 rintro D σ H ⟨H₀,Bad,env,o,E,e,k⟩
 cases e
 exact k σ H E .refl
theorem ae(h1:PSd X st s1)(h2:lq X rest s2):lq X (st::rest) (aE s1 s2):=by
 refine(nQ h1 h2).aU ?_
 rintro D σ H ⟨H₀,Bad,env,o,E,e,k⟩
 obtain⟨o1,h1,e⟩:=bind_some e
 refine⟨H₀,Bad,env,o1,E,h1, ?_⟩
 cases o1 with
 |nx e1=>
  intro σ1 H1 E1 p1
  refine⟨H₀,Bad,e1,o,E1,e, ?_⟩
  cases o with
  |nx e2=>exactλσ2 H2 E2 p2=>k σ2 H2 E2 (p1.trans p2)
  |bk e2=>exactλσ2 H2 E2 p2=>k σ2 H2 E2 (p1.trans p2)
  |ct e2=>exactλσ2 H2 E2 p2=>k σ2 H2 E2 (p1.trans p2)
  |ret d=>exact k
 |bk e1=>cases e;exact k
 |ct e1=>cases e;exact k
 |ret d=>cases e;exact k
theorem ay(h1:PSd X st s1):lq X [st] s1:=uI h1
theorem EA:PSd X (.Break pos) bkS:=by
 refine DW.aU ?_
 rintro D σ H ⟨H₀,Bad,env,o,E,e,k⟩
 cases e
 exact k σ H E .refl
theorem Hg{K:aD}{F:Addr→Prop}{H₀ H' :Hp}{d:D}{v:V}(i:Inn K F H' d v)(hd:d.imm=true):u5 K H₀ H' d v:=by
 refine⟨λt=> ?_,(i.imm hd).inn⟩
 cases d<;>simp[D.top] at t<;>simp[D.imm] at hd
theorem Mx{κ:Type}{K:aD}{F F' :Addr→Prop}{H:Hp}{kvs:List (κ×D)}{ws:List (κ×V)}(r:bg K F H kvs ws)(h:aP (kvs.map (·.2))=true):bg K F' H kvs ws:=
 ⟨r.1,λi p q e1 e2=>(r.2 i p q e1 e2).imm (qN h i p.2 (by rw[Gal,e1];rfl))⟩
theorem BJ{K:aD}{F:Addr→Prop}{H₀ H' :Hp}{d:D}{a:Addr}(i:Inn K F H' d (.ref a))(hd:d.pV=true)(n:H₀ a=none)(w:Wr H' a):u5 K H₀ H' d (.ref a):=by
 refine⟨λ_=> ⟨a,rfl,n,w⟩, ?_⟩
 cases i with
 |tup h r=>exact(Inn.imm (.tup h r) (by exact hd)).inn
 |scr h=>exact .scr h
 |lst h r=>exact .lst h (r.imm hd)
 |dK h r=>exact .dK h (Mx r hd)
 |dT h r=>exact .dT h (Mx r hd)
theorem b4(he:PEd X e f):PSd X (.Return (some e) pos) (retS f):=by
 refine(DX he).aU ?_
 rintro D σ H ⟨H₀,Bad,env,o,E,e,k⟩
 obtain⟨r,hr,e⟩:=bind_some e
 split at e
 ·rename_i ok
  cases e
  refine⟨H₀,Bad,env,r,E,hr,λv H1 s1 R=>k v H1 (E.same.trans s1) ?_⟩
  obtain⟨kd,d⟩:=r
  cases kd with
  |c=>exact Hg R.inn ok
  |tn=>
   have ii:=R.inn
   obtain⟨a,rfl,n,w,t,i⟩:=R
   exact BJ ii ok (E.same.free n) w
  |to=>
   have ii:=R.inn
   obtain⟨a,rfl,n,w,t,i⟩:=R
   exact BJ ii ok n w
  |tb=>exact absurd (show false=true from ok) Gaz
 ·cases e
theorem bA{xs ys:List Stmt}(hc:PTd X c t)(ha:lq X xs s1)(hb:lq X ys s2):PSd X (.If c xs ys pos) (ifS t s1 s2):=by
 refine(Lr hc ha hb).aU ?_
 rintro D σ H ⟨H₀,Bad,env,o,E,e,k⟩
 obtain⟨x,hx,e⟩:=bind_some e
 refine⟨H₀,Bad,env,x,E,hx,λH1 s1=> ?_⟩
 have st:Stp env σ H env σ H1:= .of_same s1
 have fin:∀{s:DS},s env=some o→tS X s D σ H1:=λ{s} e=> ⟨H₀,Bad,env,o,E.mono s1,e,by
  cases o with
  |nx e2=>exactλσ2 H2 E2 p2=>k σ2 H2 E2 (st.trans p2)
  |bk e2=>exactλσ2 H2 E2 p2=>k σ2 H2 E2 (st.trans p2)
  |ct e2=>exactλσ2 H2 E2 p2=>k σ2 H2 E2 (st.trans p2)
  |ret d=>exact k⟩
 dsimp only
 cases x with
 |true=>rw[Gaf rfl];rw[Gaf rfl] at e;exact fin e
 |false=>rw[Gah Gaz];rw[Gah Gaz] at e;exact fin e
theorem AL{X:Cx}{Bad:Addr→Prop}{env:Env}{σ:St}{H:Hp}{i:Nat}{x:Str}(E:aI X.K H₀ Bad env σ H)(hl:σ.length=X.N.length)(hi:X.N[i]? =some x):i<env.length:=by
 rw[E.len,hl];exact(Gac.mp hi).1
theorem aA{i:Nat}{x:Str}{pos' :Pos}(hN:X.N.Nodup)(hi:X.N[i]? =some x)(hx:Loc X.env.scope x)(he:PEd X e f)(hs:swapsWith e (some (.Name x pos')) pos.line X.env=pure false:=by rfl)
  (hf:X.fn x=true∨X.env.scope.names.lookup x=some .local:=by first|exact .inl rfl|exact .inr rfl|assumption):PSd X (.Assign [.Name x pos'] e pos) (aT i f):=by
 intro pins s σ H D I hw
 have hl:=I.len
 refine(Au hN hi hx he hs hf) pins s σ H D I ?_
 obtain⟨H₀,Bad,env,o,E,e,k⟩:=hw
 obtain⟨r,hr,e⟩:=bind_some e
 obtain⟨e',hst,rfl⟩:=Gak.mp e
 have hie:i<env.length:=AL E hl hi
 refine⟨H₀,Bad,env,r,E,hr,λv H1 s1 R=> ?_⟩
 have st:Stp env σ H env σ H1:= .of_same s1
 obtain⟨kd,d⟩:=r
 unfold stored at hst
 cases kd with
 |c=>
  cases hst
  exact k _ H1 ((E.mono s1).lJ R) (st.trans .lJ)
 |tn=>
  cases hst
  obtain⟨a,rfl,n,w,t,i⟩:=R
  exact k _ H1 (E.rq s1 hie n w t i) (.rq s1 hie E.len n)
 |to=>cases hst
 |tb=>cases hst
def AM(K:aD)(F N:Addr→Prop)(J:It)(ds:List D)(H1:Hp):Prop:=
 ∀Hi:Hp,(∀b o,H1 b=some o→N b→Hi b=some o)→(∀(i:Nat) d,ds[i]? =some d→J.go i Hi∧∀x H2,J.yld i Hi x H2→cj Hi H2∧Rep K F H2 d x)∧J.stop ds.length Hi
noncomputable def tI(X:Cx)(src:DI):TI:=λσ H R=>∃H₀ Bad env ds,aI X.K H₀ Bad env σ H∧src env=some ds∧∀J H',cj H H' →AM X.K (λb=>Cln Bad env σ b∧H' b≠none) (λb=>¬Ow env σ b) J ds H' →R J H'
abbrev PId(X:Cx)(tg iter:Expr)(src:DI):Prop:=PI X tg iter (tI X src)
theorem _root_.L2.PI.aU{tg iter:Expr}{w w' :TI}(h:PI X tg iter w')(i:∀σ H R,w σ H R→w' σ H R):PI X tg iter w:=λpins s σ H R I q=>h pins s σ H R I (i σ H R q)
theorem aI.lock{K:aD}{H₀:Hp}{Bad:Addr→Prop}{env:Env}{σ:St}{H:Hp}(E:aI K H₀ Bad env σ H)(l:Option Nat):aI K H₀ Bad (bF l env) σ H∧(∀b,Ow (bF l env) σ b→Ow env σ b)∧∀i:Nat,bx (bF l env)[i]? ↔bx env[i]? :=by
 cases l with
 |none=>exact⟨E,λ_ h=>h,λ_=>Iff.rfl⟩
 |some j=>
  unfold bF
  dsimp only
  split
  ·rename_i d q
   have hj:j<env.length:=(Gac.mp q).1
   have tops:∀i,bx (env.set j (some (.lok d)))[i]? ↔bx env[i]? :=λi=>by
    by_cases z:j=i
    ·subst z;rw[cI hj,q];exact⟨λ_=>trivial,λ_=>trivial⟩
    ·rw[Gab z]
   have cln:∀b,Cln Bad env σ b→Cln Bad (env.set j (some (.lok d))) σ b:=λb h=> ⟨h.1,λi t e=>h.2 i ((tops i).mp t) e⟩
   refine⟨⟨E.same,by simpa using E.len,E.bad,λi di e=> ?_,λi di e=> ?_,λi di e=> ?_,λi k b t1 t2 e1 e2=> ?_⟩,λb ⟨i,h,e⟩=> ?_,tops⟩
   ·rcases get_set e with⟨z,e⟩| ⟨z,e⟩
    ·cases e
    ·obtain⟨v,h1,h2⟩:=E.sh i di e;exact⟨v,h1,h2.imp cln⟩
   ·have e' :env[i]? =some (some (.own di))∨env[i]? =some (some (.lok di)):=by
     rcases e with e|e
     ·rcases get_set e with⟨z,e⟩| ⟨z,e⟩
      ·cases e
      ·exact .inl e
     ·rcases get_set e with⟨z,e⟩| ⟨z,e⟩
      ·cases e;subst z;exact .inl q
      ·exact .inr e
    obtain⟨b,h1,h2,h3,h4,h5,h6⟩:=E.ow i di e'
    exact⟨b,h1,h2,h3,h4,h5,h6.imp cln⟩
   ·rcases get_set e with⟨z,e⟩| ⟨z,e⟩
    ·cases e
    ·obtain⟨b,h1,hw,h2,h3⟩:=E.bo i di e;exact⟨b,h1,hw,h2,h3.imp cln⟩
   ·have t1' :wc env[i]? :=by
     by_cases z:j=i
     ·subst z;rw[q];trivial
     ·rw[Gab z] at t1;exact t1
    exact E.dj i k b t1' ((tops k).mp t2) e1 e2
   ·by_cases z:j=i
    ·subst z;rw[cI hj] at h;exact h.elim
    ·rw[Gab z] at h;exact⟨i,h,e⟩
  ·exact⟨E,λ_ h=>h,λ_=>Iff.rfl⟩
theorem aI.free{K:aD}{H₀:Hp}{Bad:Addr→Prop}{env:Env}{σ:St}{H:Hp}(E:aI K H₀ Bad env σ H)(l:Option Nat):aI K H₀ Bad (iZ l env) σ H:=by
 cases l with
 |none=>exact E
 |some j=>
  unfold iZ
  dsimp only
  split
  ·rename_i d q
   have hj:j<env.length:=(Gac.mp q).1
   have tops:∀i,bx (env.set j (some (.own d)))[i]? ↔bx env[i]? :=λi=>by
    by_cases z:j=i
    ·subst z;rw[cI hj,q];exact⟨λ_=>trivial,λ_=>trivial⟩
    ·rw[Gab z]
   have cln:∀b,Cln Bad env σ b→Cln Bad (env.set j (some (.own d))) σ b:=λb h=> ⟨h.1,λi t e=>h.2 i ((tops i).mp t) e⟩
   refine⟨E.same,by simpa using E.len,E.bad,λi di e=> ?_,λi di e=> ?_,λi di e=> ?_,λi k b t1 t2 e1 e2=> ?_⟩
   ·rcases get_set e with⟨z,e⟩| ⟨z,e⟩
    ·cases e
    ·obtain⟨v,h1,h2⟩:=E.sh i di e;exact⟨v,h1,h2.imp cln⟩
   ·have e' :env[i]? =some (some (.own di))∨env[i]? =some (some (.lok di)):=by
     rcases e with e|e
     ·rcases get_set e with⟨z,e⟩| ⟨z,e⟩
      ·cases e;subst z;exact .inr q
      ·exact .inl e
     ·rcases get_set e with⟨z,e⟩| ⟨z,e⟩
      ·cases e
      ·exact .inr e
    obtain⟨b,h1,h2,h3,h4,h5,h6⟩:=E.ow i di e'
    exact⟨b,h1,h2,h3,h4,h5,h6.imp cln⟩
   ·rcases get_set e with⟨z,e⟩| ⟨z,e⟩
    ·cases e
    ·obtain⟨b,h1,hw,h2,h3⟩:=E.bo i di e;exact⟨b,h1,hw,h2,h3.imp cln⟩
   ·have t1' :wc env[i]? :=by
     by_cases z:j=i
     ·subst z;rw[q];trivial
     ·rw[Gab z] at t1;exact t1
    exact E.dj i k b t1' ((tops k).mp t2) e1 e2
  ·exact E
end
open PySem PySem.Spec PyProof.Rows L2
section
variable{X:Cx}{e a b c:Expr}{f g h:DE}{t u:DT}{pos:Pos}{st:Stmt}{rest:List Stmt}{s1 s2:DS}
theorem wj{env:Env}{l:Option Nat}{i:Nat}(h:∀j,l=some j→j≠i):(bF l env)[i]? =env[i]? :=by
 unfold bF
 split
 ·rfl
 ·rename_i j
  split
  ·rw[Gab (h j rfl)]
  ·rfl
theorem Stp.loop{env envN:Env}{σ σN:St}{H HN:Hp}{l:Option Nat}(p:Stp (bF l env) σ H envN σN HN)(lo:∀b,Ow (bF l env) σ b→Ow env σ b):Stp env σ H (if r6 l env then iZ l envN else envN) σN HN:=by
 have same:r6 l env=false→bF l env=env:=λh=>by
  unfold r6 at h
  unfold bF
  split at h
  ·rfl
  ·split at h
   ·cases h
   ·rfl
 cases ho:r6 l env with
 |false=>
  rw[Gah Gaz]
  rw[same ho] at p
  exact p
 |true=>
  rw[Gaf rfl]
  unfold r6 at ho
  split at ho
  ·cases ho
  ·rename_i j
   split at ho
   ·rename_i d q
    have hj:j<env.length:=(Gac.mp q).1
    have lockj:(bF (some j) env)[j]? =some (some (.lok d)):=by unfold bF;simp only[q];exact cI hj
    have other:∀i,j≠i→(bF (some j) env)[i]? =env[i]? :=λi hi=>wj λk e=>by cases e;exact hi
    refine⟨λb o e n=>p.keep b o e λz=>n (lo b z),λb ⟨i,h,e⟩=> ?_,λi h=> ?_⟩
    ·by_cases z:j=i
     ·subst z
      unfold iZ at h
      dsimp only at h
      split at h
      ·rename_i d' q'
       obtain⟨h1,h2⟩:=p.lk j (by rw[q'];trivial)
       rw[h2] at e
       exact .inl ⟨j,by rw[q];trivial,e⟩
      ·rcases p.ow b ⟨j,h,e⟩ with w|w
       ·exact .inl (lo b w)
       ·exact .inr w
     ·have h' :isO envN[i]? :=by
       unfold iZ at h
       dsimp only at h
       split at h
       ·rw[Gab z] at h;exact h
       ·exact h
      rcases p.ow b ⟨i,h',e⟩ with w|w
      ·exact .inl (lo b w)
      ·exact .inr w
    ·by_cases z:j=i
     ·subst z
      unfold iZ at h⊢
      dsimp only at h⊢
      split at h
      ·rename_i d' q'
       have hj' :j<envN.length:=(Gac.mp q').1
       rw[cI hj'] at h;exact h.elim
      ·rename_i q'
       obtain⟨h1,_⟩:=p.lk j h
       rw[lockj] at h1
       exact absurd h1 (q' d)
     ·have hN:(iZ (some j) envN)[i]? =envN[i]? :=by
       unfold iZ
       dsimp only
       split
       ·rw[Gab z]
       ·rfl
      rw[hN] at h⊢
      obtain⟨h1,h2⟩:=p.lk i h
      rw[other i z] at h1
      exact⟨h1,h2⟩
   ·cases ho
theorem uc{Bad:Addr→Prop}{env env' :Env}{σ σ' :St}{H H' :Hp}(p:Stp env σ H env' σ' H'){b:Addr}(h:Cln Bad env σ b)(hb:H b≠none):Cln Bad env' σ' b:=⟨h.1,λi t e=>by
 rcases u4 t with o|o
 ·rcases p.ow b ⟨i,o,e⟩ with⟨j,w,ej⟩|w
  ·exact h.2 j w.ol.top ej
  ·exact hb w
 ·obtain⟨h1,h2⟩:=p.lk i o
  rw[h1] at t
  rw[h2] at e
  exact h.2 i t e⟩
theorem cE{tg iter:Expr}{body:List Stmt}{l:Option Nat}{src:DI}{gd:DG}{sb:DS}(hp:PassesOwn (model X.prog X.w) X.A X.env X.xe)(hc:X.calm=true)(hi:PId X tg iter src)(hg:PGd X tg gd)(hb:lq X body sb)
  (hs:∀x,foldedSetIterable iter X.env x=pure x:=by intro _;rfl):PSd X (.For tg iter body [] pos) (gV l src gd sb):=by
 refine(E9 hp hc hi hg hb hs).aU ?_
 rintro D σ H ⟨H₀,Bad,env,o,E,e,k⟩
 obtain⟨ds,hds,e⟩:=bind_some e
 obtain⟨o1,ho1,rfl⟩:=Gak.mp e
 obtain⟨EL,lo,_⟩:=E.lock l
 refine⟨H₀,Bad,bF l env,ds,EL,hds,λJ H1 sH it=> ?_⟩
 have E1:=EL.mono sH
 have st1:Stp env σ H env σ H1:= .of_same sH
 have nxOk:∀envN σN HN,o1= .nx envN→aI X.K H₀ Bad envN σN HN→Stp (bF l env) σ H1 envN σN HN→D.nx σN HN:=λenvN σN HN eo EN pN=>by
  subst eo
  refine k σN HN ?_ (st1.trans (pN.loop lo))
  show aI X.K H₀ Bad (if r6 l env then iZ l envN else envN) σN HN
  split
  ·exact EN.free l
  ·exact EN
 refine⟨λi m σ' H' =>m=ds.length -i∧i≤ds.length∧∃envi,aI X.K H₀ Bad envi σ' H' ∧Stp (bF l env) σ H1 envi σ' H' ∧forL gd sb (ds.drop i) envi=some o1,
  ⟨ds.length,by simp,GbE _,_,E1,.refl,by simpa using ho1⟩, ?_⟩
 rintro i m σ' H' ⟨rfl,hle,envi,Ei,pi,ei⟩
 obtain⟨items,stop⟩:=it H' λb o hb n=>pi.keep b o hb n
 by_cases hlt:i<ds.length
 ·obtain⟨go,yld⟩:=items i ds[i] (by simp[hlt])
  refine .inr ⟨go,λσ2 H2=>(ds.length -(i+1))=ds.length -(i+1)∧i+1≤ds.length∧∃envi,aI X.K H₀ Bad envi σ2 H2∧Stp (bF l env) σ H1 envi σ2 H2∧forL gd sb (ds.drop (i+1)) envi=some o1,λσ2 H2 q=> ⟨_,by omega,q⟩,λx H2 y=> ?_⟩
  obtain⟨s2,rep⟩:=yld x H2 y
  have hd:ds.drop i=ds[i]::ds.drop (i+1):=Gbv hlt
  rw[hd] at ei
  unfold forL at ei
  obtain⟨e2,hg2,ei⟩:=bind_some ei
  obtain⟨o2,hb2,ei⟩:=bind_some ei
  refine⟨H₀,Bad,envi,ds[i],e2,Ei.mono s2,hg2,rep.imp λb q=>uc pi q.1 q.2,λσ3 H3 E3 p3=> ?_⟩
  have p3' :Stp (bF l env) σ H1 e2 σ3 H3:=(pi.trans (.of_same s2)).trans p3
  refine⟨H₀,Bad,e2,o2,E3,hb2, ?_⟩
  cases o2 with
  |nx e4=>exactλσ4 H4 E4 p4=> ⟨rfl,hlt,e4,E4,p3'.trans p4,ei⟩
  |ct e4=>exactλσ4 H4 E4 p4=> ⟨rfl,hlt,e4,E4,p3'.trans p4,ei⟩
  |bk e4=>
   cases ei
   exactλσ4 H4 E4 p4=>nxOk e4 σ4 H4 rfl E4 (p3'.trans p4)
  |ret d=>
   cases ei
   exact k
 ·have hi:i=ds.length:=by omega
  subst hi
  rw[GbH] at ei
  cases ei
  exact .inl ⟨stop,nxOk envi σ' H' rfl Ei pi⟩
theorem EB{body:List Stmt}{sb:DS}(hp:PassesOwn (model X.prog X.w) X.A X.env X.xe)(hc:PTd X c t)(hb:lq X body sb):PSd X (.While c body [] pos) (uP t sb):=by
 refine(DZ hp hc hb).aU ?_
 rintro D σ H ⟨H₀,Bad,env,o,E,e,k⟩
 refine⟨λm σ' H' =>∃envi,aI X.K H₀ Bad envi σ' H' ∧Stp env σ H envi σ' H' ∧gW t sb m envi=some o,⟨100000,env,E,.refl,e⟩, ?_⟩
 rintro m σ' H' ⟨envi,Ei,pi,ei⟩
 cases m with
 |zero=>cases ei
 |succ m=>
  unfold gW at ei
  obtain⟨bb,hbb,ei⟩:=bind_some ei
  refine⟨H₀,Bad,envi,bb,Ei,hbb,λH1 s1=> ?_⟩
  have pi1:Stp env σ H envi σ' H1:=pi.trans (.of_same s1)
  dsimp only
  cases bb with
  |true=>
   rw[Gaf rfl]
   rw[Gaf rfl] at ei
   obtain⟨o2,hb2,ei⟩:=bind_some ei
   refine⟨λσ2 H2=>∃envi,aI X.K H₀ Bad envi σ2 H2∧Stp env σ H envi σ2 H2∧gW t sb m envi=some o,λσ2 H2 q=> ⟨m,by omega,q⟩,H₀,Bad,envi,o2,Ei.mono s1,hb2, ?_⟩
   cases o2 with
   |nx e4=>exactλσ4 H4 E4 p4=> ⟨e4,E4,pi1.trans p4,ei⟩
   |ct e4=>exactλσ4 H4 E4 p4=> ⟨e4,E4,pi1.trans p4,ei⟩
   |bk e4=>cases ei;exactλσ4 H4 E4 p4=>k σ4 H4 E4 (pi1.trans p4)
   |ret d=>cases ei;exact k
  |false=>
   rw[Gah Gaz]
   rw[Gah Gaz] at ei
   cases ei
   exact k σ' H1 (Ei.mono s1) pi1
theorem aI.fK{K:aD}{H₀:Hp}{Bad:Addr→Prop}{env:Env}{σ:St}{H:Hp}(E:aI K H₀ Bad env σ H){b:Addr}{o:HO}(h:Ow env σ b)(hb:H b=some o):¬isT o:=by
 intro q
 obtain⟨i,h1,h2⟩:=h
 obtain⟨y,hy,wy⟩:=E.IP h1.ol.top h2
 rw[hb] at hy;cases hy
 cases o<;>simp[isT] at q<;>exact wy
theorem aI.mG{K:aD}{H₀:Hp}{Bad:Addr→Prop}{env:Env}{σ:St}{H Hi:Hp}{d:D}{v:V}(E:aI K H₀ Bad env σ H)(keep:∀b o,H b=some o→¬Ow env σ b→Hi b=some o)(r:Rep K (Cln Bad env σ) H d v):
  Rep K (λb=>Cln Bad env σ b∧H b≠none) Hi d v:=
 r.gen (λb o hb q=>keep b o hb (by
  rcases q with q|q
  ·exactλ⟨i,h1,h2⟩=>q.2 i h1.ol.top h2
  ·exactλw=>E.fK w hb q)) λb q hb=> ⟨q,hb⟩
noncomputable def Og(K:aD)(tl:TE):TI:=λσ H R=>tl σ H λx H1=>∃a,x= .ref a∧(((∃xs,SqL K H1 a xs)∧R (Itl K a) H1)∨((∃xs,SqT K H1 a xs)∧R (Itt K a) H1))
theorem EC{tg l:Expr}{tl:TE}(hl:PE X l tl):PI X tg l (Og X.K tl):=by
 intro pins s σ H R I h
 refine thn (hl pins s σ H _ I h) λv s1 ⟨x,H1,I1,r1,q1⟩=> ?_
 obtain⟨a,e,q1⟩:=q1
 subst e
 cases r1
 have fp:∀b∈[s1.heap.objs.size],nD X pins H1 b:=λb hb=>by
  have e:b=s1.heap.objs.size:=by simpa using hb
  subst e
  exact I1.Cu (Gap _) (I1.hok.fresh (Gap _))
 rcases q1 with⟨⟨xs,hq⟩,q⟩| ⟨⟨xs,hq⟩,q⟩
 ·obtain⟨its,rv,p,hz⟩:=I1.list hq
  refine wpAny_pyIter_list p.isList ?_
  exact⟨s1.heap.objs.size,[s1.heap.objs.size],_,_,H1,rfl,I1.kept (t' :=s1.toks) λb o e=>Gaj _ e,Cv a _,⟨_,GaC _ rfl,rfl,rfl⟩,fp,q⟩
 ·obtain⟨its,rv,p,hz⟩:=I1.tuple hq
  refine GcO (show s1.heap.IsTuple a its.toArray from p) ?_
  exact⟨s1.heap.objs.size,[s1.heap.objs.size],_,_,H1,rfl,I1.kept (t' :=s1.toks) λb o e=>Gaj _ e,Av a _,⟨_,GaC _ rfl,rfl,rfl⟩,fp,q⟩
theorem BK{Bad:Addr→Prop}{env:Env}{σ:St}{H H1:Hp}{kd:Cls}{d:D}{v:V}(E:aI X.K H₀ Bad env σ H)(ht:d.top=true)(hk:kd≠ .to)(Rv:jK X.K H₀ Bad env σ H H1 ⟨kd,d⟩ v):∀a,v= .ref a→¬Ow env σ a:=λa ea=>by
 cases kd with
 |c=>
  have Rv' :Rep X.K (Cln Bad env σ) H1 d v:=Rv
  have fin:∀b,Cln Bad env σ b→¬Ow env σ b:=λb f ⟨i,h1,h2⟩=>f.2 i h1.ol.top h2
  cases Rv' with
  |tup h l r=>simp[D.top] at ht
  |lst f h l r=>cases ea;exact fin _ f
  |dK f h l r=>cases ea;exact fin _ f
  |dT f h l r=>cases ea;exact fin _ f
  |non=>cases ea
  |bl b=>cases ea
  |int i=>cases ea
  |str x=>cases ea
  |scr h=>simp[D.top] at ht
 |tn=>
  obtain⟨a',e',n,_⟩:=Rv
  rw[e'] at ea;cases ea
  exactλ⟨i,h1,h2⟩=>E.nW h1.ol.top h2 n
 |to=>exact absurd rfl hk
 |tb=>exact Rv.2 a ea ht
theorem fm{tg:Expr}(he:PEd X e f):PId X tg e (ll f):=by
 refine(EC he).aU ?_
 rintro σ H R ⟨H₀,Bad,env,ds,E,hf,k⟩
 obtain⟨⟨kd,d⟩,hr,hf⟩:=bind_some hf
 split at hf
 ·cases hf
 rename_i hk
 refine⟨H₀,Bad,env,_,E,hr,λv H1 s1 Rv=> ?_⟩
 have ii:=Rv.inn
 have E1:=E.mono s1
 split at hf
 ·rename_i xs hd
  cases hf
  have hd' :d= .lst ds:=hd
  subst hd'
  have hno:=BK E rfl hk Rv
  cases ii with
  | @lst la lv _ h r=>
   refine⟨_,rfl,.inl ⟨⟨_,.inl h⟩,k _ H1 s1 λHi keep=> ?_⟩⟩
   have hh:Rd Hi la (.lst lv):=by
    rcases h with h| ⟨o,h⟩
    ·exact .inl (keep _ _ h (hno _ rfl))
    ·exact .inr ⟨o,keep _ _ h (hno _ rfl)⟩
   refine⟨λi d hd=> ?_,⟨_,.inl hh,by rw[r.1];exact Gap _⟩⟩
   obtain⟨x,h1,h2⟩:=r.get hd
   refine⟨⟨_,x,.inl hh,h1⟩,λy H2 ⟨e2,e3⟩=> ?_⟩
   subst e2
   refine⟨bU, ?_⟩
   have:=e3 _ (.inl hh)
   rw[h1] at this;cases this
   exact E1.mG keep h2
 ·rename_i xs hd
  cases hf
  have hd' :d= .tup ds:=hd
  subst hd'
  cases ii with
  | @tup la lv _ h r=>
   refine⟨_,rfl,.inr ⟨⟨_,SqT.of h⟩,k _ H1 s1 λHi keep=> ?_⟩⟩
   have hh:Hi la=some (.tup lv):=keep _ _ h λw=>E1.fK w h trivial
   refine⟨λi d hd=> ?_,⟨_,SqT.of hh,by rw[r.1];exact Gap _⟩⟩
   obtain⟨x,h1,h2⟩:=r.get hd
   refine⟨⟨_,x,SqT.of hh,h1⟩,λy H2 ⟨e2,e3⟩=> ?_⟩
   subst e2
   refine⟨bU, ?_⟩
   have:=e3 _ (SqT.of hh)
   rw[h1] at this;cases this
   exact E1.mG keep h2
 ·rename_i ns hd
  cases hf
  have hd' :d= .scr ns:=hd
  subst hd'
  cases ii with
  | @scr la _ h=>
   refine⟨_,rfl,.inl ⟨⟨_,h.sq⟩,k _ H1 s1 λHi keep=> ?_⟩⟩
   have hh:Scr X.K Hi la ns:=by
    rcases h with⟨o,h⟩|h
    ·exact .inl ⟨o,keep _ _ h λw=>E1.fK w h trivial⟩
    ·exact .inr h
   refine⟨λi d hd=> ?_,⟨_,hh.sq,by simp⟩⟩
   rw[Gal] at hd
   cases q:ns[i]? with
   |none=>rw[q] at hd;cases hd
   |some n=>
    rw[q] at hd;cases hd
    refine⟨⟨_,.int n,hh.sq,by rw[Gal,q];rfl⟩,λy H2 ⟨e2,e3⟩=> ?_⟩
    subst e2
    have:=e3 _ hh.sq
    rw[Gal,q] at this;cases this
    exact⟨bU,.int n⟩
 ·cases hf
theorem lA{lo:Int}{n:Nat}{F N:Addr→Prop}{H1:Hp}:AM X.K F N (Itr lo n) (bB lo n) H1:=λHi _=>by
 refine⟨λi d hd=> ?_,by show n≤(bB lo n).length;simp[bB]⟩
 have hi:i<n:=by have:=(Gac.mp hd).1;simpa[bB] using this
 refine⟨hi,λx H2 ⟨e1,e2⟩=> ?_⟩
 subst e1 e2
 have:d= .int (lo+(i:Int)):=by
  unfold bB at hd
  rw[Gal,List.getElem?_range hi] at hd
  cases hd;rfl
 subst this
 exact⟨bU,.int _⟩
theorem fL{i:Int}(h:cn i=true): -(2^62)≤i∧i<2^62:=by
 unfold cn at h
 rw[Gas] at h
 have h1:=GaB h.1
 have h2:=GaB h.2
 omega
theorem fM{tg:Expr}{p:Pos}(hg:Gl X "range")(hm:X.mg "range"=none)(he:PEd X e f)(hs:starEach [e] X.env=[(false,eval e X.env)]:=by rfl):PId X tg (.Call (.Name "range" p) [e] [] pos) (ij f):=by
 refine(Cw hg hm (a4 he aa hs) hs).aU ?_
 rintro σ H R ⟨H₀,Bad,env,ds,E,hf,k⟩
 obtain⟨r,hr,hf⟩:=bind_some hf
 split at hf
 ·rename_i j hd
  split at hf
  ·rename_i hz
   cases hf
   refine⟨H₀,Bad,env,[r],E,by unfold a5 ao;rw[hr];rfl,λvs H1 s1 Rs=> ?_⟩
   cases Rs with
   |cons R1 t=>
    cases t
    have i:=R1.inn
    rw[hd] at i
    cases i
    exact⟨j,rfl,(fL hz).1,(fL hz).2,k _ H1 s1 lA⟩
  ·cases hf
 ·cases hf
theorem CT{tg:Expr}{p:Pos}(hg:Gl X "range")(hm:X.mg "range"=none)(ha:PEd X a f)(hb:PEd X b g)(hs:starEach [a,b] X.env=[(false,eval a X.env),(false,eval b X.env)]:=by rfl)(hs2:starEach [b] X.env=[(false,eval b X.env)]:=by rfl):
  PId X tg (.Call (.Name "range" p) [a,b] [] pos) (BC f g):=by
 refine(Cy hg hm (a4 ha (a4 hb aa hs2) (by rw[hs,hs2])) hs hs2).aU ?_
 rintro σ H R ⟨H₀,Bad,env,ds,E,hf,k⟩
 obtain⟨r,hr,hf⟩:=bind_some hf
 obtain⟨r',hr',hf⟩:=bind_some hf
 split at hf
 ·rename_i i j hd hd'
  split at hf
  ·rename_i hz
   rw[Gas] at hz
   cases hf
   refine⟨H₀,Bad,env,[r,r'],E,by simp only[a5,ao,hr,hr'];rfl,λvs H1 s1 Rs=> ?_⟩
   cases Rs with
   |cons R1 t=>
    cases t with
    |cons R2 t=>
     cases t
     have i1:=R1.inn
     rw[hd] at i1
     cases i1
     have i2:=R2.inn
     rw[hd'] at i2
     cases i2
     exact⟨i,j,rfl,⟨(fL hz.1).1,(fL hz.1).2,(fL hz.2).1,(fL hz.2).2⟩,k _ H1 s1 lA⟩
  ·cases hf
 ·cases hf
theorem aQ{i:Nat}{x:Str}(hN:X.N.Nodup)(hi:X.N[i]? =some x)(hx:Loc X.env.scope x)(hf:X.fn x=true∨X.env.scope.names.lookup x=some .local:=by first|exact .inl rfl|exact .inr rfl|assumption):PGd X (.Name x pos) (gN i):=by
 refine(Bu hN hi hx hf).aU ?_
 rintro v σ H Q ⟨H₀,Bad,env,d,env',E,hg,r,k⟩
 cases hg
 exact k _ H (E.lJ r) .lJ
noncomputable def tGs(X:Cx)(is:List Nat):TGs:=λvs σ H Q=>∃H₀ Bad env ds env',aI X.K H₀ Bad env σ H∧gNs is ds env=some env' ∧aY X.K (λb=>Cln Bad env σ b∧H b≠none) H ds vs∧∀σ' H',aI X.K H₀ Bad env' σ' H' →Stp env σ H env' σ' H' →Q σ' H'
theorem _root_.L2.PGs.aU{es:List Expr}{t t' :TGs}(h:PGs X es t')(i:∀v σ H Q,t v σ H Q→t' v σ H Q):PGs X es t:=λpins s σ H v u Q I r q=>h pins s σ H v u Q I r (i v σ H Q q)
theorem ju:PGs X [] (tGs X []):=by
 refine Gu.aU ?_
 rintro vs σ H Q ⟨H₀,Bad,env,ds,env',E,hg,r,k⟩
 cases ds with
 |nil=>cases hg;exact⟨r.cU,k σ H E .refl⟩
 |cons d ds=>cases hg
theorem bR{es:List Expr}{i:Nat}{is:List Nat}(h1:PGd X e (gN i))(h2:PGs X es (tGs X is))(hs:(assignEach (e::es) X.env).map (·.2)=assign e X.env::(assignEach es X.env).map (·.2):=by rfl):PGs X (e::es) (tGs X (i::is)):=by
 refine(DY h1 h2 hs).aU ?_
 rintro vs σ H Q ⟨H₀,Bad,env,ds,env',E,hg,r,k⟩
 cases ds with
 |nil=>cases hg
 |cons d ds=>
  obtain⟨v,vr,rfl,r1,r2⟩:=r.cons_inv
  refine⟨v,vr,rfl,H₀,Bad,env,d,_,E,rfl,r1.imp λ_ q=>q.1,λσ1 H1 E1 p1=> ?_⟩
  refine⟨H₀,Bad,_,ds,env',E1,hg,r2.gen (λb o hb q=>p1.keep b o hb (by
   rcases q with q|q
   ·exactλ⟨j,w1,w2⟩=>q.1.2 j w1.ol.top w2
   ·exactλw=>E.fK w hb q)) (λb q hb=> ⟨uc p1 q.1 hb, ?_⟩),λσ2 H2 E2 p2=>k σ2 H2 E2 (p1.trans p2)⟩
  cases o:H b with
  |none=>exact absurd o hb
  |some x=>rw[p1.keep b x o λ⟨j,w1,w2⟩=>q.1.2 j w1.ol.top w2];simp
theorem BL:∀{is:List Nat} {ds:List D} {env env' :Env},gNs is ds env=some env' →ds.length=is.length
 |[],[],_,_,_=>rfl
 |[],_::_,_,_,h=>by cases h
 |_::_,[],_,_,h=>by cases h
 |i::is,d::ds,env,env',h=>by
  have:=BL (is:=is) (ds:=ds) h
  simp[this]
theorem lK{es:List Expr}{j n:Nat}{is:List Nat}(hc:X.calm=true)(h:PGs X es (tGs X is))(hn:(assignEach es X.env).length=n:=by rfl)(hst:(assignEach es X.env).findIdx? (·.1)=none:=by rfl)(hl:is.length=n:=by rfl):PGd X (.Tuple es j pos) (gT is):=by
 refine(Ji hc h hn hst).aU ?_
 rintro v σ H Q ⟨H₀,Bad,env,d,env',E,hg,r,k⟩
 unfold gT at hg
 split at hg
 ·rename_i ds
  cases r with
  |tup h l r=>
   refine⟨_,_,rfl,SqT.of h,by rw[←l,BL hg,hl],H₀,Bad,env,ds,env',E,hg,⟨l,λi d v e1 e2=>(r i d v e1 e2).gen (.of_same bU) λb q hb=> ⟨q,hb⟩⟩,k⟩
 ·cases hg
end
open PySem PySem.Spec PyProof.Rows L2
section
variable{X:Cx}{e a b c:Expr}{f g h:DE}{t u:DT}{pos:Pos}{st:Stmt}{rest:List Stmt}{s1 s2:DS}
theorem nZ{i:Nat}{env:Env}{d:D}(h:ownAt i env=some d):env[i]? =some (some (.own d)):=by
 unfold ownAt at h
 split at h
 ·rename_i d' q;cases h;exact q
 ·cases h
theorem o4{K:aD}{F:Addr→Prop}{H:Hp}{ds:List D}{a:Addr}(w:Wr H a)(i:Inn K F H (.lst ds) (.ref a)):∃vs,H a=some (.lst vs)∧aY K F H ds vs:=by
 cases i with
 |lst h r=>
  rcases h with h| ⟨o,h⟩
  ·exact⟨_,h,r⟩
  ·obtain⟨y,hy,wy⟩:=w
   rw[h] at hy;cases hy;exact wy.elim
theorem br{i:Nat}{x:Str}{px apos cpos:Pos}(hN:X.N[i]? =some x)(hv:Vis X.env.scope x)(he:PEd X e f)(hd:(x==("__debug__":Str))=false:=by decide)(hcd:(x==("__classdict__":Str))=false:=by decide)
  (hs1:starEach [e] X.env=[(false,eval e X.env)]:=by rfl)
  (hbase:attributeBase (.Name x px) "append" X.env (eval (.Name x px) X.env)=eval (.Name x px) X.env:=by rfl)
  (hfew:((backTo cpos (starEach [e] X.env)).all (λx=> !x.1)&&(backToKw cpos (keywordEach [] X.env)).all (λx=>x.1.isSome)
   &&decide (([e]:List Expr).length+([]:List Keyword).length+(if([]:List Keyword).isEmpty then 0 else 1)<30))=true:=by rfl)
  (hline:(apos.endLine==cpos.line)=true:=by rfl)(hs:swapsWith (.Call (.Attribute (.Name x px) "append" apos) [e] [] cpos) none pos.line X.env=pure false:=by rfl):
  PSd X (.Expr (.Call (.Attribute (.Name x px) "append" apos) [e] [] cpos) pos) (jq i f):=by
 refine(qL (By Gcj PySem.F.slot_list_append PySem.F.type_list_append oZ (lu hN hv hd hcd) (a4 he aa hs1) hbase hfew hline hs1 rfl) hs).aU ?_
 rintro D σ H ⟨H₀,Bad,env,o,E,e,k⟩
 obtain⟨r,hr,e⟩:=bind_some e
 obtain⟨d,hd,e⟩:=bind_some e
 have q:=nZ hd
 split at e
 ·rename_i xs
  split at e
  ·rename_i z
   rw[Gas] at z
   cases e
   obtain⟨a,h1,h2,h3,h4,h5,h6⟩:=E.ow i _ (.inl q)
   obtain⟨vs,hH,rp⟩:=o4 h4 h6
   refine⟨_,h1,.inl ⟨rfl,vs,.inl (.inl hH)⟩,H₀,Bad,env,[r],E,by unfold a5 ao;rw[hr];rfl,λws H2 s2 Rs=> ?_⟩
   cases Rs with
   | @cons _ v _ _ R1 tl=>
    cases tl
    have hH2:=s2 _ _ hH
    refine⟨a,vs,v,rfl,rfl,hH2,by rw[←rp.1,←size_eq];exact GaB z.2, ?_⟩
    have E2:=E.mono s2
    have rep1:=R1.rep E z.1
    have rp2:aY X.K (Cln Bad env σ) H2 (xs++[r.d]) (vs++[v]):=(rp.gen (.of_same s2) λ_ f _=>f).append (.cons rep1 .nil)
    obtain⟨E3,p3⟩:=E2.change (d' := .lst (xs++[r.d])) (o:= .lst (vs++[v])) q h1 trivial rfl (.lst (.inl aN) (rp2.gen (λb o hb w=>by
     have:b≠a:=by
      rintro rfl
      rcases w with w|w
      ·exact w.2 i (by rw[q];trivial) h1
      ·rw[hH2] at hb;cases hb;exact w
     rw[az this];exact hb) λ_ f _=>f))
    exact k σ _ E3 ((Stp.of_same s2).trans p3)
  ·cases e
 ·cases e
theorem CU{i:Nat}{x:Str}{px apos cpos:Pos}(hN:X.N[i]? =some x)(hv:Vis X.env.scope x)(he:PEd X e f)(hd:(x==("__debug__":Str))=false:=by decide)(hcd:(x==("__classdict__":Str))=false:=by decide)
  (hs1:starEach [e] X.env=[(false,eval e X.env)]:=by rfl)
  (hbase:attributeBase (.Name x px) "extend" X.env (eval (.Name x px) X.env)=eval (.Name x px) X.env:=by rfl)
  (hfew:((backTo cpos (starEach [e] X.env)).all (λx=> !x.1)&&(backToKw cpos (keywordEach [] X.env)).all (λx=>x.1.isSome)
   &&decide (([e]:List Expr).length+([]:List Keyword).length+(if([]:List Keyword).isEmpty then 0 else 1)<30))=true:=by rfl)
  (hline:(apos.endLine==cpos.line)=true:=by rfl)(hs:swapsWith (.Call (.Attribute (.Name x px) "extend" apos) [e] [] cpos) none pos.line X.env=pure false:=by rfl):
  PSd X (.Expr (.Call (.Attribute (.Name x px) "extend" apos) [e] [] cpos) pos) (LU i f):=by
 refine(qL (By Gcj PySem.F.slot_list_extend PySem.F.type_list_extend CH (lu hN hv hd hcd) (a4 he aa hs1) hbase hfew hline hs1 rfl) hs).aU ?_
 rintro D σ H ⟨H₀,Bad,env,o,E,e,k⟩
 obtain⟨⟨kd,rd⟩,hr,e⟩:=bind_some e
 obtain⟨d,hd,e⟩:=bind_some e
 have q:=nZ hd
 split at e
 ·rename_i xs ys hrd
  have hrd' :rd= .lst ys:=hrd
  subst hrd'
  split at e
  ·rename_i z
   rw[Gas] at z
   cases e
   have hk:kd= .tn:=by have:=z.1;simpa using this
   subst hk
   obtain⟨a,h1,h2,h3,h4,h5,h6⟩:=E.ow i _ (.inl q)
   obtain⟨vs,hH,rp⟩:=o4 h4 h6
   refine⟨_,h1,.inl ⟨rfl,vs,.inl (.inl hH)⟩,H₀,Bad,env,[⟨.tn,.lst ys⟩],E,by unfold a5 ao;rw[hr];rfl,λws H2 s2 Rs=> ?_⟩
   cases Rs with
   | @cons _ v _ _ R1 tl=>
    cases tl
    obtain⟨b,rfl,nb,wb,_,ib⟩:=R1
    obtain⟨us,hB,ru⟩:=o4 wb ib
    have hH2:=s2 _ _ hH
    refine⟨a,b,vs,us,rfl,rfl,hH2,hB,by rw[←rp.1,←ru.1,←size_eq];exact GaB z.2, ?_⟩
    have E2:=E.mono s2
    have rp2:aY X.K (Cln Bad env σ) H2 (xs++ys) (vs++us):=(rp.gen (.of_same s2) λ_ f _=>f).append (ru.gen (.of_same bU) λ_ f _=>f.1)
    obtain⟨E3,p3⟩:=E2.change (d' := .lst (xs++ys)) (o:= .lst (vs++us)) q h1 trivial rfl (.lst (.inl aN) (rp2.gen (λb o hb w=>by
     have:b≠a:=by
      rintro rfl
      rcases w with w|w
      ·exact w.2 i (by rw[q];trivial) h1
      ·rw[hH2] at hb;cases hb;exact w
     rw[az this];exact hb) λ_ f _=>f))
    exact k σ _ E3 ((Stp.of_same s2).trans p3)
  ·cases e
 ·cases e
def Oh(K:aD):List V→Hp→VK→Prop:=λxs H Q=>∃x T t b,xs=[x,.ty T]∧nE K H x (.type t)∧PySem.W.kitOne K (.type t) (.type T)=some b∧Q (.bl b) H
theorem ED:i7 X (.builtin "isinstance") (Oh X.K):=by
 intro pins s σ H xs us Q I r h
 obtain⟨x,T,t,bb,rfl,ty,hk,q⟩:=h
 obtain⟨u,w',rfl,r1,r2⟩:=vals2 r
 cases r2
 exact CD I r1 ty hk λtk=> ⟨.bl bb,H,I.tok _,rfl,q⟩
def ud(K:aD)(T:String):Prop:=∀t∈["NoneType","bool","int","str","tuple","list","dict"],PySem.W.kitOne K (.type t) (.type T)=some (T==t||(t=="bool"&&T=="int"))
theorem Hh{K:aD}{F:Addr→Prop}{H:Hp}{d:D}{x:V}(i:Inn K F H d x)(hs:lG d=false):∃t∈["NoneType","bool","int","str","tuple","list","dict"],nE K H x (.type t)∧∀S,jS S d=(S==t||(t=="bool"&&S=="int")):=by
 have rdl:∀{a:Addr} {vs:List V},Rd H a (.lst vs)→nE K H (.ref a) (.type "list"):=λh=>by
  rcases h with h| ⟨o,h⟩
  ·exact .lst h
  ·exact .frz h
 cases i with
 |non=>exact⟨"NoneType",by simp,.non,λS=>by simp[jS]⟩
 |bl b=>exact⟨"bool",by simp,.bl b,λS=>by simp[jS]⟩
 |int i=>exact⟨"int",by simp,.int i,λS=>by simp[jS]⟩
 |str x=>exact⟨"str",by simp,.str x,λS=>by simp[jS]⟩
 |tup h r=>exact⟨"tuple",by simp,.tup h,λS=>by simp[jS]⟩
 |lst h r=>exact⟨"list",by simp,rdl h,λS=>by simp[jS]⟩
 |dK h r=>exact⟨"dict",by simp,.dK h,λS=>by simp[jS]⟩
 |dT h r=>exact⟨"dict",by simp,.dT h,λS=>by simp[jS]⟩
 |scr h=>cases hs
theorem rA{T:String}{x:Str}{p p2:Pos}(kit:ud X.K T)(he:PEd X e f)(hg:Gl X "isinstance")(hm:X.mg "isinstance"=none)(hg2:Gl X x)(hm2:X.mg x=none)(hv2:bootBuiltins x=some (.type T))(hn2:x≠"__name__":=by decide)(hd2:(x==("__debug__":Str))=false:=by decide)
  (hs1:starEach [e,.Name x p2] X.env=(false,eval e X.env)::starEach [.Name x p2] X.env:=by rfl)(hs2:starEach [.Name x p2] X.env=(false,eval (.Name x p2) X.env)::starEach [] X.env:=by rfl)(hpl:(backTo pos (starEach [.Name x p2] X.env)).any (·.1)=false:=by rfl):
  PEd X (.Call (.Name "isinstance" p) [e,.Name x p2] [] pos) (bE (CN T f)):=by
 have ht:PE X (.Name x p2) (tC (.ty T)):=Gq hg2 hm2 hv2 rfl hn2 hd2
 refine(vS ED hg hm (by decide+kernel) (uK he (uK ht AA hs2) hs1) (by decide) (by decide) hs1 hpl).aU ?_
 rintro σ H Q ⟨H₀,Bad,env,rv,E,e,k⟩
 obtain⟨bb,e',rfl⟩:=Gak.mp e
 clear e
 have e:=e'
 clear e'
 obtain⟨r,hr,e⟩:=bind_some e
 split at e
 ·cases e
 ·rename_i hs
  cases e
  refine⟨H₀,Bad,env,r,E,hr,λv H1 s1 R=> ?_⟩
  obtain⟨t,ht,ty,hb⟩:=Hh R.inn (by simpa using hs)
  exact⟨v,T,t,_,rfl,ty,kit t ht,by rw[←hb T];exact k _ H1 s1 (.bl _)⟩
theorem ax:∀env rs,ao env=some rs→rs.length=0:=λenv rs h=>by cases h;rfl
theorem a7{r:DA}{n:Nat}(h:∀env rs,r env=some rs→rs.length=n):∀env rs,a5 f r env=some rs→rs.length=n+1:=λenv rs e=>by
 obtain⟨x,_,e⟩:=bind_some e
 obtain⟨xs,hx,e⟩:=bind_some e
 cases e
 rw[GaH,h env xs hx]
theorem aI.start{K:aD}{H:Hp}{N:List Str}{ds:List D}{vs:List V}(hl:ds.length≤N.length)(r:aY K (λ_=>True) H ds vs):aI K H (λ_=>False) (bq N.length ds) (start N vs) H:=by
 have nt:∀i:Nat,¬bx (bq N.length ds)[i]? :=λi h=>by
  unfold bq at h
  by_cases hi:i<ds.length
  ·rw[GaR (by simpa using hi),Gal] at h
   cases q:ds[i]? with
   |none=>rw[q] at h;exact h
   |some d=>rw[q] at h;exact h
  ·rw[GaJ (by simpa using hi),Gch] at h
   split at h<;>exact h
 have no:∀{i:Nat} {s:Slot},(bq N.length ds)[i]? =some (some s)→bx (some (some s))→False:=λ{i s} e h=>nt i (by rw[e];exact h)
 refine⟨λ_ _ e=>e,by simp[bq,L2.start,r.1],λ_ h=>h.elim,λi d e=> ?_,λi d e=> ?_,λi d e=> ?_,λi j a t _ _ _=>(nt i t.top).elim⟩
 ·unfold bq at e
  by_cases hi:i<ds.length
  ·rw[GaR (by simpa using hi),Gal] at e
   cases q:ds[i]? with
   |none=>rw[q] at e;cases e
   |some d' =>
    rw[q] at e
    have e' :d' =d:=by simpa using e
    subst e'
    obtain⟨v,h1,h2⟩:=r.get q
    refine⟨v, ?_,h2.imp λb _=> ⟨λz=>z,λj t=>(nt j t).elim⟩⟩
    unfold L2.start
    rw[GaR (by rw[Gae,←r.1];exact hi),Gal,h1];rfl
  ·rw[GaJ (by simpa using hi),Gch] at e
   split at e<;>cases e
 ·rcases e with e|e
  ·exact(no e trivial).elim
  ·exact(no e trivial).elim
 ·exact(no e trivial).elim
theorem cJ{P:Program}{w:World}{K:aD}{mg:Str→Option Value}{base:Heap}{x qual:Str}{sd:Stmt}{fa:Addr}{fd:FuncData}{N ps:List Str}{k np:Nat}{body:DS}(F:Fun K x qual sd fa fd)(S:aW N ps (aJ sd))(hnp:ps.length=np)
  (hbody:∀(cdv:Value) (A:Around) (outer:List PySem.Env) (s:Shared) (H:Hp) (E:XK),gU k (A.deeper (envOfC qual (aJ sd) s.heap.objs.size fa cdv))→
   lq (AD CX0 P w K mg base N qual (aJ sd) fa cdv A outer s H E).nox (jr sd) body):cD P w K mg base CX0 (k+1) fa fd ps (spD K np (dW N.length np body)):=by
 refine F.ok S (λvs H Q E h=> ?_) λcdv A outer s H vs Q E hr h=> ⟨_,hbody cdv A outer s H E hr, ?_⟩
 ·obtain⟨ds,d,h1,h2,_⟩:=h
  rw[←h2.1,h1,hnp]
 ·obtain⟨ds,d,h1,h2,h3,k⟩:=h
  unfold dW at h3
  rw[Gaf h1] at h3
  obtain⟨o,ho,h3⟩:=bind_some h3
  have hl:ds.length≤N.length:=by
   have:=congrArg List.length S.pre
   rw[GcD] at this
   omega
  refine⟨H,λ_=>False,bq N.length ds,o,aI.start hl h2,ho, ?_⟩
  cases o with
  |ret d' =>cases h3;exactλv H' s' R=>k v H' s' R
  |nx e=>cases h3;exactλσ' H' E' p' =>k .non H' E'.same ⟨λt=>(by cases t),.non⟩
  |bk e=>cases h3
  |ct e=>cases h3
theorem JS{K:aD}{H:Hp}{a:Addr}{ns:List Int}{sp:List D→Option D}{E:XK}(hO:GP H)(hS:SqL K H a (ns.map V.int))(h:sp [.scr ns]=some (.bl true)):spD K 1 sp [.ref a] H (λv _=>v= .bl true) E:=by
 refine⟨[.scr ns],.bl true,rfl,aY.cons (.scr ?_) .nil,h,λv H' _ R=> ?_⟩
 ·rcases hS with(z|z)|z
  ·rcases hO a with q| ⟨o,xs,q⟩<;>rw[z] at q<;>cases q
  ·exact .inl z
  ·exact .inr z
 ·have i:=R.2
  cases i;rfl
end
open PySem PySem.Spec PyProof.Rows L2
theorem plain_all{n:Nat}{ds:List D}(h:ds.all (av n)=true){i:Nat}{d:D}(e:ds[i]? =some d):av n d=true:=Gat.mp h d (GaF e)
theorem wk:∀(n:Nat) (d:D),av n d=true→eqD d d=true:=by
 intro n
 induction n with
 |zero=>intro d h;cases d<;>simp[av] at h<;>simp[eqD]
 |succ n ih=>
  have all:∀ds:List D,ds.all (av n)=true→lF ds ds=true:=by
   intro ds
   induction ds with
   |nil=>intro _;rfl
   |cons d ds ih2=>
    intro h
    rw[Gbq,Gas] at h
    simp[lF,ih d h.1,ih2 h.2]
  intro d h
  cases d<;>simp only[av] at h<;>first
   |(simp[eqD];done)
   |(simp only[eqD];exact all _ h)
   |cases h
theorem lL:∀{ds es:List D},ds.length≠es.length→lF ds es=false
 |[],[],h=>absurd rfl h
 |[],_::_,_=>rfl
 |_::_,[],_=>rfl
 |d::ds,e::es,h=>by
  unfold lF
  rw[lL (by simpa using h),Gdr]
theorem j9:∀{ds es:List D},ds.length=es.length→(List.range ds.length).all (λj=>eqD (ds.getD j .non) (es.getD j .non))=lF ds es
 |[],[],_=>rfl
 |[],_::_,h=>by simp at h
 |_::_,[],h=>by simp at h
 |d::ds,e::es,h=>by
  have ih:=j9 (ds:=ds) (es:=es) (by simpa using h)
  unfold lF
  rw[GaH,List.range_succ_eq_map,Gbq,Gbx,←ih]
  rfl
section
variable{X:Cx}{pins:List (Addr×Obj)}{σ:St}{H:Hp}{s:Shared}
theorem BM{K:aD}{F G:Addr→Prop}:∀(n:Nat) {d d' :D} {v:V},av n d=true→av n d' =true→Rep K F H d v→Rep K G H d' v→d=d' :=by
 intro n
 induction n with
 |zero=>intro d d' v h1 h2 r1 r2;cases r1<;>simp[av] at h1<;>cases r2<;>simp[av] at h2<;>rfl
 |succ n ih=>
  have all:∀{ds es:List D} {vs:List V},ds.all (av n)=true→es.all (av n)=true→ds.length=vs.length→es.length=vs.length→(∀(i:Nat) d v,ds[i]? =some d→vs[i]? =some v→Rep K F H d v)→(∀(i:Nat) d v,es[i]? =some d→vs[i]? =some v→Rep K G H d v)→ds=es:=by
   intro ds es vs p1 p2 l1 l2 r1 r2
   apply GcW
   intro i
   by_cases hi:i<vs.length
   ·have e1:ds[i]? =some ds[i]:=by simp[l1,hi]
    have e2:es[i]? =some es[i]:=by simp[l2,hi]
    have e3:vs[i]? =some vs[i]:=by simp[hi]
    rw[e1,e2,ih (plain_all p1 e1) (plain_all p2 e2) (r1 i _ _ e1 e3) (r2 i _ _ e2 e3)]
   ·rw[Gbk (by omega),Gbk (by omega)]
  intro d d' v h1 h2 r1 r2
  cases r1 with
  |non=>cases r2;rfl
  |bl b=>cases r2;rfl
  |int i=>cases r2;rfl
  |str x=>cases r2;rfl
  |scr h=>simp[av] at h1
  |dK f h l r=>simp[av] at h1
  |dT f h l r=>simp[av] at h1
  |tup h l r=>
   cases r2 with
   |tup h' l' r' =>
    rw[h] at h';cases h'
    rw[all (by simpa[av] using h1) (by simpa[av] using h2) l l' r r']
   |lst f h' l' r' =>rcases h' with h' | ⟨o,h'⟩<;>rw[h] at h' <;>cases h'
   |scr h' =>simp[av] at h2
   |dK f h' l r=>simp[av] at h2
   |dT f h' l r=>simp[av] at h2
  |lst f h l r=>
   cases r2 with
   |tup h' l' r' =>rcases h with h| ⟨o,h⟩<;>rw[h] at h' <;>cases h'
   |lst f' h' l' r' =>
    have:∀{xs ys:List V} {a:Addr},Rd H a (.lst xs)→Rd H a (.lst ys)→xs=ys:=λz1 z2=>by
     rcases z1 with z1| ⟨o,z1⟩<;>rcases z2 with z2| ⟨o',z2⟩<;>rw[z1] at z2<;>cases z2<;>rfl
    cases this h h'
    rw[all (by simpa[av] using h1) (by simpa[av] using h2) l l' r r']
   |scr h' =>simp[av] at h2
   |dK f h' l r=>simp[av] at h2
   |dT f h' l r=>simp[av] at h2
theorem item_at{ds:List D}{vs:List V}{its:List Value}{K:aD}{F:Addr→Prop}(l:ds.length=vs.length)(r:∀(i:Nat) d v,ds[i]? =some d→vs[i]? =some v→Rep K F H d v)(rv:Vals vs its){j:Nat}(h:j<its.toArray.size):
  ∃d v,ds[j]? =some d∧ds.getD j .non=d∧Rep K F H d v∧RelV v its.toArray[j]:=by
 have hj:j<its.length:=by simpa using h
 have hv:j<vs.length:=by rw[rv.length];exact hj
 have hd:j<ds.length:=by rw[l];exact hv
 obtain⟨u,e1,e2⟩:=rv.get (i:=j) (x:=vs[j]) (by simp[hv])
 refine⟨ds[j],vs[j],by simp[hd],by simp[hd],r j _ _ (by simp[hd]) (by simp[hv]), ?_⟩
 have:its.toArray[j]=u:=by
  have:=e1
  simp[hj] at this
  simpa using this
 rw[this];exact e2
theorem in1_units{A:Around}{n:Nat}(h:A.units+(n+1)<cLine):A.in1.units+n<cLine:=by
 show A.units+1+n<_
 omega
theorem rC(I:Inv X pins σ H s){F G:Addr→Prop}:∀(n:Nat) {dx dy:D} {x y:V} {v u:Value} {A:Around},av n dx=true→av n dy=true→Rep X.K F H dx x→Rep X.K G H dy y→RelV x v→RelV y u→A.units+n<cLine→SeqAt.EqAt A s v u (eqD dx dy):=by
 have flat:∀{dx dy:D} {x y:V} {v u:Value} {A:Around},Rep X.K F H dx x→Rep X.K G H dy y→RelV x v→RelV y u→tX x=true→tX y=true→SeqAt.EqAt A s v u (eqD dx dy):=by
  intro dx dy x y v u A r1 r2 rv ru fx fy
  have e:eqD dx dy=eqV x y:=by
   cases r1<;>cases r2<;>first|rfl|(simp[tX] at fx)|(simp[tX] at fy)
  rw[e]
  exact JB rv ru fx fy
 intro n
 induction n with
 |zero=>
  intro dx dy x y v u A p1 p2 r1 r2 rv ru hu
  refine flat r1 r2 rv ru ?_ ?_
  ·cases r1<;>first|rfl|(simp[av] at p1)
  ·cases r2<;>first|rfl|(simp[av] at p2)
 |succ n ih=>
  intro dx dy x y v u A p1 p2 r1 r2 rv ru hu
  have hu0:A.units<cLine:=by omega
  cases r1 with
  |scr h=>simp[av] at p1
  |dK f h l r=>simp[av] at p1
  |dT f h l r=>simp[av] at p1
  | @tup a vs1 ds1 h l r=>
   cases rv
   obtain⟨its,rvs,ht,_⟩:=I.tuple (SqT.of h)
   cases r2 with
   |scr h' =>simp[av] at p2
   |dK f h' l r=>simp[av] at p2
   |dT f h' l r=>simp[av] at p2
   |non=>cases ru;exact SeqAt.EqAt.tuple_none ht hu0
   |bl b=>cases ru;exact SeqAt.EqAt.tuple_bool b ht hu0
   |int i=>obtain⟨t,rfl⟩:=ru;exact SeqAt.EqAt.tuple_int i t ht hu0
   |str z=>obtain⟨t,rfl⟩:=ru;exact SeqAt.EqAt.tuple_str z t ht hu0
   |lst f' h' l' r' =>
    cases ru
    obtain⟨its2,rvs2,pl,_⟩:=I.list (.inl h')
    exact SeqAt.EqAt.tuple_list ht pl.isList hu0
   | @tup b vs2 ds2 h' l' r' =>
    cases ru
    by_cases hab:a=b
    ·subst hab
     have:=BM (n+1) p1 p2 (Rep.tup h l r) (Rep.tup h' l' r')
     rw[←this,wk _ _ p1]
     exact SeqAt.EqAt.same _
    ·obtain⟨its2,rvs2,ht2,_⟩:=I.tuple (SqT.of h')
     have hs1:its.toArray.size=ds1.length:=by rw[Gam,←rvs.length,l]
     have hs2:its2.toArray.size=ds2.length:=by rw[Gam,←rvs2.length,l']
     have key:=SeqAt.RcAt.tuples (e:=λj=>eqD (ds1.getD j .non) (ds2.getD j .non)) ht ht2 hu0 λj h1 h2=>by
      obtain⟨d1,v1,q1,q2,q3,q4⟩:=item_at l r rvs h1
      obtain⟨d2,v2,w1,w2,w3,w4⟩:=item_at l' r' rvs2 h2
      rw[q2,w2]
      exact ih (plain_all (by simpa[av] using p1) q1) (plain_all (by simpa[av] using p2) w1) q3 w3 q4 w4 (in1_units hu)
     refine SeqAt.EqAt.of_refs hab ?_
     show SeqAt.RcAt A s (.ref a) (.ref b) (lF ds1 ds2)
     rw[hs1,hs2] at key
     by_cases hl:ds1.length=ds2.length
     ·rw[←hl,Gdz,j9 hl] at key
      simpa using key
     ·rw[lL hl]
      have:(ds1.length==ds2.length)=false:=by simpa using hl
      rw[this,Gdr] at key
      exact key
  | @lst a vs1 ds1 f h l r=>
   cases rv
   obtain⟨its,rvs,pl,_⟩:=I.list (.inl h)
   have ht:=pl.isList
   cases r2 with
   |scr h' =>simp[av] at p2
   |dK f h' l r=>simp[av] at p2
   |dT f h' l r=>simp[av] at p2
   |non=>cases ru;exact SeqAt.EqAt.list_none ht hu0
   |bl b=>cases ru;exact SeqAt.EqAt.list_bool b ht hu0
   |int i=>obtain⟨t,rfl⟩:=ru;exact SeqAt.EqAt.list_int i t ht hu0
   |str z=>obtain⟨t,rfl⟩:=ru;exact SeqAt.EqAt.list_str z t ht hu0
   |tup h' l' r' =>
    cases ru
    obtain⟨its2,rvs2,ht2,_⟩:=I.tuple (SqT.of h')
    exact SeqAt.EqAt.list_tuple ht ht2 hu0
   | @lst b vs2 ds2 f' h' l' r' =>
    cases ru
    by_cases hab:a=b
    ·subst hab
     have:=BM (n+1) p1 p2 (Rep.lst f h l r) (Rep.lst f' h' l' r')
     rw[←this,wk _ _ p1]
     exact SeqAt.EqAt.same _
    ·obtain⟨its2,rvs2,pl2,_⟩:=I.list (.inl h')
     have ht2:=pl2.isList
     have hs1:its.toArray.size=ds1.length:=by rw[Gam,←rvs.length,l]
     have hs2:its2.toArray.size=ds2.length:=by rw[Gam,←rvs2.length,l']
     refine SeqAt.EqAt.of_refs hab ?_
     show SeqAt.RcAt A s (.ref a) (.ref b) (lF ds1 ds2)
     by_cases hl:ds1.length=ds2.length
     ·have key:=SeqAt.RcAt.lists (e:=λj=>eqD (ds1.getD j .non) (ds2.getD j .non)) ht ht2 (by rw[hs1,hs2,hl]) hu0 λj h1 h2=>by
       obtain⟨d1,v1,q1,q2,q3,q4⟩:=item_at l r rvs h1
       obtain⟨d2,v2,w1,w2,w3,w4⟩:=item_at l' r' rvs2 h2
       rw[q2,w2]
       exact ih (plain_all (by simpa[av] using p1) q1) (plain_all (by simpa[av] using p2) w1) q3 w3 q4 w4 (in1_units hu)
      rw[hs1,j9 hl] at key
      exact key
     ·rw[lL hl]
      exact SeqAt.RcAt.lists_lengths ht ht2 (by rw[hs1,hs2];simpa using hl) hu0
  |non=>
   cases rv
   cases r2 with
   |scr h' =>simp[av] at p2
   |dK f h' l r=>simp[av] at p2
   |dT f h' l r=>simp[av] at p2
   |tup h' l' r' =>cases ru;obtain⟨its2,rvs2,ht2,_⟩:=I.tuple (SqT.of h');exact SeqAt.EqAt.none_tuple ht2 hu0
   |lst f' h' l' r' =>cases ru;obtain⟨its2,rvs2,pl2,_⟩:=I.list (.inl h');exact SeqAt.EqAt.none_list pl2.isList hu0
   |_=>exact flat .non (by first|exact .non|exact .bl _|exact .int _|exact .str _) rfl ru rfl rfl
  |bl b=>
   cases r2 with
   |scr h' =>simp[av] at p2
   |dK f h' l r=>simp[av] at p2
   |dT f h' l r=>simp[av] at p2
   |tup h' l' r' =>cases rv;cases ru;obtain⟨its2,rvs2,ht2,_⟩:=I.tuple (SqT.of h');exact SeqAt.EqAt.bool_tuple b ht2 hu0
   |lst f' h' l' r' =>cases rv;cases ru;obtain⟨its2,rvs2,pl2,_⟩:=I.list (.inl h');exact SeqAt.EqAt.bool_list b pl2.isList hu0
   |_=>exact flat (.bl b) (by first|exact .non|exact .bl _|exact .int _|exact .str _) rv ru rfl rfl
  |int i=>
   cases r2 with
   |scr h' =>simp[av] at p2
   |dK f h' l r=>simp[av] at p2
   |dT f h' l r=>simp[av] at p2
   |tup h' l' r' =>obtain⟨t,rfl⟩:=rv;cases ru;obtain⟨its2,rvs2,ht2,_⟩:=I.tuple (SqT.of h');exact SeqAt.EqAt.int_tuple i t ht2 hu0
   |lst f' h' l' r' =>obtain⟨t,rfl⟩:=rv;cases ru;obtain⟨its2,rvs2,pl2,_⟩:=I.list (.inl h');exact SeqAt.EqAt.int_list i t pl2.isList hu0
   |_=>exact flat (.int i) (by first|exact .non|exact .bl _|exact .int _|exact .str _) rv ru rfl rfl
  |str z=>
   cases r2 with
   |scr h' =>simp[av] at p2
   |dK f h' l r=>simp[av] at p2
   |dT f h' l r=>simp[av] at p2
   |tup h' l' r' =>obtain⟨t,rfl⟩:=rv;cases ru;obtain⟨its2,rvs2,ht2,_⟩:=I.tuple (SqT.of h');exact SeqAt.EqAt.str_tuple z t ht2 hu0
   |lst f' h' l' r' =>obtain⟨t,rfl⟩:=rv;cases ru;obtain⟨its2,rvs2,pl2,_⟩:=I.list (.inl h');exact SeqAt.EqAt.str_list z t pl2.isList hu0
   |_=>exact flat (.str z) (by first|exact .non|exact .bl _|exact .int _|exact .str _) rv ru rfl rfl
theorem wm(I:Inv X pins σ H s){F G:Addr→Prop}{n:Nat}{dx dy:D}{x y:V}{v u:Value}{A:Around}(p1:av n dx=true)(p2:av n dy=true)(r1:Rep X.K F H dx x)(r2:Rep X.K G H dy y)(rv:RelV x v)(ru:RelV y u)(hu:A.units+n<cLine):
  SeqAt.RcAt A s v u (eqD dx dy)∧SeqAt.RcNeAt A s v u (!eqD dx dy):=by
 have hu0:A.units<cLine:=by omega
 have tupAt:∀{a:Addr} {vs:List V},H a=some (.tup vs)→∃its:List Value,s.heap.IsTuple a its.toArray:=λh=>let⟨its,_,ht,_⟩:=I.tuple (SqT.of h);⟨its,ht⟩
 have lstAt:∀{a:Addr} {vs:List V},Rd H a (.lst vs)→∃its:List Value,s.heap.IsList a its.toArray:=λh=>let⟨its,_,pl,_⟩:=I.list (.inl h);⟨its,pl.isList⟩
 cases r1 with
 |scr h=>cases n<;>simp[av] at p1
 |dK f h l r=>cases n<;>simp[av] at p1
 |dT f h l r=>cases n<;>simp[av] at p1
 |non=>
  cases rv
  cases r2 with
  |scr h' =>cases n<;>simp[av] at p2
  |dK f h' l r=>cases n<;>simp[av] at p2
  |dT f h' l r=>cases n<;>simp[av] at p2
  |non=>cases ru;exact⟨.none_none,.none_none⟩
  |bl b=>cases ru;exact⟨.none_bool b,.none_bool b⟩
  |int i=>obtain⟨t,rfl⟩:=ru;exact⟨.none_int i t,.none_int i t⟩
  |str z=>obtain⟨t,rfl⟩:=ru;exact⟨.none_str z t,.none_str z t⟩
  |tup h' l' r' =>cases ru;obtain⟨its,ht⟩:=tupAt h';exact⟨.none_tuple ht hu0,.none_tuple ht hu0⟩
  |lst f' h' l' r' =>cases ru;obtain⟨its,ht⟩:=lstAt h';exact⟨.none_list ht hu0,.none_list ht hu0⟩
 |bl b=>
  cases rv
  cases r2 with
  |scr h' =>cases n<;>simp[av] at p2
  |dK f h' l r=>cases n<;>simp[av] at p2
  |dT f h' l r=>cases n<;>simp[av] at p2
  |non=>cases ru;exact⟨.bool_none b,.bool_none b⟩
  |bl b' =>cases ru;exact⟨.bool_bool b b',.bool_bool b b'⟩
  |int i=>obtain⟨t,rfl⟩:=ru;exact⟨.bool_int b i t,.bool_int b i t⟩
  |str z=>obtain⟨t,rfl⟩:=ru;exact⟨.bool_str b z t,.bool_str b z t⟩
  |tup h' l' r' =>cases ru;obtain⟨its,ht⟩:=tupAt h';exact⟨.bool_tuple b ht hu0,.bool_tuple b ht hu0⟩
  |lst f' h' l' r' =>cases ru;obtain⟨its,ht⟩:=lstAt h';exact⟨.bool_list b ht hu0,.bool_list b ht hu0⟩
 |int i=>
  obtain⟨t,rfl⟩:=rv
  cases r2 with
  |scr h' =>cases n<;>simp[av] at p2
  |dK f h' l r=>cases n<;>simp[av] at p2
  |dT f h' l r=>cases n<;>simp[av] at p2
  |non=>cases ru;exact⟨.int_none i t,.int_none i t⟩
  |bl b' =>cases ru;exact⟨.int_bool i t b',.int_bool i t b'⟩
  |int j=>obtain⟨t',rfl⟩:=ru;exact⟨.int_int i t j t',.int_int i t j t'⟩
  |str z=>obtain⟨t',rfl⟩:=ru;exact⟨.int_str i t z t',.int_str i t z t'⟩
  |tup h' l' r' =>cases ru;obtain⟨its,ht⟩:=tupAt h';exact⟨.int_tuple i t ht hu0,.int_tuple i t ht hu0⟩
  |lst f' h' l' r' =>cases ru;obtain⟨its,ht⟩:=lstAt h';exact⟨.int_list i t ht hu0,.int_list i t ht hu0⟩
 |str z=>
  obtain⟨t,rfl⟩:=rv
  cases r2 with
  |scr h' =>cases n<;>simp[av] at p2
  |dK f h' l r=>cases n<;>simp[av] at p2
  |dT f h' l r=>cases n<;>simp[av] at p2
  |non=>cases ru;exact⟨.str_none z t,.str_none z t⟩
  |bl b' =>cases ru;exact⟨.str_bool z t b',.str_bool z t b'⟩
  |int j=>obtain⟨t',rfl⟩:=ru;exact⟨.str_int z t j t',.str_int z t j t'⟩
  |str z' =>obtain⟨t',rfl⟩:=ru;exact⟨.str_str z t z' t',.str_str z t z' t'⟩
  |tup h' l' r' =>cases ru;obtain⟨its,ht⟩:=tupAt h';exact⟨.str_tuple z t ht hu0,.str_tuple z t ht hu0⟩
  |lst f' h' l' r' =>cases ru;obtain⟨its,ht⟩:=lstAt h';exact⟨.str_list z t ht hu0,.str_list z t ht hu0⟩
 | @tup a vs1 ds1 h l r=>
  cases n with
  |zero=>simp[av] at p1
  |succ n=>
   cases rv
   obtain⟨its,rvs,ht,_⟩:=I.tuple (SqT.of h)
   cases r2 with
   |scr h' =>simp[av] at p2
   |dK f h' l r=>simp[av] at p2
   |dT f h' l r=>simp[av] at p2
   |non=>cases ru;exact⟨.tuple_none ht hu0,.tuple_none ht hu0⟩
   |bl b=>cases ru;exact⟨.tuple_bool b ht hu0,.tuple_bool b ht hu0⟩
   |int i=>obtain⟨t,rfl⟩:=ru;exact⟨.tuple_int i t ht hu0,.tuple_int i t ht hu0⟩
   |str z=>obtain⟨t,rfl⟩:=ru;exact⟨.tuple_str z t ht hu0,.tuple_str z t ht hu0⟩
   |lst f' h' l' r' =>cases ru;obtain⟨its2,ht2⟩:=lstAt h';exact⟨.tuple_list ht ht2 hu0,.tuple_list ht ht2 hu0⟩
   | @tup b vs2 ds2 h' l' r' =>
    cases ru
    obtain⟨its2,rvs2,ht2,_⟩:=I.tuple (SqT.of h')
    have hs1:its.toArray.size=ds1.length:=by rw[Gam,←rvs.length,l]
    have hs2:its2.toArray.size=ds2.length:=by rw[Gam,←rvs2.length,l']
    have items:∀j (h1:j<its.toArray.size) (h2:j<its2.toArray.size),SeqAt.EqAt A.in1 s its.toArray[j] its2.toArray[j] ((λj=>eqD (ds1.getD j .non) (ds2.getD j .non)) j):=λj h1 h2=>by
     obtain⟨d1,v1,q1,q2,q3,q4⟩:=item_at l r rvs h1
     obtain⟨d2,v2,w1,w2,w3,w4⟩:=item_at l' r' rvs2 h2
     dsimp only
     rw[q2,w2]
     exact rC I n (plain_all (by simpa[av] using p1) q1) (plain_all (by simpa[av] using p2) w1) q3 w3 q4 w4 (in1_units hu)
    have k1:=SeqAt.RcAt.tuples ht ht2 hu0 items
    have k2:=SeqAt.RcNeAt.tuples ht ht2 hu0 items
    have e:((List.range (min its.toArray.size its2.toArray.size)).all (λj=>eqD (ds1.getD j .non) (ds2.getD j .non))&&its.toArray.size==its2.toArray.size)=lF ds1 ds2:=by
     rw[hs1,hs2]
     by_cases hl:ds1.length=ds2.length
     ·rw[←hl,Gdz,j9 hl];simp
     ·rw[lL hl]
      have:(ds1.length==ds2.length)=false:=by simpa using hl
      rw[this,Gdr]
    rw[e] at k1 k2
    exact⟨k1,k2⟩
 | @lst a vs1 ds1 f h l r=>
  cases n with
  |zero=>simp[av] at p1
  |succ n=>
   cases rv
   obtain⟨its,rvs,pl,_⟩:=I.list (.inl h)
   have ht:=pl.isList
   cases r2 with
   |scr h' =>simp[av] at p2
   |dK f h' l r=>simp[av] at p2
   |dT f h' l r=>simp[av] at p2
   |non=>cases ru;exact⟨.list_none ht hu0,.list_none ht hu0⟩
   |bl b=>cases ru;exact⟨.list_bool b ht hu0,.list_bool b ht hu0⟩
   |int i=>obtain⟨t,rfl⟩:=ru;exact⟨.list_int i t ht hu0,.list_int i t ht hu0⟩
   |str z=>obtain⟨t,rfl⟩:=ru;exact⟨.list_str z t ht hu0,.list_str z t ht hu0⟩
   |tup h' l' r' =>cases ru;obtain⟨its2,ht2⟩:=tupAt h';exact⟨.list_tuple ht ht2 hu0,.list_tuple ht ht2 hu0⟩
   | @lst b vs2 ds2 f' h' l' r' =>
    cases ru
    obtain⟨its2,rvs2,pl2,_⟩:=I.list (.inl h')
    have ht2:=pl2.isList
    have hs1:its.toArray.size=ds1.length:=by rw[Gam,←rvs.length,l]
    have hs2:its2.toArray.size=ds2.length:=by rw[Gam,←rvs2.length,l']
    have items:∀j (h1:j<its.toArray.size) (h2:j<its2.toArray.size),SeqAt.EqAt A.in1 s its.toArray[j] its2.toArray[j] ((λj=>eqD (ds1.getD j .non) (ds2.getD j .non)) j):=λj h1 h2=>by
     obtain⟨d1,v1,q1,q2,q3,q4⟩:=item_at l r rvs h1
     obtain⟨d2,v2,w1,w2,w3,w4⟩:=item_at l' r' rvs2 h2
     dsimp only
     rw[q2,w2]
     exact rC I n (plain_all (by simpa[av] using p1) q1) (plain_all (by simpa[av] using p2) w1) q3 w3 q4 w4 (in1_units hu)
    show SeqAt.RcAt A s (.ref a) (.ref b) (lF ds1 ds2)∧SeqAt.RcNeAt A s (.ref a) (.ref b) (!lF ds1 ds2)
    by_cases hl:ds1.length=ds2.length
    ·have k1:=SeqAt.RcAt.lists ht ht2 (by rw[hs1,hs2,hl]) hu0 items
     have k2:=SeqAt.RcNeAt.lists ht ht2 (by rw[hs1,hs2,hl]) hu0 items
     rw[hs1,j9 hl] at k1 k2
     exact⟨k1,k2⟩
    ·rw[lL hl]
     exact⟨SeqAt.RcAt.lists_lengths ht ht2 (by rw[hs1,hs2];simpa using hl) hu0,SeqAt.RcNeAt.lists_lengths ht ht2 (by rw[hs1,hs2];simpa using hl) hu0⟩
end
section
variable{X:Cx}
noncomputable def Hj(K:aD)(neg:Bool):R2:=λx y H Q=>∃F dx dy,Inn K F H dx x∧Inn K F H dy y∧dx.plain=true∧dy.plain=true∧Q (.bl (if neg then !eqD dx dy else eqD dx dy)) H
theorem cf(hu:X.A.units+20<cLine):OpR X (compareOp .Eq) (Hj X.K false):=by
 intro pins s σ H x y v u Q I rx ry h
 obtain⟨F,dx,dy,i1,i2,p1,p2,q⟩:=h
 exact(wm I (n:=20) p1 p2 i1.any i2.any rx ry hu).1 X.prog X.w _ _ ⟨.bl (eqD dx dy),H,I,rfl,q⟩
theorem AN(hu:X.A.units+20<cLine):OpR X (compareOp .NotEq) (Hj X.K true):=by
 intro pins s σ H x y v u Q I rx ry h
 obtain⟨F,dx,dy,i1,i2,p1,p2,q⟩:=h
 exact(wm I (n:=20) p1 p2 i1.any i2.any rx ry hu).2 X.prog X.w _ _ ⟨.bl (!eqD dx dy),H,I,rfl,q⟩
theorem cg:OpB X eqB (Hj X.K false):=by
 intro F H dx dy x y b Q ix iy e q
 unfold eqB at e
 split at e
 ·rename_i z
  rw[Gas] at z
  cases e
  exact⟨F,dx,dy,ix,iy,z.1,z.2,q⟩
 ·cases e
theorem AO:OpB X neB (Hj X.K true):=by
 intro F H dx dy x y b Q ix iy e q
 unfold neB at e
 split at e
 ·rename_i z
  rw[Gas] at z
  cases e
  exact⟨F,dx,dy,ix,iy,z.1,z.2,q⟩
 ·cases e
theorem bX{A:Around}{k:Nat}(hr:gU k A):A.units+20<cLine:=GcN (Nat.add_le_add_left (by decide:20≤64) _) hr.units
theorem fU:bootBuiltins "len"=some (.builtin "len"):=by decide+kernel
theorem EF:bootBuiltins "min"=some (.builtin "min"):=by decide+kernel
theorem EG:bootBuiltins "max"=some (.builtin "max"):=by decide+kernel
theorem JT:bootBuiltins "any"=some (.builtin "any"):=by decide+kernel
theorem iU:bootBuiltins "sorted"=some (.builtin "sorted"):=by decide+kernel
theorem JU:bootBuiltins "int"=some (.type "int"):=by decide+kernel
theorem Hk:bootBuiltins "bool"=some (.type "bool"):=by decide+kernel
theorem JV:bootBuiltins "str"=some (.type "str"):=by decide+kernel
theorem gM:bootBuiltins "tuple"=some (.type "tuple"):=by decide+kernel
theorem Hl:bootBuiltins "list"=some (.type "list"):=by decide+kernel
theorem uU:bootBuiltins "enumerate"=some (.type "enumerate"):=by decide+kernel
theorem Hm{K:aD}:ud K "int":=by
 intro t ht
 simp only[Gay,Gcf,or_false] at ht
 rcases ht with rfl|rfl|rfl|rfl|rfl|rfl|rfl<;>rfl
theorem Hn{K:aD}:ud K "str":=by
 intro t ht
 simp only[Gay,Gcf,or_false] at ht
 rcases ht with rfl|rfl|rfl|rfl|rfl|rfl|rfl<;>rfl
theorem kit_tuple{K:aD}:ud K "tuple":=by
 intro t ht
 simp only[Gay,Gcf,or_false] at ht
 rcases ht with rfl|rfl|rfl|rfl|rfl|rfl|rfl<;>rfl
theorem EH{K:aD}:ud K "list":=by
 intro t ht
 simp only[Gay,Gcf,or_false] at ht
 rcases ht with rfl|rfl|rfl|rfl|rfl|rfl|rfl<;>rfl
theorem EI{K:aD}:ud K "bool":=by
 intro t ht
 simp only[Gay,Gcf,or_false] at ht
 rcases ht with rfl|rfl|rfl|rfl|rfl|rfl|rfl<;>rfl
end
open PySem PySem.Spec PyProof.Rows L2
section
variable{X:Cx}{sts:List Stmt}{f:DS}
theorem a8(i:Nat)(x:Str)(k:(∀pos,PEd X (.Name x pos) (vE i))→lq X sts f)(hN:X.N[i]? =some x:=by rfl)(hv:Vis X.env.scope x:=by first|exact Or.inl rfl|exact Or.inr (Or.inl rfl)|exact Or.inr (Or.inr rfl))(hd:(x==("__debug__":Str))=false:=by decide)
  (hcd:(x==("__classdict__":Str))=false:=by decide):lq X sts f:=k λ_=>cK i hN hv hd hcd
theorem ah(i:Nat)(x:Str)(k:Loc X.env.scope x→lq X sts f)(hx:Loc X.env.scope x:=by first|exact Or.inl rfl|exact Or.inr rfl):lq X sts f:=k hx
theorem dF(i:Nat)(x:Str)(k:Vis X.env.scope x→lq X sts f)(hv:Vis X.env.scope x:=by first|exact Or.inl rfl|exact Or.inr (Or.inl rfl)|exact Or.inr (Or.inr rfl)):lq X sts f:=k hv
theorem aC(x:Str)(k:Gl X x→lq X sts f)(hg:Gl X x:=by rfl):lq X sts f:=k hg
end
open PySem PySem.Spec PyProof.Rows L2
theorem nJ{env:PySem.Env}:∀(names:List (Str×NameKind)),(∀y∈names,y.2= .free→∃c,env.cells.lookup y.1=some c)→∀(cs:List (Str×Addr)),(∀n c,cs.lookup n=some c→env.cells.lookup n=some c)→
  ∃cl:List (Str×Addr),(forIn names cs λx r=>(do
    if(x.2==NameKind.free)=true then pure (ForInStep.yield ((x.1,←cellOf env x.1)::r)) else pure (ForInStep.yield r):Sem (ForInStep (List (Str×Addr)))))=pure cl∧
   (∀n c,cl.lookup n=some c→env.cells.lookup n=some c)∧(∀y∈names,y.2= .free→∃c,cl.lookup y.1=some c)∧∀n c,cs.lookup n=some c→∃c',cl.lookup n=some c'
 |[],_,cs,h=>by
  refine⟨cs,rfl,h, ?_,λn c e=> ⟨c,e⟩⟩
  intro y hy;cases hy
 |(x,k)::names,hf,cs,h=>by
  by_cases hk:k= .free
  ·subst hk
   obtain⟨c,hc⟩:=hf (x,.free) Gan rfl
   have hcell:cellOf env x=pure c:=by unfold cellOf;rw[hc]<;>rfl
   obtain⟨cl,h1,h2,h3,h4⟩:=nJ names (λy hy=>hf y (Gag _ hy)) ((x,c)::cs) (λn c' e=>by
    by_cases z:n=x
    ·subst z;simp[Gbb] at e;subst e;exact hc
    ·have z' :(n==x)=false:=by simpa using z
     simp[Gbb,z'] at e;exact h n c' e)
   refine⟨cl, ?_,h2,λy hy hyf=> ?_,λn c' e=> ?_⟩
   ·rw[List.forIn_cons]
    simp only[hcell]
    exact h1
   ·rcases Gay.mp hy with rfl|hy
    ·exact h4 x c (by simp[Gbb])
    ·exact h3 y hy hyf
   ·by_cases z:n=x
    ·subst z;exact h4 n c (by simp[Gbb])
    ·have z' :(n==x)=false:=by simpa using z
     exact h4 n c' (by simp[Gbb,z',e])
  ·have hk' :(k==NameKind.free)=false:=by simpa using hk
   obtain⟨cl,h1,h2,h3,h4⟩:=nJ names (λy hy=>hf y (Gag _ hy)) cs h
   refine⟨cl, ?_,h2,λy hy hyf=> ?_,h4⟩
   ·rw[List.forIn_cons]
    simp only[hk']
    exact h1
   ·rcases Gay.mp hy with rfl|hy
    ·exact absurd hyf hk
    ·exact h3 y hy hyf
theorem jM{env:PySem.Env}{scope:Scope}(hf:∀y∈scope.names,y.2= .free→∃c,env.cells.lookup y.1=some c):
  ∃cl:List (Str×Addr),closureFor scope env=pure cl∧(∀n c,cl.lookup n=some c→env.cells.lookup n=some c)∧∀y∈scope.names,y.2= .free→∃c,cl.lookup y.1=some c:=by
 obtain⟨cl,h1,h2,h3,_⟩:=nJ scope.names hf [] (λn c e=>by simp at e)
 refine⟨cl, ?_,h2,h3⟩
 unfold closureFor
 exact(congrArg (λm=>m>>=pure) h1).trans (by rfl)
theorem mem_of_lookup{x:Str}{k:NameKind}:∀{l:List (Str×NameKind)},l.lookup x=some k→(x,k)∈l
 |[],h=>by simp at h
 |(n,k')::r,h=>by
  rw[Gbb] at h
  cases hx:x==n with
  |true=>rw[hx] at h;cases h;rw[GcE] at hx;subst hx;exact Gan
  |false=>rw[hx] at h;exact Gag _ (mem_of_lookup h)
theorem nK{env:PySem.Env}{x:Str}:∀{names:List (Str×NameKind)},(∀y∈names,y.2≠ .cell)→((names.map λ(n,k)=>if(k==NameKind.free&&env.scope.kind== .function&&env.kindOf n==some .cell) then(n,NameKind.cell) else(n,k)).lookup x=some .cell∨
   (names.map λ(n,k)=>if(k==NameKind.free&&env.scope.kind== .function&&env.kindOf n==some .cell) then(n,NameKind.cell) else(n,k)).lookup x=some .free)→(x,NameKind.free)∈names
 |[],_,h=>by simp at h
 |(n,k)::r,hc,h=>by
  have hk:k≠ .cell:=hc (n,k) Gan
  rw[Gau] at h
  dsimp only at h
  split at h
  ·rename_i q
   have q1:k= .free:=by
    rw[Gas,Gas] at q
    simpa using q.1.1
   subst q1
   rw[Gbb] at h
   cases hx:x==n with
   |true=>rw[GcE] at hx;subst hx;exact Gan
   |false=>rw[hx] at h;exact Gag _ (nK (λy hy=>hc y (Gag _ hy)) h)
  ·rw[Gbb] at h
   cases hx:x==n with
   |true=>
    rw[hx] at h
    rw[GcE] at hx;subst hx
    rcases h with h|h
    ·cases h;exact absurd rfl hk
    ·cases h;exact Gan
   |false=>rw[hx] at h;exact Gag _ (nK (λy hy=>hc y (Gag _ hy)) h)
theorem ip{env:PySem.Env}{x:Str}:∀{names:List (Str×NameKind)},names.lookup x=some .free→((names.map λ(n,k)=>if(k==NameKind.free&&env.scope.kind== .function&&env.kindOf n==some .cell) then(n,NameKind.cell) else(n,k)).lookup x=some .cell∨
   (names.map λ(n,k)=>if(k==NameKind.free&&env.scope.kind== .function&&env.kindOf n==some .cell) then(n,NameKind.cell) else(n,k)).lookup x=some .free)
 |[],h=>by simp at h
 |(n,k)::r,h=>by
  rw[Gbb] at h
  rw[Gau]
  dsimp only
  cases hx:x==n with
  |true=>
   rw[hx] at h;cases h
   split
   ·left;rw[Gbb,hx]
   ·right;rw[Gbb,hx]
  |false=>
   rw[hx] at h
   split
   ·rw[Gbb,hx];exact ip h
   ·rw[Gbb,hx];exact ip h
noncomputable def blk(X:Cx)(scope:Scope)(cl:List (Str×Addr))(C:Addr)(N:List Str)(s:Shared)(H:Hp)(ex:List Addr):Cx:=
 {X with N:=N,s₀:=s,H₀:=H,env:=compEnvC scope cl C X.env,outer:=X.stack,ex:=ex,fn:=λ_=>false,pn:=[],xe:=λ_ _=>False}
noncomputable def My:Option NameKind→Bool
 |some .cell=>true
 |some .free=>true
 |_=>false
structure jN(X:Cx)(scope:Scope)(N:List Str)(n:Nat)(aO:List Nat):Prop where
 cell:(scope.names.all λy=>y.2 != .cell)=true
 kind:scope.kind= .function
 names:(scope.names.all λy=>y.2 != .local||scope.names.lookup y.1==some .local)=true
 free:(scope.names.all λy=>y.2 != .free||My (X.env.kindOf y.1))=true
 cap:N.drop n=aO.map λi=>(X.N[i]?).getD ("":Str)
 le:n≤N.length
 lt:(aO.all λi=>decide (i<X.N.length))=true
 fr:((N.drop n).all λx=>scope.names.lookup x==some .free)=true
def qO(X:Cx)(ifs:List Expr)(tt:TT):Prop:=∀(pins:List (Addr×Obj)) (s:Shared) (σ:St) (H:Hp) (Q:Bool→Hp→Prop),Inv X pins σ H s→tt σ H Q→
 wpAny (model X.prog X.w) X.A (forIn ifs true λc r=>if r=true then do let ok←isTrue c X.env (eval c X.env);pure (ForInStep.yield ok) else pure (ForInStep.yield r)) (TP X pins σ Q) X.xe s
theorem iV{X:Cx}:qO X [] (tT X j0):=λpins s σ H Q I ⟨_,_,_,_,_,e,k⟩=>by
 cases e
 exact wpAny_tests_nil ⟨H,I,k H bU⟩
theorem pw{X:Cx}{c:Expr}{t:DT}(h:PTd X c t):qO X [c] (tT X t):=λpins s σ H Q I q=>wpAny_tests_one (h pins s σ H Q I q)
theorem qP{aO:List Nat}{n j:Nat}{α:Type}{f:Nat→Option α}{y:α}(h:(List.replicate n (none:Option α)++aO.map f)[j]? =some (some y)):∃i,aO[j -n]? =some i∧n≤j∧f i=some y:=by
 by_cases hj:j<n
 ·rw[GaR (by simpa using hj),Gch] at h
  rw[Gaf hj] at h;cases h
 ·rw[GaJ (by simp;omega),Gdh,Gal] at h
  cases q:aO[j -n]? with
  |none=>rw[q] at h;cases h
  |some i=>rw[q] at h;simp only[Gcp,Gcx] at h;exact⟨i,rfl,by omega,h⟩
theorem EJ{aO:List Nat}{n j i:Nat}{α:Type}{f:Nat→Option α}(h1:aO[j -n]? =some i)(h2:n≤j):(List.replicate n (none:Option α)++aO.map f)[j]? =some (f i):=by
 rw[GaJ (by simp;omega),Gdh,Gal,h1];rfl
noncomputable def lM(n:Nat)(aO:List Nat)(σ:St):St:=List.replicate n none++aO.map λi=>σ[i]?.getD none
def mU(Bad:Addr→Prop)(env:Env)(σ:St)(p:Addr):Addr→Prop:=λa=>a=p∨¬Cln Bad env σ a
theorem getD_some{α:Type}{o:Option (Option α)}{y:α}(h:o.getD none=some y):o=some (some y):=by
 cases o with
 |none=>cases h
 |some z=>simp only[Option.getD_some] at h;rw[h]
theorem wq{aO:List Nat}{n j:Nat}{env:Env}{sl:Slot}(e:(compEnv n aO env)[j]? =some (some sl)):∃i,aO[j -n]? =some i∧n≤j∧fE (env[i]?.getD none)=some sl:=qP e
theorem BN{aO:List Nat}{n j:Nat}{env:Env}{σ:St}{a:Addr}(t:bx (compEnv n aO env)[j]?)(e:(lM n aO σ)[j]? =some (some (.ref a))):∃i:Nat,bx env[i]? ∧σ[i]? =some (some (.ref a)):=by
 cases q:(compEnv n aO env)[j]? with
 |none=>rw[q] at t;exact t.elim
 |some z=>
  cases z with
  |none=>rw[q] at t;exact t.elim
  |some sl=>
   obtain⟨i,e1,e2,e3⟩:=wq q
   obtain⟨i',e1',_,e3'⟩:=qP e
   rw[e1] at e1';cases e1'
   refine⟨i, ?_,getD_some e3'⟩
   rw[q] at t
   cases r:env[i]? with
   |none=>rw[r] at e3;cases e3
   |some z=>cases z with
    |none=>rw[r] at e3;cases e3
    |some z=>
     rw[r] at e3
     cases z with
     |sh d=>cases e3;exact t.elim
     |own d=>trivial
     |lok d=>trivial
     |bor d=>trivial
theorem Ho{aO:List Nat}{n j:Nat}{env:Env}:¬isO (compEnv n aO env)[j]? :=λt=>by
 match q:(compEnv n aO env)[j]?,t with
 |some (some (.own d)),_=>
  obtain⟨i,_,_,e3⟩:=wq q
  cases q:env[i]?.getD none with
  |none=>rw[q] at e3;cases e3
  |some z=>rw[q] at e3;cases z<;>cases e3
theorem aI.block{K:aD}{H₀:Hp}{Bad:Addr→Prop}{env:Env}{σ:St}{H:Hp}(E:aI K H₀ Bad env σ H)(n:Nat)(aO:List Nat){p:Addr}(hp:H p=none):
  aI K H (mU Bad env σ p) (compEnv n aO env) (lM n aO σ) (upd H p (.lst [])):=by
 have sm:cj H (upd H p (.lst [])):=bL hp
 have slot:∀(j:Nat) (sl:Slot),(compEnv n aO env)[j]? =some (some sl)→∃i,aO[j -n]? =some i∧n≤j∧fE (env[i]?.getD none)=some sl:=λj sl e=>qP e
 have noO:∀(j:Nat) d,(compEnv n aO env)[j]? ≠some (some (.own d))∧(compEnv n aO env)[j]? ≠some (some (.lok d)):=λj d=>by
  constructor<;>
  ·intro e
   obtain⟨i,_,_,e3⟩:=slot j _ e
   cases q:env[i]?.getD none with
   |none=>rw[q] at e3;cases e3
   |some z=>rw[q] at e3;cases z<;>cases e3
 have topAd:∀(j:Nat) a,bx (compEnv n aO env)[j]? →(lM n aO σ)[j]? =some (some (.ref a))→∃i:Nat,bx env[i]? ∧σ[i]? =some (some (.ref a)):=λj a t e=>BN t e
 have cln:∀b,Cln Bad env σ b→H b≠none→Cln (mU Bad env σ p) (compEnv n aO env) (lM n aO σ) b:=λb h hb=>by
  refine⟨λz=> ?_,λj t e=> ?_⟩
  ·rcases z with z|z
   ·subst z;exact hb hp
   ·exact z h
  ·obtain⟨i,t',e'⟩:=topAd j b t e
   exact h.2 i t' e'
 refine⟨sm, ?_, ?_, ?_, ?_, ?_, ?_⟩
 ·simp[compEnv,lM]
 ·intro a ha
  rcases ha with ha|ha
  ·subst ha;rw[aN];simp
  ·intro z
   refine ha ⟨λb=>E.bad a b (sm.free z),λi t e=>E.nW t e (sm.free z)⟩
 ·intro j d e
  obtain⟨i,e1,e2,e3⟩:=slot j _ e
  have q:env[i]? =some (some (.sh d)):=by
   cases r:env[i]? with
   |none=>rw[r] at e3;cases e3
   |some z=>cases z with
    |none=>rw[r] at e3;cases e3
    |some z=>rw[r] at e3;cases z<;>cases e3;rfl
  obtain⟨v,h1,h2⟩:=E.sh i d q
  refine⟨v, ?_,h2.gen (.of_same sm) cln⟩
  unfold lM
  rw[EJ e1 e2,h1];rfl
 ·intro j d e
  rcases e with e|e
  ·exact absurd e (noO j d).1
  ·exact absurd e (noO j d).2
 ·intro j d e
  obtain⟨i,e1,e2,e3⟩:=slot j _ e
  have q:bx env[i]? ∧(env[i]? =some (some (.own d))∨env[i]? =some (some (.lok d))∨env[i]? =some (some (.bor d))):=by
   cases r:env[i]? with
   |none=>rw[r] at e3;cases e3
   |some z=>cases z with
    |none=>rw[r] at e3;cases e3
    |some z=>
     rw[r] at e3
     cases z with
     |sh d=>cases e3
     |own d=>cases e3;exact⟨trivial,.inl rfl⟩
     |lok d=>cases e3;exact⟨trivial,.inr (.inl rfl)⟩
     |bor d=>cases e3;exact⟨trivial,.inr (.inr rfl)⟩
  have fact:∃a,σ[i]? =some (some (.ref a))∧Wr H a∧d.top=true∧Inn K (Cln Bad env σ) H d (.ref a):=by
   rcases q.2 with q|q|q
   ·obtain⟨a,h1,_,_,h4,h5,h6⟩:=E.ow i d (.inl q);exact⟨a,h1,h4,h5,h6⟩
   ·obtain⟨a,h1,_,_,h4,h5,h6⟩:=E.ow i d (.inr q);exact⟨a,h1,h4,h5,h6⟩
   ·exact E.bo i d q
  obtain⟨a,h1,h4,h5,h6⟩:=fact
  refine⟨a, ?_,h4.same sm,h5,h6.gen (.of_same sm) cln λ_ _ _ o e=>sm _ o e⟩
  unfold lM
  rw[EJ e1 e2,h1];rfl
 ·intro j k a t
  exfalso
  cases q:(compEnv n aO env)[j]? with
  |none=>rw[q] at t;exact t
  |some z=>cases z with
   |none=>rw[q] at t;exact t
   |some z=>cases z with
    |sh d=>rw[q] at t;exact t
    |own d=>exact(noO j d).1 q
    |lok d=>exact(noO j d).2 q
    |bor d=>rw[q] at t;exact t
theorem aI.grow{K:aD}{H₀:Hp}{Bad:Addr→Prop}{env:Env}{σ:St}{H:Hp}{p:Addr}{vs us:List V}(E:aI K H₀ Bad env σ H)(hb:Bad p)(h0:H₀ p=none)(hp:H p=some (.lst vs))(hl:∀i:Nat,uR env[i]? →σ[i]? ≠some (some (.ref p))):aI K H₀ Bad env σ (upd H p (.lst us)):=by
 have dN:j4 (Cln Bad env σ) H (upd H p (.lst us)):=λb o e q=>by
  refine(az ?_).trans e
  rintro rfl
  rcases q with q|q
  ·exact q.1 hb
  ·rw[hp] at e;cases e;exact q
 have wr:∀{a},Wr H a→Wr (upd H p (.lst us)) a:=λ{a} ⟨o,h1,h2⟩=>by
  by_cases z:a=p
  ·subst z;exact⟨_,aN,trivial⟩
  ·exact⟨o,(az z).trans h1,h2⟩
 refine⟨λb o e=>(az λz=>by subst z;rw[h0] at e;cases e).trans (E.same b o e),E.len,λa ha=> ?_,λi d e=> ?_,λi d e=> ?_,λi d e=> ?_,E.dj⟩
 ·by_cases z:a=p
  ·subst z;rw[aN];simp
  ·rw[az z];exact E.bad a ha
 ·obtain⟨v,h1,h2⟩:=E.sh i d e
  exact⟨v,h1,h2.gen dN λ_ f _=>f⟩
 ·obtain⟨a,h1,h2,h3,h4,h5,h6⟩:=E.ow i d e
  refine⟨a,h1,h2,h3,wr h4,h5,h6.gen dN (λ_ f _=>f) λb eb _ o q=> ?_⟩
  cases eb
  exact(az (λz:a=p=>h3 (by rw[z];exact hb))).trans q
 ·obtain⟨a,h1,h4,h5,h6⟩:=E.bo i d e
  refine⟨a,h1,wr h4,h5,h6.gen dN (λ_ f _=>f) λb eb _ o q=> ?_⟩
  cases eb
  exact(az (λz:a=p=>hl i (by rw[e];trivial) (by rw[←z];exact h1))).trans q
open PySem PySem.Spec PyProof.Rows L2
theorem ex7{a b c d e f g:Type}{P:a→b→c→d→e→f→g→Prop}{G:Prop}(h:∀x1 x2 x3 x4 x5 x6 x7,P x1 x2 x3 x4 x5 x6 x7→G):(∃x1 x2 x3 x4 x5 x6 x7,P x1 x2 x3 x4 x5 x6 x7)→G:=λ⟨x1,x2,x3,x4,x5,x6,x7,q⟩=>h x1 x2 x3 x4 x5 x6 x7 q
structure CoI(X:Cx)(scope:Scope)(cl:List (Str×Addr))(C:Addr)(N:List Str)(s:Shared)(H:Hp)(fp:List Addr)(tn:Nat→Heap→Prop)(Bad:Addr→Prop)(env:Env)(σ:St)(p:Addr)(gd:DG)(t:DT)(f:DE)(ds rs:List D)(m:Nat)(s' :Shared)(i:Nat)(σi:St)(Hi:Hp)(envi:Env)(vs:List V)(done rest:List D):Prop where
 em:m=ds.length -i
 hi:i≤ds.length
 Ii:Inv (blk X scope cl C N s H fp) [] σi Hi s'
 sti:tn i s'.heap
 fri:∀b∈fp,Hi b=none
 Ei:aI X.K H (mU Bad env σ p) envi σi Hi
 hpi:Hi p=some (.lst vs)
 ri:aY X.K (λb=>Cln Bad env σ b∧b≠p) Hi done vs
 owi:∀j:Nat,¬isO envi[j]?
 lbi:∀(j:Nat) a,uR envi[j]? →σi[j]? =some (some (.ref a))→¬Cln Bad env σ a
 dl:done.length≤i
 ci:cy gd t f (ds.drop i) envi=some rest
 eqi:done++rest=rs
section
variable{X:Cx}{pos:Pos}
theorem ja{env:PySem.Env}{scope:Scope}{x:Str}(h:scope.names.lookup x=some .local):(relabel scope env).names.lookup x=some .local:=lookup_relabel_local h
theorem bz{scope:Scope}{cl:List (Str×Addr)}{C:Addr}{N:List Str}{s:Shared}{H:Hp}{ex:List Addr}{x:Str}(h:scope.names.lookup x=some .local):Vis (blk X scope cl C N s H ex).env.scope x:= .inl (ja h)
theorem cM{scope:Scope}{cl:List (Str×Addr)}{C:Addr}{N:List Str}{s:Shared}{H:Hp}{ex:List Addr}{x:Str}(h:scope.names.lookup x=some .local):Loc (blk X scope cl C N s H ex).env.scope x:= .inl (ja h)
theorem rD{scope:Scope}{cl:List (Str×Addr)}{C:Addr}{N:List Str}{s:Shared}{H:Hp}{ex:List Addr}{x:Str}(h:scope.names.lookup x=some .free):Vis (blk X scope cl C N s H ex).env.scope x:= .inr (ip h)
theorem CV{scope:Scope}{cl:List (Str×Addr)}{N:List Str}{n:Nat}{aO:List Nat}{pins:List (Addr×Obj)}{σ:St}{H:Hp}{s:Shared}{fp:List Addr}{h₁:Heap}{tk:Nat}{C:Addr}(S:jN X scope N n aO)(I:Inv X pins σ H s)
  (hcl:∀x c,cl.lookup x=some c→X.env.cells.lookup x=some c)(hfr:∀y∈scope.names,y.2= .free→∃c,cl.lookup y.1=some c)(hf:∀b∈fp,nD X pins H b)(hfo:∀b∈fp,b<s.heap.objs.size)
  (hC:s.heap.objs.size+1=C)(hns:h₁.Ns C λ_=>none)(old:∀b o,s.heap.get? b=some o→h₁.get? b=some o)(hacc:h₁.get? s.heap.objs.size=some {cls:= .type "list",data:= .seq ([]:List Value).toArray}):
  Inv (blk X scope cl C N s H fp) [] (lM n aO σ) (upd H s.heap.objs.size (.lst [])) {s with heap:=h₁,toks:=tk}:=by
 have hpn:=I.fresh
 have hCn:H C=none:=I.hok.fresh (by omega)
 have hne:C≠s.heap.objs.size:=λz=>by rw[z] at hC;exact Nat.succ_ne_self _ hC
 have hcell:∀y∈scope.names,y.2≠ .cell:=λy hy z=>by
  have:=Gat.mp S.cell y hy
  rw[z] at this;simp at this
 have cells:∀x c,cl.lookup x=some c→∃v,s.heap.IsCell c v:=λx c e=>I.cell x c (hcl x c e)
 have cNe:∀x c,cl.lookup x=some c→c≠s.heap.objs.size:=λx c e z=>by
  obtain⟨v,q⟩:=cells x c e
  exact absurd q.lt (by rw[z];exact Gby _)
 refine⟨⟨I.ok.mod,S.kind,I.ok.glob,I.ok.blt,by show s.heap.objs.size≤C;omega,λx y c e1 e2=>I.ok.inj x y c (hcl x c e1) (hcl y c e2),λx hx=> ?_,λx c e=>(by cases e),I.ok.hd,I.ok.frames,.inl rfl,λb hb=> ⟨?_,λx c e=>(hf b hb).2.2.2.2.1 x c (hcl x c e)⟩,
  I.bs,Gbp I.ok.bsz I.sz,λb o e hb=> ?_,λb hb hs=> ?_,I.stack,I.Bs⟩,rfl,I.bare,Un.laid old (Gap _) hpn,⟨_,hns,λj x v e1 e2 e3=> ?_⟩,λx c e=> ?_,(az hne).trans hCn,λx c e=>(az (cNe x c e)).trans (I.ko x c (hcl x c e)),λp hp=> ?_, ?_, ?_⟩
 ·obtain⟨c,hc⟩:=hfr (x,.free) (nK hcell hx) rfl
  exact⟨c,hc⟩
 ·intro z
  have:=hfo b hb
  have z' :b=C:=z
  rw[z',←hC] at this
  exact Gby _ (Nat.lt_of_succ_lt this)
 ·rcases(hf b hb).2.2.2.1 with z|z
  ·exact I.ok.Gj b o e z
  ·exact absurd (GaP (Gax e) (Gbp I.ok.bsz z)) (Gby _)
 ·have hs' :b∈frs X.stack:=hs
  rcases Gay.mp (I.As b hs') with z|z
  ·exact(hf b hb).2.1 z
  ·exact(hf b hb).2.2.1 z
 ·
  obtain⟨i,f1,f2,f3⟩:=qP e2
  have f3' :=getD_some f3
  have e1' :N[j]? =some x:=e1
  have hd:(N.drop n)[j -n]? =some x:=by rw[Gbg];rw[show n+(j -n)=j by omega];exact e1'
  have hxf:scope.names.lookup x=some .free:=by
   have:=Gat.mp S.fr x (GaF hd)
   simpa using this
  rw[S.cap,Gal,f1] at hd
  have hi:i<X.N.length:=GaB (Gat.mp S.lt i (GaF f1))
  have hXN:X.N[i]? =some x:=by
   simp only[Gcp,Gcx] at hd
   rw[Gaa hi] at hd⊢
   simpa using hd
  have hk:My (X.env.kindOf x)=true:=by
   have:=Gat.mp S.free (x,.free) (mem_of_lookup hxf)
   simpa using this
  have hk' :X.env.kindOf x=some .cell∨X.env.kindOf x=some .free:=by
   cases q:X.env.kindOf x with
   |none=>rw[q] at hk;cases hk
   |some z=>rw[q] at hk;cases z<;>first|(cases hk;done)|exact .inl rfl|exact .inr rfl
  obtain⟨m,hm,look⟩:=I.loc
  have hv:Vis X.env.scope x:= .inr hk'
  obtain⟨u,ru,l⟩:=look i x v hXN f3' hv
  refine⟨u,ru,.inr ⟨?_, ?_⟩⟩
  ·exact ip hxf
  ·rcases l with⟨l,_⟩| ⟨_,c,hc,o,ho,hdt⟩
   ·rcases hk' with z|z<;>rw[l] at z<;>cases z
   ·obtain⟨c',hc'⟩:=hfr (x,.free) (mem_of_lookup hxf) rfl
    have:=hcl x c' hc'
    rw[hc] at this;cases this
    exact⟨c,hc',o,old _ _ ho,hdt⟩
 ·obtain⟨v,o,ho,hdt⟩:=cells x c e
  exact⟨v,o,old _ _ ho,hdt⟩
 ·cases hp
 ·exact I.hok.laid old (Gap _) ⟨GbE _,[],0,.nil,hacc⟩
 ·show(lM n aO σ).length=N.length
  have:=congrArg List.length S.cap
  rw[GbP,Gae] at this
  have:=S.le
  simp[lM]
  omega
theorem Hq{scope:Scope}{cl:List (Str×Addr)}{N:List Str}{C:Addr}{pins pins' :List (Addr×Obj)}{σ σ' :St}{H H' :Hp}{s s' :Shared}{fp:List Addr}(I:Inv X pins σ H s)(hf:∀b∈fp,nD X pins H b)
  (I' :Inv (blk X scope cl C N s H fp) pins' σ' H' s'):Inv X pins σ H' s' :=
 I.IF I'.os I'.base I'.hok I'.bare λb hb=> ⟨(hf b hb).2.2.2.1,(hf b hb).2.1,(hf b hb).2.2.2.2.1,(hf b hb).2.2.2.2.2⟩
def Mz(K:aD)(H H' :Hp)(F:Addr→Prop)(p:Addr)(rs:List D):Prop:=cj H H' ∧H p=none∧∃vs,H' p=some (.lst vs)∧aY K (λb=>F b∧b≠p) H' rs vs
def rE(gd:DG):Prop:=∀d e e',gd d e=some e' →(∀j:Nat,¬isO e[j]?)→∀j:Nat,¬isO e'[j]?
theorem BO{e:Env}{i:Nat}{d:D}(h:∀j:Nat,¬isO e[j]?):∀j:Nat,¬isO (e.set i (some (.sh d)))[j]? :=λj z=>by
 by_cases q:i=j
 ·subst q
  by_cases hl:i<e.length
  ·rw[GaN hl] at z;exact z
  ·rw[Gbk (by simp;omega)] at z;exact z
 ·rw[Gab q] at z;exact h j z
theorem jX{i:Nat}:rE (gN i):=λd e e' h n=>by cases h;exact BO n
theorem ue:∀(is:List Nat) (ds:List D) (e e' :Env),gNs is ds e=some e' →(∀j:Nat,¬isO e[j]?)→∀j:Nat,¬isO e'[j]?
 |[],[],e,e',h,n=>by cases h;exact n
 |i::is,d::ds,e,e',h,n=>ue is ds _ e' h (BO n)
 |[],_::_,_,_,h,_=>by cases h
 |_::_,[],_,_,h,_=>by cases h
theorem rF{is:List Nat}:rE (gT is):=λd e e' h n=>by
 unfold gT at h
 split at h
 ·exact ue is _ e e' h n
 ·cases h
theorem pz{scope:Scope}{cl:List (Str×Addr)}{N:List Str}{n:Nat}{aO:List Nat}{pins:List (Addr×Obj)}{σ:St}{H H₀:Hp}{s:Shared}{fp:List Addr}{it:Addr}{tn:Nat→Heap→Prop}{J:It}{tg iter elt:Expr}{ifs:List Expr}{E:Value→Shared→Prop}
  {gd:DG}{t:DT}{f:DE}{ds rs:List D}{Bad:Addr→Prop}{env:Env}{RR:Value→Addr→Result→Shared→Prop}(hc:X.calm=true)(S:jN X scope N n aO)(I:Inv X pins σ H s)
  (hcl:∀x c,cl.lookup x=some c→X.env.cells.lookup x=some c)(hfr:∀y∈scope.names,y.2= .free→∃c,cl.lookup y.1=some c)(hf:∀b∈fp,nD X pins H b)(T:Turn X.prog X.w X.K tg J fp it tn)(st:tn 0 s.heap)
  (hg:∀C s' H',PGd (blk X scope cl C N s' H' fp) tg gd)(ht:∀C s' H',qO (blk X scope cl C N s' H' fp) ifs (tT X t))(he:∀C s' H',PEd (blk X scope cl C N s' H' fp) elt f)
  (EE:aI X.K H₀ Bad env σ H)(io:AM X.K (λb=>Cln Bad env σ b∧H b≠none) (λb=>¬Ow env σ b) J ds H)(hgo:rE gd)(hz:ds.length≤ai)(hl:cy gd t f ds (compEnv n aO env)=some rs)
  (hRR:∀p C s' H' m,Inv X pins σ H' s' →s'.heap.Ns C m→s.heap.objs.size≤C→nD X pins H' C→Mz X.K H H' (Cln Bad env σ) p rs→RR (.ref p) C (.ok .next) s'):
  wpAny (model X.prog X.w) X.A (newList []) (λacc s₃=>wpAny (model X.prog X.w) X.A (newFunctionEnv scope X.env.globals cl [] X.env.qual none .none (some X.env)) (λcenv s₄=>
   codeAny (model X.prog X.w) X.A (.compStart (.ListComp elt [⟨tg,iter,ifs,0⟩] scope pos) 0 (.ref it) acc {cenv with scope:=relabel scope X.env}) (RR acc cenv.locals) s₄) E s₃) E s:=by
 have hcell:∀y∈scope.names,y.2≠ .cell:=λy hy z=>by
  have:=Gat.mp S.cell y hy
  rw[z] at this;simp at this
 refine Gbc (wpAny_newFunctionEnv hcell (by intro y hy;simp at hy) (λh₁ hns₁ hsb₁=> ?_) S.kind)
 dsimp only at hns₁ hsb₁⊢
 generalize hH2:s.heap.push {cls:= .type "list",dict:=none,data:= .seq ([]:List Value).toArray}=H2 at hns₁ hsb₁⊢
 have hC:s.heap.objs.size+1=H2.objs.size:=by rw[←hH2,GcR]
 have hDC:s.heap.objs.size≠H2.objs.size:=by rw[←hC];exact GaO (Nat.lt_succ_self _)
 have hCle:s.heap.objs.size≤H2.objs.size:=by rw[←hC];exact Gdb _
 have old:∀b o,s.heap.get? b=some o→h₁.get? b=some o:=λb o e=>hsb₁.extBut b o (by rw[←hC];exact GaO (GcX (Gax e))) (Gaj _ (hH2▸Gaj _ e))
 have hacc:h₁.get? s.heap.objs.size=some {cls:= .type "list",data:= .seq ([]:List Value).toArray}:=hsb₁.extBut _ _ hDC (Gaj _ (hH2▸GaC _ rfl))
 have hfo:∀b∈fp,b<s.heap.objs.size:=λb hb=>by obtain⟨o,e,_⟩:=T.obj 0 _ st b hb;exact Gax e
 have st₁:tn 0 h₁:=T.keep 0 _ _ st λb _ o e=>old b o e
 have hpn:=I.fresh
 generalize hC' :H2.objs.size=C at*
 have I1:Inv (blk X scope cl C N s H fp) [] (lM n aO σ) (upd H s.heap.objs.size (.lst [])) {s with heap:=h₁,toks:=s.toks+([]:List (Str×Value)).length}:=CV S I hcl hfr hf hfo hC (by
  have z:(λx:Str=>([]:List (Str×Value)).reverse.lookup x)=λ_=>none:=by funext x;rfl
  rw[z] at hns₁;exact hns₁) old hacc
 have E1:=EE.block n aO hpn
 generalize hp:s.heap.objs.size=p at*
 have loop:codeAny (model X.prog X.w) X.A (.compLoop (.ListComp elt [⟨tg,iter,ifs,0⟩] scope pos) 0 (.ref it) (.ref p) (compEnvC scope cl C X.env)) (RR (.ref p) C) {s with heap:=h₁,toks:=s.toks+([]:List (Str×Value)).length}:=by
  refine codeAny_loop rfl (λm s' =>∃i σi Hi envi vs done rest,CoI X scope cl C N s H fp tn Bad env σ p gd t f ds rs m s' i σi Hi envi vs done rest) ?_ ds.length ?_
  ·refineλm s' =>ex7 λi σi Hi envi vs done rest J0=> ?_
   have e0:=J0.em
   subst e0
   have hi:=J0.hi
   have Ii:=J0.Ii
   have sti:=J0.sti
   have fri:=J0.fri
   have Ei:=J0.Ei
   have hpi:=J0.hpi
   have ri:=J0.ri
   have owi:=J0.owi
   have lbi:=J0.lbi
   have dl:=J0.dl
   have ci:=J0.ci
   have eqi:=J0.eqi
   have hfi:∀{H' :Hp},(∀b∈fp,H' b=none)→∀b∈fp,nD (blk X scope cl C N s H fp) [] H' b:=λhn b hb=>by
    refine⟨hn b hb,(Ii.ok.exf b hb).1,Ii.ok.Gk b hb,.inl hb,(Ii.ok.exf b hb).2,λq hq=>(by cases hq)⟩
   have keepAll:∀b o,H b=some o→Hi b=some o:=Ei.same
   obtain⟨items,stop⟩:=io Hi λb o hb _=>keepAll b o hb
   show wpAny _ X.A ((compTurn (.ListComp elt [⟨tg,iter,ifs,0⟩] scope pos) 0 (.ref it) (.ref p) (compEnvC scope cl C X.env)).onRaise (λx=>do noteFrame x (compEnvC scope cl C X.env);theTreesLotGoes x)) _ _ s'
   refine wpAny_noted ?_
   rw[compTurn_list]
   refine Gad (wpAny_standAt (Gad ?_))
   by_cases hlt:i<ds.length
   ·obtain⟨go,yld⟩:=items i ds[i] (by simp[hlt])
    refine thn (T.item (blk X scope cl C N s H fp) rfl rfl rfl hc i [] s' σi Hi _ Ii (hfi fri) sti go) λr s4 ⟨u,hr,h4⟩=> ?_
    subst hr
    refine Gad (thn h4 λ_ s5 ⟨x,H5,I5,r5,y5,st5,fr5⟩=> ?_)
    obtain⟨s2,rep⟩:=yld x H5 y5
    have I5' :=I5.pinned (hfi fr5) (T.obj _ _ st5)
    have hd:ds.drop i=ds[i]::ds.drop (i+1):=Gbv hlt
    rw[hd] at ci
    unfold cy at ci
    obtain⟨e2,hg2,ci⟩:=bind_some ci
    obtain⟨bb,ht2,ci⟩:=bind_some ci
    have clnIn:∀b,Cln Bad env σ b∧H b≠none→Cln (mU Bad env σ p) envi σi b:=λb ⟨q1,q2⟩=>by
     refine⟨λz=>z.elim (λz=>q2 (by rw[z];exact hpn)) λz=>z q1,λj tj ej=> ?_⟩
     rcases u4 tj with o|o
     ·exact owi j o
     ·exact lbi j b o ej q1
    refine Gad (thn (GbA (hg C s H _ s5 σi H5 x u (λσ6 H6=>aI X.K H (mU Bad env σ p) e2 σ6 H6∧Stp envi σi H5 e2 σ6 H6) I5' r5 ⟨H,mU Bad env σ p,envi,ds[i],e2,Ei.mono s2,hg2,rep.imp clnIn,λσ' H' E' p' => ⟨E',p'⟩⟩) (λ_ _ q=>q) λ_ _ q=>q.elim) λ_ s6 ⟨σ6,H6,I6,E6,p6⟩=> ?_)
    have noO6:=hgo _ _ _ hg2 owi
    have s56:cj H5 H6:=λb o e=>p6.keep b o e λ⟨j,z,_⟩=>owi j z
    have lb6:∀(j:Nat) a,uR e2[j]? →σ6[j]? =some (some (.ref a))→¬Cln Bad env σ a:=λj a z ej=>by
     obtain⟨q1,q2⟩:=p6.lk j z
     rw[q1] at z;rw[q2] at ej
     exact lbi j a z ej
    have again:∀{H7:Hp} {s7:Shared} {vs' :List V} {done' rest' :List D},Inv (blk X scope cl C N s H fp) ([]++qU fp s5.heap) σ6 H7 s7→aI X.K H (mU Bad env σ p) e2 σ6 H7→H7 p=some (.lst vs')→aY X.K (λb=>Cln Bad env σ b∧b≠p) H7 done' vs' →
      done'.length≤i+1→cy gd t f (ds.drop (i+1)) e2=some rest' →done' ++rest' =rs→
      ∃m,m<ds.length -i∧∃i σi Hi envi vs done rest,CoI X scope cl C N s H fp tn Bad env σ p gd t f ds rs m s7 i σi Hi envi vs done rest:=by
     intro H7 s7 vs' done' rest' I7 E7 hp7 r7 dl7 c7 q7
     refine⟨ds.length -(i+1),by omega,i+1,σ6,H7,e2,vs',done',rest',⟨rfl,hlt,I7.nR,T.keep _ _ _ st5 λb hb o e=>(I7.pin (b,o) (GaY _ (GaY _ (kq hb e)))).1,λb hb=> ?_,E7,hp7,r7,noO6,lb6,dl7,c7,q7⟩⟩
     obtain⟨o,e,d⟩:=T.obj _ _ st5 b hb
     exact(I7.pin (b,o) (GaY _ (GaY _ (kq hb e)))).2.1
    refine Gad (thn (GbA (ht C s H _ s6 σ6 H6 (λb' H7=>b' =bb∧cj H6 H7) I6 ⟨H,mU Bad env σ p,e2,bb,E6,ht2,λH' s' => ⟨rfl,s'⟩⟩) (λ_ _ q=>q) λ_ _ q=>q.elim) λok s7 ⟨H7,I7,hok,s67⟩=> ?_)
    subst hok
    have sAll:cj Hi H7:=s2.trans (s56.trans s67)
    have E7:=E6.mono s67
    have hp7:H7 p=some (.lst vs):=sAll _ _ hpi
    have r7:=ri.gen (F' :=λb=>Cln Bad env σ b∧b≠p) (.of_same sAll) λ_ q _=>q
    cases ok with
    |false=>
     rw[Gah Gaz] at ci
     exact Gaq ⟨rfl,again I7 E7 hp7 r7 (Nat.le_succ_of_le dl) ci eqi⟩
    |true=>
     rw[Gaf rfl] at ci
     obtain⟨r,hr,ci⟩:=bind_some ci
     split at ci
     ·rename_i hfree
      obtain⟨rest',c8,rfl⟩:=Gak.mp ci
      refine Gad (Gad (thn (GbA (he C s H _ s7 σ6 H7 (λv H8=>cj H7 H8∧jK X.K H (mU Bad env σ p) e2 σ6 H7 H8 r v) I7 ⟨H,mU Bad env σ p,e2,r,E7,hr,λv H' s' R=> ⟨s',R⟩⟩) (λ_ _ q=>q) λ_ _ q=>q.elim) λy s8 ⟨v,H8,I8,ry,s78,R⟩=> ?_))
      have E8:=E7.mono s78
      have hp8:H8 p=some (.lst vs):=s78 _ _ hp7
      have r8:=(r7.gen (F' :=λb=>Cln Bad env σ b∧b≠p) (.of_same s78) λ_ q _=>q)
      have vr:Rep X.K (λb=>Cln Bad env σ b∧b≠p) H8 r.d v:=(R.rep E7 hfree).imp λb q=> ⟨Classical.byContradiction λz=>q.1 (.inr z),λz=>q.1 (.inl z)⟩
      have hlen:vs.length<sizeLine:=by
       rw[←size_eq,←ri.1];omega
      refine Gad (thn (GbA (oZ (X:=blk X scope cl C N s H fp) _ s8 σ6 H8 (.ref p) [v] (.ref p) [y] (λ_ H9=>H9=upd H8 p (.lst (vs++[v]))) I8 rfl (.cons ry .nil) ⟨p,vs,v,rfl,rfl,hp8,hlen,rfl⟩) (λ_ _ q=>q) λ_ _ q=>q.elim) λ_ s9 ⟨_,H9,I9,_,h9⟩=> ?_)
      subst h9
      have lbp:∀j:Nat,uR e2[j]? →σ6[j]? ≠some (some (.ref p)):=λj z ej=>lb6 j p z ej (EE.uS hpn)
      have dN:j4 (λb=>Cln Bad env σ b∧b≠p) H8 (upd H8 p (.lst (vs++[v]))):=λb o e q=>by
       refine(az ?_).trans e
       rintro rfl
       rcases q with q|q
       ·exact q.2 rfl
       ·rw[hp8] at e;cases e;exact q
      refine Gaq (Gaq ⟨rfl,again I9 (E8.grow (.inl rfl) hpn hp8 lbp) aN ((r8.append (aY.cons vr .nil)).gen dN λ_ q _=>q) (by simp;omega) c8 ?_⟩)
      rw[←eqi,Gav];rfl
     ·cases ci
   ·have hi' :i=ds.length:=by omega
    subst hi'
    rw[GbH] at ci
    cases ci
    rw[Gbh] at eqi
    subst eqi
    refine thn (T.done (blk X scope cl C N s H fp) rfl rfl rfl hc ds.length [] s' σi Hi _ Ii (hfi fri) sti stop) λr s4 ⟨hr,I4⟩=> ?_
    subst hr
    obtain⟨m,hm,_⟩:=I4.loc
    have IX:=Hq I hf I4
    exact Gaq (hRR p C s4 Hi m IX hm hCle ⟨I4.free,(I.Cu (by rw[hp];exact hCle) (I.hok.fresh (by rw[hp];exact hCle))).2⟩ ⟨keepAll,hpn,vs,hpi,ri⟩)
  ·exact⟨0,_,_,_,[],[],rs,⟨by simp,GbE _,I1,st₁,λb hb=>(az (by rintro rfl;exact Gby _ (hfo _ hb))).trans (hf b hb).1,E1,aN,aY.nil,λj=>Ho,λj a z e=>by
    obtain⟨i,t1,t2⟩:=BN z.top e
    exactλq=>q.2 i t1 t2,Gap _,by simpa using hl,rfl⟩⟩
 exact codeAny_compStart_list loop (T.self X.A 0 _ _ _ st₁ loop)
end
open PySem PySem.Spec PyProof.Rows L2
section
variable{X:Cx}{pos:Pos}
theorem o5{n:Nat}{aO:List Nat}{l:Option Nat}{env:Env}:compEnv n aO (bF l env)=compEnv n aO env:=by
 cases l with
 |none=>rfl
 |some j=>
  unfold bF
  dsimp only
  split
  ·rename_i d q
   unfold compEnv
   congr 1
   apply GaQ
   intro i _
   by_cases z:j=i
   ·subst z
    rw[GaN (Gac.mp q).1,q];rfl
   ·rw[Gab z]
  ·rfl
theorem jN.cells{scope:Scope}{N:List Str}{n:Nat}{aO:List Nat}{pins:List (Addr×Obj)}{σ:St}{H:Hp}{s:Shared}(S:jN X scope N n aO)(I:Inv X pins σ H s):∀y∈scope.names,y.2= .free→∃c,X.env.cells.lookup y.1=some c:=λy hy hf=>by
 have hk:=Gat.mp S.free y hy
 rw[hf] at hk
 simp only[bne_self_eq_false,Bool.false_or] at hk
 refine I.ok.has y.1 ?_
 cases q:X.env.kindOf y.1 with
 |none=>rw[q] at hk;cases hk
 |some z=>rw[q] at hk;cases z<;>first|(cases hk;done)|exact .inl rfl|exact .inr rfl
theorem jN.AQ{scope:Scope}{N:List Str}{n:Nat}{aO:List Nat}(S:jN X scope N n aO):∀y∈scope.names,y.2= .local→scope.names.lookup y.1=some .local:=λy hy hl=>by
 have:=Gat.mp S.names y hy
 rw[hl] at this
 simpa using this
structure Blk(X:Cx)(scope:Scope)(N:List Str)(tg elt:Expr)(ifs:List Expr)(gd:DG)(t:DT)(f:DE):Prop where
 g:∀cl C s H ex,PGd (blk X scope cl C N s H ex) tg gd
 t:∀cl C s H ex,qO (blk X scope cl C N s H ex) ifs (tT X t)
 e:∀cl C s H ex,PEd (blk X scope cl C N s H ex) elt f
theorem _root_.L2.Inv.EK{pins:List (Addr×Obj)}{σ:St}{H:Hp}{s:Shared}{C:Addr}{h' :Heap}(I:Inv X pins σ H s)(F:nD X pins H C)(hs:Heap.SameBut C s.heap h'):Inv X pins σ H {s with heap:=h' }:=
 I.turned (t' :=s.toks) (λb o hb e=>(hs.2 b hb).trans e) F.1 F.2.1 F.2.2.2.1 F.2.2.2.2.1 F.2.2.2.2.2
theorem o6{tg iter elt:Expr}{ifs:List Expr}{scope:Scope}{N:List Str}{n:Nat}{aO:List Nat}{l:Option Nat}{src:DI}{gd:DG}{t:DT}{f:DE}(hc:X.calm=true)(S:jN X scope N n aO)(hi:PId X tg iter src)(hgo:rE gd)(B:Blk X scope N tg elt ifs gd t f)
  (hs:∀x,foldedSetIterable iter X.env x=pure x:=by intro _;rfl):PEd X (.ListComp elt [⟨tg,iter,ifs,0⟩] scope pos) (mR l n aO src gd t f):=by
 intro pins s σ H Q I hw
 obtain⟨H₀,Bad,env,r,E,e,k⟩:=hw
 unfold mR at e
 obtain⟨ds,hds,e⟩:=bind_some e
 split at e
 ·rename_i hz
  obtain⟨rs,hrs,rfl⟩:=Gak.mp e
  obtain⟨EL,lo,tops⟩:=E.lock l
  obtain⟨cl,h1,h2,h3⟩:=jM (S.cells I)
  rw[eval_ListComp]
  refine GcP (use:=none) rfl hs h1 S.kind S.AQ ?_
  refine thn (hi pins s σ H (λJ H' =>cj H H' ∧AM X.K (λb=>Cln Bad (bF l env) σ b∧H' b≠none) (λb=>¬Ow (bF l env) σ b) J ds H') I ⟨H₀,Bad,bF l env,ds,EL,hds,λJ H' s' io=> ⟨s',io⟩⟩) λv s1 q1=>thn q1 λitv s2 q2=> ?_
  obtain⟨it,fp,tn,J,H2,e,I2,T,st2,f2,sH,io⟩:=q2
  subst e
  refine pz (RR:=λacc C=>compPost (model X.prog X.w) X.A X.xe none (EP X pins σ Q) acc C) hc S I2 h2 h3 f2 T st2 (λC s' H' =>B.g cl C s' H' fp) (λC s' H' =>B.t cl C s' H' fp) (λC s' H' =>B.e cl C s' H' fp) (EL.mono sH) io hgo hz (by rw[o5];exact hrs) ?_
  intro p C s' H' m IX hm hC hF G
  refine⟨m,hm,λh' hs' => ⟨.ref p,H',IX.EK hF hs',rfl, ?_⟩⟩
  obtain⟨g1,g2,vs,g3,g4⟩:=G
  exact k _ H' (sH.trans g1) ⟨p,rfl,sH.free g2,⟨_,g3,trivial⟩,rfl,.lst (.inl g3) (g4.gen (.of_same bU) λb q _=> ⟨⟨q.1.1,λi ti ei=>q.1.2 i ((tops i).mpr ti) ei⟩,q.2⟩)⟩
 ·cases e
theorem Hr{i:Nat}{x:Str}{pos' lpos:Pos}{tg iter elt:Expr}{ifs:List Expr}{scope:Scope}{N:List Str}{n:Nat}{aO:List Nat}{l:Option Nat}{src:DI}{gd:DG}{t:DT}{f:DE}(hN:X.N.Nodup)(hi' :X.N[i]? =some x)(hx:Loc X.env.scope x)(hc:X.calm=true)(S:jN X scope N n aO)
  (hi:PId X tg iter src)(hgo:rE gd)(B:Blk X scope N tg elt ifs gd t f)
  (hsw:swapsWith (.ListComp elt [⟨tg,iter,ifs,0⟩] scope lpos) (some (.Name x pos')) pos.line X.env=pure true:=by rfl)(hs:∀x,foldedSetIterable iter X.env x=pure x:=by intro _;rfl)
  (hf:X.fn x=true∨X.env.scope.names.lookup x=some .local:=by first|exact .inl rfl|exact .inr rfl|assumption):PSd X (.Assign [.Name x pos'] (.ListComp elt [⟨tg,iter,ifs,0⟩] scope lpos) pos) (aT i (mR l n aO src gd t f)):=by
 intro pins s σ H D I hw
 have hl:=I.len
 obtain⟨H₀,Bad,env,o,E,e,k⟩:=hw
 obtain⟨r,hr,e⟩:=bind_some e
 obtain⟨e',hst,rfl⟩:=Gak.mp e
 have hie:i<env.length:=AL E hl hi'
 unfold mR at hr
 obtain⟨ds,hds,hr⟩:=bind_some hr
 split at hr
 ·rename_i hz
  obtain⟨rs,hrs,rfl⟩:=Gak.mp hr
  cases hst
  obtain⟨EL,lo,tops⟩:=E.lock l
  obtain⟨cl,h1,h2,h3⟩:=jM (S.cells I)
  rw[exec_Assign_Name_used _ _ _ _ hsw]
  refine Gad (wpAny_standAt (Gad ?_))
  show wpAny _ X.A (do let _←comprehension (.ListComp elt [⟨tg,iter,ifs,0⟩] scope lpos) scope X.env _ (newList []) false (eval iter X.env) (some (assign (.Name x pos') X.env))) _ _ s
  refine Gad (GbA (GcP (use:=some (assign (.Name x pos') X.env)) (Q:=λ_ s' =>SP X pins D .next s') rfl hs h1 S.kind S.AQ ?_) (λ_ s' hq=>Gaq (Gaq hq)) λ_ _ e=>e)
  refine thn (hi pins s σ H (λJ H' =>cj H H' ∧AM X.K (λb=>Cln Bad (bF l env) σ b∧H' b≠none) (λb=>¬Ow (bF l env) σ b) J ds H') I ⟨H₀,Bad,bF l env,ds,EL,hds,λJ H' s' io=> ⟨s',io⟩⟩) λv s1 q1=>thn q1 λitv s2 q2=> ?_
  obtain⟨it,fp,tn,J,H2,e,I2,T,st2,f2,sH,io⟩:=q2
  subst e
  refine pz (RR:=λacc C=>compPost (model X.prog X.w) X.A X.xe (some (assign (.Name x pos') X.env)) (λ_ s' =>SP X pins D .next s') acc C) hc S I2 h2 h3 f2 T st2 (λC s' H' =>B.g cl C s' H' fp) (λC s' H' =>B.t cl C s' H' fp) (λC s' H' =>B.e cl C s' H' fp) (EL.mono sH) io hgo hz (by rw[o5];exact hrs) ?_
  intro p C s' H' m IX hm hC hF G
  obtain⟨g1,g2,vs,g3,g4⟩:=G
  show wpAny _ X.A (assign (.Name x pos') X.env (.ref p)) _ _ _
  refine wpAny_assign_Name (tL IX hN hi' hx (v:= .ref p) rfl (λs'' I'' ⟨a,hsb,ha⟩=> ?_) hf)
  have hCa:C≠a:=by
   rcases ha with ha|ha
   ·rw[ha];exact hF.2.1
   ·exactλz=>hF.2.2.2.2.1 x a ha z.symm
  refine⟨m,hm.sameBut hsb hCa,λh' hs' => ⟨_,H',I''.EK hF hs', ?_⟩⟩
  exact k _ H' (E.rq (sH.trans g1) hie (sH.free g2) ⟨_,g3,trivial⟩ rfl (.lst (.inl g3) (g4.gen (.of_same bU) λb q _=> ⟨⟨q.1.1,λi ti ei=>q.1.2 i ((tops i).mpr ti) ei⟩,q.2⟩))) (.rq (sH.trans g1) hie E.len (sH.free g2))
 ·cases hr
end
open PySem PySem.Spec PyProof.Rows L2
section
variable{X:Cx}{scope:Scope}{cl:List (Str×Addr)}{C:Addr}{N:List Str}{s:Shared}{H:Hp}{ex:List Addr}{x:Str}
theorem gX(h:N.Nodup):(blk X scope cl C N s H ex).N.Nodup:=h
theorem gY(h:scope.names.lookup x=some .local):(blk X scope cl C N s H ex).fn x=true∨(blk X scope cl C N s H ex).env.scope.names.lookup x=some .local:= .inr (ja h)
end
open PySem PySem.Spec PyProof.Rows L2
section
variable{X:Cx}{e a b c:Expr}{f g h:DE}{pos:Pos}
noncomputable def tO(X:Cx)(o:DO):TO:=λσ H Q=>∃H₀ Bad env i,aI X.K H₀ Bad env σ H∧o env=some i∧∀H',cj H H' →Q i H'
theorem _root_.L2.PO.aU{e:Option Expr}{t t' :TO}(h:PO X e t')(i:∀σ H Q,t σ H Q→t' σ H Q):PO X e t:=λpins s σ H Q I q=>h pins s σ H Q I (i σ H Q q)
theorem uf:PO X none (tO X noO):=GH.aU λσ H Q ⟨_,_,_,_,_,e,k⟩=>by cases e;exact k H bU
theorem ug(he:PEd X e f):PO X (some e) (tO X (En f)):=by
 refine(GI he).aU ?_
 rintro σ H Q ⟨H₀,Bad,env,o,E,ho,k⟩
 obtain⟨r,hr,ho⟩:=bind_some ho
 split at ho
 ·rename_i i hd
  cases ho
  refine⟨H₀,Bad,env,r,E,hr,λv H1 s1 R=> ?_⟩
  have q:=R.inn
  rw[hd] at q
  cases q
  exact⟨i,rfl,k H1 s1⟩
 ·cases ho
theorem uV(n d:Nat)(o:Option Int):HT.sIx n d o=sIx n d o:=by
 cases o<;>rfl
theorem rG{K:aD}{F:Addr→Prop}{H:Hp}{ds:List D}{vs:List V}{lo hi:Option Int}(r:aY K F H ds vs):aY K F H (cutD ds lo hi) (vT vs lo hi):=by
 unfold cutD vT
 rw[uV,uV,←r.1]
 exact(r.drop _).take _
theorem wx{K:aD}{F:Addr→Prop}{H:Hp}:∀{ns:List Int},aY K F H (ns.map .int) (ns.map V.int)
 |[]=> .nil
 |n::ns=> .cons (.int n) wx
theorem wz{lo hi:Option Expr}{l u:DO}{p2:Pos}(he:PEd X e f)(hl:PO X lo (tO X l))(hu:PO X hi (tO X u)):PEd X (.Subscript e (.Slice lo hi none p2) pos) (slE f l u):=by
 refine(Ee (GL.or Jw) he hl hu).aU ?_
 rintro σ H Q ⟨H₀,Bad,env,rv,E,hf,k⟩
 obtain⟨r,hr,hf⟩:=bind_some hf
 obtain⟨lv,hlv,hf⟩:=bind_some hf
 obtain⟨uv,huv,hf⟩:=bind_some hf
 refine⟨H₀,Bad,env,r,E,hr,λv H1 s1 R=> ⟨H₀,Bad,env,lv,E.mono s1,hlv,λH2 s2=> ⟨H₀,Bad,env,uv,(E.mono s1).mono s2,huv,λH3 s3=> ?_⟩⟩⟩
 have i3:=(R.inn.same s2).same s3
 have s13:=s1.trans (s2.trans s3)
 unfold slD at hf
 split at hf
 ·rename_i xs hd
  cases hf
  rw[hd] at i3
  cases i3 with
  |lst hh rr=>exact .inl ⟨_,_,rfl,.inl hh,λp n=>k _ _ (s13.trans (bL n)) ⟨p,rfl,s13.free n,rf,rfl,j5 n (rG rr)⟩⟩
 ·rename_i xs hd
  split at hf
  ·cases hf
  ·rename_i hw
   cases hf
   rw[hd] at i3
   cases i3 with
   |tup hh rr=>exact .inr ⟨_,_,rfl,SqT.of hh,by rw[uV,uV,←rr.1];exact hw,λp n=>k _ _ (s13.trans (bL n)) (fJ n (rG rr))⟩
 ·rename_i ns hd
  cases hf
  rw[hd] at i3
  cases i3 with
  |scr hh=>exact .inl ⟨_,_,rfl,hh.sq,λp n=>k _ _ (s13.trans (bL n)) ⟨p,rfl,s13.free n,rf,rfl,j5 n (rG wx)⟩⟩
 ·cases hf
theorem wA{pins:List (Addr×Obj)}{σ:St}{H:Hp}{s:Shared}{p:Addr}{ys:List V}{Q:Value→Shared→Prop}{E:Value→Shared→Prop}(hc:X.calm=true)(I:Inv X pins σ H s)(h:SqL X.K H p ys∨SqT X.K H p ys)
  (k:∀(It:Addr) fp wr P St (s₂:Shared),Walks X.prog X.w X.A.in1 It fp wr ys.length P St→St 0 s₂.heap→(∀b∈fp,b<s₂.heap.objs.size)→(∀(i:Nat) v,P i v→∃y,ys[i]? =some y∧RelV y v)→
   (∀h' tk,(∀b o,b∉wr→s₂.heap.get? b=some o→h'.get? b=some o)→Inv X pins σ H {s₂ with heap:=h',toks:=tk})→Q (.ref It) s₂):wpAny (model X.prog X.w) X.A.in1 (pyIter (.ref p)) Q E s:=by
 have hh:X.A.in1.handled=none:=I.ok.hd hc
 have kept:∀{oi:Obj} {h' :Heap} {tk:Nat},(∀b o,b∉[s.heap.objs.size]→(s.heap.push oi).get? b=some o→h'.get? b=some o)→Inv X pins σ H {s with heap:=h',toks:=tk}:=λ{oi h' tk} hk=>
  I.kept λb o e=>hk b o (by simp only[Gcq];exact GaO (Gax e)) (Gaj _ e)
 have get:∀{its:List Value},Vals ys its→∀(i:Nat) v,its.toArray[i]? =some v→∃y,ys[i]? =some y∧RelV y v:=λ{its} r i v e=>by
  have e' :its[i]? =some v:=by simpa using e
  obtain⟨hi,_⟩:=Gac.mp e'
  have hi' :i<ys.length:=by rw[r.length];exact hi
  obtain⟨u,hu,ru⟩:=r.get (x:=ys[i]) (i:=i) (by simp[hi'])
  rw[e'] at hu;cases hu
  exact⟨ys[i],by simp[hi'],ru⟩
 have lts:∀{oi:Obj},p<s.heap.objs.size→∀b∈[s.heap.objs.size,p],b<(s.heap.push oi).objs.size:=λ{oi} hp b hb=>by
  rw[GcR]
  rcases Gay.mp hb with rfl|hb
  ·exact Nat.lt_succ_self _
  ·rcases Gay.mp hb with rfl|hb
   ·exact GcX hp
   ·cases hb
 rcases h with hq|hq
 ·obtain⟨its,rv,pl,hz⟩:=I.list hq
  have hlt:p<s.heap.objs.size:=by obtain⟨_,e,_⟩:=pl.isList;exact Gax e
  have W:=Walks.list (prog:=X.prog) (w:=X.w) hh s.heap.objs.size p (GaO hlt) its.toArray
  have hsz:its.toArray.size=ys.length:=by rw[Gam,rv.length]
  rw[hsz] at W
  exact wpAny_pyIter_list pl.isList (k _ _ _ _ _ _ W ⟨⟨_,GaC _ rfl,rfl,rfl⟩,pl.isList.push _⟩ (lts hlt) (get rv) λh' tk hk=>kept hk)
 ·obtain⟨its,rv,pl,hz⟩:=I.tuple hq
  have pl' :s.heap.IsTuple p its.toArray:=pl
  have hlt:p<s.heap.objs.size:=by obtain⟨_,e,_⟩:=pl';exact Gax e
  have W:=Walks.tuple (prog:=X.prog) (w:=X.w) hh s.heap.objs.size p (GaO hlt) its.toArray
  have hsz:its.toArray.size=ys.length:=by rw[Gam,rv.length]
  rw[hsz] at W
  exact GcO pl' (k _ _ _ _ _ _ W ⟨⟨_,GaC _ rfl,rfl,rfl⟩,pl'.at λo e=>Gaj _ e⟩ (lts hlt) (get rv) λh' tk hk=>kept hk)
theorem range_any(bs:List Bool):(List.range bs.length).any (λi=>bs[i]?.getD false)=bs.any id:=by
 rw[Bool.eq_iff_iff]
 simp only[GcF,Gbr,id]
 constructor
 ·rintro⟨i,hi,h⟩
  rw[Gaa hi] at h
  exact⟨bs[i],GaA hi,h⟩
 ·rintro⟨b,hb,h⟩
  obtain⟨i,hi,rfl⟩:=Gdq hb
  exact⟨i,hi,by rw[Gaa hi];exact h⟩
theorem wB{A:Around}{P:Nat→Value→Prop}{bs:List Bool}(hP:∀(i:Nat) v,P i v→∃y,(bs.map V.bl)[i]? =some y∧RelV y v):TruthOf X.prog X.w A P (λi=>bs[i]?.getD false):=by
 intro i v s Q E p q
 obtain⟨y,hy,r⟩:=hP i v p
 rw[Gal] at hy
 cases hb:bs[i]? with
 |none=>rw[hb] at hy;cases hy
 |some b=>
  rw[hb] at hy;cases hy
  cases r
  refine GbC ?_
  have q' :Q (bs[i]?.getD false) s:=q
  rw[hb] at q';exact q'
theorem CW(hc:X.calm=true):i7 X (.builtin "any") (λxs H Q=>∃(p:Addr) (bs:List Bool),xs=[.ref p]∧(SqL X.K H p (bs.map V.bl)∨SqT X.K H p (bs.map V.bl))∧Q (.bl (bs.any id)) H):=by
 intro pins s σ H xs us Q I rv h
 obtain⟨p,bs,rfl,hq,q⟩:=h
 obtain⟨u,rfl,ru⟩:=rv.one
 cases ru
 refine call_any_walk (wA hc I hq λIt fp wr P St s₂ W st lt hP kept=> ⟨It,fp,wr,_,P,St,_,rfl,W,st,wB hP,λh' tk hk=> ?_⟩)
 rw[Gae,range_any]
 exact⟨.bl (bs.any id),H,kept h' tk hk,rfl,q⟩
noncomputable def uW(ns:List Int)(i:Nat):Int:=ns[i]?.getD 0
theorem wC{P:Nat→Value→Prop}{ns:List Int}(hP:∀(i:Nat) v,P i v→∃y,(ns.map V.int)[i]? =some y∧RelV y v):∀i v,P i v→∃t,v= .int (uW ns i) t:=by
 intro i v p
 obtain⟨y,hy,r⟩:=hP i v p
 rw[Gal] at hy
 cases hb:ns[i]? with
 |none=>rw[hb] at hy;cases hy
 |some n=>
  rw[hb] at hy;cases hy
  obtain⟨t,rfl⟩:=r
  exact⟨t,by unfold uW;rw[hb];rfl⟩
theorem CY{f:Int→Int→Int}{i:Int}{ns:List Int}{k:Nat}(hk:k<ns.length):(ns.take (k+1)).foldl f i=f ((ns.take k).foldl f i) (ns[k]):=by
 rw[Gdf hk,List.foldl_append];rfl
theorem EM{n:Int}{ns:List Int}:∀k,k≤ns.length→uW (n::ns) (argBest (λi j=>decide (uW (n::ns) i>uW (n::ns) j)) k)=(ns.take k).foldl (λa b=>if b>a then b else a) n
 |0,_=>by simp[argBest,uW]
 |k+1,hk=>by
  have ih:= @EM n ns k (by omega)
  rw[CY (by omega),argBest]
  have e:uW (n::ns) (k+1)=ns[k]:=by simp[uW,show k<ns.length by omega]
  rw[ih,e]
  simp only[decide_eq_true_eq]
  split
  ·exact e
  ·exact ih
theorem wD{K:aD}{F:Addr→Prop}{H:Hp}:∀{ds:List D} {vs:List V} {bs:List Bool},aY K F H ds vs→uO ds=some bs→vs=bs.map V.bl
 |[],vs,bs,r,e=>by cases e;exact r.cU
 |d::ds,vs,bs,r,e=>by
  obtain⟨v,w,rfl,h1,h2⟩:=r.cons_inv
  cases d<;>try (cases e;done)
  obtain⟨bs',e',rfl⟩:=Gak.mp e
  cases h1
  rw[wD h2 e'];rfl
theorem BP{K:aD}{F:Addr→Prop}{H:Hp}:∀{ds:List D} {vs:List V} {bs:List Int},aY K F H ds vs→BA ds=some bs→vs=bs.map V.int
 |[],vs,bs,r,e=>by cases e;exact r.cU
 |d::ds,vs,bs,r,e=>by
  obtain⟨v,w,rfl,h1,h2⟩:=r.cons_inv
  cases d<;>try (cases e;done)
  obtain⟨bs',e',rfl⟩:=Gak.mp e
  cases h1
  rw[BP h2 e'];rfl
theorem AR{K:aD}{F:Addr→Prop}{H:Hp}{d:D}{v:V}{ds:List D}(i:Inn K F H d v)(e:mQ d=some ds):∃p vs,v= .ref p∧(SqL K H p vs∨SqT K H p vs)∧aY K F H ds vs:=by
 unfold mQ at e
 split at e
 ·cases e
  cases i with
  |lst h r=>exact⟨_,_,rfl,.inl (.inl h),r⟩
 ·cases e
  cases i with
  |tup h r=>exact⟨_,_,rfl,.inr (SqT.of h),r⟩
 ·rename_i ns
  cases e
  cases i with
  |scr h=>
   refine⟨_,_,rfl,.inl h.sq,by simp,λi d v e1 e2=> ?_⟩
   rw[Gal] at e1 e2
   cases q:ns[i]? with
   |none=>rw[q] at e1;cases e1
   |some n=>rw[q] at e1 e2;cases e1;cases e2;exact .int n
 ·cases e
theorem AS{o:List D→Option RV}{ds:List D}{rv:RV}(h:one o ds=some rv):∃d xs,ds=[d]∧mQ d=some xs∧o xs=some rv:=by
 unfold one at h
 split at h
 ·obtain⟨xs,h1,h2⟩:=bind_some h
  exact⟨_,xs,rfl,h1,h2⟩
 ·cases h
theorem CZ:CallD X anyS (λxs H Q=>∃(p:Addr) (bs:List Bool),xs=[.ref p]∧(SqL X.K H p (bs.map V.bl)∨SqT X.K H p (bs.map V.bl))∧Q (.bl (bs.any id)) H):=by
 intro F H ds vs rv Q ps e k
 obtain⟨d,xs,rfl,h1,h2⟩:=AS e
 obtain⟨bs,hb,rfl⟩:=Gak.mp h2
 obtain⟨v,rfl,i⟩:=il ps
 obtain⟨p,vs,rfl,hs,r⟩:=AR i h1
 rw[wD r hb] at hs
 exact⟨p,bs,rfl,hs,k _ H bU (.bl _)⟩
end
open PySem PySem.Spec PyProof.Rows L2
section
variable{X:Cx}{e a b c:Expr}{f g h:DE}{pos:Pos}
theorem bg.cons{κ:Type}{K:aD}{F:Addr→Prop}{H:Hp}{kvs:List (κ×D)}{ws:List (κ×V)}{k:κ}{d:D}{v:V}(h:Rep K F H d v)(r:bg K F H kvs ws):bg K F H ((k,d)::kvs) ((k,v)::ws):=by
 refine⟨by simp[r.1],λi x u e1 e2=> ?_⟩
 cases i with
 |zero=>simp at e1 e2;subst e1;subst e2;exact h
 |succ i=>exact r.2 i x u (by simpa using e1) (by simpa using e2)
theorem bg.cons_inv{κ:Type}{K:aD}{F:Addr→Prop}{H:Hp}{kvs:List (κ×D)}{ws:List (κ×V)}{k:κ}{d:D}(h:bg K F H ((k,d)::kvs) ws):∃v r,ws=(k,v)::r∧Rep K F H d v∧bg K F H kvs r:=by
 cases ws with
 |nil=>exact absurd h.1 (by simp)
 |cons q r=>
  obtain⟨k',v⟩:=q
  have h1:k=k' ∧kvs.map (·.1)=r.map (·.1):=by have:=h.1;simpa using this
  obtain⟨rfl,h2⟩:=h1
  exact⟨v,r,rfl,h.2 0 (k,d) (k,v) rfl rfl,h2,λi x y e1 e2=>h.2 (i+1) x y (by simpa using e1) (by simpa using e2)⟩
theorem bg.nil{κ:Type}{K:aD}{F:Addr→Prop}{H:Hp}:bg K F H ([]:List (κ×D)) []:=⟨rfl,λi p q e=>by simp at e⟩
theorem bg.cU{κ:Type}{K:aD}{F:Addr→Prop}{H:Hp}{ws:List (κ×V)}(h:bg K F H [] ws):ws=[]:=by
 cases ws with
 |nil=>rfl
 |cons q r=>exact absurd h.1 (by simp)
theorem bg.len{κ:Type}{K:aD}{F:Addr→Prop}{H:Hp}{kvs:List (κ×D)}{ws:List (κ×V)}(h:bg K F H kvs ws):kvs.length=ws.length:=by
 have:=congrArg List.length h.1
 simpa using this
theorem bg.over{κ:Type} [DecidableEq κ]{K:aD}{F:Addr→Prop}{H:Hp}{k:κ}{d:D}{v:V}(hv:Rep K F H d v):∀{kvs:List (κ×D)} {ws:List (κ×V)},bg K F H kvs ws→
  bg K F H (kvs.map λkv=>if kv.1=k then(kv.1,d) else kv) (ws.map λkv=>if kv.1=k then(kv.1,v) else kv)
 |[],ws,r=>by rw[r.cU];exact .nil
 |(k',d')::kvs,ws,r=>by
  obtain⟨v',w,rfl,h1,h2⟩:=r.cons_inv
  rw[Gau,Gau]
  dsimp only
  split
  ·exact .cons hv (bg.over hv h2)
  ·exact .cons h1 (bg.over hv h2)
theorem bg.snoc{κ:Type}{K:aD}{F:Addr→Prop}{H:Hp}{k:κ}{d:D}{v:V}(hv:Rep K F H d v):∀{kvs:List (κ×D)} {ws:List (κ×V)},bg K F H kvs ws→bg K F H (kvs++[(k,d)]) (ws++[(k,v)])
 |[],ws,r=>by rw[r.cU];exact .cons hv .nil
 |(k',d')::kvs,ws,r=>by
  obtain⟨v',w,rfl,h1,h2⟩:=r.cons_inv
  exact .cons h1 (bg.snoc hv h2)
theorem bg.any{κ:Type} [DecidableEq κ]{K:aD}{F:Addr→Prop}{H:Hp}{k:κ}:∀{kvs:List (κ×D)} {ws:List (κ×V)},bg K F H kvs ws→(kvs.any λkv=>decide (kv.1=k))=(ws.any λkv=>decide (kv.1=k))
 |[],ws,r=>by rw[r.cU];rfl
 |(k',d')::kvs,ws,r=>by
  obtain⟨v',w,rfl,h1,h2⟩:=r.cons_inv
  rw[GcH,GcH,bg.any h2]
theorem bg.put{κ:Type} [DecidableEq κ]{K:aD}{F:Addr→Prop}{H:Hp}{kvs:List (κ×D)}{ws:List (κ×V)}{k:κ}{d:D}{v:V}(r:bg K F H kvs ws)(hv:Rep K F H d v):bg K F H (put kvs k d) (putK ws k v):=by
 unfold DL.put putK
 rw[r.any]
 split
 ·exact r.over hv
 ·exact r.snoc hv
theorem JW{K:aD}{F:Addr→Prop}{H:Hp}{kvs:List (Key×D)}{a:Addr}(i:Inn K F H (.dK kvs) (.ref a)):∃ws,H a=some (.dK ws)∧bg K F H kvs ws:=by
 cases i with
 |dK h r=>exact⟨_,h,r⟩
theorem JX{K:aD}{F:Addr→Prop}{H:Hp}{kvs:List (List Key×D)}{a:Addr}(i:Inn K F H (.dT kvs) (.ref a)):∃ws,H a=some (.dT ws)∧bg K F H kvs ws:=by
 cases i with
 |dT h r=>exact⟨_,h,r⟩
def IT:V→V→V→Hp→(Hp→Prop)→Prop:=λo i v H Q=>IJ o i v H Q∨∃a H4,o= .ref a∧vV H a i v H4∧Q H4
theorem Hs(hu:X.A.units+1<cLine):Ls X IT:=by
 intro pins s σ H o i v ov iv u Q I ro ri rv h
 rcases h with h| ⟨a,H4,rfl,g,q⟩
 ·exact set_list pins s σ H o i v ov iv u Q I ro ri rv h
 ·cases ro
  exact CJ hu I g ri rv λs4 I4=> ⟨H4,I4,q⟩
noncomputable def Oi(td ty tv:TE):TS:=λD σ H=>tv σ H λv H1=>td σ H1 λx H2=>ty σ H2 λy H3=>IT x y v H3 λH4=>D.nx σ H4
theorem JY{o i value:Expr}{td ty tv:TE}{pos' :Pos}(hu:X.A.units+1<cLine)(ho:PE X o td)(hi:PE X i ty)(hv:PE X value tv)(hs:swapsWith value (some (.Subscript o i pos')) pos.line X.env=pure false):PS X (.Assign [.Subscript o i pos'] value pos) (Oi td ty tv):=by
 intro pins s σ H D I h
 refine wpAny_Assign_Subscript (thn (hv pins s σ H _ I h) λr s1 ⟨v,H1,I1,rv,q1⟩=>thn (ho pins s1 σ H1 _ I1 q1) λu s2 ⟨x,H2,I2,rx,q2⟩=>thn (hi pins s2 σ H2 _ I2 q2) λiv s3 ⟨y,H3,I3,ry,q3⟩=> ?_) hs
 exact thn (Hs hu pins s3 σ H3 x y v u iv r _ I3 rx ry rv q3) λ_ s4 ⟨H4,I4,q4⟩=> ⟨σ,H4,I4,q4⟩
theorem o7{Bad:Addr→Prop}{env:Env}{σ:St}{H:Hp}{i:Nat}{a:Addr}{d:D}{o o' :HO}(q:env[i]? =some (some (.own d)))(h1:σ[i]? =some (some (.ref a)))(hH:H a=some o')(hw:isW o'):j4 (Cln Bad env σ) H (upd H a o):=λb x hb w=>by
 have:b≠a:=by
  rintro rfl
  rcases w with w|w
  ·exact w.2 i (by rw[q];trivial) h1
  ·rw[hH] at hb;cases hb
   cases o' <;>simp[isT] at w<;>exact hw
 rw[az this];exact hb
theorem pA{i:Nat}{x:Str}{px pos' :Pos}{k value:Expr}{fk fv:DE}(hu:X.A.units+1<cLine)(hN:X.N[i]? =some x)(hv:Vis X.env.scope x)(hk:PEd X k fk)(he:PEd X value fv)(hd:(x==("__debug__":Str))=false:=by decide)(hcd:(x==("__classdict__":Str))=false:=by decide)
  (hs:swapsWith value (some (.Subscript (.Name x px) k pos')) pos.line X.env=pure false:=by rfl):PSd X (.Assign [.Subscript (.Name x px) k pos'] value pos) (w6 i fk fv):=by
 refine(JY hu (lu hN hv hd hcd) hk he hs).aU ?_
 rintro D σ H ⟨H₀,Bad,env,o,E,e,kk⟩
 obtain⟨r,hr,e⟩:=bind_some e
 obtain⟨y,hy,e⟩:=bind_some e
 obtain⟨d,hd,e⟩:=bind_some e
 have q:=nZ hd
 split at e
 ·rename_i hfree
  obtain⟨d',hp,rfl⟩:=Gak.mp e
  refine⟨H₀,Bad,env,r,E,hr,λv H1 s1 R=> ?_⟩
  have E1:=E.mono s1
  obtain⟨a,h1,h2,h3,h4,h5,h6⟩:=E1.ow i _ (.inl q)
  refine⟨_,h1,H₀,Bad,env,y,E1,hy,λvy H3 s3 Ry=> ?_⟩
  have E3:=E1.mono s3
  have rep:=(R.rep E hfree).same s3
  have i6:=h6.same s3
  have iy:=Ry.inn
  have fin:∀(o' :HO) (o'' :HO),H3 a=some o'' →isW o'' →isW o' →d'.top=true→Inn X.K (Cln Bad env σ) (upd H3 a o') d' (.ref a)→D.nx σ (upd H3 a o'):=λo' o'' hH hw hw' ht inn=>by
   obtain⟨E4,p4⟩:=E3.change (d' :=d') (o:=o') q h1 hw' ht inn
   exact kk σ _ E4 (((Stp.of_same s1).trans (.of_same s3)).trans p4)
  unfold putD at hp
  split at hp
  ·rename_i kvs
   split at hp
   ·rename_i hz
    obtain⟨key,hkey,rfl⟩:=Gak.mp hp
    obtain⟨ws,hH,rp⟩:=JW i6
    have hy' :=pq iy hkey
    subst hy'
    refine .inr ⟨a,_,rfl,vV.k hH (by rw[←rp.len,←size_eq];exact hz),fin _ _ hH trivial trivial rfl ?_⟩
    exact .dK aN ((rp.put rep).gen (o7 q h1 hH trivial) λ_ f _=>f)
   ·cases hp
  ·rename_i kvs
   split at hp
   ·rename_i ks hks
    split at hp
    ·rename_i hz
     obtain⟨key,hkey,rfl⟩:=Gak.mp hp
     obtain⟨ws,hH,rp⟩:=JX i6
     rw[hks] at iy
     cases iy with
     |tup hb rb=>
      have:=js rb hkey
      subst this
      refine .inr ⟨a,_,rfl,vV.t hH hb (by rw[←rp.len,←size_eq];exact hz),fin _ _ hH trivial trivial rfl ?_⟩
      exact .dT aN ((rp.put rep).gen (o7 q h1 hH trivial) λ_ f _=>f)
    ·cases hp
   ·cases hp
  ·rename_i xs
   split at hp
   ·rename_i j hj
    rw[hj] at iy
    cases iy
    obtain⟨vs,hH,rp⟩:=o4 (h4.same s3) i6
    split at hp
    ·rename_i hb
     cases hp
     refine .inl ⟨a,vs,j,j.toNat,rfl,rfl,hH, ?_,fin _ _ hH trivial trivial rfl ?_⟩
     ·unfold ixN
      rw[Gaf hb.1,Gaf (by rw[←rp.1];exact hb.2)]
     ·exact .lst (.inl aN) ((rp.set rep j.toNat).gen (o7 q h1 hH trivial) λ_ f _=>f)
    ·split at hp
     ·rename_i hb
      cases hp
      refine .inl ⟨a,vs,j,(j+xs.length).toNat,rfl,rfl,hH, ?_,fin _ _ hH trivial trivial rfl ?_⟩
      ·unfold ixN
       rw[Gah (by omega),Gaf (by rw[←rp.1];omega),rp.1]
      ·exact .lst (.inl aN) ((rp.set rep _).gen (o7 q h1 hH trivial) λ_ f _=>f)
     ·cases hp
   ·cases hp
  ·cases hp
 ·cases e
theorem o8:PEd X (.Dict [] [] pos) r9:=vX.aU λσ H Q ⟨_,_,_,_,E,e,k⟩ p n=>by
 cases e
 exact k _ _ (bL n) ⟨p,rfl,n,⟨_,aN,trivial⟩,rfl,.dT aN .nil⟩
end
open PySem PySem.Spec PyProof.Rows L2
open PySem.W (KasT kas_rev kas_asc kas_desc kas_tail3 kas_descPart kas_count kas_place kas_bin kas_sort)
section
variable{rk:Nat→Int}{N:Nat}
def Asks(rk:Nat→Int)(N:Nat){α:Type}:KasT α→(α→Prop)→Prop
 | .ret a,Q=>Q a
 | .ask i j k,Q=>i<N∧j<N∧Asks rk N (k (decide (rk i<rk j))) Q
theorem Asks.mono{α:Type}{Q Q' :α→Prop}(hq:∀a,Q a→Q' a):∀(t:KasT α),Asks rk N t Q→Asks rk N t Q'
 | .ret a,h=>hq a h
 | .ask i j k,h=> ⟨h.1,h.2.1,Asks.mono hq _ h.2.2⟩
def Ord(N:Nat)(p:Array Nat):Prop:=p.toList.Perm (List.range N)
theorem Ord.size{p:Array Nat}(h:Ord N p):p.size=N:=by
 have:=List.Perm.length_eq h
 simpa using this
theorem Ord.lt{p:Array Nat}(h:Ord N p){i:Nat}(hN:0<N):p.getD i 0<N:=by
 by_cases hi:i<p.size
 ·have e:p.getD i 0=p[i]:=by simp[Array.getD,hi]
  rw[e]
  have m:p[i]∈p.toList:=by simp
  exact Gbr.mp (h.mem_iff.mp m)
 ·have e:p.getD i 0=0:=by simp[Array.getD,hi]
  rw[e];exact hN
noncomputable def uX(rk:Nat→Int)(p:Array Nat)(i:Nat):Int:=rk (p.getD i 0)
def Up(rk:Nat→Int)(p:Array Nat)(k:Nat):Prop:=∀u v,u≤v→v<k→uX rk p u≤uX rk p v
def Down(rk:Nat→Int)(p:Array Nat)(k:Nat):Prop:=∀u v,u≤v→v<k→uX rk p v≤uX rk p u
theorem Down.snoc{p p' :Array Nat}{k:Nat}(hd:Down rk p k)(hk:1≤k)(e:∀i,uX rk p' i=uX rk p i)(c:uX rk p k≤uX rk p (k -1)):Down rk p' (k+1):=λu v huv hv=>by
 rw[e,e]
 rcases Nat.lt_or_ge v k with hvk|hvk
 ·exact hd u v huv hvk
 ·have ev:v=k:=by omega
  subst ev
  rcases Gds huv with q|q
  ·subst q;exact GbF _
  ·exact Int.le_trans c (hd u (v -1) (by omega) (by omega))
end
open PySem PySem.Spec PyProof.Rows L2
def FO(h:Heap)(a:Addr)(T:String)(vs:Array Value):Prop:=∃o,h.get? a=some o∧o.cls= .type T∧o.data= .fields vs
def t5(h:Heap)(d:Addr)(es:Array DictEntry)(ep:Nat):Prop:=∃o,h.get? d=some o∧o.ExactDict∧o.data= .dict es ep
theorem t5.at{h h' :Heap}{d:Addr}{es:Array DictEntry}{ep:Nat}(x:t5 h d es ep)(e:∀o,h.get? d=some o→h'.get? d=some o):t5 h' d es ep:=let⟨o,ho,r⟩:=x;⟨o,e _ ho,r⟩
section
variable{prog:Program}{w:World}{A:Around}{E:Value→Shared→Prop}{z:Shared}
theorem t5.ty{d:Addr}{es:Array DictEntry}{ep:Nat}(x:t5 z.heap d es ep):z.TypeIs (.ref d) "dict":=let⟨o,ho,hc,_⟩:=x;⟨o,ho,hc.1⟩
theorem EO{d:Addr}{es:Array DictEntry}{ep:Nat}{p:Option Value}{Q:Array DictEntry→Shared→Prop}(x:t5 z.heap d es ep)(h:Q es z):wpAny (model prog w) A (dictEntries d p) Q E z:=let⟨_,ho,_,hd⟩:=x;wpAny_dictEntries ho hd h
theorem IU{d:Addr}{es:Array DictEntry}{ep:Nat}{p:Option Value}{Q:Nat→Shared→Prop}(x:t5 z.heap d es ep)(h:Q ep z):wpAny (model prog w) A (dictEpoch d p) Q E z:=let⟨_,ho,_,hd⟩:=x;wpAny_dictEpoch ho hd h
theorem FO.ty{a:Addr}{T:String}{vs:Array Value}(x:FO z.heap a T vs):z.TypeIs (.ref a) T:=let⟨o,ho,hc,_⟩:=x;⟨o,ho,hc⟩
theorem JZ{a:Addr}{T:String}{vs:Array Value}{Q:Array Value→Shared→Prop}(x:FO z.heap a T vs)(h:Q vs z):wpAny (model prog w) A (fieldsOf (.ref a)) Q E z:=let⟨_,ho,_,hd⟩:=x;wpAny_fieldsOf ho hd h
theorem jO{a:Addr}{T:String}{vs:Array Value}{k:Nat}{x:Value}{Q:Unit→Shared→Prop}(f:FO z.heap a T vs)(h:∀h',FO h' a T (vs.setIfInBounds k x)∧Heap.SameBut a z.heap h' →Q () {z with heap:=h' })(hk:k<vs.size):
  wpAny (model prog w) A (setField (.ref a) k x) Q E z:=by
 obtain⟨⟨c,dc,dt,sl⟩,ho,hc,hd⟩:=f
 cases hc;cases hd
 exact wpAny_setField ho rfl hk (h _ ⟨⟨_,GbJ _ ho rfl,rfl,rfl⟩,Heap.SameBut.update ..⟩)
theorem FO.at{h h' :Heap}{a:Addr}{T:String}{vs:Array Value}(x:FO h a T vs)(k:∀o,h.get? a=some o→h'.get? a=some o):FO h' a T vs:=let⟨o,q,r⟩:=x;⟨o,k o q,r⟩
theorem FO.lt{h:Heap}{a:Addr}{T:String}{vs:Array Value}(x:FO h a T vs):a<h.objs.size:=let⟨_,q,_⟩:=x;Gax q
theorem kA{a:Addr}{T:String}{vs:Array Value}{i:Nat}{x:Value}{Q:Value→Shared→Prop}(f:FO z.heap a T vs)(e:vs[i]? =some x)(h:Q x z):wpAny (model prog w) A (field (.ref a) i) Q E z:=let⟨_,ho,_,hd⟩:=f;wpAny_field ho hd e h
theorem IV{α:Type}{Q:α→Shared→Prop}(hh:A.handled=none)(h:∀h' a,(∀b o,z.heap.get? b=some o→h'.get? b=some o)∧(∃o,h'.get? a=some o∧o.cls= .type "StopIteration")→E (.ref a) {z with heap:=h' }):
  wpAny (model prog w) A (newExc (.type "StopIteration") []>>=λe=>(raiseNew e:Sem α)) Q E z:=by
 obtain⟨hp,g,dr,tk,os⟩:=z
 wp_walk using Gbc
 ·unfold raiseNew
  wp_walk
  exact h _ _ ⟨λb o e=>Gaj _ (Gaj _ e),_,GaC _ rfl,rfl⟩
 all_goals size_fits
theorem BQ{e:Addr}{Q:Bool→Shared→Prop}(x:∃o,z.heap.get? e=some o∧o.cls= .type "StopIteration")(h:Q true z):wpAny (model prog w) A (isInstance (.ref e) (.type "StopIteration")) Q E z:=
 wpAny_isInstance (T:="StopIteration") x isSubtype_stop h
theorem MA(es:Array DictEntry)(i:Nat):(if(i:Int)<0 then none else es[(i:Int).toNat]?)=es[i]? :=by simp;omega
def Emp(h:Heap)(S:Addr):Prop:=∃c,h.get? S=some {cls:= .type "list",data:= .seq #[] c}
theorem on{α:Type}{t:Sem α}{Q Q' :α→Shared→Prop}(h:wpAny (model prog w) A t Q E z)(k:∀a s,Q a s→Q' a s):wpAny (model prog w) A t Q' E z:=GbA h k λ_ _ x=>x
theorem touched{S:Addr}{Q:Unit→Shared→Prop}(e:Emp z.heap S)(h:∀h2,Emp h2 S∧(∀b o,b≠S→z.heap.get? b=some o→h2.get? b=some o)→Q () {z with heap:=h2}):wpAny (model prog w) A (Builtin.List.listTouch (.ref S)) Q E z:=by
 obtain⟨c,e⟩:=e
 have e1:=GbJ (Obj.mapSeq (·.push Value.none)) e rfl
 refine Gad (wpAny_updateSeq e rfl (wpAny_updateSeq (hz:=by seq_fits) e1 rfl (h _ ⟨⟨_,GbJ (Obj.mapSeq (·.pop)) e1 rfl⟩,λb o n k=> ?_⟩)))
 rw[GbD _ _ (GaX n),GbD _ _ (GaX n),k]
theorem Ht{c:Code}{Q:Value→Shared→Prop}(h:∀R:Result→Shared→Prop,(∀v s',Q v s' →R (.ok (.ret v)) s')→codeAny (model prog w) A c R z):wpAny (model prog w) A (runValue c) Q E z:=wpAny_runValue (h _ λ_ _ q=>q)
theorem gather{v:Value}{Q:List Value→Shared→Prop}
  (h:∀R:Result→Shared→Prop,(∀s' acc c,s'.heap.get? z.heap.objs.size=some {cls:= .type "list",dict:=none,data:= .seq acc c,slots:=#[]}→Q acc.toList s' →R (.ok (.ret (.ref z.heap.objs.size))) s')→
   wpAny (model prog w) A.in1 (Builtin.List.listExtendWith (.ref z.heap.objs.size) v (.ref z.heap.objs.size)) (λfin s' =>match fin with| .done f=>R (.ok f) s' | .again c' =>c'.quiet=true∧codeAny (model prog w) A c' R s') (λe s' =>R (.error e) s') {z with heap:=z.heap.push (seqObj "list" #[] 0)}):
  wpAny (model prog w) A (collect v) Q E z:=by
 unfold collect
 apply Gad
 apply Ht
 intro R r
 apply Gdn entry_proto_collect'
 apply Gad
 refine wpAny_newList (Gaq ⟨Code.quiet_builtin _ (by decide+kernel), ?_⟩)
 apply Gdn entry_list_iadd'
 rw[Gdo (by decide+kernel:plainId "list.__iadd__"=true)]
 exact h R λs' acc c k q=>r _ _ (Gad (wpAny_load k (Gaq q)))
def wF(h:Heap)(S:Addr)(acc:Array Value):Prop:=∃c,h.get? S=some {cls:= .type "list",dict:=none,data:= .seq acc c,slots:=#[]}
end
open PySem PySem.Spec PyProof.Rows L2
open PySem.W (KatLex KatTups kas_sort kas_ask kat_kind kat_lt kat_one kat_run kat_snds BoolBack kat_lt_int)
def FlV:D→Value→Prop
 | .non,v=>v= .none
 | .int i,v=>∃t,v= .int i t
 | .str x,v=>∃t,v= .str x t
 |_,_=>False
def o9(h:Heap):D→Value→Prop
 | .int i,v=>∃t,v= .int i t
 | .tup fs,v=>∃a o n us,v= .ref a∧h.get? a=some o∧o.cls= .type "tuple"∧o.data= .seq (List.toArray us) n∧Paired FlV fs us
 |_,_=>False
theorem o9.keep{h h' :Heap}{d:D}{v:Value}(k:o9 h d v)(e:∀b o,h.get? b=some o→h'.get? b=some o):o9 h' d v:=by
 cases d with
 |int i=>exact k
 |tup fs=>obtain⟨a,o,n,us,h1,h2,h3⟩:=k;exact⟨a,o,n,us,h1,e _ _ h2,h3⟩
 |_=>exact k
theorem pY{α β:Type}{R S:α→β→Prop}(h:∀a b,R a b→S a b):∀{xs:List α} {ys:List β},Paired R xs ys→Paired S xs ys
 |_,_,.nil=> .nil
 |_,_,.cons p t=> .cons (h _ _ p) (pY h t)
theorem Hu{xs ys:List Nat}(h:xs.map Int.ofNat=ys.map Int.ofNat):xs=ys:=by
 induction xs generalizing ys with
 |nil=>cases ys with
  |nil=>rfl
  |cons=>simp at h
 |cons x xs ih=>cases ys with
  |nil=>simp at h
  |cons y ys=>
   simp only[Gau,List.cons.injEq] at h
   rw[ih h.2,Int.ofNat_inj.mp h.1]
theorem Hv{x y:Str}(h:x.cps.toList=y.cps.toList):x=y:=by
 cases x;cases y
 simp only at h
 rw[Gce.mp h]
theorem pB{a b:D}(ha:mM a=true)(hb:mM b=true)(h:b9 a=b9 b):a=b:=by
 cases a<;>cases b<;>simp[mM,tyD] at ha hb<;>simp[b9] at h
 ·rfl
 ·rw[h]
 ·have:=Hv (Hu h)
  rw[this]
theorem uh:∀{as bs:List D},as.all mM=true→bs.all mM=true→as.map b9=bs.map b9→as=bs
 |[],[],_,_,_=>rfl
 |[],_::_,_,_,h=>by simp at h
 |_::_,[],_,_,h=>by simp at h
 |a::as,b::bs,ha,hb,h=>by
  rw[Gbq,Gas] at ha hb
  simp only[Gau,List.cons.injEq] at h
  rw[pB ha.1 hb.1 h.1,uh ha.2 hb.2 h.2]
theorem K0{a:D}{t:Nat}(h:(tyD a==t)=true)(ht:t≠3):mM a=true:=by
 unfold mM
 rw[GcE] at h
 rw[h]
 simpa using ht
theorem mH{t:Nat}{d:D}(ht:t≠3)(h:mN t d=true):∃f r,d= .tup (f::r)∧tyD f=t∧(f::r).all mM=true:=by
 unfold mN at h
 split at h
 ·rename_i f r
  rw[Gas] at h
  refine⟨f,r,rfl,GcE.mp h.1, ?_⟩
  rw[Gbq,Gas]
  exact⟨K0 h.1 ht,h.2⟩
 ·cases h
theorem jY{d:D}(h:CP d=true):∃i,d= .int i:=by
 unfold CP at h
 split at h
 ·exact⟨_,rfl⟩
 ·cases h
theorem ER{ds:List D}(h:keysOk ds=true):∀a∈ds,∀b∈ds,code a=code b→a=b:=by
 intro a ha b hb e
 unfold keysOk at h
 rw[GaW,Gas,GaW] at h
 have tup:∀t,t≠3→ds.all (mN t)=true→a=b:=λt ht hk=>by
  obtain⟨f,r,rfl,_,q1⟩:=mH ht (Gat.mp hk a ha)
  obtain⟨f',r',rfl,_,q2⟩:=mH ht (Gat.mp hk b hb)
  rw[uh q1 q2 e]
 rcases h with h| ⟨h|h,_⟩
 ·obtain⟨i,rfl⟩:=jY (Gat.mp h a ha)
  obtain⟨j,rfl⟩:=jY (Gat.mp h b hb)
  simp[code,b9] at e
  rw[e]
 ·exact tup 1 (by decide) h
 ·exact tup 2 (by decide) h
theorem BR{i j:Int}:fR ltI (b9 (.int i)) (b9 (.int j))=decide (i<j):=by
 unfold b9
 simp only[fR,Gbs]
 by_cases e:i=j
 ·subst e;simp
 ·rw[Gah e];rfl
theorem BS:∀(xs ys:List Nat),fR ltI (xs.map Int.ofNat) (ys.map Int.ofNat)=decide (xs<ys)
 |[],[]=>by simp[fR]
 |[],y::ys=>by simp[fR]
 |x::xs,[]=>by simp[fR]
 |x::xs,y::ys=>by
  simp only[Gau,fR]
  by_cases e:x=y
  ·subst e
   rw[Gaf rfl,BS xs ys]
   simp[List.cons_lt_cons_iff]
  ·rw[Gah (λz:Int.ofNat x=Int.ofNat y=>e (Int.ofNat_inj.mp z))]
   have:(x::xs<y::ys)↔x<y:=by rw[List.cons_lt_cons_iff];simp[e]
   unfold ltI
   simp[this]
theorem Hw{x y:Str}:fR ltI (b9 (.str x)) (b9 (.str y))=decide (x.cps.toList<y.cps.toList):=by
 unfold b9
 simp only[fR,Gbs]
 exact BS _ _
section
variable{prog:Program}{w:World}{A:Around}{E:Value→Shared→Prop}{s:Shared}
theorem MB{a b:D}{u v:Value}{Q:Bool→Shared→Prop}(ha:FlV a u)(hb:FlV b v)(ht:tyD a=tyD b)(h:Q (decide (b9 a=b9 b)) s):wpAny (model prog w) A (eqBool u v) Q E s:=by
 cases a<;>cases b<;>simp[tyD] at ht<;>try exact ha.elim
 ·cases ha;cases hb
  unfold eqBool
  refine GcG ?_
  simp only[b9,decide_true] at h
  rw[Gaf (by rfl)]
  exact Gad (GbX (Gaq h))
 ·obtain⟨t,rfl⟩:=ha
  obtain⟨t',rfl⟩:=hb
  refine wpAny_eqBool_int ?_
  rename_i i j
  have e:decide (b9 (.int i)=b9 (.int j))=(i==j):=by
   simp only[b9]
   by_cases q:i=j
   ·subst q;simp
   ·simp[q]
  rw[e] at h;exact h
 ·obtain⟨t,rfl⟩:=ha
  obtain⟨t',rfl⟩:=hb
  refine eqBool_str ?_
  rename_i i j
  have e:decide (b9 (.str i)=b9 (.str j))=(i==j):=by
   by_cases q:i=j
   ·subst q;simp
   ·have:¬b9 (.str i)=b9 (.str j):=λz=>q (by
     have:=pB (a:= .str i) (b:= .str j) rfl rfl z
     cases this;rfl)
    simp[q,this]
  rw[e] at h;exact h
theorem MC{a b:D}{u v:Value}{one:Bool}{Q:Bool→Shared→Prop}(ha:FlV a u)(hb:FlV b v)(ht:tyD a=tyD b)(hk:tyD a=1∨tyD a=2)(h:Q (fR ltI (b9 a) (b9 b)) s):wpAny (model prog w) A (oneLt' one u v) Q E s:=by
 cases a<;>cases b<;>simp[tyD] at ht hk
 ·obtain⟨t,rfl⟩:=ha
  obtain⟨t',rfl⟩:=hb
  rw[BR] at h
  cases one with
  |true=>exact oneLt_int h
  |false=>exact kat_one _ _ (PyProof.Rows.lt_int h)
 ·obtain⟨t,rfl⟩:=ha
  obtain⟨t',rfl⟩:=hb
  rw[Hw] at h
  cases one with
  |true=>exact oneLt_str h
  |false=>exact kat_one _ _ (PyProof.Rows.lt_str h)
theorem ES{b fin:Bool}{Q:Bool→Shared→Prop}:∀{as bs:List D} {us vs:List Value} (i:Nat),Paired FlV as us→Paired FlV bs vs→mS as bs=true→fin=decide (as.length<bs.length)→Q (ltC (as.map b9) (bs.map b9)) s→KatLex prog w A b fin Q (us.zip vs) i s
 |[],[],_,_,i,.nil,.nil,_,hf,h=>by
  have h' :Q fin s:=by rw[hf];exact h
  exact h'
 |[],_::_,_,_,i,.nil,.cons _ _,_,hf,h=>by
  have h' :Q fin s:=by rw[hf,GaK (by simp)];exact h
  exact h'
 |_::_,[],_,_,i,.cons _ _,.nil,_,hf,h=>by
  have h' :Q fin s:=by rw[hf,GaL (by simp)];exact h
  exact h'
 |a::as,c::cs,_,_,i,.cons (b:=u) ha ta,.cons (b:=v) hb tb,hc,hf,h=>by
  unfold mS at hc
  have h0:ltC ((a::as).map b9) ((c::cs).map b9)=if b9 a=b9 c then ltC (as.map b9) (cs.map b9) else fR ltI (b9 a) (b9 c):=rfl
  rw[h0] at h
  have ht:tyD a=tyD c:=by
   split at hc
   ·rename_i e
    cases a<;>cases c<;>simp[b9] at e<;>first|rfl|exact ha.elim|exact hb.elim
   ·rw[Gas] at hc;exact GcE.mp hc.1
  show wpAny _ _ (eqBool u v) _ _ s
  refine MB ha hb ht ?_
  by_cases e:b9 a=b9 c
  ·rw[GaK e,Gaf rfl]
   rw[Gaf e] at h hc
   exact ES (i+1) ta tb hc (by rw[hf];simp) h
  ·rw[GaL e,Gah Gaz]
   rw[Gah e] at h hc
   rw[Gas,GaW] at hc
   exact MC ha hb ht (hc.2.imp GcE.mp GcE.mp) h
theorem ET{ds:List D}{vs:List Value}{κ:SortKind}(hK:Paired (o9 s.heap) ds vs)(hok:keysOk ds=true)(hκ:(ds.all CP=true∧κ=oneType')∨((ds.all (mN 1)||ds.all (mN 2))=true∧(ds.all λx=>ds.all λy=>w9 x y)=true∧κ=tuples' true)):
  ∀i j C,i<ds.length→j<ds.length→C (decide (rank (ds.map code) i<rank (ds.map code) j)) s→kas_ask prog w A κ vs i j C s:=by
 intro i j C hi hj h
 have hl:=hK.length
 rw[BD (by simpa using hi) (by simpa using hj)] at h
 simp only[GbR] at h
 unfold kas_ask
 have gi:vs.getD i Value.none=vs[i]:=by simp[←hl,hi]
 have gj:vs.getD j Value.none=vs[j]:=by simp[←hl,hj]
 rw[gi,gj]
 have at_:∀{ds:List D} {vs:List Value},Paired (o9 s.heap) ds vs→∀(i:Nat) (h1:i<ds.length) (h2:i<vs.length),o9 s.heap ds[i] vs[i]:=by
  intro ds vs hK
  induction hK with
  |nil=>intro i h1;simp at h1
  |cons h t ih=>
   intro i h1 h2
   cases i with
   |zero=>exact h
   |succ i=>exact ih i (by simpa using h1) (by simpa using h2)
 have ki:=at_ hK i hi (by omega)
 have kj:=at_ hK j hj (by omega)
 rcases hκ with⟨a1,rfl⟩| ⟨a1,a2,rfl⟩
 ·obtain⟨x,hx⟩:=jY (Gat.mp a1 ds[i] (GaA hi))
  obtain⟨y,hy⟩:=jY (Gat.mp a1 ds[j] (GaA hj))
  rw[hx] at ki h
  rw[hy] at kj h
  obtain⟨t,ei⟩:=ki
  obtain⟨t',ej⟩:=kj
  rw[ei,ej]
  refine kat_lt_int ?_
  have e:ltC (code (.int x)) (code (.int y))=decide (x<y):=by
   show fR (fR ltI) [b9 (.int x)] [b9 (.int y)]=_
   unfold fR
   split
   ·rename_i z
    have:=pB (a:= .int x) (b:= .int y) rfl rfl z
    cases this
    simp[fR]
   ·exact BR
  rw[e] at h;exact h
 ·have tup:∀d∈ds,∃fs,d= .tup fs:=λd hd=>by
   rw[GaW] at a1
   rcases a1 with a1|a1
   ·obtain⟨f,r,e,_⟩:=mH (by decide) (Gat.mp a1 d hd);exact⟨_,e⟩
   ·obtain⟨f,r,e,_⟩:=mH (by decide) (Gat.mp a1 d hd);exact⟨_,e⟩
  have cm:=Gat.mp (Gat.mp a2 ds[i] (GaA hi)) ds[j] (GaA hj)
  obtain⟨xs,hx⟩:=tup ds[i] (GaA hi)
  obtain⟨ys,hy⟩:=tup ds[j] (GaA hj)
  rw[hx] at ki h cm
  rw[hy] at kj h cm
  obtain⟨a,o,n,us,ei,h1,h2,h3,h4⟩:=ki
  obtain⟨a',o',n',us',ej,h1',h2',h3',h4'⟩:=kj
  rw[ei,ej]
  refine kat_lt h1 h3 h1' h3' ?_
  exact ES 0 h4 h4' cm (by rw[Gam,Gam,h4.length,h4'.length]) h
theorem pC{t:Nat}(ht:t≠3):∀{ds:List D} {vs:List Value},Paired (o9 s.heap) ds vs→ds.all (mN t)=true→∃fs:List Value,∃gs:List D,KatTups s.heap vs fs∧Paired FlV gs fs∧(∀g∈gs,tyD g=t)∧fs.length=vs.length
 |[],_,.nil,_=> ⟨[],[],trivial,.nil,(by intro g hg;cases hg),rfl⟩
 |d::ds,_,.cons h tl,hk=>by
  rw[Gbq,Gas] at hk
  obtain⟨fs,gs,h1,h2,h3,h4⟩:=pC ht tl hk.2
  obtain⟨f,r,rfl,q1,q2⟩:=mH ht hk.1
  obtain⟨a,o,n,us,rfl,g1,g2,g3,g4⟩:=h
  cases g4 with
  |cons p t=>
   refine⟨_::fs,f::gs,KatTups.cons g1 g2 g3 (by simp) h1,.cons p h2,λg hg=> ?_,by simp[h4]⟩
   rcases Gay.mp hg with e|e
   ·subst e;exact q1
   ·exact h3 g e
theorem BU{M:Model}{h:Heap}{d:D}{v:Value}{t:Nat}(hd:FlV d v)(ht:tyD d=t):(t=1→PySem.W.Looks M h (typeOf v) (.type "int"))∧(t=2→PySem.W.Looks M h (typeOf v) (.type "str")):=by
 subst ht
 cases d<;>simp[tyD]<;>try exact hd.elim
 ·obtain⟨u,rfl⟩:=hd
  exact PySem.W.Looks.of_pure rfl
 ·obtain⟨u,rfl⟩:=hd
  exact PySem.W.Looks.of_pure rfl
theorem D0{ds:List D}{vs:List Value}{Q:SortKind→Shared→Prop}(hK:Paired (o9 s.heap) ds vs)(hok:keysOk ds=true)(h2:2≤ds.length)
  (h:∀κ,((ds.all CP=true∧κ=oneType')∨((ds.all (mN 1)||ds.all (mN 2))=true∧(ds.all λx=>ds.all λy=>w9 x y)=true∧κ=tuples' true))→Q κ s):wpAny (model prog w) A (keyKind' vs.toArray) Q E s:=by
 have hl:=hK.length
 unfold keysOk at hok
 rw[GaW,Gas] at hok
 rcases hok with hok| ⟨hok,hc⟩
 ·have ia:∀{ds:List D} {vs:List Value},Paired (o9 s.heap) ds vs→ds.all CP=true→∃ns,IntsAre vs ns:=by
   intro ds vs hK
   induction hK with
   |nil=>intro _;exact⟨[],.nil⟩
   |cons p t ih=>
    intro hk
    rw[Gbq,Gas] at hk
    obtain⟨ns,q⟩:=ih hk.2
    obtain⟨i,rfl⟩:=jY hk.1
    obtain⟨u,rfl⟩:=p
    exact⟨i::ns,.cons i u q⟩
  obtain⟨ns,q⟩:=ia hK hok
  match vs,hl,q with
  |[],e,_=>rw[Gcn] at e;omega
  |[_],e,_=>rw[List.length_singleton] at e;omega
  |v1::v2::vr,_,q=>
   rw[keyKind_ints q]
   exact Gaq (h _ (.inl ⟨hok,rfl⟩))
 ·have hok' :=hok
  rw[GaW] at hok'
  rcases hok' with a1|a1
  ·obtain⟨fs,gs,q1,q2,q3,q4⟩:=pC (s:=s) (by decide) hK a1
   refine kat_kind (T:= .type "int") q1 (by rw[q4,←hl];omega) (λv hv=> ?_) (by rfl) (h _ (.inr ⟨hok,hc,rfl⟩))
   obtain⟨g,hg,hgv⟩:∃g∈gs,FlV g v:=by
    clear q1 q3 q4
    induction q2 with
    |nil=>cases hv
    |cons p t ih=>
     rcases Gay.mp hv with e|e
     ·subst e;exact⟨_,Gan,p⟩
     ·obtain⟨g,h1,h2⟩:=ih e;exact⟨g,Gag _ h1,h2⟩
   exact(BU hgv (q3 g hg)).1 rfl
  ·obtain⟨fs,gs,q1,q2,q3,q4⟩:=pC (s:=s) (by decide) hK a1
   refine kat_kind (T:= .type "str") q1 (by rw[q4,←hl];omega) (λv hv=> ?_) (by rfl) (h _ (.inr ⟨hok,hc,rfl⟩))
   obtain⟨g,hg,hgv⟩:∃g∈gs,FlV g v:=by
    clear q1 q3 q4
    induction q2 with
    |nil=>cases hv
    |cons p t ih=>
     rcases Gay.mp hv with e|e
     ·subst e;exact⟨_,Gan,p⟩
     ·obtain⟨g,h1,h2⟩:=ih e;exact⟨g,Gag _ h1,h2⟩
   exact(BU hgv (q3 g hg)).2 rfl
theorem EU(vs:List Value):(vs.toArray.zip vs.toArray).map (·.2)=vs.toArray:=by
 apply Gce.mp
 rw[Array.toList_map,Array.toList_zip]
 exact List.map_snd_zip (Gap _)
theorem AU{a:Addr}{vs:List Value}{n:Nat}{P:PySem.Fin→Shared→Prop}{Ok:Array Value→Prop}(ho:s.heap.get? a=some (seqObj "list" vs.toArray n))(sz:vs.length≤sizeLine)(one:vs.length<2→Ok vs.toArray)(len:∀out,Ok out→out.size=vs.length)
  (big:∀G:Heap,(∀b o,b≠a→s.heap.get? b=some o→G.get? b=some o)→2≤vs.length→wpAny (model prog w) A (keyKind' vs.toArray) (λκ s1=>wpAny (model prog w) A (sortRuns'.run (SortSt.mk' κ (vs.toArray.zip vs.toArray) #[] 7 none)) (λr s2=>s2={s with heap:=G}∧failedOf r.2=none∧Ok ((arrOf r.2).map (·.2))) E s1) E {s with heap:=G})
  (h:∀out,Ok out→P (.done (.ret .none)) {s with heap:=sortedHeap s.heap a vs out}):wpAny (model prog w) A (Builtin.«list.sort» ⟨[.ref a],[]⟩) P E s:=by
 have⟨ep,e1⟩:∃ep,(s.heap.update a (Obj.mapSeq λ_=>(#[]:Array Value))).get? a=some (seqObj "list" #[] ep):=⟨_,get?_update_seq ho _⟩
 rw[list_sort_plain]
 refine Gad (listItems_at ho rfl (Gad (listUpdate_at ho rfl (Gad (seqEpoch_at e1 rfl (Gad (wpAny_newTuple (Gad (wpAny_newList (GcG ?_) (GbE _))) sz)))) (by simpa using sz) (GbE _))))
 have e2:=Gaj (seqObj "list" #[] 0) (Gaj (seqObj "tuple" vs.toArray 0) e1)
 have last:∀st:SortSt,failedOf st=none→Ok ((arrOf st).map (·.2))→wpAny (model prog w) A (do
   let touched:=(←seqEpoch a) !=ep
   Builtin.List.listUpdate (.ref a) λ_=>(arrOf st).map (·.2)
   if let some e:=failedOf st then rule "list.sort.comparison-raised";throw e
   if touched then rule "list.sort.modified";raiseError "ValueError" "list modified during sort"
   ret .none) P E {s with heap:=((s.heap.update a (Obj.mapSeq λ_=>(#[]:Array Value))).push (seqObj "tuple" vs.toArray 0)).push (seqObj "list" #[] 0)}:=λst f ok=>by
  refine Gad (seqEpoch_at e2 rfl (Gad (listUpdate_at e2 rfl ?_ (GbE _) (by rw[len _ ok];omega))))
  rw[f]
  wp_walk
  exact h _ ok
 by_cases c:vs.length<2
 ·have c' :vs.toArray.size<2:=by simpa using c
  rw[Gaf c',Gaf c']
  refine Gad (Gaq (Gad (Gaq (last (SortSt.mk' general' (vs.toArray.zip vs.toArray) #[] 7 none) rfl ?_))))
  show Ok ((vs.toArray.zip vs.toArray).map (·.2))
  rw[EU]
  exact one c
 ·have c' :¬vs.toArray.size<2:=by simpa using c
  rw[Gah c',Gah c']
  refine Gad (on (big _ (λb o n q=>Gaj _ (Gaj _ ((GbD _ _ (GaX n)).trans q))) (by omega)) λκ s1 q=>Gad (on q ?_))
  rintro⟨⟨⟩,st⟩ s2 ⟨rfl,f,ok⟩
  exact last st f ok
def kB(cs:List (List (List Int)))(vs:List Value)(out:Array Value):Prop:=∃p:Array Nat,Ord vs.length p∧Up (rank cs) p vs.length∧out=List.toArray (p.toList.map λi=>vs.getD i Value.none)
theorem kB.len{cs:List (List (List Int))}{vs:List Value}{out:Array Value}(x:kB cs vs out):out.size=vs.length:=by
 obtain⟨p,h1,_,rfl⟩:=x
 rw[Gam,Gae,GbO,h1.size]
theorem kB.one{cs:List (List (List Int))}{vs:List Value}(c:vs.length<2):kB cs vs vs.toArray:=by
 refine⟨List.toArray (List.range vs.length),List.Perm.refl _,λu v q r=> ?_, ?_⟩
 ·rw[show u=v by omega];exact GbF _
 ·rcases vs with _| ⟨x,_| ⟨y,t⟩⟩
  ·rfl
  ·rfl
  ·exact absurd c (by simp)
def uY(prog:Program)(w:World)(A:Around)(E:Value→Shared→Prop)(s:Shared)(cs:List (List (List Int)))(vs:List Value):Prop:=
 2≤vs.length→∀Q:SortKind→Shared→Prop,(∀κ,(∀i j C,i<vs.length→j<vs.length→C (decide (rank cs i<rank cs j)) s→kas_ask prog w A κ vs i j C s)→Q κ s)→wpAny (model prog w) A (keyKind' vs.toArray) Q E s
theorem wG{l:Addr}{o:Obj}{vs:List Value}{n:Nat}{T:String}{Q:List Value→Shared→Prop}(ho:s.heap.get? l=some o)(hc:o.cls= .type T)(hT:T="list"∨T="tuple")(hd:o.data= .seq vs.toArray n)
  (h:Q vs {s with heap:=(s.heap.push (seqObj "list" #[] 0)).update s.heap.objs.size (Obj.mapSeq (· ++vs.toArray))})(hsz:vs.length≤sizeLine):wpAny (model prog w) A (collect (.ref l)) Q E s:=by
 have e0:(s.heap.push (seqObj "list" #[] 0)).get? s.heap.objs.size=some (seqObj "list" #[] 0):=GaC _ rfl
 have el:=Gaj (seqObj "list" #[] 0) ho
 have up:(#[]++vs.toArray:Array Value)=vs.toArray:=by simp
 have ek:((s.heap.push (seqObj "list" #[] 0)).update s.heap.objs.size (Obj.mapSeq (· ++vs.toArray))).get? s.heap.objs.size=some (seqObj "list" (#[]++vs.toArray) _):=get?_update_seq e0 _
 rw[up] at ek
 refine gather λR r=> ?_
 have c:(Builtin.List.listSameRef (.ref s.heap.objs.size) (.ref l)||Value.type T== .type "list"||Value.type T== .type "tuple")=true:=by rcases hT with rfl|rfl<;>rw[GaW,GaW]<;>simp
 exact Gad (wpAny_typeOf ⟨o,el,hc⟩ (wpAny_ite_true (by rw[c];rfl) (Gad (listItems_at el hd (Gad (listItems_at e0 rfl (wpAny_ite_false (by simp) (Gad (listUpdate_at e0 rfl (Gaq (r _ vs.toArray _ ek h)) (GbE _) (by rw[up,Gam];omega))))))))))
end
section
variable{X:Cx}
theorem MD{K:aD}{F:Addr→Prop}{H:Hp}{d:D}{v:V}{u:Value}(r:Rep K F H d v)(hf:mM d=true)(ru:RelV v u):FlV d u:=by
 cases r<;>simp[mM,tyD] at hf
 ·cases ru;rfl
 ·exact ru
 ·exact ru
theorem EV{K:aD}{F:Addr→Prop}{H:Hp}:∀{ds:List D} {vs:List V} {us:List Value},aY K F H ds vs→ds.all mM=true→Vals vs us→Paired FlV ds us
 |[],vs,us,r,_,ru=>by
  have:=r.cU
  subst this
  cases ru
  exact .nil
 |d::ds,vs,us,r,hf,ru=>by
  obtain⟨v,w,rfl,h1,h2⟩:=r.cons_inv
  rw[Gbq,Gas] at hf
  cases ru with
  |cons r1 r2=>exact .cons (MD h1 hf.1 r1) (EV h2 hf.2 r2)
noncomputable def isKey(d:D):Bool:=match d with
 | .int _=>true
 | .tup fs=>fs.all mM
 |_=>false
theorem lE{pins:List (Addr×Obj)}{σ:St}{F:Addr→Prop}{H:Hp}{s:Shared}{d:D}{v:V}{u:Value}(I:Inv X pins σ H s)(r:Rep X.K F H d v)(hk:isKey d=true)(ru:RelV v u):o9 s.heap d u:=by
 cases r<;>simp[isKey] at hk
 ·exact ru
 ·rename_i a vs fs h l r
  cases ru
  obtain⟨its,rv,⟨o,h1,h2,n,h3⟩,_⟩:=I.tuple (SqT.of h)
  exact⟨a,o,n,its,rfl,h1,h2,h3,EV ⟨l,r⟩ (Gat.mpr hk) rv⟩
theorem BV{pins:List (Addr×Obj)}{σ:St}{F:Addr→Prop}{H:Hp}{s:Shared}(I:Inv X pins σ H s):∀{ds:List D} {vs:List V} {us:List Value},aY X.K F H ds vs→ds.all isKey=true→Vals vs us→Paired (o9 s.heap) ds us
 |[],vs,us,r,_,ru=>by
  have:=r.cU
  subst this
  cases ru
  exact .nil
 |d::ds,vs,us,r,hf,ru=>by
  obtain⟨v,w,rfl,h1,h2⟩:=r.cons_inv
  rw[Gbq,Gas] at hf
  cases ru with
  |cons r1 r2=>exact .cons (lE I h1 hf.1 r1) (BV I h2 hf.2 r2)
theorem EW{ds:List D}(h:keysOk ds=true):ds.all isKey=true:=by
 unfold keysOk at h
 rw[GaW,Gas,GaW] at h
 refine Gat.mpr λd hd=> ?_
 have tup:∀t,t≠3→ds.all (mN t)=true→isKey d=true:=λt ht hk=>by
  obtain⟨f,r,rfl,_,q1⟩:=mH ht (Gat.mp hk d hd)
  exact q1
 rcases h with h| ⟨h|h,_⟩
 ·obtain⟨i,rfl⟩:=jY (Gat.mp h d hd);rfl
 ·exact tup 1 (by decide) h
 ·exact tup 2 (by decide) h
theorem range_getD{α:Type}{xs:List α}{d:α}:(List.range xs.length).map (λi=>xs.getD i d)=xs:=by
 apply List.ext_getElem
 ·simp
 ·intro i h1 h2
  simp[h2]
theorem rH{α:Type}{xs:List α}{d:α}{p:Array Nat}(h:Ord xs.length p):(p.toList.map λi=>xs.getD i d).Perm xs:=by
 have:=Gdd (λi=>xs.getD i d) h
 rw[range_getD] at this
 exact this
theorem EX{n:Nat}{p:Array Nat}(h:Ord n p){i:Nat}(hi:i<p.toList.length):p.toList[i]<n:=Gbr.mp (h.mem_iff.mp (GaA hi))
theorem AV{ds:List D}{p:Array Nat}(h:Ord ds.length p)(hu:Up (rank (ds.map code)) p ds.length):fF (p.toList.map λi=>ds.getD i .non):=by
 refine GbY.mpr λi j hi hj hij=> ?_
 rw[Gae] at hi hj
 rw[GbR,GbR]
 have bi:=EX h hi
 have bj:=EX h hj
 have hs:=h.size
 have hi' :i<p.size:=by simpa using hi
 have hj' :j<p.size:=by simpa using hj
 have u:=hu i j (Gdk hij) (by omega)
 unfold uX at u
 have ei:p.getD i 0=p.toList[i]:=by simp[Array.getD,hi']
 have ej:p.getD j 0=p.toList[j]:=by simp[Array.getD,hj']
 rw[ei,ej] at u
 have r:=BD (cs:=ds.map code) (i:=p.toList[j]) (j:=p.toList[i]) (by simpa using bj) (by simpa using bi)
 rw[GaL (Int.not_lt.mpr u)] at r
 simp only[GbR] at r
 have gd:∀{k:Nat} (hk:k<ds.length),ds.getD k .non=ds[k]:=λ{k} hk=>by simp[hk]
 have gi:=gd bi
 have gj:=gd bj
 rw[gi,gj]
 exact r.symm
theorem EY{K:aD}{F:Addr→Prop}{H:Hp}{ds:List D}{vs:List V}{p:Array Nat}(h:Ord ds.length p)(r:aY K F H ds vs):aY K F H (p.toList.map λi=>ds.getD i .non) (p.toList.map λi=>vs.getD i .non):=by
 refine⟨by simp,λi d v e1 e2=> ?_⟩
 rw[Gal] at e1 e2
 cases q:p.toList[i]? with
 |none=>rw[q] at e1;cases e1
 |some k=>
  rw[q] at e1 e2
  have hk:k<ds.length:=Gbr.mp (h.mem_iff.mp (GaF q))
  have hk2:k<vs.length:=by rw[←r.1];exact hk
  cases e1;cases e2
  exact r.2 k _ _ (by simp[hk]) (by simp[hk2])
theorem EZ{vs:List V}{us:List Value}{p:Array Nat}(h:Ord vs.length p)(r:Vals vs us):Vals (p.toList.map λi=>vs.getD i .non) (p.toList.map λi=>us.getD i Value.none):=by
 have hl:=r.length
 have all:∀(l:List Nat),(∀i∈l,i<vs.length)→Vals (l.map λi=>vs.getD i .non) (l.map λi=>us.getD i Value.none):=by
  intro l
  induction l with
  |nil=>intro _;exact .nil
  |cons i l ih=>
   intro hm
   have hi:=hm i Gan
   obtain⟨u,hu,ru⟩:=r.get (x:=vs[i]) (i:=i) (by simp[hi])
   refine .cons ?_ (ih λj hj=>hm j (Gag _ hj))
   have e1:vs.getD i .non=vs[i]:=by simp[hi]
   have e2:us.getD i Value.none=u:=by simp[hu]
   show RelV (vs.getD i .non) (us.getD i Value.none)
   rw[e1,e2];exact ru
 exact all _ λi hi=>Gbr.mp (h.mem_iff.mp hi)
end
open PySem PySem.Spec PyProof.Rows L2
section
variable{X:Cx}{e a b c:Expr}{f g h:DE}{pos:Pos}
theorem _root_.L2.Inv.rJ{pins:List (Addr×Obj)}{σ:St}{H:Hp}{s s' :Shared}{ch:List Addr}{T:Addr}{o:HO}(I:Inv X pins σ H s)(hf:∀b∈ch,nD X pins H b)(hos:s'.os=s.os)(hg:s'.gens=s.gens)
  (k:∀b u,b∉ch→s.heap.get? b=some u→s'.heap.get? b=some u)(hT:s.heap.objs.size≤T)(new:cC X.prog X.w (upd H T o) s'.heap T o):Inv X pins σ (upd H T o) s' :=by
 have hn:H T=none:=I.hok.fresh hT
 have ne:∀{b u},H b=some u→b≠T:=λ{b u} q=>dP q hn
 refine I.IF (ch:=ch) hos ⟨λb ob q _ _ hx=>k b ob hx q,λb ob q _ _ hx=> ⟨ob.slots,k b ob hx q⟩,λb ob q n _=> ?_,λb ob q hx=> ⟨ob,k b ob hx q⟩,λb xs q=> ?_,λb ob u q=> ?_,λb ps q=> ⟨#[], ?_⟩⟩ ?_ (by rw[hg];exact I.bare) λb hb=> ⟨(hf b hb).2.2.2.1,(hf b hb).2.1,(hf b hb).2.2.2.2.1,(hf b hb).2.2.2.2.2⟩
 ·rw[az (GaO (GaP (Gax q) hT))];exact n
 ·rw[az (ne q)];exact q
 ·rw[az (ne q)];exact q
 ·rw[az (ne q),q];simp
 ·intro b u q
  by_cases hb:b=T
  ·subst hb;rw[aN] at q;cases q;exact new
  ·rw[az hb] at q
   have tr:∀{c v},H c=some v→c∉ch:=λ{c v} z hc=>by rw[(hf c hc).1] at z;cases z
   refine(I.hok b u q).dN (λc v hc z=>k c v ?_ z) (λc z=>by rw[az (ne z)];exact z) λc xs z=>by rw[az (ne z)];exact z
   rcases hc with hc|hc
   ·rw[hc];exact tr q
   ·exact tr hc
noncomputable def Ite(K:aD)(l:Addr):It:=
 ⟨λi H=>∃xs x,SqL K H l xs∧xs[i]? =some x,λi H x H' =>∃p y,H p=none∧x= .ref p∧H' =upd H p (.tup [.int i,y])∧∀xs,SqL K H l xs→xs[i]? =some y,λi H=>∃xs,SqL K H l xs∧xs.length≤i⟩
theorem D1{P:Program}{w:World}{K:aD}{elts:List Expr}{x1}{tp:Pos}(en it l:Addr)(hne:en≠it):Turn P w K (.Tuple elts x1 tp) (Ite K l) [en,it] en (λi h=>(∃old,IsEnum h en it i old)∧h.IsListIter it l i) where
 mem:=by simp
 obj:=λi h st b hb=>by
  obtain⟨⟨old,he⟩,o,e,c,d⟩:=st
  rcases Gay.mp hb with z|z
  ·subst z
   exact⟨_,he,λv z=>by
    have z' :Data.fields _=Data.cell v:=z
    cases z'⟩
  ·have z' :b=it:=by simpa using z
   subst z'
   exact⟨o,e,λv z=>by rw[d] at z;cases z⟩
 keep:=λi h h' st k=> ⟨let⟨old,he⟩:=st.1;⟨old,k en (by simp) _ he⟩,st.2.at λo e=>k it (by simp) o e⟩
 item:=by
  intro X hP hw hK hc i pins s σ H E I hf st hg
  subst hP hw hK
  obtain⟨⟨old,he⟩,hit⟩:=st
  obtain⟨xs,x,hq,hx⟩:=hg
  obtain⟨its,rv,p,hz⟩:=I.list hq
  obtain⟨u,hu,ru⟩:=rv.get hx
  refine wpAny_pyNext_enum_item he hit p.isList (x:=u) (by simpa using hu) hne λh' ho hit' hT hsz kk=> ⟨_,rfl, ?_⟩
  refine wpAny_letOwnedTupleGo_enum (s:={s with heap:=h',toks:=s.toks+1}) ho λh2 he2 sb=> ?_
  have hltE:en<s.heap.objs.size:=Gax he
  have kept:∀b o,b∉[en,it]→s.heap.get? b=some o→h2.get? b=some o:=λb o hb e=>by
   have b1:b≠en:=λz=>hb (by simp[z])
   have b2:b≠it:=λz=>hb (by simp[z])
   exact(sb.2 b b1).trans (kk b o b1 b2 e)
  have hT2:h2.get? s.heap.objs.size=some {cls:= .type "tuple",data:= .seq #[.int i s.toks,u]}:=(sb.2 _ (GcL hltE)).trans hT
  have I1:Inv X pins σ (upd H s.heap.objs.size (.tup [.int i,x])) {s with heap:=h2,toks:=s.toks+1}:=I.rJ (ch:=[en,it]) hf rfl rfl kept (Gap _) (by
   refine⟨by simp[Gbz],[.int i s.toks,u],.cons ⟨_,rfl⟩ (.cons ru .nil),_,hT2,rfl,0,rfl⟩)
  refine⟨.ref s.heap.objs.size,_,I1,rfl,⟨_,x,I.fresh,rfl,rfl,λys hy=>by rw[I.vQ hy hq];exact hx⟩,⟨⟨u,by simpa using he2⟩,hit'.at λo e=>(sb.2 it (GaX hne)).trans e⟩,λb hb=> ?_⟩
  obtain⟨o,ob,_⟩:∃o,s.heap.get? b=some o∧True:=by
   rcases Gay.mp hb with z|z
   ·subst z;exact⟨_,he,trivial⟩
   ·have z' :b=it:=by simpa using z
    subst z'
    obtain⟨o,e,_⟩:=hit
    exact⟨o,e,trivial⟩
  rw[az (GaO (Gax ob))]
  exact(hf b hb).1
 done:=by
  intro X hP hw hK hc i pins s σ H E I hf st hg
  subst hP hw hK
  obtain⟨⟨old,he⟩,hit⟩:=st
  obtain⟨xs,hq,hx⟩:=hg
  obtain⟨its,rv,p,hz⟩:=I.list hq
  obtain⟨f0,f1,f2,f3,f4,f5⟩:=hf it (by simp)
  have hl:=rv.length
  exact wpAny_pyNext_enum_end (I.ok.hd hc) he hit p.isList (by simp;omega) λh' eb=> ⟨rfl,I.turned (t' :=s.toks) (λb o hb e=>eb b o hb e) f0 f1 f3 f4 f5⟩
 self:=λ_ _ _ _ _ st h=>let⟨old,he⟩:=st.1;GcY he h
theorem rK{prog:Program}{w:World}{A:Around}{E:Value→Shared→Prop}{z:Shared}{it t:Addr}{i:Nat}{its:Array Value}{Q:Value→Shared→Prop}(hh:A.handled=none)(hit:z.heap.IsTupleIter it t i)(ht:z.heap.IsTuple t its)
  (hQ:∀x h',its[i]? =some x→h'.IsTupleIter it t (i+1)→Heap.SameBut it z.heap h' →Q x {z with heap:=h' })
  (hE:∀h' e,its[i]? =none→Heap.ExtBut it z.heap h' →(∃o,h'.get? e=some o∧o.cls= .type "StopIteration")→E (.ref e) {z with heap:=h' }):wpAny (model prog w) A (Builtin.SmallTypes.nextOf (.ref it)) Q E z:=by
 have f:FO z.heap it _ _:=hit
 obtain⟨ol,hol,_,nl,hdl⟩:=ht
 wp_walk using Gci f.ty F.slot_tuple_iterator_next,GbQ F.slot_tuple_iterator_next f.ty F.entry_tuple_iterator_next (ha:=F.args_tuple_iterator_next_1 _),kA (i:=0) (x:= .ref t) f rfl,kA (i:=1) (x:= .int i 0) f rfl,wpAny_seqItems hol hdl
 rw[show its[(i:Int).toNat]? =its[i]? by simp]
 cases h:its[i]? with
 |some x=>
  wp_walk using jO f
  ·exactλh' k=>Gaq ⟨_,rfl,Gaq (hQ x h' h k.1 k.2)⟩
  ·show _<2;decide
 |none=>
  wp_walk using jO f
  ·exactλh1 k=>IV hh λh' a q=>hE h' a h (λb o n e=>q.1 b o (k.2.extBut b o n e)) q.2
  ·show _<2;decide
theorem D2{prog:Program}{w:World}{A:Around}(hh:A.handled=none)(it l:Addr)(hne:l≠it)(its:Array Value):Draws prog w A it [it,l] its.size (λi v=>its[i]? =some v) (λi h=>h.IsTupleIter it l i∧h.IsTuple l its) where
 live:=λ_ _ st=>let⟨o,ho,_⟩:=st.1;⟨o,ho⟩
 frame:=λ_ _ _ st hk=> ⟨st.1.at λo e=>hk it (by simp) o e,let⟨o,ho,r⟩:=st.2;⟨o,hk l (by simp) _ ho,r⟩⟩
 item:=λi z Q E hi st hQ=>rK hh st.1 st.2 (λx h' hx hit' hs' =>hQ x h' z.toks hx ⟨hit',let⟨o,ho,r⟩:=st.2;⟨o,hs'.extBut _ _ hne ho,r⟩⟩ hs') λ_ _ q=>absurd hi (by simpa using q)
 done:=λz Q E st hE=>rK hh st.1 st.2 (λ_ _ q=>absurd (GcI.mp q).1 (Gby _)) λh' e _=>hE h' e
noncomputable def ME(K:aD)(l:Addr):It:=
 ⟨λi H=>∃xs x,SqT K H l xs∧xs[i]? =some x,λi H x H' =>∃p y,H p=none∧x= .ref p∧H' =upd H p (.tup [.int i,y])∧∀xs,SqT K H l xs→xs[i]? =some y,λi H=>∃xs,SqT K H l xs∧xs.length≤i⟩
theorem AW{P:Program}{w:World}{K:aD}{elts:List Expr}{x1}{tp:Pos}(en it l:Addr)(hne:en≠it)(hle:l≠en)(hli:l≠it):Turn P w K (.Tuple elts x1 tp) (ME K l) [en,it] en (λi h=>(∃old,IsEnum h en it i old)∧h.IsTupleIter it l i) where
 mem:=by simp
 obj:=λi h st b hb=>by
  obtain⟨⟨old,he⟩,o,e,c,d⟩:=st
  rcases Gay.mp hb with z|z
  ·subst z
   exact⟨_,he,λv z=>by
    have z' :Data.fields _=Data.cell v:=z
    cases z'⟩
  ·have z' :b=it:=by simpa using z
   subst z'
   exact⟨o,e,λv z=>by rw[d] at z;cases z⟩
 keep:=λi h h' st k=> ⟨let⟨old,he⟩:=st.1;⟨old,k en (by simp) _ he⟩,st.2.at λo e=>k it (by simp) o e⟩
 item:=by
  intro X hP hw hK hc i pins s σ H E I hf st hg
  subst hP hw hK
  obtain⟨⟨old,he⟩,hit⟩:=st
  obtain⟨xs,x,hq,hx⟩:=hg
  obtain⟨its,rv,p,hz⟩:=I.tuple hq
  obtain⟨u,hu,ru⟩:=rv.get hx
  have hi:i<its.toArray.size:=by
   have:=(Gac.mp hu).1
   simpa using this
  refine wpAny_pyNext_enum_itemD (D2 (A:=X.A.in1) (I.ok.hd hc) it l hli its.toArray) he ⟨hit,p⟩ hi hne (by simp[hne,GaX hle]) λu' h' tk hu' ho hit' hT hsz kk=> ⟨_,rfl, ?_⟩
  have hit1:=hit'.1
  have eu:u' =u:=by
   have hu2:its.toArray[i]? =some u:=by simpa using hu
   rw[hu2] at hu';cases hu';rfl
  subst eu
  refine wpAny_letOwnedTupleGo_enum (s:={s with heap:=h',toks:=tk+1}) ho λh2 he2 sb=> ?_
  have hltE:en<s.heap.objs.size:=Gax he
  have kept:∀b o,b∉[en,it]→s.heap.get? b=some o→h2.get? b=some o:=λb o hb e=>by
   have b1:b≠en:=λz=>hb (by simp[z])
   have b2:b≠it:=λz=>hb (by simp[z])
   exact(sb.2 b b1).trans (kk b o b1 b2 e)
  have hT2:h2.get? s.heap.objs.size=some {cls:= .type "tuple",data:= .seq #[.int i tk,u']}:=(sb.2 _ (GcL hltE)).trans hT
  have I1:Inv X pins σ (upd H s.heap.objs.size (.tup [.int i,x])) {s with heap:=h2,toks:=tk+1}:=I.rJ (ch:=[en,it]) hf rfl rfl kept (Gap _) (by
   refine⟨by simp[Gbz],[.int i tk,u'],.cons ⟨_,rfl⟩ (.cons ru .nil),_,hT2,rfl,0,rfl⟩)
  refine⟨.ref s.heap.objs.size,_,I1,rfl,⟨_,x,I.fresh,rfl,rfl,λys hy=>by rw[I.tN hy hq];exact hx⟩,⟨⟨u',by simpa using he2⟩,hit1.at λo e=>(sb.2 it (GaX hne)).trans e⟩,λb hb=> ?_⟩
  obtain⟨o,ob,_⟩:∃o,s.heap.get? b=some o∧True:=by
   rcases Gay.mp hb with z|z
   ·subst z;exact⟨_,he,trivial⟩
   ·have z' :b=it:=by simpa using z
    subst z'
    obtain⟨o,e,_⟩:=hit
    exact⟨o,e,trivial⟩
  rw[az (GaO (Gax ob))]
  exact(hf b hb).1
 done:=by
  intro X hP hw hK hc i pins s σ H E I hf st hg
  subst hP hw hK
  obtain⟨⟨old,he⟩,hit⟩:=st
  obtain⟨xs,hq,hx⟩:=hg
  obtain⟨its,rv,p,hz⟩:=I.tuple hq
  obtain⟨f0,f1,f2,f3,f4,f5⟩:=hf it (by simp)
  have hl:=rv.length
  have fe:FO s.heap en "enumerate" _:=⟨_,he,rfl,rfl⟩
  have pt:s.heap.IsTuple l its.toArray:=p
  wp_walk using Gci fe.ty F.slot_enumerate_next,GbQ F.slot_enumerate_next fe.ty F.entry_enumerate_next (ha:=F.args_enumerate_next_1 _),kA (i:=2) (x:= .ref it) fe rfl,rK (A:=X.A.in1) (I.ok.hd hc) hit pt
  ·exactλx h' q=>absurd (GcI.mp q).1 (by simp;omega)
  ·exactλh' e _ eb q=>Gad (BQ q (Gaq ⟨rfl,I.turned (t' :=s.toks) (λb o hb e=>eb b o hb e) f0 f1 f3 f4 f5⟩))
 self:=λ_ _ _ _ _ st h=>let⟨old,he⟩:=st.1;GcY he h
theorem F4{prog:Program}{w:World}{A:Around}{E:Value→Shared→Prop}{z:Shared}{b:Bool}{Q:Bool→Shared→Prop}(h:∀b,Q b z):wpAny (model prog w) A (pure b) Q E z:=Gaq (h b)
theorem wH(l:Addr)(items:Array Value):
  Meets (Builtin.«enumerate.__new__» ⟨[.type "enumerate",.ref l],[]⟩) (λ_ R s=>s.heap.IsTuple l items∧
   R (.ok (.ret (.ref (s.heap.objs.size+1)))) {s with heap:=(s.heap.push {cls:= .type "tuple_iterator",data:= .fields #[.ref l,.int 0 0]}).push {cls:= .type "enumerate",data:= .fields #[.none,.bool false,.ref s.heap.objs.size,rawInt 0,.none,.none]}}):=by
 apply Meets.of_wp
 rintro prog w A R s ⟨hl,h⟩
 have sub:=sub_enumerate
 wp_walk using GcO hl,wpAny_stack_any
 intro st
 refine F4 λshort=> ?_
 have sz:(s.heap.push {cls:= .type "tuple_iterator",data:= .fields #[.ref l,.int 0 0]}).objs.size=s.heap.objs.size+1:=GcR ..
 rw[←sz] at h
 cases short<;>wp_walk using GcO hl<;>exact⟨_,rfl,h⟩
theorem AX{prog:Program}{w:World}{A:Around}{E:Value→Shared→Prop}{z:Shared}{l:Addr}{items:Array Value}{Q:Value→Shared→Prop}(hL:z.heap.IsTuple l items)
  (h:∀h',IsEnum h' (z.heap.objs.size+1) z.heap.objs.size 0 .none→h'.IsTupleIter z.heap.objs.size l 0→(∀b o,z.heap.get? b=some o→h'.get? b=some o)→Q (.ref (z.heap.objs.size+1)) {z with heap:=h' }):
  wpAny (model prog w) A (call (.type "enumerate") [.ref l]) Q E z:=by
 have sz:(z.heap.push {cls:= .type "tuple_iterator",data:= .fields #[.ref l,.int 0 0]}).objs.size=z.heap.objs.size+1:=GcR ..
 have en:IsEnum ((z.heap.push {cls:= .type "tuple_iterator",data:= .fields #[.ref l,.int 0 0]}).push {cls:= .type "enumerate",data:= .fields #[.none,.bool false,.ref z.heap.objs.size,rawInt 0,.none,.none]}) (z.heap.objs.size+1) z.heap.objs.size 0 .none:=sz▸GaC _ rfl
 exact callType_new F.called_enumerate (by decide) (F.typeCall_enumerate_1 _) (F.newCall_enumerate_1 _) (λ_=>F.args_object_init_2 _ _) F.entry_enumerate_new (wH l items) ⟨hL,⟨_,en,rfl⟩,h _ en ⟨_,Gaj _ (GaC _ rfl),rfl,rfl⟩ λb o q=>Gaj _ (Gaj _ q)⟩
noncomputable def MF(K:aD)(tl:TA):TI:=λσ H R=>tl σ H λvs H1=>∃l,vs=[.ref l]∧(((∃xs,SqL K H1 l xs)∧R (Ite K l) H1)∨((∃xs,SqT K H1 l xs)∧R (ME K l) H1))
theorem Hx{elts:List Expr}{x1}{tp p:Pos}{ta:TA}(hg:Gl X "enumerate")(hm:X.mg "enumerate"=none)(ha:PA X [a] ta)(hs:starEach [a] X.env=[(false,eval a X.env)]:=by rfl):PI X (.Tuple elts x1 tp) (.Call (.Name "enumerate" p) [a] [] pos) (MF X.K ta):=by
 intro pins s σ H R I h
 refine Call_ (nC I hg hm uU (GbS (thn (ha pos pins s σ H _ I h) λus s1 ⟨vs,H1,I1,r1,q1⟩=> ?_) hs rfl))
 obtain⟨l,e,q1⟩:=q1
 subst e
 cases r1 with
 |cons r rr=>
  cases rr
  cases r
  have fps:∀b∈[s1.heap.objs.size+1,s1.heap.objs.size],nD X pins H1 b:=λb hb=>by
   rcases Gay.mp hb with z|z
   ·subst z;exact I1.Cu (Gdb _) (I1.hok.fresh (Gdb _))
   ·have z' :b=s1.heap.objs.size:=by simpa using z
    subst z'
    exact I1.Cu (Gap _) (I1.hok.fresh (Gap _))
  rcases q1 with⟨⟨xs,hq⟩,q⟩| ⟨⟨xs,hq⟩,q⟩
  ·obtain⟨its,rv,pl,hz⟩:=I1.list hq
   refine call_enumerate_list pl.isList λh' he hit hsz kk=> ?_
   refine GcY (s:={s1 with heap:=h' }) he ?_
   exact⟨s1.heap.objs.size+1,[s1.heap.objs.size+1,s1.heap.objs.size],_,_,H1,rfl,I1.kept (t' :=s1.toks) kk,D1 _ _ l (Nat.succ_ne_self _),⟨⟨.none,he⟩,hit⟩,fps,q⟩
  ·obtain⟨its,rv,pl,hz⟩:=I1.tuple hq
   have hlt:l<s1.heap.objs.size:=pl.lt
   refine AX (show s1.heap.IsTuple l its.toArray from pl) λh' he hit kk=> ?_
   refine GcY (s:={s1 with heap:=h' }) he ?_
   exact⟨s1.heap.objs.size+1,[s1.heap.objs.size+1,s1.heap.objs.size],_,_,H1,rfl,I1.kept (t' :=s1.toks) kk,AW _ _ l (Nat.succ_ne_self _) (GaO (GcX hlt)) (GaO hlt),⟨⟨.none,he⟩,hit⟩,fps,q⟩
theorem uZ{elts:List Expr}{x1}{tp p:Pos}(hg:Gl X "enumerate")(hm:X.mg "enumerate"=none)(he:PEd X e f)(hs:starEach [e] X.env=[(false,eval e X.env)]:=by rfl):PId X (.Tuple elts x1 tp) (.Call (.Name "enumerate" p) [e] [] pos) (BE f):=by
 refine(Hx hg hm (a4 he aa hs) hs).aU ?_
 rintro σ H R ⟨H₀,Bad,env,ds,E,hf,k⟩
 obtain⟨⟨kd,d⟩,hr,hf⟩:=bind_some hf
 split at hf
 ·cases hf
 rename_i hk
 split at hf
 ·rename_i xs hd
  have hd' :d= .lst xs:=hd
  subst hd'
  cases hf
  refine⟨H₀,Bad,env,[⟨kd,.lst xs⟩],E,by unfold a5 ao;rw[hr];rfl,λvs H1 s1 Rs=> ?_⟩
  cases Rs with
  |cons Rv tl=>
   cases tl
   have ii:=Rv.inn
   have hno:=BK E rfl hk Rv
   have E1:=E.mono s1
   cases ii with
   | @lst la lv _ h r=>
    refine⟨_,rfl,.inl ⟨⟨_,.inl h⟩,k _ H1 s1 λHi keep=> ?_⟩⟩
    have hh:Rd Hi la (.lst lv):=by
     rcases h with h| ⟨o,h⟩
     ·exact .inl (keep _ _ h (hno _ rfl))
     ·exact .inr ⟨o,keep _ _ h (hno _ rfl)⟩
    refine⟨λi d hd=> ?_,⟨_,.inl hh,by rw[jU,r.1];exact Gap _⟩⟩
    rw[jV] at hd
    obtain⟨y,hy,rfl⟩:=Gak.mp hd
    obtain⟨v,h1,h2⟩:=r.get hy
    refine⟨⟨_,v,.inl hh,h1⟩,λz H2 ⟨p,w,hp,ez,eH,ew⟩=> ?_⟩
    subst ez eH
    have:=ew _ (.inl hh)
    rw[h1] at this;cases this
    refine⟨bL hp, ?_⟩
    have rp:=E1.mG keep h2
    rw[show(((0+i:Nat)):Int)=(i:Int) by simp]
    exact fJ hp (.cons (.int _) (.cons rp .nil))
 ·rename_i xs hd
  have hd' :d= .tup xs:=hd
  subst hd'
  cases hf
  refine⟨H₀,Bad,env,[⟨kd,.tup xs⟩],E,by unfold a5 ao;rw[hr];rfl,λvs H1 s1 Rs=> ?_⟩
  cases Rs with
  |cons Rv tl=>
   cases tl
   have ii:=Rv.inn
   have E1:=E.mono s1
   cases ii with
   | @tup la lv _ h r=>
    refine⟨_,rfl,.inr ⟨⟨_,SqT.of h⟩,k _ H1 s1 λHi keep=> ?_⟩⟩
    have hh:Hi la=some (.tup lv):=keep _ _ h λw=>E1.fK w h trivial
    refine⟨λi d hd=> ?_,⟨_,SqT.of hh,by rw[jU,r.1];exact Gap _⟩⟩
    rw[jV] at hd
    obtain⟨y,hy,rfl⟩:=Gak.mp hd
    obtain⟨v,h1,h2⟩:=r.get hy
    refine⟨⟨_,v,SqT.of hh,h1⟩,λz H2 ⟨p,w,hp,ez,eH,ew⟩=> ?_⟩
    subst ez eH
    have:=ew _ (SqT.of hh)
    rw[h1] at this;cases this
    refine⟨bL hp, ?_⟩
    have rp:=E1.mG keep h2
    rw[show(((0+i:Nat)):Int)=(i:Int) by simp]
    exact fJ hp (.cons (.int _) (.cons rp .nil))
 ·cases hf
end
open PySem PySem.Spec PyProof.Rows L2
section
variable{X:Cx}{e a b c:Expr}{f g h:DE}{pos:Pos}
noncomputable def MG(neg:Bool):R2:=λx y H Q=>∃a o,y= .ref a∧nT H a x o∧Q (.bl (if neg then !o.isSome else o.isSome)) H
theorem D3(hu:X.A.units+1<cLine):OpR X (compareOp .In) (MG false):=by
 intro pins s σ H x y v u Q I rx ry h
 obtain⟨p,o,rfl,g,q⟩:=h
 cases ry
 exact O2 hu I g rx λs' I' => ⟨.bl o.isSome,H,I',rfl,q⟩
theorem Hy{K:aD}{F:Addr→Prop}{H:Hp}:∀(n:Nat) {d d' :D} {v:V},av n d=true→av n d' =true→Rep K F H d v→Rep K F H d' v→d=d' :=by
 have go:∀(n:Nat) {ds ds' :List D} {vs:List V},(∀{d d' :D} {v:V},av n d=true→av n d' =true→Rep K F H d v→Rep K F H d' v→d=d')→ds.all (av n)=true→ds'.all (av n)=true→aY K F H ds vs→aY K F H ds' vs→ds=ds' :=by
  intro n ds ds' vs ih
  induction ds generalizing ds' vs with
  |nil=>
   intro _ _ r r'
   have e:=r.cU
   subst e
   exact(Gcv r'.1).symm
  |cons d ds ih2=>
   intro p p' r r'
   obtain⟨v,w,rfl,h1,h2⟩:=r.cons_inv
   cases ds' with
   |nil=>cases r'.1
   |cons d' ds' =>
    obtain⟨v',w',e,h1',h2'⟩:=r'.cons_inv
    cases e
    rw[Gbq,Gas] at p p'
    rw[ih p.1 p'.1 h1 h1',ih2 p.2 p'.2 h2 h2']
 intro n
 induction n with
 |zero=>
  intro d d' v p p' r r'
  cases r<;>simp at p<;>cases r' <;>simp at p' <;>rfl
 |succ n ih=>
  intro d d' v p p' r r'
  cases r with
  |non=>cases r';rfl
  |bl b=>cases r';rfl
  |int i=>cases r';rfl
  |str x=>cases r';rfl
  |tup h l r=>
   cases r' with
   |tup h' l' r' =>
    rw[h] at h';cases h'
    rw[go n ih (by simpa using p) (by simpa using p') ⟨l,r⟩ ⟨l',r'⟩]
   |lst f' h' l' r' =>
    rcases h' with h' | ⟨o,h'⟩
    ·rw[h] at h';cases h'
    ·rw[h] at h';cases h'
   |_=>simp at p'
  |lst f h l r=>
   cases r' with
   |lst f' h' l' r' =>
    have e:∀{a:Addr} {u w:List V},Rd H a (.lst u)→Rd H a (.lst w)→u=w:=by
     intro a u w h1 h2
     rcases h1 with h1| ⟨o,h1⟩<;>rcases h2 with h2| ⟨o',h2⟩<;>rw[h1] at h2<;>cases h2<;>rfl
    have ee:=e h h'
    subst ee
    rw[go n ih (by simpa using p) (by simpa using p') ⟨l,r⟩ ⟨l',r'⟩]
   |tup h' l' r' =>
    rcases h with h| ⟨o,h⟩
    ·rw[h] at h';cases h'
    ·rw[h] at h';cases h'
   |_=>simp at p'
  |_=>simp at p
noncomputable def MH:Value→V
 | .bool b=> .bl b
 | .int i _=> .int i
 | .str x _=> .str x
 | .bytes b _=> .byt b
 | .float b _=> .flt b
 | .ref a=> .ref a
 | .type n=> .ty n
 |_=> .non
theorem wI{v:V}{u:Value}(h:RelV v u):MH u=v:=by
 cases v<;>first|(obtain⟨t,rfl⟩:=h;rfl)|(have h' :=h;unfold RelV at h';subst h';rfl)
theorem F5{v v' :V}{u:Value}(h:RelV v u)(h' :RelV v' u):v=v' :=(wI h).symm.trans (wI h')
noncomputable def MI(K:aD)(neg:Bool):R2:=λx y H Q=>∃p xs dx ds,y= .ref p∧(SqL K H p xs∨SqT K H p xs)∧av 10 dx=true∧ds.all (av 10)=true∧Rep K (λ_=>True) H dx x∧aY K (λ_=>True) H ds xs∧Q (.bl (if neg then !ds.any (λy=>eqD y dx) else ds.any (λy=>eqD y dx))) H
theorem wJ{pins:List (Addr×Obj)}{σ:L2.St}{H:Hp}{z:Shared}(I:Inv X pins σ H z)(hu:X.A.units+20<cLine){xs:List V}{its:List Value}{dx:D}{ds:List D}{x:V}{v:Value}(r:Vals xs its)(hx:av 10 dx=true)(hs:ds.all (av 10)=true)
  (rx:Rep X.K (λ_=>True) H dx x)(rs:aY X.K (λ_=>True) H ds xs)(rv:RelV x v):∃ev:Value→Bool,(∀w∈its,SeqAt.EqAt X.A.in1 z w v (ev w))∧its.any ev=ds.any λy=>eqD y dx:=by
 classical
 have hll:=r.length
 have tri:∀(i:Nat) (w:Value),its[i]? =some w→∃d u,ds[i]? =some d∧xs[i]? =some u∧RelV u w∧Rep X.K (λ_=>True) H d u∧av 10 d=true:=λi w hw=>by
  have hi:i<its.length:=(Gac.mp hw).1
  have hd:ds[i]? =some (ds[i]'(by rw[rs.1,hll];exact hi)):=Gaa _
  obtain⟨u,hu1,hu2⟩:=rs.get hd
  obtain⟨w',hw1,hw2⟩:=r.get hu1
  rw[hw] at hw1;cases hw1
  exact⟨_,u,hd,hu1,hw2,hu2,Gat.mp hs _ (GaF hd)⟩
 refine⟨λw=>decide (∃(i:Nat) (d:D),its[i]? =some w∧ds[i]? =some d∧eqD d dx=true),λw hw=> ?_, ?_⟩
 ·obtain⟨i,hi⟩:=GbZ hw
  obtain⟨d,u,h1,h2,h3,h4,h5⟩:=tri i w hi
  have key:decide (∃(i:Nat) (d:D),its[i]? =some w∧ds[i]? =some d∧eqD d dx=true)=eqD d dx:=by
   cases q:eqD d dx with
   |true=>exact GaK ⟨i,d,hi,h1,q⟩
   |false=>
    refine GaL ?_
    rintro⟨j,d',g1,g2,g3⟩
    obtain⟨d2,u2,k1,k2,k3,k4,k5⟩:=tri j w g1
    rw[g2] at k1;cases k1
    have eu:=F5 h3 k3
    subst eu
    rw[Hy 10 h5 k5 h4 k4] at q
    rw[q] at g3;cases g3
  show SeqAt.EqAt X.A.in1 z w v (decide _)
  rw[key]
  exact rC I 10 h5 hx h4 rx h3 rv (by show X.A.units+1+10<_;omega)
 ·rw[Bool.eq_iff_iff,GcF,GcF]
  constructor
  ·rintro⟨w,hw,e⟩
   obtain⟨i,d,_,h2,h3⟩:=GaB e
   exact⟨d,GaF h2,h3⟩
  ·rintro⟨d,hd,e⟩
   obtain⟨i,hi⟩:=GbZ hd
   have hl:i<its.length:=by rw[←hll,←rs.1];exact(Gac.mp hi).1
   exact⟨its[i],GaA hl,GaK ⟨i,d,Gaa hl,hi,e⟩⟩
theorem K1(hu:X.A.units+20<cLine):OpR X (compareOp .In) (MI X.K false):=by
 intro pins z σ H x y v u Q I rx ry h
 obtain⟨p,xs,dx,ds,rfl,hq,fx,fs,r1,r2,q⟩:=h
 cases ry
 rcases hq with hq|hq
 ·obtain⟨its,r,pl,hz⟩:=I.list hq
  obtain⟨ev,e1,e2⟩:=wJ I hu r fx fs r1 r2 rx
  refine SeqAt.in_listAt ev pl.isList (λw hw=>e1 w (by simpa using hw)) ⟨.bl _,H,I,rfl, ?_⟩
  rw[show its.toArray.any ev=its.any ev by simp,e2]
  exact q
 ·obtain⟨its,r,pl,hz⟩:=I.tuple hq
  obtain⟨ev,e1,e2⟩:=wJ I hu r fx fs r1 r2 rx
  refine SeqAt.in_tupleAt ev pl (λw hw=>e1 w (by simpa using hw)) ⟨.bl _,H,I,rfl, ?_⟩
  rw[show its.toArray.any ev=its.any ev by simp,e2]
  exact q
noncomputable def Hz(K:aD)(neg:Bool):R2:=λx y H Q=>MI K neg x y H Q∨MG neg x y H Q
theorem K2(hu:X.A.units+20<cLine):OpR X (compareOp .In) (Hz X.K false):=(K1 hu).or (D3 (by omega))
theorem HA{neg:Bool}{F:Addr→Prop}{H:Hp}{dx dy:D}{x y:V}{b:Bool}{Q:VK}(ix:Inn X.K F H dx x)(iy:Inn X.K F H dy y)(e:inB dx dy=some b)(q:Q (.bl (if neg then !b else b)) H):Hz X.K neg x y H Q:=by
 have seq:∀{ds:List D} {p:Addr} {vs:List V},y= .ref p→(SqL X.K H p vs∨SqT X.K H p vs)→aY X.K F H ds vs→wa dx ds=some b→Hz X.K neg x y H Q:=λ{ds p vs} ey hs r hb=>by
  unfold wa at hb
  split at hb
  ·rename_i c
   rw[Gas] at c
   cases hb
   exact .inl ⟨p,vs,dx,ds,ey,hs,c.1,c.2,ix.any,⟨r.1,λi d v e1 e2=>(r.2 i d v e1 e2).inn.any⟩,q⟩
  ·cases hb
 unfold inB at e
 split at e
 ·obtain⟨k,hk,rfl⟩:=Gak.mp e
  obtain⟨g1,g2⟩:=nY iy ix
  obtain⟨p,ws,ey,r,g⟩:=g1 _ k rfl hk
  refine .inr ⟨p,_,ey,g, ?_⟩
  rename_i kvs
  have:(gr ws k).isSome=(look kvs k).isSome:=by
   cases z:look kvs k with
   |none=>rw[mF r z];rfl
   |some d=>obtain⟨v,h1,_⟩:=jW r z;rw[h1];rfl
  rw[this];exact q
 ·split at e
  ·rename_i _ kvs _ ks
   obtain⟨k,hk,rfl⟩:=Gak.mp e
   obtain⟨g1,g2⟩:=nY iy ix
   obtain⟨p,ws,ey,r,g⟩:=g2 _ _ k rfl rfl hk
   refine .inr ⟨p,_,ey,g, ?_⟩
   have:(gr ws k).isSome=(look kvs k).isSome:=by
    cases z:look kvs k with
    |none=>rw[mF r z];rfl
    |some d=>obtain⟨v,h1,_⟩:=jW r z;rw[h1];rfl
   rw[this];exact q
  ·cases e
 ·cases iy with
  |lst h r=>exact seq rfl (.inl (.inl h)) r e
 ·cases iy with
  |tup h r=>exact seq rfl (.inr (SqT.of h)) r e
 ·cases e
theorem K3:OpB X inB (Hz X.K false):=λF H dx dy x y b Q ix iy e q=>HA (neg:=false) ix iy e q
end
open PySem PySem.Spec PyProof.Rows L2
namespace Fr
end Fr
def wK(h:Heap)(it a:Addr)(i:Int):Prop:=∃o,h.get? it=some o∧o.cls= .type "reversed"∧o.data= .fields #[.ref a,rawInt i]
section
variable{prog:Program}{w:World}{A:Around}{E:Value→Shared→Prop}{z:Shared}
theorem wK.ty{it a:Addr}{i:Int}(x:wK z.heap it a i):z.TypeIs (.ref it) "reversed":=let⟨o,ho,hc,_⟩:=x;⟨o,ho,hc⟩
theorem wK.at{h h' :Heap}{it a:Addr}{i:Int}(x:wK h it a i)(e:∀o,h.get? it=some o→h'.get? it=some o):wK h' it a i:=let⟨o,ho,r⟩:=x;⟨o,e _ ho,r⟩
end
open PySem PySem.Spec PyProof.Rows L2
section
variable{X:Cx}{e a b c:Expr}{f g h:DE}{pos:Pos}
theorem F6{xs:List V}{its:List Value}(r:Vals xs its){x:V}{u:Value}(hx:RelV x u)(j:Int):Vals (gw xs j x) (PySem.W.kl_ins its j u):=by
 have hl:=r.length
 unfold gw PySem.W.kl_ins
 rw[hl]
 have tk:∀{xs:List V} {its:List Value} (r:Vals xs its) (n:Nat),Vals (xs.take n) (its.take n):=by
  intro xs its r
  induction r with
  |nil=>intro n;simp;exact .nil
  |cons h t ih=>intro n;cases n with
   |zero=>exact .nil
   |succ n=>exact .cons h (ih n)
 have dr:∀{xs:List V} {its:List Value} (r:Vals xs its) (n:Nat),Vals (xs.drop n) (its.drop n):=by
  intro xs its r
  induction r with
  |nil=>intro n;simp;exact .nil
  |cons h t ih=>intro n;cases n with
   |zero=>exact .cons h t
   |succ n=>exact ih n
 exact(tk r _).append (.cons hx (dr r _))
def HB:V→List V→Hp→VK→Prop:=λx vs H Q=>∃l xs j y,x= .ref l∧vs=[.int j,y]∧H l=some (.lst xs)∧xs.length<sizeLine∧-(2^62)≤j∧j<2^62∧Q .non (upd H l (.lst (gw xs j y)))
theorem D4:MtM X "list.insert" HB:=by
 intro pins z σ H x vs v us Q I rx rv h
 obtain⟨l,xs,j,y,rfl,rfl,hH,hz,h1,h2,q⟩:=h
 cases rx
 cases rv with
 |cons r1 t1=>
  cases t1 with
  |cons r2 t2=>
   cases t2
   obtain⟨t,rfl⟩:=r1
   rename_i u
   obtain⟨_,its,n,r,hl,e⟩:=I.GN hH
   have hfit:Builtin.List.listFitsIndex j=true:=by simp[Builtin.List.listFitsIndex];omega
   refine call_meets F.slot_list_insert ⟨_,e,rfl⟩ F.entry_list_insert (F.args_list_insert_3 _ _ _) (PySem.AutoSeq1.list_insert_list_int_val_1 l its.toArray n j t u (by simp[hfit]) (by rw[Gam];omega)) ⟨e, ?_⟩
   refine⟨.non,_,I.JD (its' :=PySem.W.kl_ins its j u) hH e ?_ (F6 r r2 j) ?_,rfl,q⟩
   ·show(its.toArray.extract 0 _).push u++its.toArray.extract _=_
    rw[PySem.W.kl_ins_eq]
    simp only[Gam]
    rfl
   ·rw[u3];omega
theorem D5{i:Nat}{x:Str}{px apos cpos:Pos}(hN:X.N[i]? =some x)(hv:Vis X.env.scope x)(he:PEd X e f)(ha:PEd X a g)(hd:(x==("__debug__":Str))=false:=by decide)(hcd:(x==("__classdict__":Str))=false:=by decide)
  (hs1:starEach [e,a] X.env=(false,eval e X.env)::starEach [a] X.env:=by rfl)(hs2:starEach [a] X.env=[(false,eval a X.env)]:=by rfl)
  (hbase:attributeBase (.Name x px) "insert" X.env (eval (.Name x px) X.env)=eval (.Name x px) X.env:=by rfl)
  (hfew:((backTo cpos (starEach [e,a] X.env)).all (λx=> !x.1)&&(backToKw cpos (keywordEach [] X.env)).all (λx=>x.1.isSome)
   &&decide (([e,a]:List Expr).length+([]:List Keyword).length+(if([]:List Keyword).isEmpty then 0 else 1)<30))=true:=by rfl)
  (hline:(apos.endLine==cpos.line)=true:=by rfl)(hs:swapsWith (.Call (.Attribute (.Name x px) "insert" apos) [e,a] [] cpos) none pos.line X.env=pure false:=by rfl):
  PSd X (.Expr (.Call (.Attribute (.Name x px) "insert" apos) [e,a] [] cpos) pos) (Mp i f g):=by
 refine(qL (By Gcj PySem.F.slot_list_insert PySem.F.type_list_insert D4 (lu hN hv hd hcd) (a4 he (a4 ha aa hs2) hs1) hbase hfew hline hs1 (by rw[hs2];rfl)) hs).aU ?_
 rintro D σ H ⟨H₀,Bad,env,o,E,e,k⟩
 obtain⟨r,hr,e⟩:=bind_some e
 obtain⟨r2,hr2,e⟩:=bind_some e
 obtain⟨d,hd,e⟩:=bind_some e
 have q:=nZ hd
 obtain⟨kd,rd⟩:=r
 split at e
 ·rename_i xs j hj
  have hj' :rd= .int j:=hj
  split at e
  ·rename_i z
   rw[Gas,Gas] at z
   obtain⟨z1,z2,z3⟩:=z
   cases e
   subst hj'
   obtain⟨a,h1,h2,h3,h4,h5,h6⟩:=E.ow i _ (.inl q)
   obtain⟨vs,hH,rp⟩:=o4 h4 h6
   refine⟨_,h1,.inl ⟨rfl,vs,.inl (.inl hH)⟩,H₀,Bad,env,[⟨kd,.int j⟩,r2],E,by unfold a5 ao;rw[hr,hr2];rfl,λws H2 s2 Rs=> ?_⟩
   cases Rs with
   | @cons _ v _ _ R1 tl=>
    cases tl with
    | @cons _ v2 _ _ R2 tl=>
    cases tl
    have i1:=R1.inn
    cases i1
    have hH2:=s2 _ _ hH
    have sj:=fL z3
    refine⟨a,vs,j,v2,rfl,rfl,hH2,by rw[←rp.1,←size_eq];exact GaB z2,sj.1,sj.2, ?_⟩
    have E2:=E.mono s2
    have rep1:=R2.rep E z1
    have rp1:aY X.K (Cln Bad env σ) H2 xs vs:=rp.gen (.of_same s2) λ_ f _=>f
    have rp2:aY X.K (Cln Bad env σ) H2 (gw xs j r2.d) (gw vs j v2):=by
     unfold gw
     rw[←rp1.1]
     exact(rp1.take _).append (.cons rep1 (rp1.drop _))
    obtain⟨E3,p3⟩:=E2.change (d' := .lst (gw xs j r2.d)) (o:= .lst (gw vs j v2)) q h1 trivial rfl (.lst (.inl aN) (rp2.gen (λb o hb w=>by
     have:b≠a:=by
      rintro rfl
      rcases w with w|w
      ·exact w.2 i (by rw[q];trivial) h1
      ·rw[hH2] at hb;cases hb;exact w
     rw[az this];exact hb) λ_ f _=>f))
    exact k σ _ E3 ((Stp.of_same s2).trans p3)
  ·cases e
 ·cases e
theorem wL{K:aD}{F:Addr→Prop}{H:Hp}{α:Type}{dd:α→D}{vv:α→V}(h:∀n,Rep K F H (dd n) (vv n)):∀{l:List α},aY K F H (l.map dd) (l.map vv)
 |[]=> .nil
 |x::l=> .cons (h x) (wL h)
end
def K4(prog:Program)(w:World)(A:Around)(op:CmpOp)(G:Shared→Prop)(P:Nat→Value→Prop)(bt:Nat→Nat→Bool):Prop:=
 ∀i j vi vj (z:Shared) (Q:Value→Shared→Prop) (E:Value→Shared→Prop),G z→P i vi→P j vj→Q (.bool (bt i j)) z→wpAny (model prog w) A (richCompare op vi vj) Q E z
noncomputable def mmO(mx:Bool):CmpOp:=bif mx then .Gt else .Lt
noncomputable def mmN(mx:Bool):String:=bif mx then "max.loop" else "min.loop"
noncomputable def jZ:Option Value→Array Value
 |none=>#[]
 |some v=>#[v,v]
section
variable{prog:Program}{w:World}{A:Around}{R:Result→Shared→Prop}{I B:Addr}{kw:List (Str×Value)}{z:Shared}
theorem va{old:Option Value}{v:Option Value}{Q:Unit→Shared→Prop}{E:Value→Shared→Prop}(e:wF z.heap B (jZ old))(h:∀h',wF h' B (jZ v)→(∀b o,b≠B→z.heap.get? b=some o→h'.get? b=some o)→Q () {z with heap:=h' }):
  wpAny (model prog w) A (updateSeq B λ_=>jZ v) Q E z:=by
 obtain⟨c,e⟩:=e
 have l1:(jZ old).size≤2:=by cases old<;>simp[jZ]
 have l2:(jZ v).size≤2:=by cases v<;>simp[jZ]
 have:=Gbz
 refine wpAny_updateSeq e rfl (h _ ⟨_,GbJ _ e rfl⟩ λb o n q=> ?_) (by omega) (by omega)
 rw[GbD _ _ (GaX n),q]
theorem BW(mx:Bool){old:Option Value}
  (h:wpAny (model prog w) A.in1 (pyNext (.ref I)) (λr s' =>wF s'.heap B (jZ old)∧match r,old with
   |none,some v=>∀h',(∀b o,b≠B→s'.heap.get? b=some o→h'.get? b=some o)→R (.ok (.ret v)) {s' with heap:=h' }
   |none,none=>∃k d t,kw=(k,d)::t∧R (.ok (.ret d)) s'
   |some x,some v=>∃bt:Bool,(∀Q E,Q (.bool bt) s' →wpAny (model prog w) A.in1 (richCompare (mmO mx) x v) Q E s')∧∀h',wF h' B (jZ (some (if bt then x else v)))→(∀b o,b≠B→s'.heap.get? b=some o→h'.get? b=some o)→codeAny (model prog w) A (.builtin (mmN mx) ⟨[.ref I,.none,.ref B],kw⟩) R {s' with heap:=h' }
   |some x,none=>∀h',wF h' B (jZ (some x))→(∀b o,b≠B→s'.heap.get? b=some o→h'.get? b=some o)→codeAny (model prog w) A (.builtin (mmN mx) ⟨[.ref I,.none,.ref B],kw⟩) R {s' with heap:=h' }) (λ_ _=>False) z)(hB:wF z.heap B (jZ old)):
  codeAny (model prog w) A (.builtin (mmN mx) ⟨[.ref I,.none,.ref B],kw⟩) R z:=by
 obtain⟨c,e⟩:=id hB
 have quiet:Code.quiet (.builtin (mmN mx) ⟨[.ref I,.none,.ref B],kw⟩)=true:=by cases mx<;>exact plainId_quiet (by decide+kernel) _
 cases mx
 all_goals
  first
  |(apply Gdn F.entry_min_loop;rw[Gdo F.plain_min_loop])
  |(apply Gdn F.entry_max_loop;rw[Gdo F.plain_max_loop])
  refine Gad (wpAny_seqItems e rfl (Gad (wpAny_tryCatch (GbA h (λr s' q=> ?_) λ_ _ q=>q.elim))))
  obtain⟨e',q⟩:=q
  rcases r with _|x<;>rcases old with _|v
  ·obtain⟨k,d,t,rfl,q⟩:=q
   exact Gad (GbX (Gaq q))
  ·exact Gad (va (v:=none) e' λh' _ k=>Gad (wpAny_letGo (Gaq (q h' k))))
  ·exact Gad (Gaq (Gad (va (v:=some x) e' λh' l k=>Gaq ⟨quiet,q h' l k⟩)))
  ·obtain⟨bt,q1,q2⟩:=q
   refine Gad (Gaq (Gad (wpAny_tryCatch (GcG (Gad (q1 _ _ (Gad (GcG (GbC (Gad (wpAny_letGo (Gaq ?_))))))))))))
   cases bt
   ·exact Gad (wpAny_letGo (Gaq ⟨quiet,q2 _ e' λ_ _ _ k=>k⟩))
   ·exact Gad (va (v:=some x) e' λh' l k=>Gad (wpAny_letGo (Gaq ⟨quiet,q2 h' l k⟩)))
variable{fp wr:List Addr}{n:Nat}{P:Nat→Value→Prop}{St:Nat→Heap→Prop}{G:Shared→Prop}
theorem BX(mx:Bool)(W:Walks prog w A.in1 I fp wr n P St)(bt:Nat→Nat→Bool)(hcmp:K4 prog w A.in1 (mmO mx) G P bt)(hf:B∉fp)
  (hG:∀h' tk,(∀b o,b∉wr→b≠B→z.heap.get? b=some o→h'.get? b=some o)→G {z with heap:=h',toks:=tk})
  (hE:n=0→∃k d t,kw=(k,d)::t∧∀h' tk,(∀b o,b∉wr→b≠B→z.heap.get? b=some o→h'.get? b=some o)→R (.ok (.ret d)) {z with heap:=h',toks:=tk})
  (hR:0<n→∀v h' tk,P (argBest bt (n -1)) v→(∀b o,b∉wr→b≠B→z.heap.get? b=some o→h'.get? b=some o)→R (.ok (.ret v)) {z with heap:=h',toks:=tk}):
  ∀(k i:Nat) (old:Option Value) (h:Heap) (tk:Nat),i+k=n→St i h→wF h B (jZ old)→(∀b o,b∉wr→b≠B→z.heap.get? b=some o→h.get? b=some o)→(match old with|none=>i=0|some v=>0<i∧P (argBest bt (i -1)) v)→
   codeAny (model prog w) A (.builtin (mmN mx) ⟨[.ref I,.none,.ref B],kw⟩) R {z with heap:=h,toks:=tk}
 |0,i,old,h,tk,hk,st,l,kp,ho=>by
  cases hk
  refine BW mx (W.done {z with heap:=h,toks:=tk} _ _ st λh' tk' k=> ⟨let⟨c,e⟩:=l;⟨c,k B _ (λm=>hf (W.sub _ m)) e⟩, ?_⟩) l
  have kp' :∀b o,b∉wr→b≠B→z.heap.get? b=some o→h'.get? b=some o:=λb o q1 q2 q=>k b o q1 (kp b o q1 q2 q)
  cases old with
  |none=>
   obtain⟨a,d,t,q1,q2⟩:=hE ho
   exact⟨a,d,t,q1,q2 h' tk' kp'⟩
  |some v=>exactλh2 k2=>hR ho.1 v h2 tk' ho.2 λb o q1 q2 q=>k2 b o q2 (kp' b o q1 q2 q)
 |k+1,i,old,h,tk,hk,st,l,kp,ho=>by
  refine BW mx (W.item i {z with heap:=h,toks:=tk} _ _ (by omega) st λx h' tk' hP st' k' => ⟨let⟨c,e⟩:=l;⟨c,k' B _ (λm=>hf (W.sub _ m)) e⟩, ?_⟩) l
  have kp' :∀b o,b∉wr→b≠B→z.heap.get? b=some o→h'.get? b=some o:=λb o q1 q2 q=>k' b o q1 (kp b o q1 q2 q)
  have go:∀v h2,wF h2 B (jZ (some v))→(∀b o,b≠B→h'.get? b=some o→h2.get? b=some o)→P (argBest bt i) v→codeAny (model prog w) A (.builtin (mmN mx) ⟨[.ref I,.none,.ref B],kw⟩) R {z with heap:=h2,toks:=tk' }:=λv h2 l2 k2 hv=>
   BX mx W bt hcmp hf hG hE hR k (i+1) (some v) h2 tk' (by omega) (W.frame _ _ _ st' λb m o q=>k2 b o (λe=>hf (e▸m)) q) l2 (λb o q1 q2 q=>k2 b o q2 (kp' b o q1 q2 q)) ⟨Nat.succ_pos _,hv⟩
  cases old with
  |none=>
   cases ho
   exactλh2 l2 k2=>go x h2 l2 k2 hP
  |some v=>
   obtain⟨pos,hv⟩:=ho
   obtain⟨j,rfl⟩:∃j,i=j+1:=⟨i -1,by omega⟩
   refine⟨bt (j+1) (argBest bt j),λQ E q=>hcmp _ _ x v _ Q E (hG h' tk' kp') hP hv q,λh2 l2 k2=>go _ h2 l2 k2 ?_⟩
   show P (if bt (j+1) (argBest bt j)=true then j+1 else argBest bt j) _
   split
   ·exact hP
   ·exact hv
theorem AY(a d:Value):argsOk "min" ⟨[a],[(Str.ofString "default",d)]⟩:=by unfold argsOk;kernel_rfl
theorem AZ(a d:Value):argsOk "max" ⟨[a],[(Str.ofString "default",d)]⟩:=by unfold argsOk;kernel_rfl
noncomputable def mmF(mx:Bool):String:=bif mx then "max" else "min"
theorem HC(mx:Bool)(od:Option Value){x:Value}{E:Value→Shared→Prop}{Q:Value→Shared→Prop}
  (h:wpAny (model prog w) A.in1 (pyIter x) (λit s₂=>∃I fp wr n P St bt G,it= .ref I∧Walks prog w A.in1 I fp wr n P St∧St 0 s₂.heap∧(∀b∈fp,b<s₂.heap.objs.size)∧K4 prog w A.in1 (mmO mx) G P bt∧
   (∀h' tk,(∀b o,b∉wr→s₂.heap.get? b=some o→h'.get? b=some o)→G {s₂ with heap:=h',toks:=tk})∧(n=0→∃d,od=some d∧∀h' tk,(∀b o,b∉wr→s₂.heap.get? b=some o→h'.get? b=some o)→Q d {s₂ with heap:=h',toks:=tk})∧
   (0<n→∀v h' tk,P (argBest bt (n -1)) v→(∀b o,b∉wr→s₂.heap.get? b=some o→h'.get? b=some o)→Q v {s₂ with heap:=h',toks:=tk})) E z):
  wpAny (model prog w) A (call (.builtin (mmF mx)) [x] (od.toList.map λd=>(Str.ofString "default",d))) Q E z:=by
 have fin:∀(it:Value) (s₂:Shared),(∃I fp wr n P St bt G,it= .ref I∧Walks prog w A.in1 I fp wr n P St∧St 0 s₂.heap∧(∀b∈fp,b<s₂.heap.objs.size)∧K4 prog w A.in1 (mmO mx) G P bt∧
   (∀h' tk,(∀b o,b∉wr→s₂.heap.get? b=some o→h'.get? b=some o)→G {s₂ with heap:=h',toks:=tk})∧(n=0→∃d,od=some d∧∀h' tk,(∀b o,b∉wr→s₂.heap.get? b=some o→h'.get? b=some o)→Q d {s₂ with heap:=h',toks:=tk})∧
   (0<n→∀v h' tk,P (argBest bt (n -1)) v→(∀b o,b∉wr→s₂.heap.get? b=some o→h'.get? b=some o)→Q v {s₂ with heap:=h',toks:=tk}))→
   codeAny (model prog w) A (.builtin (mmN mx) ⟨[it,.none,.ref s₂.heap.objs.size],od.toList.map λd=>(Str.ofString "default",d)⟩) (λr s' =>match r with| .ok (.ret v)=>Q v s' | .ok _=>False| .error e=>E e s') {s₂ with heap:=s₂.heap.push {cls:= .type "list",data:= .seq #[]}}:=by
  rintro _ s₂ ⟨I,fp,wr,n,P,St,bt,G,rfl,W,st,lt,hc,hG,h0,hv⟩
  have up:∀{h' :Heap},(∀b o,b∉wr→b≠s₂.heap.objs.size→s₂.heap.get? b=some o→h'.get? b=some o)→∀b o,b∉wr→s₂.heap.get? b=some o→h'.get? b=some o:=λk b o q e=>k b o q (GaO (Gax e)) e
  refine BX (z:=s₂) mx W bt hc (λm=>Gby _ (lt _ m)) (λh' tk k=>hG h' tk (up k)) (λn0=> ?_) (λp v h' tk hp k=>hv p v h' tk hp (up k)) n 0 none _ s₂.toks (GcQ _) (W.frame _ _ _ st λb _ o e=>Gaj _ e) ⟨0,GaC _ rfl⟩ (λb o _ _ e=>Gaj _ e) rfl
  obtain⟨d,rfl,hd⟩:=h0 n0
  exact⟨_,d,_,rfl,λh' tk k=>hd h' tk (up k)⟩
 have quiet:∀a,Code.quiet (.builtin (mmN mx) a)=true:=λa=>by cases mx<;>exact plainId_quiet (by decide+kernel) _
 cases mx<;>cases od
 ·exact GcA F.kind_min F.plain_min F.entry_min (F.args_min1 _) (Gad (wpAny_of_eq (a:=[none,none]) rfl (Gad (Gaq (Gad (on h λit s q=>Gad (Gbc (Gaq ⟨quiet _,fin it s q⟩))))))))
 ·exact GcA F.kind_min F.plain_min F.entry_min (AY _ _) (Gad (wpAny_of_eq (a:=[none,some _]) rfl (Gad (Gaq (Gad (on h λit s q=>Gad (Gbc (Gaq ⟨quiet _,fin it s q⟩))))))))
 ·exact GcA F.kind_max F.plain_max F.entry_max (F.args_max1 _) (Gad (wpAny_of_eq (a:=[none,none]) rfl (Gad (Gaq (Gad (on h λit s q=>Gad (Gbc (Gaq ⟨quiet _,fin it s q⟩))))))))
 ·exact GcA F.kind_max F.plain_max F.entry_max (AZ _ _) (Gad (wpAny_of_eq (a:=[none,some _]) rfl (Gad (Gaq (Gad (on h λit s q=>Gad (Gbc (Gaq ⟨quiet _,fin it s q⟩))))))))
end
section
variable{X:Cx}{e a b c:Expr}{f g h:DE}{pos:Pos}
noncomputable def K5(K:aD)(dv:V)(t:TA):TE:=λσ H Q=>t σ H λvs H1=>∃(p:Addr) (ns:List Int),vs=[.ref p]∧(SqL K H1 p (ns.map V.int)∨SqT K H1 p (ns.map V.int))∧Q (match ns with|[]=>dv|n::ns=> .int (AI n ns)) H1
theorem HE{p pos kp:Pos}{dx:Expr}{dv:V}{t:TA}(hc:X.calm=true)(hg:Gl X "max")(hm:X.mg "max"=none)(ha:PA X [e] t)(hd:PE X dx (tC dv))(hs:starEach [e] X.env=[(false,eval e X.env)]:=by rfl):PE X (.Call (.Name "max" p) [e] [⟨some "default",dx,kp⟩] pos) (K5 X.K dv t):=by
 intro pins z σ H Q I h
 refine GcM (nC I hg hm EG ?_)
 refine PyProof.Rows.callWith_kw (thn (ha pos pins z σ H _ I h) λus s1 ⟨vs,H1,I1,r1,q1⟩=> ?_) (by rw[hs];rfl) (by rw[hs];rfl) rfl rfl
 obtain⟨l,ns,e1,hq,q⟩:=q1
 subst e1
 cases r1 with
 |cons r rr=>
  cases rr
  cases r
  refine PyProof.Rows.kws_cons (thn (hd pins s1 σ H1 (λv H2=>v=dv∧H2=H1) I1 ⟨rfl,rfl⟩) λdu s2 ⟨v,H2,I2,r2,e2,e3⟩=>PyProof.Rows.kws_nil ?_)
  subst e2 e3
  show wpAny _ _ (call (.builtin "max") [.ref l] [(Str.ofString "default",du)]) _ _ _
  refine HC true (some du) (wA hc I2 hq λIt fp wr P St s₃ W st lt hP kept=> ⟨It,fp,wr,_,P,St,_,λ_=>True,rfl,W,st,lt,λi j vi vj zz Q' E' _ hi hj hq' =>CmpOf.ints_gt (uW ns) (wC hP) i j vi vj zz Q' E' hi hj hq',λ_ _ _=>trivial,λhn=> ⟨du,rfl,λh' tk hk=> ?_⟩,λhn u h' tk hu hk=> ?_⟩)
  ·cases ns with
   |nil=>exact⟨v,H2,kept h' tk hk,r2,q⟩
   |cons n ns=>simp at hn
  ·cases ns with
   |nil=>simp at hn
   |cons n ns=>
    obtain⟨t,rfl⟩:=wC hP _ _ hu
    rw[show((n::ns).map V.int).length -1=ns.length by simp,EM _ (Gap _),List.take_length]
    exact⟨.int (AI n ns),H2,kept h' tk hk,⟨t,rfl⟩,q⟩
theorem HF{p pos kp:Pos}{dx:Expr}{dd:D}{dv:V}(hc:X.calm=true)(hg:Gl X "max")(hm:X.mg "max"=none)(he:PEd X e f)(hd:PE X dx (tC dv))(hdv:∀K F H,Inn K F H dd dv)(ht:dd.top=false)(hs:starEach [e] X.env=[(false,eval e X.env)]:=by rfl):PEd X (.Call (.Name "max" p) [e] [⟨some "default",dx,kp⟩] pos) (mmE AI dd f):=by
 refine(HE hc hg hm (a4 he aa hs) hd hs).aU ?_
 rintro σ H Q ⟨H₀,Bad,env,rv,E,e,k⟩
 obtain⟨r,hr,e⟩:=bind_some e
 refine⟨H₀,Bad,env,[r],E,by unfold a5 ao;rw[hr];rfl,λvs H1 s1 Rs=> ?_⟩
 cases Rs with
 |cons R1 tl=>
  cases tl
  unfold mmD at e
  obtain⟨ds,h1,e⟩:=bind_some e
  obtain⟨ns,h2,e⟩:=Gak.mp e
  obtain⟨p,vs,rfl,hq,rr⟩:=AR R1.inn h1
  rw[BP rr h2] at hq
  refine⟨p,ns,rfl,hq, ?_⟩
  subst e
  cases ns with
  |nil=>exact k _ _ s1 ((hdv _ _ _).rep λa _ w=>by rw[ht] at w;cases w)
  |cons n ns=>exact k _ _ s1 (.int _)
end
section
variable{X:Cx}{e a b c:Expr}{f g h:DE}{pos:Pos}
theorem HG{K:aD}{F:Addr→Prop}{H:Hp}(k:Key):Rep K F H (JM k) (kV k):=by
 cases k with
 |inl i=>exact .int i
 |inr x=>exact .str x
end
section
variable{X:Cx}{e a b c:Expr}{f g h:DE}{pos:Pos}
theorem K6{K:aD}{F:Addr→Prop}{H:Hp}{d:D}{v:V}{k:D}{o:Option D}(i:Inn K F H d v)(e:CS d k=some o):∃p,v= .ref p∧IsD H p:=by
 unfold CS at e
 split at e
 ·cases i with
  |dK h r=>exact⟨_,rfl,.inl ⟨_,.inl h⟩⟩
 ·cases i with
  |dT h r=>exact⟨_,rfl,.inr ⟨_,.inl h⟩⟩
 ·cases e
theorem F7{K:aD}{F:Addr→Prop}{H:Hp}{dx dy rd:D}{y vz:V}{p:Addr}{o' :Option D}(ix:Inn K F H dx (.ref p))(iy:Inn K F H dy y)(e:CS dx dy=some o')(rz:Rep K F H rd vz):∃o,nT H p y o∧Rep K F H (o'.getD rd) (o.getD vz):=by
 obtain⟨g1,g2⟩:=nY ix iy
 have fin:∀{κ:Type} [DecidableEq κ] {kvs:List (κ×D)} {ws:List (κ×V)} {k:κ},bg K F H kvs ws→Rep K F H ((look kvs k).getD rd) ((gr ws k).getD vz):=λ{κ _ kvs ws k} rp=>by
  cases z:look kvs k with
  |none=>rw[mF rp z];exact rz
  |some d=>obtain⟨v,h1,h2⟩:=jW rp z;rw[h1];exact h2
 unfold CS at e
 split at e
 ·obtain⟨k',hk,rfl⟩:=Gak.mp e
  obtain⟨q,ws,eq,rp,gg⟩:=g1 _ k' rfl hk
  cases eq
  exact⟨_,gg,fin rp⟩
 ·obtain⟨k',hk,rfl⟩:=Gak.mp e
  obtain⟨q,ws,eq,rp,gg⟩:=g2 _ _ k' rfl rfl hk
  cases eq
  exact⟨_,gg,fin rp⟩
 ·cases e
theorem BY{apos cpos:Pos}{o:Expr}(hu:X.A.units+1<cLine)(ho:PEd X o f)(he:PEd X a g)(hd:PEd X b h)(m:M2 X o "get" apos a b cpos):PEd X (.Call (.Attribute o "get" apos) [a,b] [] cpos) (GS f g h):=by
 refine(Ek hu ho he hd m).aU ?_
 rintro σ H Q ⟨H₀,Bad,env,rv,E,e,k⟩
 obtain⟨x,hx,e⟩:=bind_some e
 obtain⟨y,hy,e⟩:=bind_some e
 obtain⟨r,hr,e⟩:=bind_some e
 split at e
 ·rename_i hc
  obtain⟨o',e',rfl⟩:=Gak.mp e
  refine⟨H₀,Bad,env,x,E,hx,λvx H1 s1 R1=> ?_⟩
  obtain⟨p,rfl,hD⟩:=K6 R1.inn e'
  refine⟨p,rfl,hD,H₀,Bad,env,y,E.mono s1,hy,λvy H2 s2 R2=> ⟨H₀,Bad,env,r,(E.mono s1).mono s2,hr,λvz H3 s3 R3=> ?_⟩⟩
  have rz:Rep X.K (Cln Bad env σ) H3 r.d vz:=R3.rep ((E.mono s1).mono s2) (by unfold RV.free;rw[hc])
  obtain⟨ov,gg,rp⟩:=F7 ((R1.inn.same s2).same s3) (R2.inn.same s3) e' rz
  exact⟨ov,gg,k _ H3 (s1.trans (s2.trans s3)) rp⟩
 ·cases e
end
section
variable{prog:Program}{w:World}{A:Around}{E:Value→Shared→Prop}{s:Shared}
theorem qG(d:Addr)(hd:(d==sysModules)=false):MeetsIn prog w (Builtin.«dict.items» ⟨[.ref d],[]⟩) (λ_ R s=>s.TypeIs (.ref d) "dict"∧R (.ok (.ret (.ref s.heap.objs.size))) {s with heap:=s.heap.push {cls:= .type "dict_items",data:= .fields #[.ref d]}}):=by
 apply MeetsIn.of_wp
 rintro A R s ⟨hm,h⟩
 wp_walk using wpAny_notOrdered_dict hm,Gbc
 ·exact⟨_,rfl,h⟩
 ·size_fits
theorem rL{v d:Addr}{es:Array DictEntry}{ep:Nat}{Q:Value→Shared→Prop}(hv:s.heap.IsItemsView v d)(hm:t5 s.heap d es ep)
  (hQ:Q (.ref s.heap.objs.size) {s with heap:=s.heap.push {cls:= .type "dict_itemiterator",data:= .fields #[.none,.bool false,.ref d,.int 0 0,.int es.size 0,.int ep 0,.none,.none]}}):wpAny (model prog w) A (pyIter (.ref v)) Q E s:=by
 have f:FO s.heap v _ _:=hv
 apply wpAny_pyIter_slot f.ty F.slot_dict_items_iter
 apply GbQ F.slot_dict_items_iter f.ty F.entry_dict_items_iter (ha:=F.args_dict_items_iter_1 _)
 wp_walk using kA (i:=0) (x:= .ref d) f rfl,EO hm,IU hm,Gbc
 ·exact⟨_,rfl,_,_,⟨_,GaC _ rfl,rfl⟩,Gcw.lookup,hQ⟩
 ·simp[sizeOk,Builtin.Dict_items.ownsTuple,Builtin.Dict_items.ownedTupleFields,Gbz]
abbrev ItI(h:Heap)(it d:Addr)(i n ep:Nat)(f0 f1 ok ov:Value):Prop:=FO h it "dict_itemiterator" #[f0,f1,.ref d,.int i 0,.int n 0,.int ep 0,ok,ov]
def Kept(h:Heap)(it:Addr)(f0 f1:Value):Prop:=f0= .none∨∃(a:Addr) (oa:Obj) (f:Bool),f0=rawInt a∧f1= .bool f∧h.get? a=some oa∧a≠it
theorem D6{it:Addr}{x2 x3 x4 x5 f0 f1 ok ov k v:Value}{Q:Value→Shared→Prop}(f:FO s.heap it "dict_itemiterator" #[f0,f1,x2,x3,x4,x5,ok,ov])(hf:Kept s.heap it f0 f1)
  (h:∀h' g0 g1 ok' ov',FO h' it "dict_itemiterator" #[g0,g1,x2,x3,x4,x5,ok',ov']→((f0= .none∧g0=rawInt s.heap.objs.size∧g1= .bool false)∨(f0≠ .none∧g0=f0∧g1= .bool true))→
   h'.get? s.heap.objs.size=some {cls:= .type "tuple",data:= .seq #[k,v]}→h'.objs.size=s.heap.objs.size+1→(∀b o,b≠it→s.heap.get? b=some o→h'.get? b=some o)→Q (.ref s.heap.objs.size) {s with heap:=h' }):
  wpAny (model prog w) A (Builtin.Dict_items.pairFromOwner (.ref it) 6 k v) Q E s:=by
 have ne:s.heap.objs.size≠it:=GcL f.lt
 apply Gad
 refine wpAny_newTuple ?_
 have f2:=f.at λo=>Gaj {cls:= .type "tuple",data:= .seq #[k,v]}
 have t2:(s.heap.push {cls:= .type "tuple",data:= .seq #[k,v]}).get? s.heap.objs.size=_:=GaC _ rfl
 have k2:∀b o,s.heap.get? b=some o→(s.heap.push {cls:= .type "tuple",data:= .seq #[k,v]}).get? b=some o:=λb o=>Gaj _
 have z2:(s.heap.push {cls:= .type "tuple",data:= .seq #[k,v]}).objs.size=s.heap.objs.size+1:=GcR ..
 generalize s.heap.push {cls:= .type "tuple",data:= .seq #[k,v]}=p at*
 have fin:∀h',Heap.SameBut it p h' →h'.get? s.heap.objs.size=some {cls:= .type "tuple",data:= .seq #[k,v]}∧h'.objs.size=s.heap.objs.size+1∧∀b o,b≠it→s.heap.get? b=some o→h'.get? b=some o:=λh' sb=> ⟨sb.extBut _ _ ne t2,sb.1.trans z2,λb o n e=>sb.extBut b o n (k2 b o e)⟩
 rcases hf with rfl| ⟨a,oa,b,rfl,rfl,ha,hai⟩
 ·wp_walk using kA (i:=0) (x:= .none) f2 rfl,kA (i:=6) (x:=ok) f2 rfl,kA (i:=7) (x:=ov) f2 rfl,jO f2
  ·rintro h3 ⟨f3,s3⟩
   refine Gad (jO f3 (λh4 ⟨f4,s4⟩=>Gad (jO f4 (λh5 ⟨f5,s5⟩=>Gad (jO f5 (λh6 ⟨f6,s6⟩=>Gad (wpAny_letGo (Gaq ?_))) (by simp))) (by simp))) (by simp))
   obtain⟨q1,q2,q3⟩:=fin h6 (((s3.trans s4).trans s5).trans s6)
   exact h h6 _ _ _ _ f6 (.inl ⟨rfl,rfl,rfl⟩) q1 q2 q3
  ·show _<8;decide
 ·wp_walk using kA (i:=0) (x:=rawInt a) f2 rfl,PySem.W.kdx_alive (k2 a oa ha),kA (i:=1) (x:= .bool b) f2 rfl
  have q1:(Value.bool b !=Value.bool true)= !b:=by cases b<;>rfl
  rw[q1]
  have no:rawInt (a:Int)≠Value.none:=by simp[rawInt]
  cases b with
  |true=>
   wp_walk
   obtain⟨q1,q2,q3⟩:=fin p (Heap.SameBut.refl _ _)
   exact h p _ _ _ _ f2 (.inr ⟨no,rfl,rfl⟩) q1 q2 q3
  |false=>
   wp_walk using jO f2
   ·rintro h3 ⟨f3,s3⟩
    wp_walk
    obtain⟨q1,q2,q3⟩:=fin h3 s3
    exact h h3 _ _ _ _ f3 (.inr ⟨no,rfl,rfl⟩) q1 q2 q3
   ·show _<8;decide
theorem lN{it d:Addr}{i ep:Nat}{es:Array DictEntry}{f0 f1 ok ov:Value}{Q:Option Value→Shared→Prop}(hh:A.handled=none)(hit:ItI s.heap it d i es.size ep f0 f1 ok ov)(hm:t5 s.heap d es ep)(hf:Kept s.heap it f0 f1)
  (hQ:∀e h' g0 g1 ok' ov',es[i]? =some e→ItI h' it d (i+1) es.size ep g0 g1 ok' ov' →((f0= .none∧g0=rawInt s.heap.objs.size∧g1= .bool false)∨(f0≠ .none∧g0=f0∧g1= .bool true))→
   h'.get? s.heap.objs.size=some {cls:= .type "tuple",data:= .seq #[e.key,e.val]}→(∀b o,b≠it→s.heap.get? b=some o→h'.get? b=some o)→Q (some (.ref s.heap.objs.size)) {s with heap:=h' })
  (hE:∀h',es.size≤i→Heap.ExtBut it s.heap h' →Q none {s with heap:=h' }):wpAny (model prog w) A (pyNext (.ref it)) Q E s:=by
 have hT:=hit.ty
 wp_walk using Gci hT Gcw,GbQ Gcw hT F.entry_dict_itemiterator_next (ha:=F.args_dict_itemiterator_next_1 _),EO hm,IU hm,JZ hit,Gcr hT
 rw[MA]
 cases h:es[i]? with
 |some e=>
  wp_walk using Gcr hT,wpAny_isOneOf_itemiter hT,jO hit
  ·rintro h1 ⟨f,hs⟩
   replace f:ItI h1 it d (i+1) es.size ep f0 f1 ok ov:=f
   have kp:Kept h1 it f0 f1:=hf.imp id λ⟨a,o,b,q1,q2,q3,q4⟩=> ⟨a,o,b,q1,q2,hs.extBut a o q4 q3,q4⟩
   wp_walk using wpAny_isOneOf_itemiter f.ty,D6 f kp
   intro h' g0 g1 ok' ov' f' g t _ k
   rw[show h1.objs.size=s.heap.objs.size from hs.1] at*
   exact Gaq ⟨_,rfl,Gaq (hQ e h' g0 g1 ok' ov' h f' g t λb o n q=>k b o n (hs.extBut b o n q))⟩
  ·show _<8;decide
 |none=>
  wp_walk using Gcr hT,jO hit
  ·rintro h' ⟨f,hs⟩
   exact IV hh λh2 a k=>Gad (BQ k.2 (Gaq (hE h2 (by simpa using h) λb o n e=>k.1 b o (hs.extBut b o n e))))
  ·show _<8;decide
theorem F8{elts:List Expr}{x1}{pos:Pos}{it d a:Addr}{i n ep:Nat}{f1 ok ov:Value}{Q:Unit→Shared→Prop}(he:ItI s.heap it d i n ep (rawInt a) f1 ok ov)
  (hQ:∀h',ItI h' it d i n ep .none f1 ok ov→Heap.SameBut it s.heap h' →Q () {s with heap:=h' }):
  wpAny (model prog w) A (letOwnedTupleGo (.Tuple elts x1 pos) (.ref it) (.ref a)) Q E s:=by
 obtain⟨⟨c,dc,dt,sl⟩,ho,hc,hd⟩:=id he
 cases hc;cases hd
 apply Gad
 apply wpAny_load ho
 apply wpAny_ite_split<;>intro hi
 ·exact Gad (GbX (jO he (λh' k=>hQ h' k.1 k.2) (by simp)))
 ·exact absurd (by simp) hi
end
section
variable{X:Cx}{e a b c:Expr}{f g h:DE}{pos:Pos}{pins:List (Addr×Obj)}{σ:St}{H:Hp}{s:Shared}
theorem _root_.L2.Inv.freeze{d:Addr}{kvs:List (List Key×V)}{o:Obj}(I:Inv X pins σ H s)(e:H d=some (.dT kvs))(ho:s.heap.get? d=some o):Inv X pins σ (upd H d (.frz o (.dT kvs))) s:=by
 have:=qM (t' :=s.toks) (h' :=s.heap) (ob:= .frz o (.dT kvs)) I (by rw[e];trivial) (Heap.SameBut.refl _ _) ⟨o,ho⟩
  ⟨ho,(I.hok d _ e).dN (λb u _ q=>q) (λb q=>by rw[az (Br q e (by simp))];exact q) λb xs q=>by rw[az (Br q e (by simp))];exact q⟩
 exact this
theorem _root_.L2.Inv.K7{d:Addr}{kvs:List (List Key×V)}{o:Obj}(I:Inv X pins σ H s)(e:H d=some (.frz o (.dT kvs)))(hn:∀o u,X.H₀ d≠some (.frz o u)):Inv X pins σ (upd H d (.dT kvs)) s:=by
 have ne:∀{b:Addr},H b=none→b≠d:=λq z=>by rw[z,e] at q;cases q
 have nt:∀{b:Addr} {u:HO},H b=some u→u≠ .frz o (.dT kvs)→b≠d:=λq hu z=>by rw[z,e] at q;cases q;exact hu rfl
 refine⟨I.ok,I.os,I.bare,⟨I.base.keep,I.base.slot,λb ob q n hx=> ?_,I.base.there,λb xs q=> ?_,λb ob u q=> ?_,λb ps q=> ?_⟩,I.loc,I.cell, ?_,λx c q=> ?_,λp hp=> ?_,λb u q=> ?_,I.len⟩
 ·have:=I.base.free b ob q n hx
  rw[az (ne this)];exact this
 ·have:=I.base.pS b xs q
  rw[az (nt this (by simp))];exact this
 ·have:=I.base.nP b ob u q
  rw[az (λz=>hn ob u (by rw[←z];exact q))];exact this
 ·obtain⟨more,q'⟩:=I.base.pT b ps q
  exact⟨more,by rw[az (nt q' (by simp))];exact q'⟩
 ·rw[az (ne I.free)];exact I.free
 ·rw[az (ne (I.ko x c q))];exact I.ko x c q
 ·obtain⟨h1,h2,h3⟩:=I.pin p hp
  exact⟨h1,by rw[az (ne h2)];exact h2,h3⟩
 ·have st:∀{b:Addr} {u:HO},cC X.prog X.w H s.heap b u→cC X.prog X.w (upd H d (.dT kvs)) s.heap b u:=λx=>
   x.dN (λ_ _ _ q=>q) (λc q=>by rw[az (nt q (by simp))];exact q) λc xs q=>by rw[az (nt q (by simp))];exact q
  by_cases hb:b=d
  ·subst hb
   rw[aN] at q;cases q
   exact st (I.hok b _ e).2
  ·rw[az hb] at q
   exact st (I.hok b _ q)
theorem BZ{d:Addr}{kvs:List (List Key×V)}{o:Obj}{es:Array DictEntry}{ep:Nat}(I:Inv X pins σ H s)(e:H d=some (.frz o (.dT kvs)))(hd:o.data= .dict es ep):t5 s.heap d es ep∧es.size=kvs.length∧
  ∀(i:Nat) p,kvs[i]? =some p→∃b en,es[i]? =some en∧en.key= .ref b∧H b=some (.tup (p.1.map kV))∧RelV p.2 en.val:=by
 obtain⟨ho,h1,h2,xs,kt,o',es',ep',ho',hx,hd',he,_⟩:=I.hok d _ e
 rw[ho] at ho';cases ho'
 rw[hd] at hd';cases hd'
 have hl:kvs.length=xs.length:=Paired.length kt
 have hs:es.size=xs.length:=by rw[←GbO,he,Gae]
 refine⟨⟨o,ho,hx,hd⟩,by omega,λi p hp=> ?_⟩
 have hi:i<xs.length:=by rw[←hl];exact(Gac.mp hp).1
 have rel:∀{l:List (List Key×V)} {m:List (List Key×Addr×Value)},Paired (λ(p:List Key×V) (q:List Key×Addr×Value)=>p.1=q.1∧H q.2.1=some (.tup (p.1.map kV))∧RelV p.2 q.2.2) l m→∀(i:Nat) p q,l[i]? =some p→m[i]? =some q→H q.2.1=some (.tup (p.1.map kV))∧RelV p.2 q.2.2:=by
  intro l m q
  induction q with
  |nil=>intro i p q h;simp at h
  |cons hq t ih=>
   intro i p' q' h1 h2
   cases i with
   |zero=>simp at h1 h2;subst h1 h2;exact hq.2
   |succ i=>exact ih i p' q' (by simpa using h1) (by simpa using h2)
 obtain⟨r1,r2⟩:=rel kt i p xs[i] hp (by simp[hi])
 refine⟨xs[i].2.1,entryOfKey (tupleKind (cH X.prog X.w)) xs[i], ?_,rfl,r1,r2⟩
 have:es.toList[i]? =some (entryOfKey (tupleKind (cH X.prog X.w)) xs[i]):=by rw[he,Gal];simp[hi]
 simpa using this
noncomputable def K8(d:Addr)(o:Obj)(kvs:List (List Key×V)):It:=
 ⟨λi H=>H d=some (.frz o (.dT kvs))∧i<kvs.length,λi H x H' =>∃p b q,kvs[i]? =some p∧H b=some (.tup (p.1.map kV))∧H q=none∧x= .ref q∧H' =upd H q (.tup [.ref b,p.2]),λi H=>H d=some (.frz o (.dT kvs))∧kvs.length≤i⟩
theorem B0{prog:Program}{w:World}{A:Around}{E:Value→Shared→Prop}{s:Shared}{it d:Addr}{i n ep:Nat}{f0 f1 ok ov:Value}{Q:Value→Shared→Prop}(hit:ItI s.heap it d i n ep f0 f1 ok ov)(h:Q (.ref it) s):wpAny (model prog w) A (pyIter (.ref it)) Q E s:=by
 have hT:=hit.ty
 apply wpAny_pyIter_slot hT GcS
 apply GbQ GcS hT PySem.W.kcp_entry (ha:=PySem.F.args_dict_itemiterator_iter_1 _)
 exact Gaq ⟨_,rfl,_,_,hT,PySem.F.slot_dict_itemiterator_next.lookup,h⟩
theorem B1{P:Program}{w:World}{K:aD}{elts:List Expr}{x1}{tp:Pos}(it d:Addr)(o:Obj)(kvs:List (List Key×V))(es:Array DictEntry)(ep:Nat)(hd:o.data= .dict es ep)(hne:d≠it):
  Turn P w K (.Tuple elts x1 tp) (K8 d o kvs) [it] it (λi h=>∃f1 ok ov,ItI h it d i es.size ep .none f1 ok ov) where
 mem:=by simp
 obj:=λi h st b hb=>by
  have e:b=it:=by simpa using hb
  subst e
  obtain⟨f1,ok,ov,o,e,c,d⟩:=st
  exact⟨o,e,λv z=>by rw[d] at z;cases z⟩
 keep:=λi h h' st k=>let⟨f1,ok,ov,e⟩:=st;⟨f1,ok,ov,e.at (k it (by simp))⟩
 item:=by
  intro X hP hw hK hc i pins s σ H E I hf st hg
  subst hP hw hK
  obtain⟨he,hi⟩:=hg
  obtain⟨hr,hz,hx⟩:=BZ I he hd
  obtain⟨f1,ok,ov,hit⟩:=st
  obtain⟨b,en,q1,q2,q3,q4⟩:=hx i kvs[i] (by simp[hi])
  refine lN (I.ok.hd hc) hit hr (.inl rfl) (λen' h' g0 g1 ok' ov' q1' hit' hg hT kk=> ⟨_,rfl, ?_⟩) λ_ hl _=>absurd hl (by omega)
  cases q1.symm.trans q1'
  have hg0:g0=rawInt s.heap.objs.size:=by
   rcases hg with⟨_,z,_⟩| ⟨z,_⟩
   ·exact z
   ·exact absurd rfl z
  subst hg0
  refine F8 (s:={s with heap:=h' }) hit' λh2 he2 sb=> ?_
  have hlt:it<s.heap.objs.size:=hit.lt
  have kept:∀b o,b∉[it]→s.heap.get? b=some o→h2.get? b=some o:=λb o hb e=>by
   have b1:b≠it:=λz=>hb (by simp[z])
   exact(sb.2 b b1).trans (kk b o b1 e)
  have hT2:h2.get? s.heap.objs.size=some {cls:= .type "tuple",data:= .seq #[en.key,en.val]}:=(sb.2 _ (GcL hlt)).trans hT
  have I1:Inv X pins σ (upd H s.heap.objs.size (.tup [.ref b,kvs[i].2])) {s with heap:=h2}:=I.rJ (ch:=[it]) hf rfl rfl kept (Gap _) (by
   refine⟨by simp[Gbz],[en.key,en.val],.cons q2 (.cons q4 .nil),_,hT2,rfl,0,rfl⟩)
  refine⟨.ref s.heap.objs.size,_,I1,rfl,⟨kvs[i],b,_,by simp[hi],q3,I.fresh,rfl,rfl⟩,⟨_,_,_,he2⟩,λb' hb=> ?_⟩
  have z:b' =it:=by simpa using hb
  subst z
  rw[az (GaO hlt)]
  exact(hf b' hb).1
 done:=by
  intro X hP hw hK hc i pins s σ H E I hf st hg
  subst hP hw hK
  obtain⟨he,hi⟩:=hg
  obtain⟨hr,hz,hx⟩:=BZ I he hd
  obtain⟨f0,f1,f2,f3,f4,f5⟩:=hf it (by simp)
  obtain⟨f1',ok,ov,hit⟩:=st
  exact lN (I.ok.hd hc) hit hr (.inl rfl) (λ_ _ _ _ _ _ q=>absurd (GcI.mp q).1 (by omega)) λh' _ eb=> ⟨rfl,I.turned (t' :=s.toks) (λb o hb e=>eb b o hb e) f0 f1 f3 f4 f5⟩
 self:=λ_ _ _ _ _ st h=>let⟨_,_,_,e⟩:=st;B0 e h
noncomputable def F9(X:Cx)(J:Addr→Obj→List (List Key×V)→It)(to:TE):TI:=λσ H R=>to σ H λx H1=>∃d kvs,x= .ref d∧H1 d=some (.dT kvs)∧∀o,(∀o u,X.H₀ d≠some (.frz o u))→R (J d o kvs) (upd H1 d (.frz o (.dT kvs)))
theorem wM{o:Expr}{elts:List Expr}{x1}{tp:Pos}{to:TE}{apos cpos:Pos}(ho:PE X o to)(hbase:attributeBase o "items" X.env (eval o X.env)=eval o X.env:=by rfl)(hline:(apos.endLine==cpos.line)=true:=by rfl):PI X (.Tuple elts x1 tp) (.Call (.Attribute o "items" apos) [] [] cpos) (F9 X K8 to):=by
 intro pins s σ H R I h
 refine wpAny_Call_method0_late hbase hline (thn (ho pins s σ H _ I h) λv s1 ⟨x,H1,I1,r1,d,kvs,ex,hd,q1⟩=> ?_)
 subst ex
 cases r1
 obtain⟨_,hds,xs,kt,ob,es,ep,hob,hx,hdt,he,_⟩:=Eh I1.hok hd
 obtain⟨t1,t2,_⟩:=AH I1 (.inr ⟨kvs,.inl hd⟩)
 refine⟨"dict","dict.items",GcU,PySem.F.slot_dict_items,PySem.F.type_dict_items,t1,t2,Gcu rfl (PySem.evalArgs_none ?_)⟩
 refine call_meetsIn PySem.F.slot_dict_items t1 PySem.F.entry_dict_items (PySem.F.args_dict_items_1 _) (qG d hds) ⟨t1, ?_⟩
 generalize hh1:s1.heap.push {cls:= .type "dict_items",data:= .fields #[.ref d]}=h1
 have hv:h1.IsItemsView s1.heap.objs.size d:=by rw[←hh1];exact⟨_,GaC _ rfl,rfl,rfl⟩
 have k1:∀b u,s1.heap.get? b=some u→h1.get? b=some u:=λb u q=>by rw[←hh1];exact Gaj _ q
 have I2:Inv X pins σ H1 {s1 with heap:=h1}:=I1.kept (t' :=s1.toks) k1
 refine rL (s:={s1 with heap:=h1}) hv ⟨ob,k1 _ _ hob,hx,hdt⟩ ?_
 have I3:Inv X pins σ H1 {s1 with heap:=h1.push {cls:= .type "dict_itemiterator",data:= .fields #[.none,.bool false,.ref d,.int 0 0,.int es.size 0,.int ep 0,.none,.none]}}:=I2.kept (t' :=s1.toks) λb u q=>Gaj _ q
 have I4:=I3.freeze hd (o:=ob) (Gaj _ (k1 _ _ hob))
 have hlt:d<h1.objs.size:=Gax (k1 _ _ hob)
 have fresh:(upd H1 d (.frz ob (.dT kvs))) h1.objs.size=none:=by
  rw[az (GcL hlt)];exact I2.fresh
 refine⟨h1.objs.size,[h1.objs.size],_,_,_,rfl,I4,B1 _ d ob kvs es ep hdt (GaO hlt),⟨_,_,_,_,GaC _ rfl,rfl,rfl⟩,λb hb=> ?_,q1 ob λo u z=> ?_⟩
 ·have z:b=h1.objs.size:=by simpa using hb
  subst z
  exact I2.Cu (Gap _) fresh
 ·have:=I1.base.nP d o u z
  rw[hd] at this;cases this
end
section
variable{X:Cx}{e a b c:Expr}{f g h:DE}{pos:Pos}
def B2(J:Addr→Obj→List (List Key×V)→It)(vw:List (List Key×D)→List D):Prop:=
 ∀{K:aD} {Hf:Hp} {a:Addr} {o:Obj} {ws:List (List Key×V)} {kvs:List (List Key×D)} {F F' Nn:Addr→Prop},Hf a=some (.frz o (.dT ws))→bg K F Hf kvs ws→
  (∀b u,Hf b=some u→(F b∨isT u)→Nn b)→(∀b,F b→Hf b≠none→F' b)→AM K F' Nn (J a o ws) (vw kvs) Hf
theorem ui{κ:Type}{K:aD}{F:Addr→Prop}{H:Hp}{kvs:List (κ×D)}{ws:List (κ×V)}(r:bg K F H kvs ws):kvs.length=ws.length:=by
 have:=congrArg List.length r.1
 simpa using this
theorem D7{κ:Type}{K:aD}{F:Addr→Prop}{H:Hp}{kvs:List (κ×D)}{ws:List (κ×V)}(r:bg K F H kvs ws){i:Nat}{p:κ×D}(e:kvs[i]? =some p):∃q,ws[i]? =some q∧p.1=q.1∧Rep K F H p.2 q.2:=by
 have hi:i<ws.length:=by rw[←ui r];exact(Gac.mp e).1
 have hq:ws[i]? =some ws[i]:=Gaa hi
 refine⟨ws[i],hq, ?_,r.2 i p _ e hq⟩
 have:=congrArg (λl=>l[i]?) r.1
 simp only[Gal,e,hq,Gcp,Gcx] at this
 exact this
theorem rM:B2 K8 bO:=by
 intro K Hf a o ws kvs F F' Nn hA r hN hF Hi keep
 have hAi:Hi a=some (.frz o (.dT ws)):=keep a _ hA (hN a _ hA (.inr trivial))
 have r' :bg K F' Hi kvs ws:=r.gen (λb u hb q=>keep b u hb (hN b u hb q)) hF
 refine⟨λi d hd=> ?_,hAi,by unfold bO;rw[Gae,ui r];exact Gap _⟩
 unfold bO at hd
 rw[Gal] at hd
 obtain⟨p,hp,rfl⟩:=Gak.mp hd
 obtain⟨q,h1,h2,h3⟩:=D7 r' hp
 refine⟨⟨hAi,(Gac.mp h1).1⟩,λx H2 ⟨q',b,t,e2,e3,e4,e5,e6⟩=> ?_⟩
 subst e5 e6
 rw[h1] at e2;cases e2
 refine⟨bL e4,fJ e4 (.cons ?_ (.cons h3 .nil))⟩
 have rs:aY K F' Hi (p.1.map JM) (q.1.map kV):=by rw[h2];exact wL λk=>HG k
 exact .tup e3 rs.1 rs.2
theorem HH{tg iter:Expr}{J:Addr→Obj→List (List Key×V)→It}{vw:List (List Key×D)→List D}(hi:PI X tg iter (F9 X J (tE X f)))(hv:B2 J vw):PId X tg iter (Ep vw f):=by
 refine hi.aU ?_
 rintro σ H R ⟨H₀,Bad,env,ds,E,hf,k⟩
 obtain⟨⟨kd,d⟩,hr,hf⟩:=bind_some hf
 split at hf
 ·rename_i hk
  have hk' :kd= .tn:=hk
  subst hk'
  split at hf
  ·rename_i kvs hd
   have hd' :d= .dT kvs:=hd
   subst hd'
   cases hf
   refine⟨H₀,Bad,env,⟨.tn,.dT kvs⟩,E,hr,λv H1 s1 Rv=> ?_⟩
   obtain⟨a,ev,hn,wr,_,ii⟩:=Rv
   subst ev
   cases ii with
   | @dT _ ws _ h r=>
    refine⟨a,ws,rfl,h,λo hnf=> ?_⟩
    have sm:cj H (upd H1 a (.frz o (.dT ws))):=λb u q=>by
     rw[az (dP q hn)];exact s1 b u q
    have E1:=E.mono sm
    refine k _ _ sm (hv aN (r.gen (λb u hb q=> ?_) λb q _=>q) (λb u hb q=> ?_) λb q hb=> ⟨q.1,hb⟩)
    ·have:b≠a:=by
      rcases q with q|q
      ·exact q.2
      ·intro z;subst z;rw[h] at hb;cases hb;exact q
     rw[az this];exact hb
    ·rcases q with q|q
     ·exactλ⟨i,h1,h2⟩=>q.1.2 i h1.ol.top h2
     ·exactλw=>E1.fK w hb q
  ·cases hf
 ·cases hf
theorem Fb{o:Expr}{elts:List Expr}{x1}{tp:Pos}{apos cpos:Pos}(ho:PEd X o f)(hbase:attributeBase o "items" X.env (eval o X.env)=eval o X.env:=by rfl)(hline:(apos.endLine==cpos.line)=true:=by rfl):PId X (.Tuple elts x1 tp) (.Call (.Attribute o "items" apos) [] [] cpos) (Ep bO f):=HH (wM ho hbase hline) rM
theorem k6{env:Env}{i j:Nat}{sl:Slot}(h:(env.set i none)[j]? =some (some sl)):j≠i∧env[j]? =some (some sl):=by
 by_cases z:i=j
 ·subst z
  rw[Gdw] at h
  simp at h
 ·rw[Gab z] at h
  exact⟨GaX z,h⟩
theorem oe{env:Env}{i j:Nat}(h:bx (env.set i none)[j]?):j≠i∧bx env[j]? :=by
 by_cases z:i=j
 ·subst z
  rw[Gdw] at h
  split at h
  ·split at h<;>exact h.elim
  ·exact absurd rfl (by assumption)
 ·rw[Gab z] at h
  exact⟨GaX z,h⟩
theorem wN{env:Env}{i j:Nat}(h:wc (env.set i none)[j]?):j≠i∧wc env[j]? :=by
 by_cases z:i=j
 ·subst z
  rw[Gdw] at h
  split at h
  ·split at h<;>exact h.elim
  ·exact absurd rfl (by assumption)
 ·rw[Gab z] at h
  exact⟨GaX z,h⟩
theorem aI.MJ{K:aD}{H₀:Hp}{Bad:Addr→Prop}{env:Env}{σ:St}{H:Hp}{i:Nat}{a:Addr}{o:Obj}{ws:List (List Key×V)}(E:aI K H₀ Bad env σ H)(ti:bx env[i]?)(ea:σ[i]? =some (some (.ref a)))
  (sole:∀j:Nat,j≠i→bx env[j]? →σ[j]? ≠some (some (.ref a)))(hH:H a=some (.dT ws)):
  aI K (λb=>if b=a then none else H₀ b) (λb=>Bad b∨b=a) (env.set i none) σ (upd H a (.frz o (.dT ws)))∧∀b,Cln (λb=>Bad b∨b=a) (env.set i none) σ b↔Cln Bad env σ b:=by
 have cl:∀b,Cln (λb=>Bad b∨b=a) (env.set i none) σ b↔Cln Bad env σ b:=λb=>by
  constructor
  ·intro q
   refine⟨λz=>q.1 (.inl z),λj tj ej=> ?_⟩
   by_cases z:j=i
   ·subst z;rw[ea] at ej;cases ej;exact q.1 (.inr rfl)
   ·exact q.2 j (by rw[Gab (GaX z)];exact tj) ej
  ·intro q
   refine⟨λz=> ?_,λj tj ej=>q.2 j (oe tj).2 ej⟩
   rcases z with z|z
   ·exact q.1 z
   ·subst z;exact q.2 i ti ea
 have na:¬Cln Bad env σ a:=λq=>q.2 i ti ea
 have dN:j4 (Cln Bad env σ) H (upd H a (.frz o (.dT ws))):=λb u hb q=>by
  have:b≠a:=by
   rcases q with q|q
   ·intro z;subst z;exact na q
   ·intro z;subst z;rw[hH] at hb;cases hb;exact q
  rw[az this];exact hb
 have hF:∀b,Cln Bad env σ b→H b≠none→Cln (λb=>Bad b∨b=a) (env.set i none) σ b:=λb q _=>(cl b).mpr q
 refine⟨⟨λb u q=> ?_,by rw[GcK];exact E.len,λb q=> ?_,λj d q=> ?_,λj d q=> ?_,λj d q=> ?_,λj k b tj tk ej ek=> ?_⟩,cl⟩
 ·by_cases z:b=a
  ·subst z;rw[Gaf rfl] at q;cases q
  ·rw[Gah z] at q
   rw[az z];exact E.same b u q
 ·rcases q with q|q
  ·by_cases z:b=a
   ·subst z;rw[aN];simp
   ·rw[az z];exact E.bad b q
  ·subst q;rw[aN];simp
 ·obtain⟨v,h1,h2⟩:=E.sh j d (k6 q).2
  exact⟨v,h1,h2.gen dN hF⟩
 ·have q' :j≠i∧(env[j]? =some (some (.own d))∨env[j]? =some (some (.lok d))):=by
   rcases q with q|q
   ·exact⟨(k6 q).1,.inl (k6 q).2⟩
   ·exact⟨(k6 q).1,.inr (k6 q).2⟩
  have tj:bx env[j]? :=by rcases q'.2 with z|z<;>rw[z]<;>trivial
  obtain⟨a',h1,h2,h3,h4,h5,h6⟩:=E.ow j d q'.2
  have ne:a' ≠a:=λz=>sole j q'.1 tj (by rw[h1,z])
  refine⟨a',h1,by rw[Gah ne];exact h2,λz=>z.elim h3 ne, ?_,h5,h6.gen dN hF λb eb _ u hu=> ?_⟩
  ·obtain⟨u,hu,wu⟩:=h4
   exact⟨u,by rw[az ne];exact hu,wu⟩
  ·cases eb;rw[az ne];exact hu
 ·have q' :=k6 q
  have tj:bx env[j]? :=by rw[q'.2];trivial
  obtain⟨a',h1,h4,h5,h6⟩:=E.bo j d q'.2
  have ne:a' ≠a:=λz=>sole j q'.1 tj (by rw[h1,z])
  refine⟨a',h1, ?_,h5,h6.gen dN hF λb eb _ u hu=> ?_⟩
  ·obtain⟨u,hu,wu⟩:=h4
   exact⟨u,by rw[az ne];exact hu,wu⟩
  ·cases eb;rw[az ne];exact hu
 ·exact E.dj j k b (wN tj).2 (oe tk).2 ej ek
theorem Rep.K7{K:aD}{F:Addr→Prop}{H:Hp}{a:Addr}{o:Obj}{ws:List (List Key×V)}{d:D}{v:V}(hH:H a=some (.frz o (.dT ws)))(nf:¬F a)(r:Rep K F H d v):Rep K F (upd H a (.dT ws)) d v:=by
 induction r with
 |non=>exact .non
 |bl b=>exact .bl b
 |int i=>exact .int i
 |str x=>exact .str x
 | @tup b vs ds h l r ih=>
  refine .tup ?_ l ih
  rw[az λz=>by subst z;rw[hH] at h;cases h];exact h
 | @lst b vs ds f h l r ih=>
  have ne:b≠a:=λz=>by subst z;exact nf f
  refine .lst f ?_ l ih
  rcases h with h| ⟨o',h⟩
  ·exact .inl (by rw[az ne];exact h)
  ·exact .inr ⟨o',by rw[az ne];exact h⟩
 | @scr b ns h=>
  refine .scr ?_
  rcases h with⟨o',h⟩|h
  ·exact .inl ⟨o',by rw[az λz=>by subst z;rw[hH] at h;cases h];exact h⟩
  ·exact .inr h
 | @dK b ws' kvs f h l r ih=>exact .dK f (by rw[az λz=>by subst z;exact nf f];exact h) l ih
 | @dT b ws' kvs f h l r ih=>exact .dT f (by rw[az λz=>by subst z;exact nf f];exact h) l ih
theorem IW{H:Hp}{a:Addr}{K:aD}{F:Addr→Prop}{kvs:List (List Key×D)}(ii:Inn K F H (.dT kvs) (.ref a)):∃ws,H a=some (.dT ws)∧bg K F H kvs ws:=by
 cases ii with
 |dT h r=>exact⟨_,h,r⟩
theorem D8{K:aD}{H₀:Hp}{Bad:Addr→Prop}{env:Env}{σ:St}{H:Hp}{i:Nat}{kvs:List (List Key×D)}(E:aI K H₀ Bad env σ H)(e:dictAt i env=some kvs):
  ∃a ws,bx env[i]? ∧σ[i]? =some (some (.ref a))∧(∀j:Nat,j≠i→bx env[j]? →σ[j]? ≠some (some (.ref a)))∧H a=some (.dT ws)∧bg K (Cln Bad env σ) H kvs ws:=by
 unfold dictAt at e
 have own:∀{d:D},(env[i]? =some (some (.own d))∨env[i]? =some (some (.lok d)))→d= .dT kvs→∃a ws,bx env[i]? ∧σ[i]? =some (some (.ref a))∧(∀j:Nat,j≠i→bx env[j]? →σ[j]? ≠some (some (.ref a)))∧H a=some (.dT ws)∧bg K (Cln Bad env σ) H kvs ws:=by
  intro d q hd
  subst hd
  obtain⟨a,h1,h2,h3,h4,h5,h6⟩:=E.ow i _ q
  obtain⟨ws,g1,g2⟩:=IW h6
  refine⟨a,ws,by rcases q with z|z<;>rw[z]<;>trivial,h1,λj hj tj ej=>hj (E.dj i j a (by rcases q with z|z<;>rw[z]<;>trivial) tj h1 ej).symm,g1,g2⟩
 split at e
 ·rename_i q;cases e;exact own (.inl q) rfl
 ·rename_i q;cases e;exact own (.inr q) rfl
 ·rename_i q
  split at e
  ·rename_i hs
   cases e
   obtain⟨a,h1,h4,h5,h6⟩:=E.bo i _ q
   obtain⟨ws,g1,g2⟩:=IW h6
   refine⟨a,ws,by rw[q];trivial,h1,λj hj tj ej=> ?_,g1,g2⟩
   have hlt:j<env.length:=by
    rcases Nat.lt_or_ge j env.length with z|z
    ·exact z
    ·rw[Gbk z] at tj;exact tj.elim
   have hsj:=Gat.mp hs j (Gbr.mpr hlt)
   cases hq:env[j]? with
   |none=>rw[hq] at tj;exact tj.elim
   |some sl=>
    cases sl with
    |none=>rw[hq] at tj;exact tj.elim
    |some sl=>
     cases sl with
     |sh d=>rw[hq] at tj;exact tj.elim
     |own d=>exact hj (E.dj j i a (by rw[hq];trivial) (by rw[q];trivial) ej h1)
     |lok d=>exact hj (E.dj j i a (by rw[hq];trivial) (by rw[q];trivial) ej h1)
     |bor d=>rw[hq] at hsj;simp[hj] at hsj
  ·cases e
 ·cases e
theorem Fc{tg iter elt:Expr}{ifs:List Expr}{scope:Scope}{N:List Str}{n i:Nat}{aO:List Nat}{gd:DG}{t:DT}{f:DE}{J:Addr→Obj→List (List Key×V)→It}{vw:List (List Key×D)→List D}(hc:X.calm=true)(S:jN X scope N n aO)
  (hi:PI X tg iter (F9 X J (Lk i)))(hv:B2 J vw)(hgo:rE gd)(B:Blk X scope N tg elt ifs gd t f)
  (hs:∀x,foldedSetIterable iter X.env x=pure x:=by intro _;rfl):PEd X (.ListComp elt [⟨tg,iter,ifs,0⟩] scope pos) (pf vw i n aO gd t f):=by
 intro pins s σ H Q I hw
 obtain⟨H₀,Bad,env,r,E,e,k⟩:=hw
 unfold pf at e
 obtain⟨kvs,hk,e⟩:=bind_some e
 split at e
 ·rename_i hz
  obtain⟨rs,hrs,rfl⟩:=Gak.mp e
  obtain⟨a,ws,ti,ea,sole,hH,rp⟩:=D8 E hk
  obtain⟨cl,h1,h2,h3⟩:=jM (S.cells I)
  rw[eval_ListComp]
  refine GcP (use:=none) rfl hs h1 S.kind S.AQ ?_
  refine thn (hi pins s σ H (λJ' H' =>∃o,(∀o u,X.H₀ a≠some (.frz o u))∧J' =J a o ws∧H' =upd H a (.frz o (.dT ws))) I ⟨.ref a,ea,a,ws,rfl,hH,λo hnf=> ⟨o,hnf,rfl,rfl⟩⟩) λv s1 q1=>thn q1 λitv s2 q2=> ?_
  obtain⟨it,fp,tn,J2,H2,e,I2,T,st2,f2,o,hnf,eJ,eH⟩:=q2
  subst e eJ eH
  obtain⟨E2,cl2⟩:=E.MJ (o:=o) ti ea sole hH
  have na:¬Cln Bad env σ a:=λq=>q.2 i ti ea
  have dN:j4 (Cln Bad env σ) H (upd H a (.frz o (.dT ws))):=λb u hb q=>by
   have:b≠a:=by
    rcases q with q|q
    ·intro z;subst z;exact na q
    ·intro z;subst z;rw[hH] at hb;cases hb;exact q
   rw[az this];exact hb
  have io:AM X.K (λb=>Cln (λb=>Bad b∨b=a) (env.set i none) σ b∧(upd H a (.frz o (.dT ws))) b≠none) (λb=>¬Ow (env.set i none) σ b) (J a o ws) (vw kvs) (upd H a (.frz o (.dT ws))):=
   hv (F:=Cln (λb=>Bad b∨b=a) (env.set i none) σ) aN (rp.gen dN λb q _=>(cl2 b).mpr q) (λb u hb q=>by
    rcases q with q|q
    ·exactλ⟨j,h1,h2⟩=>q.2 j h1.ol.top h2
    ·exactλw=>E2.fK w hb q) λb q hb=> ⟨q,hb⟩
  refine pz (RR:=λacc C=>compPost (model X.prog X.w) X.A X.xe none (EP X pins σ Q) acc C) hc S I2 h2 h3 f2 T st2 (λC s' H' =>B.g cl C s' H' fp) (λC s' H' =>B.t cl C s' H' fp) (λC s' H' =>B.e cl C s' H' fp) E2 io hgo hz hrs ?_
  intro p C s' H' m IX hm hC hF G
  obtain⟨g1,g2,vs,g3,g4⟩:=G
  have hA:H' a=some (.frz o (.dT ws)):=g1 a _ aN
  have hpa:p≠a:=λz=>by subst z;rw[aN] at g2;cases g2
  refine⟨m,hm,λh' hs' => ⟨.ref p,upd H' a (.dT ws),(IX.EK hF hs').K7 hA hnf,rfl, ?_⟩⟩
  have sm:cj H (upd H' a (.dT ws)):=λb u q=>by
   by_cases z:b=a
   ·subst z;rw[aN,←q,hH]
   ·rw[az z];exact g1 b u (by rw[az z];exact q)
  have g3' :(upd H' a (.dT ws)) p=some (.lst vs):=by rw[az hpa];exact g3
  refine k _ _ sm ⟨p,rfl,by rw[az hpa] at g2;exact g2,⟨_,g3',trivial⟩,rfl,.lst (.inl g3') ⟨g4.1,λj d v e1 e2=> ?_⟩⟩
  have r1:=Rep.K7 hA (λq=>na ((cl2 a).mp q.1)) (g4.2 j d v e1 e2)
  exact r1.imp λb q=> ⟨(cl2 b).mp q.1,q.2⟩
 ·cases e
theorem kC{elts:List Expr}{x1}{tp:Pos}{elt:Expr}{ifs:List Expr}{scope:Scope}{N:List Str}{n i:Nat}{aO:List Nat}{gd:DG}{t:DT}{f:DE}{x:Str}{px apos cpos:Pos}(hN:X.N[i]? =some x)(hv:Vis X.env.scope x)(hc:X.calm=true)(S:jN X scope N n aO)
  (hgo:rE gd)(B:Blk X scope N (.Tuple elts x1 tp) elt ifs gd t f)(hd:(x==("__debug__":Str))=false:=by decide)(hcd:(x==("__classdict__":Str))=false:=by decide)
  (hbase:attributeBase (.Name x px) "items" X.env (eval (.Name x px) X.env)=eval (.Name x px) X.env:=by rfl)(hline:(apos.endLine==cpos.line)=true:=by rfl)
  (hs:∀y,foldedSetIterable (.Call (.Attribute (.Name x px) "items" apos) [] [] cpos) X.env y=pure y:=by intro _;rfl):
  PEd X (.ListComp elt [⟨.Tuple elts x1 tp,.Call (.Attribute (.Name x px) "items" apos) [] [] cpos,ifs,0⟩] scope pos) (pf bO i n aO gd t f):=Fc hc S (wM (lu hN hv hd hcd) hbase hline) rM hgo B hs
end
section
variable{prog:Program}{w:World}{A:Around}{E:Value→Shared→Prop}{s:Shared}{es:Array DictEntry}{ep:Nat}
def Prs(es:Array DictEntry)(lo:Addr)(h:Heap)(as:List Addr):Prop:=as.Nodup∧∀(j:Nat) (a:Addr),as[j]? =some a→lo<a∧∃en,es[j]? =some en∧h.get? a=some {cls:= .type "tuple",data:= .seq #[en.key,en.val]}
theorem Prs.at{lo:Addr}{h h' :Heap}{as:List Addr}(x:Prs es lo h as)(k:∀a o,lo<a→h.get? a=some o→h'.get? a=some o):Prs es lo h' as:=
 ⟨x.1,λj a e=>let⟨l,en,q,r⟩:=x.2 j a e;⟨l,en,q,k a _ l r⟩⟩
theorem Prs.snoc{lo a:Addr}{h:Heap}{as:List Addr}{en:DictEntry}(x:Prs es lo h as)(e:es[as.length]? =some en)(l:lo<a)(n:a∉as)(t:h.get? a=some {cls:= .type "tuple",data:= .seq #[en.key,en.val]}):Prs es lo h (as++[a]):=by
 refine⟨by rw[GcZ];exact⟨x.1,by simp,λb hb c hc q=>n (by simp at hc;rwa[←hc,←q])⟩,λj b hj=> ?_⟩
 rw[List.getElem?_append] at hj
 split at hj
 ·exact x.2 j b hj
 ·rw[List.getElem?_singleton] at hj
  split at hj
  ·cases hj
   have:j=as.length:=by omega
   exact⟨l,en,this▸e,t⟩
  ·cases hj
theorem Prs.lt{lo a:Addr}{h:Heap}{as:List Addr}(x:Prs es lo h as)(m:a∈as):a<h.objs.size:=by
 obtain⟨j,hj⟩:=Gbw.mp m
 obtain⟨_,_,_,q⟩:=x.2 j a hj
 exact Gax q
end
open PySem.W (KatLex KatTups kas_sort kas_ask kat_kind kat_lt kat_one kat_run kat_snds BoolBack kat_lt_int)
structure rN(K:aD)(Bad:Addr→Prop)(env:Env)(σ:St)(H:Hp)(i:Nat)(p:Addr)(as:List Addr)(rows:List (List D)):Prop where
 at_:σ[i]? =some (some (.ref p))
 hid:env[i]? =some none
 top:H p=some (.lst (as.map V.ref))
 nd:(p::as).Nodup
 len:as.length=rows.length
 row:∀(k:Nat) a ds,as[k]? =some a→rows[k]? =some ds→∃vs,H a=some (.lst vs)∧aY K (Cln Bad env σ) H ds vs
 bad:∀b∈p::as,Bad b
structure HI(as:List Addr)(env:Env)(σ:St)(H:Hp)(env' :Env)(σ' :St)(H' :Hp):Prop where
 keep:∀b o,H b=some o→¬Ow env σ b→b∉as→H' b=some o
 ow:∀b,Ow env' σ' b→Ow env σ b∨H b=none
 lk:∀i:Nat,uR env'[i]? →env'[i]? =env[i]? ∧σ'[i]? =σ[i]?
 th:∀b∈as,H' b≠none
section
variable{K:aD}{H₀ H H' H1:Hp}{Bad Bad' :Addr→Prop}{env env' :Env}{σ σ' :St}{d:D}{v:V}{a p:Addr}{i j:Nat}{as:List Addr}{rows:List (List D)}
theorem rN.mono(N:rN K Bad env σ H i p as rows)(s:cj H H'):rN K Bad env σ H' i p as rows where
 at_:=N.at_
 hid:=N.hid
 top:=s _ _ N.top
 nd:=N.nd
 len:=N.len
 row:=λk a ds h1 h2=>let⟨vs,h3,h4⟩:=N.row k a ds h1 h2;⟨vs,s _ _ h3,h4.gen (.of_same s) λ_ f _=>f⟩
 bad:=N.bad
theorem D9{b:Addr}(h:Cln Bad env σ b):Cln Bad (env.set j (some (.sh d))) (σ.set j (some v)) b:=⟨h.1,λk t e=>by
 obtain⟨q,t⟩:=gy t
 rw[Gab q] at e
 exact h.2 k t e⟩
theorem rN.lJ(N:rN K Bad env σ H i p as rows)(hij:i≠j):rN K Bad (env.set j (some (.sh d))) (σ.set j (some v)) H i p as rows where
 at_:=by rw[Gab (GaX hij)];exact N.at_
 hid:=by rw[Gab (GaX hij)];exact N.hid
 top:=N.top
 nd:=N.nd
 len:=N.len
 row:=λk a ds h1 h2=>let⟨vs,h3,h4⟩:=N.row k a ds h1 h2;⟨vs,h3,h4.gen (.of_same λ_ _ e=>e) λ_ f _=>D9 f⟩
 bad:=N.bad
theorem rN.there(N:rN K Bad env σ H i p as rows):∀b∈as,H b≠none:=λb hb=>by
 obtain⟨k,hk⟩:=Gbw.mp hb
 have hk' :k<rows.length:=by rw[←N.len];exact(Gac.mp hk).1
 obtain⟨vs,h,_⟩:=N.row k b rows[k] hk (Gaa hk')
 rw[h];simp
theorem HI.trans{e1 e2 e3:Env}{s1 s2 s3:St}{H1 H2 H3:Hp}(a:HI as e1 s1 H1 e2 s2 H2)(b:HI as e2 s2 H2 e3 s3 H3):HI as e1 s1 H1 e3 s3 H3:=by
 refine⟨λc o e n na=>b.keep c o (a.keep c o e n na) (λh=> ?_) na,λc h=> ?_,λi h=> ?_,b.th⟩
 ·rcases a.ow c h with q|q
  ·exact n q
  ·rw[e] at q;cases q
 ·rcases b.ow c h with q|q
  ·exact a.ow c q
  ·by_cases z:Ow e1 s1 c
   ·exact .inl z
   ·right
    cases e:H1 c with
    |none=>rfl
    |some o=>
     by_cases m:c∈as
     ·exact absurd q (a.th c m)
     ·rw[a.keep c o e z m] at q;cases q
 ·obtain⟨h1,h2⟩:=b.lk i h
  rw[h1] at h
  obtain⟨h3,h4⟩:=a.lk i h
  exact⟨h1.trans h3,h2.trans h4⟩
theorem Fd(nb:BF env=true){k:Nat}(e:env[k]? =some (some (.bor d))):False:=by
 have:=Gat.mp nb _ (GaF e)
 cases this
theorem aI.Fe{o o' :HO}(E:aI K H₀ Bad env σ H)(hb:Bad a)(h0:H₀ a=none)(h:H a=some o)(ho:¬isT o)(nb:BF env=true):aI K H₀ Bad env σ (upd H a o'):=by
 have dN:j4 (Cln Bad env σ) H (upd H a o'):=λb x hx q=>by
  have:b≠a:=by
   rintro rfl
   rcases q with q|q
   ·exact q.1 hb
   ·rw[h] at hx;cases hx;exact ho q
  rw[az this];exact hx
 refine⟨λb x hx=> ?_,E.len,λb q z=> ?_,λk dk e=> ?_,λk dk e=> ?_,λk dk e=>(Fd nb e).elim,E.dj⟩
 ·have:b≠a:=by rintro rfl;rw[h0] at hx;cases hx
  rw[az this];exact E.same b x hx
 ·by_cases m:b=a
  ·subst m;rw[aN] at z;cases z
  ·rw[az m] at z;exact E.bad b q z
 ·obtain⟨u,h1,h2⟩:=E.sh k dk e
  exact⟨u,h1,h2.gen dN λ_ f _=>f⟩
 ·obtain⟨b,h1,h2,h3,h4,h5,h6⟩:=E.ow k dk e
  have m:b≠a:=λz=>h3 (z▸hb)
  refine⟨b,h1,h2,h3, ?_,h5,h6.gen dN (λ_ f _=>f) λc ec _ x hx=> ?_⟩
  ·unfold Wr;rw[az m];exact h4
  ·cases ec;rw[az m];exact hx
theorem rN.app{vs:List V}{ds:List D}{k:Nat}(N:rN K Bad env σ H i p as rows)(ha:as[k]? =some a)(hd:rows[k]? =some ds)(hv:H a=some (.lst vs))(rp:aY K (Cln Bad env σ) H (ds++[d]) (vs++[v])):rN K Bad env σ (upd H a (.lst (vs++[v]))) i p as (rows.set k (ds++[d])):=by
 have ba:Bad a:=N.bad a (Gag _ (GaF ha))
 have dN:j4 (Cln Bad env σ) H (upd H a (.lst (vs++[v]))):=λb x hx q=>by
  have:b≠a:=by
   rintro rfl
   rcases q with q|q
   ·exact q.1 ba
   ·rw[hv] at hx;cases hx;exact q
  rw[az this];exact hx
 have hpa:p≠a:=by
  rintro rfl
  exact(Gcm.mp N.nd).1 (GaF ha)
 refine⟨N.at_,N.hid,by rw[az hpa];exact N.top,N.nd,by rw[GcK];exact N.len,λk' a' ds' h1 h2=> ?_,N.bad⟩
 by_cases q:k=k'
 ·subst q
  rw[ha] at h1;cases h1
  rw[GaN (Gac.mp hd).1] at h2
  cases h2
  exact⟨_,aN,rp.gen dN λ_ f _=>f⟩
 ·rw[Gab q] at h2
  obtain⟨us,h3,h4⟩:=N.row k' a' ds' h1 h2
  have na:a' ≠a:=by
   rintro rfl
   have l1:=(Gac.mp ha)
   have l2:=(Gac.mp h1)
   exact q ((List.getElem_inj (Gcm.mp N.nd).2).mp (l1.2.trans l2.2.symm))
  exact⟨us,by rw[az na];exact h3,h4.gen dN λ_ f _=>f⟩
theorem aI.hide(E:aI K H₀ Bad env σ H)(i:Nat)(v:V):aI K H₀ Bad (env.set i none) (σ.set i (some v)) H:=by
 have tops:∀{k:Nat},bx (env.set i none)[k]? →i≠k∧bx env[k]? :=λ{k} t=>by
  by_cases q:i=k
  ·subst q
   by_cases z:i<env.length
   ·rw[cI z] at t;exact t.elim
   ·rw[Gbk (by simpa using Nat.le_of_not_lt z)] at t;exact t.elim
  ·rw[Gab q] at t
   exact⟨q,t⟩
 have cln:∀b,Cln Bad env σ b→Cln Bad (env.set i none) (σ.set i (some v)) b:=λb h=> ⟨h.1,λk t e=>by
  obtain⟨q,t⟩:=tops t
  rw[Gab q] at e
  exact h.2 k t e⟩
 refine⟨E.same,by simp[E.len],E.bad,λk dk e=> ?_,λk dk e=> ?_,λk dk e=> ?_,λk l b t1 t2 e1 e2=> ?_⟩
 ·rcases get_set e with⟨q,e⟩| ⟨q,e⟩
  ·cases e
  ·obtain⟨u,h1,h2⟩:=E.sh k dk e
   exact⟨u,by rw[Gab q];exact h1,h2.imp cln⟩
 ·have e' :i≠k∧(env[k]? =some (some (.own dk))∨env[k]? =some (some (.lok dk))):=by
   rcases e with e|e
   ·rcases get_set e with⟨q,e⟩| ⟨q,e⟩
    ·cases e
    ·exact⟨q,.inl e⟩
   ·rcases get_set e with⟨q,e⟩| ⟨q,e⟩
    ·cases e
    ·exact⟨q,.inr e⟩
  obtain⟨b,h1,h2,h3,h4,h5,h6⟩:=E.ow k dk e'.2
  exact⟨b,by rw[Gab e'.1];exact h1,h2,h3,h4,h5,h6.imp cln⟩
 ·rcases get_set e with⟨q,e⟩| ⟨q,e⟩
  ·cases e
  ·obtain⟨b,h1,hw,h2,h3⟩:=E.bo k dk e
   exact⟨b,by rw[Gab q];exact h1,hw,h2,h3.imp cln⟩
 ·obtain⟨q1,t1'⟩:=tops t1.top
  obtain⟨q2,t2⟩:=tops t2
  rw[Gab q1] at e1 t1
  rw[Gab q2] at e2
  exact E.dj k l b t1 t2 e1 e2
theorem aI.C0{New:Addr→Prop}(E:aI K H₀ Bad env σ H)(s:cj H H')(h1:∀b,New b→H b=none)(h2:∀b,New b→H' b≠none):aI K H₀ (λb=>Bad b∨New b) env σ H' :=by
 have cln:∀b,Cln Bad env σ b→H b≠none→Cln (λb=>Bad b∨New b) env σ b:=λb h n=> ⟨λq=>q.elim h.1 λz=>n (h1 b z),h.2⟩
 refine⟨E.same.trans s,E.len,λb q z=>q.elim (λq=>E.bad b q (s.free z)) λq=>h2 b q z,λk dk e=> ?_,λk dk e=> ?_,λk dk e=> ?_,E.dj⟩
 ·obtain⟨u,q1,q2⟩:=E.sh k dk e
  exact⟨u,q1,q2.gen (.of_same s) cln⟩
 ·obtain⟨b,q1,q2,q3,q4,q5,q6⟩:=E.ow k dk e
  exact⟨b,q1,q2,λz=>z.elim q3 λz=>q4.there (h1 b z),q4.same s,q5,q6.gen (.of_same s) cln λc ec _ x hx=>s c x hx⟩
 ·obtain⟨b,q1,qw,q2,q3⟩:=E.bo k dk e
  exact⟨b,q1,qw.same s,q2,q3.gen (.of_same s) cln λc ec _ x hx=>s c x hx⟩
end
open PySem PyProof.Rows
noncomputable abbrev SM:=StateT SortSt Sem
noncomputable def kX:Bool→Keyed→Array Keyed→Nat→Nat→Nat→SM (Option Nat):=sortPriv%PySem.Builtin.gallop
noncomputable def HJ(far:Nat→SM (Option Bool))(n l0 r0:Nat):SM (Option Nat):=do
 let mut lo:=l0
 let mut hi:=r0
 for _ in [0:n] do
  if lo≥hi then break
  let md:=lo+(hi -lo)/2
  let some mo←far md|return none
  if mo then lo:=md+1 else hi:=md
 return some hi
noncomputable def K9(far:Nat→SM (Option Bool))(n h0:Nat):SM (Option Nat):=do
 let some rt←far h0|return none
 if rt then
  let mut lst:=0
  let mut nxt:=1
  for _ in [0:n] do
   if nxt≥n -h0 then break
   let some mo←far (h0+nxt)|return none
   if !mo then break
   lst:=nxt
   nxt:=2*nxt+1
  HJ far n (h0+lst+1) (h0+min nxt (n -h0))
 else
  let mut lst:=0
  let mut nxt:=1
  for _ in [0:n] do
   if nxt≥h0+1 then break
   let some fd←far (h0 -nxt)|return none
   if fd then break
   lst:=nxt
   nxt:=2*nxt+1
  HJ far n (h0+1 -min nxt (h0+1)) (h0 -lst)
noncomputable def IY(lf:Bool)(kx:Keyed)(xs:Array Keyed)(b0 u:Nat):SM (Option Bool):=do
 let y←elem' xs (b0+u)
 if lf then lt' y kx else return(←lt' kx y).map (!·)
theorem Ff(lf:Bool)(kx:Keyed)(xs:Array Keyed)(b0 n h0:Nat):kX lf kx xs b0 n h0=K9 (IY lf kx xs b0) n h0:=rfl
theorem dG{M:Model}{A:Around}{E:Value→Shared→Prop}{s:Shared}{σ α:Type}{c:Prop}{_:Decidable c}{x y:StateT σ Sem α}{Q:α→σ→Prop}{st:σ}(h1:c→wpS M A E s x Q st)(h2:¬c→wpS M A E s y Q st):wpS M A E s (if c then x else y) Q st:=by
 by_cases h:c
 ·rw[Gaf h];exact h1 h
 ·rw[Gah h];exact h2 h
section
variable{M:Model}{A:Around}{E:Value→Shared→Prop}{s:Shared}{st:SortSt}{far:Nat→SM (Option Bool)}{n:Nat}{B:Nat→Bool}{Q:Option Nat→SortSt→Prop}
def Cut(B:Nat→Bool)(n k:Nat):Prop:=k≤n∧(∀u,u<k→B u=true)∧∀u,k≤u→u<n→B u=false
theorem C1{lo hi:Nat}(hf:∀u,u<n→∀R:Option Bool→SortSt→Prop,R (some (B u)) st→wpS M A E s (far u) R st)(mB:∀u v,u≤v→v<n→B v=true→B u=true)(h1:lo≤hi)(h2:hi≤n)
  (hlo:∀u,u<lo→B u=true)(hhi:∀u,hi≤u→u<n→B u=false)(h:∀k,Cut B n k→Q (some k) st):wpS M A E s (HJ far n lo hi) Q st:=by
 unfold HJ
 refine Gai (Gbn (Gbd (I:=λi c z=>z=st∧∃lo hi,c=(none,lo,hi)∧lo≤hi∧hi≤n∧hi -lo≤n -i∧(∀u,u<lo→B u=true)∧(∀u,hi≤u→u<n→B u=false))
  (Q:=λc z=>z=st∧∃lo hi,c=(none,lo,hi)∧Cut B n hi) ?step ?fin ⟨rfl,lo,hi,rfl,h1,h2,by omega,hlo,hhi⟩) ?post)
 case fin=>
  rintro c z ⟨rfl,lo,hi,rfl,q1,q2,q3,q4,q5⟩
  have:lo=hi:=by
   have:max 0 n=n:=by omega
   omega
  subst this
  exact⟨rfl,_,_,rfl,q2,q4,q5⟩
 case step=>
  rintro i c z _ hi' ⟨rfl,lo,hi,rfl,q1,q2,q3,q4,q5⟩
  dsimp only
  by_cases g:lo≥hi
  ·rw[Gaf g]
   have:lo=hi:=by omega
   subst this
   exact Gao ⟨rfl,_,_,rfl,q2,q4,q5⟩
  ·rw[Gah g]
   refine Gai (hf _ (by omega) _ ?_)
   dsimp only
   cases b:B (lo+(hi -lo)/2) with
   |true=>
    simp only[Gbs]
    exact Gao ⟨rfl,_,_,rfl,by omega,q2,by omega,λu hu=>mB u _ (by omega) (by omega) b,q5⟩
   |false=>
    simp only[GaD,Gbf]
    refine Gao ⟨rfl,_,_,rfl,by omega,by omega,by omega,q4,λu hu hn=> ?_⟩
    cases b' :B u with
    |false=>rfl
    |true=>rw[mB _ u hu hn b'] at b;cases b
 case post=>
  rintro c z ⟨rfl,lo,hi,rfl,q⟩
  exact Gao (h hi q)
theorem HK{h0:Nat}(hf:∀u,u<n→∀R:Option Bool→SortSt→Prop,R (some (B u)) st→wpS M A E s (far u) R st)(mB:∀u v,u≤v→v<n→B v=true→B u=true)(hh:h0<n)
  (h:∀k,Cut B n k→Q (some k) st):wpS M A E s (K9 far n h0) Q st:=by
 unfold K9
 refine Gai (hf _ hh _ ?_)
 dsimp only
 cases b:B h0 with
 |true=>
  simp only[Gbs]
  refine Gai (Gbn (Gbd (I:=λi c z=>z=st∧∃l o,c=(none,l,o)∧l<o∧l<n -h0∧i+1≤o∧B (h0+l)=true)
   (Q:=λc z=>z=st∧∃l o,c=(none,l,o)∧l<o∧l<n -h0∧B (h0+l)=true∧(o≥n -h0∨B (h0+o)=false)) ?step ?fin ⟨rfl,0,1,rfl,by omega,by omega,by omega,b⟩) ?post)
  case fin=>
   rintro c z ⟨rfl,l,o,rfl,q1,q2,q3,q4⟩
   exact⟨rfl,l,o,rfl,q1,q2,q4,.inl (by omega)⟩
  case step=>
   rintro i c z _ hi' ⟨rfl,l,o,rfl,q1,q2,q3,q4⟩
   dsimp only
   by_cases g:o≥n -h0
   ·rw[Gaf g]
    exact Gao ⟨rfl,l,o,rfl,q1,q2,q4,.inl g⟩
   ·rw[Gah g]
    refine Gai (hf _ (by omega) _ ?_)
    dsimp only
    cases b' :B (h0+o) with
    |false=>
     simp only[Bool.not_false,Gbs]
     exact Gao ⟨rfl,l,o,rfl,q1,q2,q4,.inr b'⟩
    |true=>
     simp only[Gde,GaD,Gbf]
     exact Gao ⟨rfl,o,2*o+1,rfl,by omega,by omega,by omega,b'⟩
  case post=>
   rintro c z ⟨rfl,l,o,rfl,q1,q2,q3,q4⟩
   dsimp only
   refine C1 hf mB (by omega) (by omega) (λu hu=>mB u (h0+l) (by omega) (by omega) q3) (λu hu hn=> ?_) h
   rcases q4 with q4|q4
   ·omega
   ·by_cases w:o≥n -h0
    ·omega
    ·cases b' :B u with
     |false=>rfl
     |true=>rw[mB (h0+o) u (by omega) hn b'] at q4;cases q4
 |false=>
  simp only[GaD,Gbf]
  refine Gai (Gbn (Gbd (I:=λi c z=>z=st∧∃l o,c=(none,l,o)∧l<o∧l<h0+1∧i+1≤o∧B (h0 -l)=false)
   (Q:=λc z=>z=st∧∃l o,c=(none,l,o)∧l<o∧l<h0+1∧B (h0 -l)=false∧(o≥h0+1∨B (h0 -o)=true)) ?step ?fin ⟨rfl,0,1,rfl,by omega,by omega,by omega,b⟩) ?post)
  case fin=>
   rintro c z ⟨rfl,l,o,rfl,q1,q2,q3,q4⟩
   exact⟨rfl,l,o,rfl,q1,q2,q4,.inl (by omega)⟩
  case step=>
   rintro i c z _ hi' ⟨rfl,l,o,rfl,q1,q2,q3,q4⟩
   dsimp only
   by_cases g:o≥h0+1
   ·rw[Gaf g]
    exact Gao ⟨rfl,l,o,rfl,q1,q2,q4,.inl g⟩
   ·rw[Gah g]
    refine Gai (hf _ (by omega) _ ?_)
    dsimp only
    cases b' :B (h0 -o) with
    |true=>
     simp only[Gbs]
     exact Gao ⟨rfl,l,o,rfl,q1,q2,q4,.inr b'⟩
    |false=>
     simp only[GaD,Gbf]
     exact Gao ⟨rfl,o,2*o+1,rfl,by omega,by omega,by omega,b'⟩
  case post=>
   rintro c z ⟨rfl,l,o,rfl,q1,q2,q3,q4⟩
   dsimp only
   refine C1 hf mB (by omega) (by omega) (λu hu=> ?_) (λu hu hn=> ?_) h
   ·rcases q4 with q4|q4
    ·omega
    ·by_cases w:o≥h0+1
     ·omega
     ·exact mB u (h0 -o) (by omega) (by omega) q4
   ·cases b' :B u with
    |false=>rfl
    |true=>rw[mB (h0 -l) u (by omega) hn b'] at q3;cases q3
end
open PySem.W (kas_item)
noncomputable def rO:Nat→SM Unit:=sortPriv%PySem.Builtin.setMinGallop
theorem og(g:Nat):rO g=modify (λz=>SortSt.mk' (kindOf z) (arrOf z) (pendingOf z) g (failedOf z)):=rfl
def Srt(rk:Nat→Int)(p:List Nat):Prop:=p.Pairwise λx y=>rk x≤rk y
def i8(prog:Program)(w:World)(A:Around)(s:Shared)(κ:SortKind)(it:Array Keyed)(rk:Nat→Int):Prop:=
 ∀i j,i<it.size→j<it.size→∀C:Bool→Shared→Prop,C (decide (rk i<rk j)) s→wpAny (model prog w) A (keyLt' κ (kas_item it i).1 (kas_item it j).1) C (λ_ _=>False) s
def bh(it:Array Keyed)(a:Array Keyed)(p:List Nat):Prop:=a=(p.map (kas_item it)).toArray∧∀i∈p,i<it.size
def bG(z z' :SortSt):Prop:=kindOf z' =kindOf z∧arrOf z' =arrOf z∧pendingOf z' =pendingOf z∧failedOf z' =failedOf z
theorem bG.refl{z:SortSt}:bG z z:=⟨rfl,rfl,rfl,rfl⟩
theorem bG.trans{x y z:SortSt}(a:bG x y)(b:bG y z):bG x z:=⟨b.1.trans a.1,b.2.1.trans a.2.1,b.2.2.1.trans a.2.2.1,b.2.2.2.trans a.2.2.2⟩
section
variable{it:Array Keyed}{a b:Array Keyed}{p q:List Nat}
theorem bh.size(R:bh it a p):a.size=p.length:=by rw[R.1];simp
theorem bh.get{k i:Nat}(R:bh it a p)(h:p[k]? =some i):a[k]? =some (kas_item it i):=by rw[R.1];simp[h]
theorem bh.lt{k i:Nat}(R:bh it a p)(h:p[k]? =some i):i<it.size:=R.2 i (GaF h)
theorem bh.push{i:Nat}(R:bh it a p)(hi:i<it.size):bh it (a.push (kas_item it i)) (p++[i]):=⟨by rw[R.1];simp,λj hj=>by
 rcases Gaw.mp hj with h|h
 ·exact R.2 j h
 ·simp at h;subst h;exact hi⟩
theorem bh.append(R:bh it a p)(S:bh it b q):bh it (a++b) (p++q):=⟨by rw[R.1,S.1];simp,λj hj=>(Gaw.mp hj).elim (R.2 j) (S.2 j)⟩
theorem bh.sub(R:bh it a p){l:List Nat}(h:∀x∈l,x∈p){c:Array Keyed}(e:c=(l.map (kas_item it)).toArray):bh it c l:=⟨e,λj hj=>R.2 j (h j hj)⟩
theorem bh.extract(R:bh it a p)(i j:Nat):bh it (a.extract i j) ((p.drop i).take (j -i)):=by
 refine R.sub (λx hx=>Gbo (Gbi hx)) ?_
 apply Gce.mp
 rw[R.1]
 simp[List.map_take,Gdu,List.extract_eq_take_drop]
theorem bh.drop(R:bh it a p)(i:Nat):bh it (a.extract i a.size) (p.drop i):=by
 have:=R.extract i a.size
 rw[R.size,Gbt (by simp)] at this
 rw[R.size];exact this
theorem bh.reverse(R:bh it a p):bh it a.reverse p.reverse:=by
 refine R.sub (λx hx=>GbI.mp hx) ?_
 rw[R.1];simp
end
section
variable{prog:Program}{w:World}{A:Around}{E:Value→Shared→Prop}{s:Shared}{st:SortSt}{κ:SortKind}{it:Array Keyed}{rk:Nat→Int}
theorem wO{i j:Nat}{Q:Option Bool→SortSt→Prop}(hA:i8 prog w A s κ it rk)(hk:kindOf st=κ)(hi:i<it.size)(hj:j<it.size)(h:Q (some (decide (rk i<rk j))) st):wpS (model prog w) A E s (lt' (kas_item it i) (kas_item it j)) Q st:=by
 rw[lt'_eq]
 refine Gai (GcB ?_)
 rw[hk]
 refine Gai (wpS_lift (wpAny_attempt (GbA (hA i j hi hj (λb z=>z=s∧b=decide (rk i<rk j)) ⟨rfl,rfl⟩) (λb z hb=> ⟨hb.1, ?_⟩) λ_ _ f=>f.elim)))
 rw[hb.2]
 exact Gao h
theorem bH{a:Array Keyed}{p:List Nat}{k i:Nat}{Q:Keyed→SortSt→Prop}(R:bh it a p)(hk:p[k]? =some i)(h:Q (kas_item it i) st):wpS (model prog w) A E s (elem' a k) Q st:=by
 rw[elem'_eq,R.get hk]
 exact Gao h
theorem qQ{l:List Nat}(h:Srt rk l):∀{u v x y:Nat},u≤v→l[u]? =some x→l[v]? =some y→rk x≤rk y:=by
 intro u v x y huv hx hy
 rcases Nat.lt_or_ge u v with c|c
 ·obtain⟨h1,rfl⟩:=Gac.mp hx
  obtain⟨h2,rfl⟩:=Gac.mp hy
  exact GbY.mp h u v h1 h2 c
 ·have:u=v:=by omega
  subst this
  rw[hx] at hy;cases hy;exact GbF _
theorem pD{lf:Bool}{xs:Array Keyed}{ps:List Nat}{ik b0 n h0:Nat}{Q:Option Nat→SortSt→Prop}(hA:i8 prog w A s κ it rk)(hk:kindOf st=κ)(R:bh it xs ps)(hi:ik<it.size)(hn:b0+n≤ps.length)(hs:Srt rk ((ps.drop b0).take n))(hh:h0<n)
  (h:∀k,k≤n→(∀x∈((ps.drop b0).take n).take k,if lf=true then rk x<rk ik else rk x≤rk ik)→(∀x∈((ps.drop b0).take n).drop k,if lf=true then rk ik≤rk x else rk ik<rk x)→Q (some k) st):
  wpS (model prog w) A E s (kX lf (kas_item it ik) xs b0 n h0) Q st:=by
 rw[Ff]
 have len:((ps.drop b0).take n).length=n:=by simp;omega
 have at_:∀u,u<n→∃x,((ps.drop b0).take n)[u]? =some x∧ps[b0+u]? =some x:=λu hu=>by
  have h1:u<((ps.drop b0).take n).length:=by rw[len];exact hu
  refine⟨((ps.drop b0).take n)[u],Gaa h1, ?_⟩
  have:=Gaa h1
  rw[GaS hu,Gbg] at this
  exact this
 have fin:∀B:Nat→Bool,(∀u x,((ps.drop b0).take n)[u]? =some x→B u=if lf=true then decide (rk x<rk ik) else !decide (rk ik<rk x))→∀k,Cut B n k→Q (some k) st:=by
  intro B hB k ⟨c1,c2,c3⟩
  refine h k c1 (λx hx=> ?_) (λx hx=> ?_)
  ·obtain⟨u,hu⟩:=Gbw.mp hx
   have hu' :u<k:=by have:=(Gac.mp hu).1;simp at this;omega
   rw[GaS hu'] at hu
   have b:=c2 u hu'
   rw[hB u x hu] at b
   cases lf with
   |true=>simpa using b
   |false=>simpa using b
  ·obtain⟨u,hu⟩:=Gbw.mp hx
   rw[Gbg] at hu
   have hu' :k+u<n:=by have:=(Gac.mp hu).1;rw[len] at this;exact this
   have b:=c3 (k+u) (by omega) hu'
   rw[hB _ x hu] at b
   cases lf with
   |true=>simpa using b
   |false=>simpa using b
 refine HK (B:=λu=>if lf=true then decide (rk (((ps.drop b0).take n).getD u 0)<rk ik) else !decide (rk ik<rk (((ps.drop b0).take n).getD u 0))) (λu hu R' hR=> ?_) (λu v huv hv b=> ?_) hh (fin _ λu x hx=>by simp[List.getD,hx])
 ·obtain⟨x,h1,h2⟩:=at_ u hu
  have e:((ps.drop b0).take n).getD u 0=x:=by simp[List.getD,h1]
  simp only[e] at hR
  unfold IY
  refine Gai (bH R h2 ?_)
  cases lf with
  |true=>
   simp only[Gbs] at hR⊢
   exact wO hA hk (R.lt h2) hi hR
  |false=>
   simp only[GaD,Gbf] at hR⊢
   exact Gai (wO hA hk hi (R.lt h2) (Gao hR))
 ·obtain⟨x,h1,_⟩:=at_ u (by omega)
  obtain⟨y,h2,_⟩:=at_ v hv
  have e1:((ps.drop b0).take n).getD u 0=x:=by simp[List.getD,h1]
  have e2:((ps.drop b0).take n).getD v 0=y:=by simp[List.getD,h2]
  have le:=qQ hs huv h1 h2
  simp only[e1,e2] at b⊢
  cases lf with
  |true=>simp at b⊢;omega
  |false=>simp at b⊢;omega
end
noncomputable def Ka:Array Keyed→Array Keyed→SM (Array Keyed):=sortPriv%PySem.Builtin.mergeLo
theorem HL(a b:Array Keyed):Ka a b=(do
 rule "list.sort.merge-lo"
 let tot:=a.size+b.size
 let fin (o:Array Keyed) (u v:Nat):=o++a.extract u a.size++b.extract v b.size
 let las (o:Array Keyed) (u v:Nat):=o++b.extract v b.size++a.extract u a.size
 let mut o:Array Keyed:=#[←elem' b 0]
 let mut u:=0
 let mut v:=1
 if v==b.size then return fin o u v
 if u+1==a.size then return las o u v
 let mut mg:=gallopOf (←get)
 for _ in [0:tot] do
  let mut ca:=0
  let mut cb:=0
  for _ in [0:tot] do
   let some w←lt' (←elem' b v) (←elem' a u)|return fin o u v
   if w then
    o:=o.push (←elem' b v);v:=v+1;cb:=cb+1;ca:=0
    if v==b.size then return fin o u v
    if cb≥mg then break
   else
    o:=o.push (←elem' a u);u:=u+1;ca:=ca+1;cb:=0
    if u+1==a.size then return las o u v
    if ca≥mg then break
  rule "list.sort.gallop"
  mg:=mg+1
  for _ in [0:tot] do
   if mg>1 then mg:=mg -1
   rO mg
   let some k←kX false (←elem' b v) a u (a.size -u) 0|return fin o u v
   ca:=k
   if k>0 then
    o:=o++a.extract u (u+k);u:=u+k
    if u+1==a.size then return las o u v
    if u==a.size then return fin o u v
   o:=o.push (←elem' b v);v:=v+1
   if v==b.size then return fin o u v
   let some k←kX true (←elem' a u) b v (b.size -v) 0|return fin o u v
   cb:=k
   if k>0 then
    o:=o++b.extract v (v+k);v:=v+k
    if v==b.size then return fin o u v
   o:=o.push (←elem' a u);u:=u+1
   if u+1==a.size then return las o u v
   if ca<7&&cb<7 then break
  mg:=mg+1
  rO mg
 unsupported "internal:list.sort.merge-bound"):=rfl
noncomputable abbrev B3:=Option (Array Keyed)×Array Keyed×Nat×Nat×Nat×Nat×Nat
noncomputable def loC(a b:Array Keyed)(mg ca cb:Nat)(o:Array Keyed)(u v:Nat):SM (ForInStep B3):=do
 let e←elem' a u
 if(u+1+1==a.size)=true then pure (.done (some (o.push e++b.extract v b.size++a.extract (u+1) a.size),o.push e,u+1,v,mg,ca,cb))
 else if(decide (ca<7)&&decide (cb<7))=true then pure (.done (none,o.push e,u+1,v,mg,ca,cb))
 else pure (.yield (none,o.push e,u+1,v,mg,ca,cb))
noncomputable def loB(a b:Array Keyed)(mg ca cb:Nat)(o:Array Keyed)(u v:Nat):SM (ForInStep B3):=do
 let e←elem' b v
 if(v+1==b.size)=true then pure (.done (some (o.push e++a.extract u a.size++b.extract (v+1) b.size),o.push e,u,v+1,mg,ca,cb))
 else do
  let e2←elem' a u
  let f←kX true e2 b (v+1) (b.size -(v+1)) 0
  match f with
  |some k=>
   if k>0 then
    if(v+1+k==b.size)=true then pure (.done (some (o.push e++b.extract (v+1) (v+1+k)++a.extract u a.size++b.extract (v+1+k) b.size),o.push e++b.extract (v+1) (v+1+k),u,v+1+k,mg,ca,k))
    else loC a b mg ca k (o.push e++b.extract (v+1) (v+1+k)) u (v+1+k)
   else loC a b mg ca k (o.push e) u (v+1)
  |_=>pure (.done (some (o.push e++a.extract u a.size++b.extract (v+1) b.size),o.push e,u,v+1,mg,ca,cb))
noncomputable def loA(a b:Array Keyed)(mg ca cb:Nat)(o:Array Keyed)(u v:Nat):SM (ForInStep B3):=do
 rO mg
 let e←elem' b v
 let f←kX false e a u (a.size -u) 0
 match f with
 |some k=>
  if k>0 then
   if(u+k+1==a.size)=true then pure (.done (some (o++a.extract u (u+k)++b.extract v b.size++a.extract (u+k) a.size),o++a.extract u (u+k),u+k,v,mg,k,cb))
   else if(u+k==a.size)=true then pure (.done (some (o++a.extract u (u+k)++a.extract (u+k) a.size++b.extract v b.size),o++a.extract u (u+k),u+k,v,mg,k,cb))
   else loB a b mg k cb (o++a.extract u (u+k)) (u+k) v
  else loB a b mg k cb o u v
 |_=>pure (.done (some (o++a.extract u a.size++b.extract v b.size),o,u,v,mg,ca,cb))
structure LoI(rk:Nat→Int)(p q o:List Nat)(u v:Nat):Prop where
 pm:o.Perm (p.take u++q.take v)
 so:Srt rk o
 oa:∀x∈o,∀y∈p.drop u,rk x≤rk y
 ob:∀x∈o,∀y∈q.drop v,rk x≤rk y
section
variable{rk:Nat→Int}{p q o:List Nat}{u v k:Nat}
theorem dH{l m:List Nat}(h:Srt rk l)(h2:Srt rk m)(h3:∀x∈l,∀y∈m,rk x≤rk y):Srt rk (l++m):=List.pairwise_append.mpr ⟨h,h2,h3⟩
theorem ft{l:List Nat}(h:Srt rk l)(n:Nat):Srt rk (l.drop n):=h.sublist (List.drop_sublist _ _)
theorem fV{l:List Nat}(h:Srt rk l)(n:Nat):Srt rk (l.take n):=h.sublist (List.take_sublist _ _)
theorem qR{l:List Nat}(h:Srt rk l)(n:Nat):∀x∈l.take n,∀y∈l.drop n,rk x≤rk y:=by
 have:=h
 rw[←GaZ n l] at this
 exact(List.pairwise_append.mp this).2.2
theorem Dc{l:List Nat}{n k:Nat}{x:Nat}(h:x∈l.drop (n+k)):x∈l.drop n:=by
 rw[←GbL] at h
 exact Gbo h
theorem LoI.B4(I:LoI rk p q o u v)(sp:Srt rk p)(h:∀x∈(p.drop u).take k,∀y∈q.drop v,rk x≤rk y):LoI rk p q (o++(p.drop u).take k) (u+k) v:=by
 refine⟨?_,dH I.so (fV (ft sp u) k) λx hx y hy=>I.oa x hx y (Gbi hy),λx hx y hy=> ?_,λx hx y hy=> ?_⟩
 ·rw[List.take_add]
  refine(I.pm.append_right _).trans ?_
  rw[Gav,Gav]
  exact Gbl.append_left _
 ·rcases Gaw.mp hx with hx|hx
  ·exact I.oa x hx y (Dc hy)
  ·rw[←GbL] at hy
   exact qR (ft sp u) k x hx y hy
 ·rcases Gaw.mp hx with hx|hx
  ·exact I.ob x hx y hy
  ·exact h x hx y hy
theorem LoI.swap(I:LoI rk p q o u v):LoI rk q p o v u:=⟨I.pm.trans Gbl,I.so,I.ob,I.oa⟩
theorem LoI.Kb(I:LoI rk p q o u v)(sq:Srt rk q)(h:∀x∈(q.drop v).take k,∀y∈p.drop u,rk x≤rk y):LoI rk p q (o++(q.drop v).take k) u (v+k):=(I.swap.B4 sq h).swap
theorem take1{l:List Nat}{n x:Nat}(h:l[n]? =some x):(l.drop n).take 1=[x]:=by
 obtain⟨h1,rfl⟩:=Gac.mp h
 rw[Gbv h1]
 rfl
theorem LoI.rP{x:Nat}(I:LoI rk p q o u v)(sp:Srt rk p)(hx:p[u]? =some x)(h:∀y∈q.drop v,rk x≤rk y):LoI rk p q (o++[x]) (u+1) v:=by
 have:=I.B4 (k:=1) sp (by rw[take1 hx];intro z hz;simp at hz;subst hz;exact h)
 rw[take1 hx] at this
 exact this
theorem LoI.wQ{x:Nat}(I:LoI rk p q o u v)(sq:Srt rk q)(hx:q[v]? =some x)(h:∀y∈p.drop u,rk x≤rk y):LoI rk p q (o++[x]) u (v+1):=(I.swap.rP sq hx h).swap
theorem LoI.done(I:LoI rk p q o u v)(sp:Srt rk p)(sq:Srt rk q)(h:v=q.length∨u=p.length):(o++p.drop u++q.drop v).Perm (p++q)∧Srt rk (o++p.drop u++q.drop v):=by
 constructor
 ·refine(Gbj _ (Gbj _ I.pm)).trans ?_
  have e:p++q=(p.take u++p.drop u)++(q.take v++q.drop v):=by rw[GaZ,GaZ]
  rw[e,Gav,Gav,Gav]
  refine GbM _ ?_
  rw[←Gav,←Gav]
  exact Gbj _ Gbl
 ·rcases h with rfl|rfl
  ·rw[GbH,Gbh]
   exact dH I.so (ft sp u) I.oa
  ·rw[GbH,Gbh]
   exact dH I.so (ft sq v) I.ob
theorem LoI.last(I:LoI rk p q o u v)(sq:Srt rk q)(h:u+1=p.length)(hl:∀x,p[u]? =some x→∀y∈q,rk y≤rk x):(o++q.drop v++p.drop u).Perm (p++q)∧Srt rk (o++q.drop v++p.drop u):=by
 have hu:u<p.length:=by omega
 have e:p.drop u=[p[u]]:=by rw[Gbv hu,h,GbH]
 constructor
 ·have pm:=I.pm
  refine(Gbj _ (Gbj _ pm)).trans ?_
  rw[Gav,Gav,←Gav (List.take v q),GaZ]
  refine(GbM _ Gbl).trans ?_
  rw[←Gav,GaZ]
 ·refine dH (dH I.so (ft sq v) I.ob) (by rw[e];exact GbN _ _) λx hx y hy=> ?_
  rw[e] at hy
  simp at hy
  subst hy
  rcases Gaw.mp hx with hx|hx
  ·exact I.oa x hx _ (by rw[e];simp)
  ·exact hl _ (Gaa hu) x (Gbo hx)
end
section
variable{prog:Program}{w:World}{A:Around}{E:Value→Shared→Prop}{s:Shared}{st:SortSt}{κ:SortKind}{it:Array Keyed}{rk:Nat→Int}{a b:Array Keyed}{p q:List Nat}
def dC(it:Array Keyed)(rk:Nat→Int)(p q:List Nat)(r:Array Keyed):Prop:=∃l,bh it r l∧l.Perm (p++q)∧Srt rk l
theorem mI{l:List Nat}{x y n:Nat}(h:Srt rk l)(hx:l[n]? =some x)(hy:y∈l.drop n):rk x≤rk y:=by
 obtain⟨k,hk⟩:=Gbw.mp hy
 rw[Gbg] at hk
 exact qQ h (by omega) hx hk
structure LoP(it:Array Keyed)(rk:Nat→Int)(p q:List Nat)(o:Array Keyed)(u v:Nat):Prop where
 ex:∃l,bh it o l∧LoI rk p q l u v
 bu:u+1<p.length
 bv:v<q.length
def C2(it:Array Keyed)(rk:Nat→Int)(p q:List Nat)(N:Nat):ForInStep B3→Prop
 | .done c=>(∃r t,c=(some r,t)∧dC it rk p q r)∨∃o u v mg ca cb,c=(none,o,u,v,mg,ca,cb)∧LoP it rk p q o u v∧N≤u+v
 | .yield c=>∃o u v mg ca cb,c=(none,o,u,v,mg,ca,cb)∧LoP it rk p q o u v∧N≤u+v
structure LoX(prog:Program)(w:World)(A:Around)(s:Shared)(κ:SortKind)(it:Array Keyed)(rk:Nat→Int)(a b:Array Keyed)(p q:List Nat):Prop where
 hA:i8 prog w A s κ it rk
 Ra:bh it a p
 Rb:bh it b q
 sp:Srt rk p
 sq:Srt rk q
 hl:∀x,p[p.length -1]? =some x→∀y∈q,rk y≤rk x
theorem LoX.done{o:Array Keyed}{l:List Nat}{u v:Nat}(X:LoX prog w A s κ it rk a b p q)(Ro:bh it o l)(I:LoI rk p q l u v)(hh:v=q.length∨u=p.length):dC it rk p q (o++a.extract u a.size++b.extract v b.size):=
 ⟨_,(Ro.append (X.Ra.drop _)).append (X.Rb.drop _),(I.done X.sp X.sq hh).1,(I.done X.sp X.sq hh).2⟩
theorem LoX.last{o:Array Keyed}{l:List Nat}{u v:Nat}(X:LoX prog w A s κ it rk a b p q)(Ro:bh it o l)(I:LoI rk p q l u v)(hh:u+1=p.length):dC it rk p q (o++b.extract v b.size++a.extract u a.size):=by
 have hl' :∀x,p[u]? =some x→∀y∈q,rk y≤rk x:=by
  have:=X.hl
  rw[show p.length -1=u by omega] at this;exact this
 exact⟨_,(Ro.append (X.Rb.drop _)).append (X.Ra.drop _),(I.last X.sq hh hl').1,(I.last X.sq hh hl').2⟩
theorem Fg{mg ca cb u v N:Nat}{o:Array Keyed}{l:List Nat}{R:ForInStep B3→SortSt→Prop}(X:LoX prog w A s κ it rk a b p q)(Ro:bh it o l)(I:LoI rk p q l u v)(bu:u+1<p.length)(bv:v<q.length)
  (hx:∀x,p[u]? =some x→∀y∈q.drop v,rk x≤rk y)(hN:N≤u+v+1)(h:∀r,C2 it rk p q N r→R r st):wpS (model prog w) A E s (loC a b mg ca cb o u v) R st:=by
 have sza:=X.Ra.size
 unfold loC
 obtain⟨x,ex⟩:∃x,p[u]? =some x:=⟨_,Gaa (by omega)⟩
 refine Gai (bH X.Ra ex ?_)
 have I' :=I.rP X.sp ex (hx x ex)
 have Ro' :=Ro.push (X.Ra.lt ex)
 by_cases e:(u+1+1==a.size)=true
 ·rw[Gaf e]
  have:u+1+1=a.size:=by simpa using e
  exact Gao (h _ (.inl ⟨_,_,rfl,X.last Ro' I' (by omega)⟩))
 ·rw[Gah e]
  have e' :u+1+1≠a.size:=by simpa using e
  by_cases e2:(decide (ca<7)&&decide (cb<7))=true
  ·rw[Gaf e2]
   exact Gao (h _ (.inr ⟨_,_,_,_,_,_,rfl,⟨⟨_,Ro',I'⟩,by omega,bv⟩,by omega⟩))
  ·rw[Gah e2]
   exact Gao (h _ ⟨_,_,_,_,_,_,rfl,⟨⟨_,Ro',I'⟩,by omega,bv⟩,by omega⟩)
theorem Fh{mg ca cb u v N:Nat}{o:Array Keyed}{l:List Nat}{R:ForInStep B3→SortSt→Prop}(X:LoX prog w A s κ it rk a b p q)(hk:kindOf st=κ)(Ro:bh it o l)(I:LoI rk p q l u v)(bu:u+1<p.length)(bv:v<q.length)
  (hx:∀x,q[v]? =some x→∀y∈p.drop u,rk x≤rk y)(hN:N≤u+v+2)(h:∀r,C2 it rk p q N r→R r st):wpS (model prog w) A E s (loB a b mg ca cb o u v) R st:=by
 have szb:=X.Rb.size
 unfold loB
 obtain⟨y,ey⟩:∃x,q[v]? =some x:=⟨_,Gaa bv⟩
 obtain⟨x,ex⟩:∃x,p[u]? =some x:=⟨_,Gaa (by omega)⟩
 refine Gai (bH X.Rb ey ?_)
 have I1:=I.wQ X.sq ey (hx y ey)
 have Ro1:=Ro.push (X.Rb.lt ey)
 by_cases e:(v+1==b.size)=true
 ·rw[Gaf e]
  have:v+1=b.size:=by simpa using e
  exact Gao (h _ (.inl ⟨_,_,rfl,X.done Ro1 I1 (.inl (by omega))⟩))
 rw[Gah e]
 have e' :v+1≠b.size:=by simpa using e
 refine Gai (bH X.Ra ex ?_)
 have full:(q.drop (v+1)).take (b.size -(v+1))=q.drop (v+1):=Gbt (by simp;omega)
 refine Gai (pD X.hA hk X.Rb (X.Ra.lt ex) (by omega) (by rw[full];exact ft X.sq _) (by omega) λk hk1 t1 t2=> ?_)
 rw[full] at t1 t2
 simp only[Gbs] at t1 t2
 dsimp only
 have I2:=I1.Kb (k:=k) X.sq λz hz t ht=>by have:=t1 z hz;have:=mI X.sp ex ht;omega
 have Ro2:=Ro1.append (X.Rb.extract (v+1) (v+1+k))
 rw[show v+1+k -(v+1)=k by omega] at Ro2
 have hx2:∀z,p[u]? =some z→∀t∈q.drop (v+1+k),rk z≤rk t:=λz hz t ht=>by
  rw[ex] at hz;cases hz
  rw[←GbL] at ht
  exact t2 t ht
 by_cases g:k>0
 ·rw[Gaf g]
  by_cases e2:(v+1+k==b.size)=true
  ·rw[Gaf e2]
   have:v+1+k=b.size:=by simpa using e2
   exact Gao (h _ (.inl ⟨_,_,rfl,X.done Ro2 I2 (.inl (by omega))⟩))
  ·rw[Gah e2]
   have e2' :v+1+k≠b.size:=by simpa using e2
   exact Fg X Ro2 I2 bu (by omega) hx2 (by omega) h
 ·rw[Gah g]
  have k0:k=0:=by omega
  subst k0
  exact Fg X Ro1 I1 bu (by omega) hx2 (by omega) h
theorem Kc{mg ca cb u v N:Nat}{o:Array Keyed}{l:List Nat}{R:ForInStep B3→SortSt→Prop}(X:LoX prog w A s κ it rk a b p q)(hk:kindOf st=κ)(Ro:bh it o l)(I:LoI rk p q l u v)(bu:u+1<p.length)(bv:v<q.length)
  (hN:N≤u+v+2)(h:∀r z,bG st z→C2 it rk p q N r→R r z):wpS (model prog w) A E s (loA a b mg ca cb o u v) R st:=by
 have sza:=X.Ra.size
 unfold loA
 rw[og]
 refine Gai (GbG ?_)
 generalize hz:SortSt.mk' (kindOf st) (arrOf st) (pendingOf st) mg (failedOf st)=z
 have sz:bG st z:=by rw[←hz];exact⟨rfl,rfl,rfl,rfl⟩
 have hkz:kindOf z=κ:=sz.1.trans hk
 have h' :∀r,C2 it rk p q N r→R r z:=λr hr=>h r z sz hr
 obtain⟨y,ey⟩:∃x,q[v]? =some x:=⟨_,Gaa bv⟩
 refine Gai (bH X.Rb ey ?_)
 have full:(p.drop u).take (a.size -u)=p.drop u:=Gbt (by simp;omega)
 refine Gai (pD X.hA hkz X.Ra (X.Rb.lt ey) (by omega) (by rw[full];exact ft X.sp _) (by omega) λk hk1 t1 t2=> ?_)
 rw[full] at t1 t2
 simp only[GaD,Gbf] at t1 t2
 dsimp only
 have I1:=I.B4 (k:=k) X.sp λz hz t ht=>by have:=t1 z hz;have:=mI X.sq ey ht;omega
 have Ro1:=Ro.append (X.Ra.extract u (u+k))
 rw[show u+k -u=k by omega] at Ro1
 have hx:∀z,q[v]? =some z→∀t∈p.drop (u+k),rk z≤rk t:=λz hz t ht=>by
  rw[ey] at hz;cases hz
  rw[←GbL] at ht
  have:=t2 t ht;omega
 by_cases g:k>0
 ·rw[Gaf g]
  by_cases e1:(u+k+1==a.size)=true
  ·rw[Gaf e1]
   have:u+k+1=a.size:=by simpa using e1
   exact Gao (h' _ (.inl ⟨_,_,rfl,X.last Ro1 I1 (by omega)⟩))
  rw[Gah e1]
  have e1' :u+k+1≠a.size:=by simpa using e1
  by_cases e2:(u+k==a.size)=true
  ·rw[Gaf e2]
   have:u+k=a.size:=by simpa using e2
   exact Gao (h' _ (.inl ⟨_,_,rfl,X.done Ro1 I1 (.inr (by omega))⟩))
  rw[Gah e2]
  have e2' :u+k≠a.size:=by simpa using e2
  exact Fh X hkz Ro1 I1 (by omega) bv hx (by omega) h'
 ·rw[Gah g]
  have k0:k=0:=by omega
  subst k0
  exact Fh X hkz Ro I bu bv hx (by omega) h'
theorem HM{G:Nat→Option (Array Keyed)×Array Keyed×Nat×Nat×Nat→SortSt→Prop}{n m:Nat}(h:∀i z o u v mg l,i<m→bG st z→bh it o l→LoI rk p q l u v→u+1<p.length→v<q.length→i+1≤u+v→G i (none,o,u,v,mg) z):∀i c z,n≤i→i<m→(bG st z∧∃o u v mg l,c=(none,o,u,v,mg)∧bh it o l∧LoI rk p q l u v∧u+1<p.length∧v<q.length∧i+1≤u+v)→G i c z:=by
 rintro i c z _ hi ⟨hz,o,u,v,mg,l,rfl,Ro,I,g1,g2,g3⟩
 exact h i z o u v mg l hi hz Ro I g1 g2 g3
theorem MK{G:Nat→Option (Array Keyed)×Array Keyed×Nat×Nat×Nat×Nat→SortSt→Prop}{n m t:Nat}{z:SortSt}(h:∀j o u v ca cb l,j<m→bh it o l→LoI rk p q l u v→u+1<p.length→v<q.length→t+j≤u+v→G j (none,o,u,v,ca,cb) z):∀j c z',n≤j→j<m→(z' =z∧∃o u v ca cb l,c=(none,o,u,v,ca,cb)∧bh it o l∧LoI rk p q l u v∧u+1<p.length∧v<q.length∧t+j≤u+v)→G j c z' :=by
 rintro j c z' _ hj ⟨rfl,o,u',v',ca,cb,l,rfl,Ro,I,k1,k2,k3⟩
 exact h j o u' v' ca cb l hj Ro I k1 k2 k3
theorem ML{G:Option (Array Keyed)×Array Keyed×Nat×Nat×Nat×Nat→SortSt→Prop}{n:Nat}{z:SortSt}(h1:∀r t,dC it rk p q r→G (some r,t) z)(h2:∀o u v ca cb l,bh it o l→LoI rk p q l u v→u+1<p.length→v<q.length→n≤u+v→G (none,o,u,v,ca,cb) z):∀c z',(z' =z∧((∃r t,c=(some r,t)∧dC it rk p q r)∨∃o u v ca cb l,c=(none,o,u,v,ca,cb)∧bh it o l∧LoI rk p q l u v∧u+1<p.length∧v<q.length∧n≤u+v))→G c z' :=by
 rintro c z' ⟨rfl,⟨r,t,rfl,g⟩| ⟨o1,u1,v1,ca1,cb1,l1,rfl,Ro1,I1,k1,k2,k3⟩⟩
 ·exact h1 r t g
 ·exact h2 o1 u1 v1 ca1 cb1 l1 Ro1 I1 k1 k2 k3
theorem MM{G:Nat→Option (Array Keyed)×Array Keyed×Nat×Nat×Nat×Nat×Nat→SortSt→Prop}{n m t:Nat}(h:∀j y o u v mg ca cb l,j<m→bG st y→bh it o l→LoI rk p q l u v→u+1<p.length→v<q.length→t+j≤u+v→G j (none,o,u,v,mg,ca,cb) y):∀j c y,n≤j→j<m→(bG st y∧∃o u v mg ca cb l,c=(none,o,u,v,mg,ca,cb)∧bh it o l∧LoI rk p q l u v∧u+1<p.length∧v<q.length∧t+j≤u+v)→G j c y:=by
 rintro j c y _ hj ⟨hy,o,u',v',mg',ca,cb,l,rfl,Ro,I,n1,n2,n3⟩
 exact h j y o u' v' mg' ca cb l hj hy Ro I n1 n2 n3
theorem MN{G:Option (Array Keyed)×Array Keyed×Nat×Nat×Nat×Nat×Nat→SortSt→Prop}{n:Nat}(h1:∀y r t,bG st y→dC it rk p q r→G (some r,t) y)(h2:∀y o u v mg ca cb l,bG st y→bh it o l→LoI rk p q l u v→u+1<p.length→v<q.length→n≤u+v→G (none,o,u,v,mg,ca,cb) y):∀c y,(bG st y∧((∃r t,c=(some r,t)∧dC it rk p q r)∨∃o u v mg ca cb l,c=(none,o,u,v,mg,ca,cb)∧bh it o l∧LoI rk p q l u v∧u+1<p.length∧v<q.length∧n≤u+v))→G c y:=by
 rintro c y ⟨hy,⟨r,t,rfl,g⟩| ⟨o1,u1,v1,mg1,ca1,cb1,l1,rfl,Ro1,I1,k1,k2,k3⟩⟩
 ·exact h1 y r t hy g
 ·exact h2 y o1 u1 v1 mg1 ca1 cb1 l1 hy Ro1 I1 k1 k2 k3
theorem MO{Q:Array Keyed→SortSt→Prop}(hA:i8 prog w A s κ it rk)(hk:kindOf st=κ)(Ra:bh it a p)(Rb:bh it b q)(sp:Srt rk p)(sq:Srt rk q)(hp:0<p.length)(hq:0<q.length)
  (h0:∀x,q[0]? =some x→∀y∈p,rk x≤rk y)(hl:∀x,p[p.length -1]? =some x→∀y∈q,rk y≤rk x)(h:∀r z,bG st z→dC it rk p q r→Q r z):wpS (model prog w) A E s (Ka a b) Q st:=by
 rw[HL]
 refine Gai (wpS_lift (GbX ⟨rfl, ?_⟩))
 obtain⟨x0,hx0⟩:∃x,q[0]? =some x:=⟨_,Gaa hq⟩
 refine Gai (bH Rb hx0 ?_)
 have I0:LoI rk p q [x0] 0 1:=by
  refine⟨?_,GbN _ _,λx hx y hy=> ?_,λx hx y hy=> ?_⟩
  ·have:=take1 hx0
   rw[GbB] at this
   rw[this];simp
  ·simp at hx;subst hx;exact h0 _ hx0 y (Gbo hy)
  ·simp at hx;subst hx;exact mI sq hx0 (Gbo hy)
 have R0:bh it #[kas_item it x0] [x0]:=⟨rfl,λj hj=>by simp at hj;subst hj;exact Rb.lt hx0⟩
 have sza:=Ra.size
 have szb:=Rb.size
 have X:LoX prog w A s κ it rk a b p q:=⟨hA,Ra,Rb,sp,sq,hl⟩
 refine dG (λc1=> ?_) λc1=> ?_
 ·have:1=b.size:=by simpa using c1
  exact Gao (h _ _ .refl (X.done R0 I0 (.inl (by omega))))
 have c1' :1≠b.size:=by simpa using c1
 refine dG (λc2=> ?_) λc2=> ?_
 ·have:0+1=a.size:=by simpa using c2
  exact Gao (h _ _ .refl (X.last R0 I0 (by omega)))
 have c2' :0+1≠a.size:=by simpa using c2
 refine Gai (GcB ?_)
 refine Gai (Gbn (Gbd (I:=λi c z=>bG st z∧∃o u v mg l,c=(none,o,u,v,mg)∧bh it o l∧LoI rk p q l u v∧u+1<p.length∧v<q.length∧i+1≤u+v)
  (Q:=λc z=>bG st z∧∃r t,c=(some r,t)∧dC it rk p q r) ?step ?fin ⟨.refl,_,0,1,_,[x0],rfl,R0,I0,by omega,by omega,by omega⟩) ?post)
 case fin=>
  rintro c z ⟨_,o,u,v,mg,l,rfl,_,_,g1,g2,g3⟩
  exfalso
  omega
 case post=>
  rintro c z ⟨hz,r,t,rfl,g⟩
  exact Gao (h r z hz g)
 case step=>
  refine HM λi z o u v mg l hi hz Ro I g1 g2 g3=> ?_
  have hkz:kindOf z=κ:=hz.1.trans hk
  refine Gai (Gbn (Gbd (I:=λj c z' =>z' =z∧∃o u' v' ca cb l,c=(none,o,u',v',ca,cb)∧bh it o l∧LoI rk p q l u' v' ∧u' +1<p.length∧v' <q.length∧u+v+j≤u' +v')
   (Q:=λc z' =>z' =z∧((∃r t,c=(some r,t)∧dC it rk p q r)∨∃o u' v' ca cb l,c=(none,o,u',v',ca,cb)∧bh it o l∧LoI rk p q l u' v' ∧u' +1<p.length∧v' <q.length∧u+v+1≤u' +v')) ?s1 ?f1 ⟨rfl,o,u,v,0,0,l,rfl,Ro,I,g1,g2,by omega⟩) ?p1)
  case f1=>
   rintro c z' ⟨_,o,u',v',ca,cb,l,rfl,_,_,k1,k2,k3⟩
   exfalso
   omega
  case s1=>
   refine MK λj o u' v' ca cb l hj Ro I k1 k2 k3=> ?_
   obtain⟨y,hy⟩:∃x,q[v']? =some x:=⟨_,Gaa k2⟩
   obtain⟨x,hx⟩:∃x,p[u']? =some x:=⟨_,Gaa (by omega)⟩
   refine Gai (bH Rb hy (Gai (bH Ra hx (Gai (wO hA hkz (Rb.lt hy) (Ra.lt hx) ?_)))))
   dsimp only
   refine dG (λlt=> ?_) λlt=> ?_
   ·replace lt:=GaB lt
    refine Gai (bH Rb hy ?_)
    have I' :=I.wQ sq hy λt ht=>by have:=mI sp hx ht;omega
    have Ro' :=Ro.push (Rb.lt hy)
    refine dG (λe=> ?_) λe=> ?_
    ·have:v' +1=b.size:=by simpa using e
     exact Gao ⟨rfl,.inl ⟨_,_,rfl,X.done Ro' I' (.inl (by omega))⟩⟩
    ·have e' :v' +1≠b.size:=by simpa using e
     refine dG (λe2=> ?_) λe2=> ?_
     ·exact Gao ⟨rfl,.inr ⟨_,_,_,_,_,_,rfl,Ro',I',k1,by omega,by omega⟩⟩
     ·exact Gao ⟨rfl,_,_,_,_,_,_,rfl,Ro',I',k1,by omega,by omega⟩
   ·replace lt:=of_decide_eq_false (Bool.eq_false_iff.mpr lt)
    refine Gai (bH Ra hx ?_)
    have I' :=I.rP sp hx λt ht=>by have:=mI sq hy ht;omega
    have Ro' :=Ro.push (Ra.lt hx)
    refine dG (λe=> ?_) λe=> ?_
    ·have:u' +1+1=a.size:=by simpa using e
     exact Gao ⟨rfl,.inl ⟨_,_,rfl,X.last Ro' I' (by omega)⟩⟩
    ·have e' :u' +1+1≠a.size:=by simpa using e
     refine dG (λe2=> ?_) λe2=> ?_
     ·exact Gao ⟨rfl,.inr ⟨_,_,_,_,_,_,rfl,Ro',I',by omega,k2,by omega⟩⟩
     ·exact Gao ⟨rfl,_,_,_,_,_,_,rfl,Ro',I',by omega,k2,by omega⟩
  case p1=>
   refine ML (λr t g=>Gao ⟨hz,r,_,rfl,g⟩) λo1 u1 v1 ca1 cb1 l1 Ro1 I1 k1 k2 k3=> ?_
   refine Gai (wpS_lift (GbX ⟨rfl, ?_⟩))
   refine Gai (Gbn (Gbd (I:=λj c y=>bG st y∧∃o u' v' mg ca cb l,c=(none,o,u',v',mg,ca,cb)∧bh it o l∧LoI rk p q l u' v' ∧u' +1<p.length∧v' <q.length∧u1+v1+j≤u' +v')
    (Q:=λc y=>bG st y∧((∃r t,c=(some r,t)∧dC it rk p q r)∨∃o u' v' mg ca cb l,c=(none,o,u',v',mg,ca,cb)∧bh it o l∧LoI rk p q l u' v' ∧u' +1<p.length∧v' <q.length∧u1+v1≤u' +v')) ?s2 ?f2 ⟨hz,o1,u1,v1,_,ca1,cb1,l1,rfl,Ro1,I1,k1,k2,by omega⟩) ?p2)
   case f2=>
    rintro c y ⟨_,o,u',v',mg,ca,cb,l,rfl,_,_,n1,n2,n3⟩
    exfalso
    omega
   case p2=>
    refine MN (λy r t hy g=>Gao ⟨hy,r,_,rfl,g⟩) λy o2 u2 v2 mg2 ca2 cb2 l2 hy Ro2 I2 n1 n2 n3=> ?_
    dsimp only
    rw[og]
    refine Gai (GbG (Gao ⟨hy.trans ⟨rfl,rfl,rfl,rfl⟩,o2,u2,v2,_,l2,rfl,Ro2,I2,n1,n2,by omega⟩))
   case s2=>
    refine MM λj y o u' v' mg' ca cb l hj hy Ro I n1 n2 n3=> ?_
    have fin:∀g,wpS (model prog w) A E s (loA a b g ca cb o u' v') (λr y' =>match r with
      | .done c=>bG st y' ∧((∃r t,c=(some r,t)∧dC it rk p q r)∨∃o u' v' mg ca cb l,c=(none,o,u',v',mg,ca,cb)∧bh it o l∧LoI rk p q l u' v' ∧u' +1<p.length∧v' <q.length∧u1+v1≤u' +v')
      | .yield c=>bG st y' ∧∃o u' v' mg ca cb l,c=(none,o,u',v',mg,ca,cb)∧bh it o l∧LoI rk p q l u' v' ∧u' +1<p.length∧v' <q.length∧u1+v1+(j+1)≤u' +v') y:=λg=>by
     refine Kc X (hy.1.trans hk) Ro I n1 n2 (N:=u' +v' +2) (Gap _) λr z' sz hr=> ?_
     cases r with
     |done c=>
      rcases hr with hr| ⟨o,u,v,mg,ca,cb,e,P,hn⟩
      ·exact⟨hy.trans sz,.inl hr⟩
      ·obtain⟨l,h1,h2⟩:=P.ex
       exact⟨hy.trans sz,.inr ⟨o,u,v,mg,ca,cb,l,e,h1,h2,P.bu,P.bv,by omega⟩⟩
     |yield c=>
      obtain⟨o,u,v,mg,ca,cb,e,P,hn⟩:=hr
      obtain⟨l,h1,h2⟩:=P.ex
      exact⟨hy.trans sz,o,u,v,mg,ca,cb,l,e,h1,h2,P.bu,P.bv,by omega⟩
    show wpS (model prog w) A E s (if mg' >1 then loA a b (mg' -1) ca cb o u' v' else loA a b mg' ca cb o u' v') _ y
    split
    ·exact Gbn (fin _) λr y' hr=>by cases r<;>exact hr
    ·exact Gbn (fin _) λr y' hr=>by cases r<;>exact hr
end
noncomputable def Kd:Array Keyed→Array Keyed→SM (Array Keyed):=sortPriv%PySem.Builtin.mergeHi
theorem HP(a b:Array Keyed):Kd a b=(do
 rule "list.sort.merge-hi"
 let tot:=a.size+b.size
 let fin (o:Array Keyed) (u v:Nat):=a.extract 0 u++b.extract 0 v++o.reverse
 let fst (o:Array Keyed) (u v:Nat):=b.extract 0 v++a.extract 0 u++o.reverse
 let mut u:=a.size -1
 let mut v:=b.size
 let mut o:Array Keyed:=#[←elem' a u]
 if u==0 then return fin o u v
 if v==1 then return fst o u v
 let mut mg:=gallopOf (←get)
 for _ in [0:tot] do
  let mut ca:=0
  let mut cb:=0
  for _ in [0:tot] do
   let some w←lt' (←elem' b (v -1)) (←elem' a (u -1))|return fin o u v
   if w then
    u:=u -1;o:=o.push (←elem' a u);ca:=ca+1;cb:=0
    if u==0 then return fin o u v
    if ca≥mg then break
   else
    v:=v -1;o:=o.push (←elem' b v);cb:=cb+1;ca:=0
    if v==1 then return fst o u v
    if cb≥mg then break
  rule "list.sort.gallop"
  mg:=mg+1
  for _ in [0:tot] do
   if mg>1 then mg:=mg -1
   rO mg
   let some c←kX false (←elem' b (v -1)) a 0 u (u -1)|return fin o u v
   let k:=u -c
   ca:=k
   if k>0 then
    o:=o++(a.extract c u).reverse;u:=c
    if u==0 then return fin o u v
   v:=v -1;o:=o.push (←elem' b v)
   if v==1 then return fst o u v
   let some c←kX true (←elem' a (u -1)) b 0 v (v -1)|return fin o u v
   let k:=v -c
   cb:=k
   if k>0 then
    o:=o++(b.extract c v).reverse;v:=c
    if v==1 then return fst o u v
    if v==0 then return fin o u v
   u:=u -1;o:=o.push (←elem' a u)
   if u==0 then return fin o u v
   if ca<7&&cb<7 then break
  mg:=mg+1
  rO mg
 unsupported "internal:list.sort.merge-bound"):=rfl
noncomputable abbrev B5:=Option (Array Keyed)×Nat×Nat×Array Keyed×Nat×Nat×Nat
noncomputable def hiC(a b:Array Keyed)(mg ca cb:Nat)(o:Array Keyed)(u v:Nat):SM (ForInStep B5):=do
 let e←elem' a (u -1)
 if(u -1==0)=true then pure (.done (some (a.extract 0 (u -1)++b.extract 0 v++(o.push e).reverse),u -1,v,o.push e,mg,ca,cb))
 else if(decide (ca<7)&&decide (cb<7))=true then pure (.done (none,u -1,v,o.push e,mg,ca,cb))
 else pure (.yield (none,u -1,v,o.push e,mg,ca,cb))
noncomputable def hiB(a b:Array Keyed)(mg ca cb:Nat)(o:Array Keyed)(u v:Nat):SM (ForInStep B5):=do
 let e←elem' b (v -1)
 if(v -1==1)=true then pure (.done (some (b.extract 0 (v -1)++a.extract 0 u++(o.push e).reverse),u,v -1,o.push e,mg,ca,cb))
 else do
  let e2←elem' a (u -1)
  let f←kX true e2 b 0 (v -1) (v -1 -1)
  match f with
  |some c=>
   if v -1 -c>0 then
    if(c==1)=true then pure (.done (some (b.extract 0 c++a.extract 0 u++(o.push e++(b.extract c (v -1)).reverse).reverse),u,c,o.push e++(b.extract c (v -1)).reverse,mg,ca,v -1 -c))
    else if(c==0)=true then pure (.done (some (a.extract 0 u++b.extract 0 c++(o.push e++(b.extract c (v -1)).reverse).reverse),u,c,o.push e++(b.extract c (v -1)).reverse,mg,ca,v -1 -c))
    else hiC a b mg ca (v -1 -c) (o.push e++(b.extract c (v -1)).reverse) u c
   else hiC a b mg ca (v -1 -c) (o.push e) u (v -1)
  |_=>pure (.done (some (a.extract 0 u++b.extract 0 (v -1)++(o.push e).reverse),u,v -1,o.push e,mg,ca,cb))
noncomputable def hiA(a b:Array Keyed)(mg ca cb:Nat)(o:Array Keyed)(u v:Nat):SM (ForInStep B5):=do
 rO mg
 let e←elem' b (v -1)
 let f←kX false e a 0 u (u -1)
 match f with
 |some c=>
  if u -c>0 then
   if(c==0)=true then pure (.done (some (a.extract 0 c++b.extract 0 v++(o++(a.extract c u).reverse).reverse),c,v,o++(a.extract c u).reverse,mg,u -c,cb))
   else hiB a b mg (u -c) cb (o++(a.extract c u).reverse) c v
  else hiB a b mg (u -c) cb o u v
 |_=>pure (.done (some (a.extract 0 u++b.extract 0 v++o.reverse),u,v,o,mg,ca,cb))
structure HiI(rk:Nat→Int)(p q o:List Nat)(u v:Nat):Prop where
 pm:o.Perm (p.drop u++q.drop v)
 so:Srt rk o.reverse
 oa:∀x∈o,∀y∈p.take u,rk y≤rk x
 ob:∀x∈o,∀y∈q.take v,rk y≤rk x
section
variable{rk:Nat→Int}{p q o:List Nat}{u v c:Nat}
theorem Dd{l:List Nat}{m n:Nat}{x:Nat}(h:m≤n)(hx:x∈l.take m):x∈l.take n:=by
 have:l.take m=(l.take n).take m:=by rw[Gcc,Gcs h]
 rw[this] at hx
 exact Gbi hx
theorem Fj{l:List Nat}{m n:Nat}{x:Nat}(h:m≤n)(hx:x∈(l.drop m).take (n -m)):x∈l.take n:=by
 rw[←GcC] at hx
 exact Gbo hx
theorem Fm{l:List Nat}{m n:Nat}(h:m≤n):l.drop m=(l.drop m).take (n -m)++l.drop n:=by
 conv=>lhs;rw[←GaZ (n -m) (l.drop m)]
 rw[GbL,show m+(n -m)=n by omega]
theorem HiI.B4(I:HiI rk p q o u v)(sp:Srt rk p)(hc:c≤u)(h:∀x∈(p.drop c).take (u -c),∀y∈q.take v,rk y≤rk x):HiI rk p q (o++((p.drop c).take (u -c)).reverse) c v:=by
 refine⟨?_, ?_,λx hx y hy=> ?_,λx hx y hy=> ?_⟩
 ·have e:p.drop c++q.drop v=((p.drop c).take (u -c)++p.drop u)++q.drop v:=by rw[←Fm hc]
  rw[e]
  refine(Gbl.trans ?_)
  rw[Gav]
  exact(List.reverse_perm _).append I.pm
 ·rw[List.reverse_append,List.reverse_reverse]
  exact dH (fV (ft sp c) _) I.so λx hx y hy=>I.oa y (GbI.mp hy) x (Fj hc hx)
 ·rcases Gaw.mp hx with hx|hx
  ·exact I.oa x hx y (Dd hc hy)
  ·exact qR sp c y hy x (Gbi (GbI.mp hx))
 ·rcases Gaw.mp hx with hx|hx
  ·exact I.ob x hx y hy
  ·exact h x (GbI.mp hx) y hy
theorem HiI.swap(I:HiI rk p q o u v):HiI rk q p o v u:=⟨I.pm.trans Gbl,I.so,I.ob,I.oa⟩
theorem HiI.Kb(I:HiI rk p q o u v)(sq:Srt rk q)(hc:c≤v)(h:∀x∈(q.drop c).take (v -c),∀y∈p.take u,rk y≤rk x):HiI rk p q (o++((q.drop c).take (v -c)).reverse) u c:=(I.swap.B4 sq hc h).swap
theorem HiI.rP{x:Nat}(I:HiI rk p q o u v)(sp:Srt rk p)(hu:0<u)(hx:p[u -1]? =some x)(h:∀y∈q.take v,rk y≤rk x):HiI rk p q (o++[x]) (u -1) v:=by
 have e:(p.drop (u -1)).take (u -(u -1))=[x]:=by rw[show u -(u -1)=1 by omega];exact take1 hx
 have:=I.B4 (c:=u -1) sp (by omega) (by rw[e];intro z hz;simp at hz;subst hz;exact h)
 rw[e] at this
 exact this
theorem HiI.wQ{x:Nat}(I:HiI rk p q o u v)(sq:Srt rk q)(hv:0<v)(hx:q[v -1]? =some x)(h:∀y∈p.take u,rk y≤rk x):HiI rk p q (o++[x]) u (v -1):=(I.swap.rP sq hv hx h).swap
theorem HiI.perm(I:HiI rk p q o u v):(p.take u++q.take v++o.reverse).Perm (p++q):=by
 refine(GbM _ ((List.reverse_perm _).trans I.pm)).trans ?_
 have e:p++q=(p.take u++p.drop u)++(q.take v++q.drop v):=by rw[GaZ,GaZ]
 rw[e,Gav,Gav]
 refine GbM _ ?_
 rw[←Gav,←Gav]
 exact Gbj _ Gbl
theorem HiI.done(I:HiI rk p q o u v)(sp:Srt rk p)(sq:Srt rk q)(h:u=0∨v=0):(p.take u++q.take v++o.reverse).Perm (p++q)∧Srt rk (p.take u++q.take v++o.reverse):=by
 refine⟨I.perm, ?_⟩
 rcases h with rfl|rfl
 ·rw[List.take_zero,List.nil_append]
  exact dH (fV sq v) I.so λx hx y hy=>I.ob y (GbI.mp hy) x hx
 ·rw[List.take_zero,Gbh]
  exact dH (fV sp u) I.so λx hx y hy=>I.oa y (GbI.mp hy) x hx
theorem HiI.first(I:HiI rk p q o u v)(sp:Srt rk p)(h:v=1)(h0:∀x,q[0]? =some x→∀y∈p,rk x≤rk y):(q.take v++p.take u++o.reverse).Perm (p++q)∧Srt rk (q.take v++p.take u++o.reverse):=by
 refine⟨(Gbj _ Gbl).trans I.perm, ?_⟩
 subst h
 refine dH (dH ?_ (fV sp u) λx hx y hy=> ?_) I.so λx hx y hy=> ?_
 ·cases q with
  |nil=>exact List.Pairwise.nil
  |cons z t=>exact GbN _ _
 ·cases q with
  |nil=>cases hx
  |cons z t=>
   have:x=z:=by simpa using hx
   subst this
   exact h0 x rfl y (Gbi hy)
 ·rcases Gaw.mp hx with hx|hx
  ·exact I.ob y (GbI.mp hy) x hx
  ·exact I.oa y (GbI.mp hy) x hx
end
section
variable{prog:Program}{w:World}{A:Around}{E:Value→Shared→Prop}{s:Shared}{st:SortSt}{κ:SortKind}{it:Array Keyed}{rk:Nat→Int}{a b:Array Keyed}{p q:List Nat}
theorem bh.take{a:Array Keyed}{p:List Nat}(R:bh it a p)(n:Nat):bh it (a.extract 0 n) (p.take n):=by
 have:=R.extract 0 n
 rw[GbB,Nat.sub_zero] at this
 exact this
theorem mJ{l:List Nat}{x y n:Nat}(h:Srt rk l)(hx:l[n -1]? =some x)(hy:y∈l.take n):rk y≤rk x:=by
 obtain⟨k,hk⟩:=Gbw.mp hy
 have hkn:k<n:=by have:=(Gac.mp hk).1;simp at this;omega
 rw[GaS hkn] at hk
 exact qQ h (by omega) hk hx
structure HiP(it:Array Keyed)(rk:Nat→Int)(p q:List Nat)(o:Array Keyed)(u v:Nat):Prop where
 ex:∃l,bh it o l∧HiI rk p q l u v
 bu:0<u
 bv:1<v
 cu:u≤p.length
 cv:v≤q.length
def C3(it:Array Keyed)(rk:Nat→Int)(p q:List Nat)(N:Nat):ForInStep B5→Prop
 | .done c=>(∃r t,c=(some r,t)∧dC it rk p q r)∨∃o u v mg ca cb,c=(none,u,v,o,mg,ca,cb)∧HiP it rk p q o u v∧u+v≤N
 | .yield c=>∃o u v mg ca cb,c=(none,u,v,o,mg,ca,cb)∧HiP it rk p q o u v∧u+v≤N
structure HiX(prog:Program)(w:World)(A:Around)(s:Shared)(κ:SortKind)(it:Array Keyed)(rk:Nat→Int)(a b:Array Keyed)(p q:List Nat):Prop where
 hA:i8 prog w A s κ it rk
 Ra:bh it a p
 Rb:bh it b q
 sp:Srt rk p
 sq:Srt rk q
 h0:∀x,q[0]? =some x→∀y∈p,rk x≤rk y
theorem HiX.done{o:Array Keyed}{l:List Nat}{u v:Nat}(X:HiX prog w A s κ it rk a b p q)(Ro:bh it o l)(I:HiI rk p q l u v)(hh:u=0∨v=0):dC it rk p q (a.extract 0 u++b.extract 0 v++o.reverse):=
 ⟨_,((X.Ra.take _).append (X.Rb.take _)).append Ro.reverse,(I.done X.sp X.sq hh).1,(I.done X.sp X.sq hh).2⟩
theorem HiX.first{o:Array Keyed}{l:List Nat}{u v:Nat}(X:HiX prog w A s κ it rk a b p q)(Ro:bh it o l)(I:HiI rk p q l u v)(hh:v=1):dC it rk p q (b.extract 0 v++a.extract 0 u++o.reverse):=
 ⟨_,((X.Rb.take _).append (X.Ra.take _)).append Ro.reverse,(I.first X.sp hh X.h0).1,(I.first X.sp hh X.h0).2⟩
theorem Fn{mg ca cb u v N:Nat}{o:Array Keyed}{l:List Nat}{R:ForInStep B5→SortSt→Prop}(X:HiX prog w A s κ it rk a b p q)(Ro:bh it o l)(I:HiI rk p q l u v)(bu:0<u)(bv:1<v)(cu:u≤p.length)(cv:v≤q.length)
  (hx:∀x,p[u -1]? =some x→∀y∈q.take v,rk y≤rk x)(hN:u+v≤N+1)(h:∀r,C3 it rk p q N r→R r st):wpS (model prog w) A E s (hiC a b mg ca cb o u v) R st:=by
 unfold hiC
 obtain⟨x,ex⟩:∃x,p[u -1]? =some x:=⟨_,Gaa (by omega)⟩
 refine Gai (bH X.Ra ex ?_)
 have I' :=I.rP X.sp bu ex (hx x ex)
 have Ro' :=Ro.push (X.Ra.lt ex)
 by_cases e:(u -1==0)=true
 ·rw[Gaf e]
  have:u -1=0:=by simpa using e
  exact Gao (h _ (.inl ⟨_,_,rfl,X.done Ro' I' (.inl this)⟩))
 ·rw[Gah e]
  have e' :u -1≠0:=by simpa using e
  by_cases e2:(decide (ca<7)&&decide (cb<7))=true
  ·rw[Gaf e2]
   exact Gao (h _ (.inr ⟨_,_,_,_,_,_,rfl,⟨⟨_,Ro',I'⟩,by omega,bv,by omega,cv⟩,by omega⟩))
  ·rw[Gah e2]
   exact Gao (h _ ⟨_,_,_,_,_,_,rfl,⟨⟨_,Ro',I'⟩,by omega,bv,by omega,cv⟩,by omega⟩)
theorem Fo{mg ca cb u v N:Nat}{o:Array Keyed}{l:List Nat}{R:ForInStep B5→SortSt→Prop}(X:HiX prog w A s κ it rk a b p q)(hk:kindOf st=κ)(Ro:bh it o l)(I:HiI rk p q l u v)(bu:0<u)(bv:1<v)(cu:u≤p.length)(cv:v≤q.length)
  (hx:∀x,q[v -1]? =some x→∀y∈p.take u,rk y≤rk x)(hN:u+v≤N+2)(h:∀r,C3 it rk p q N r→R r st):wpS (model prog w) A E s (hiB a b mg ca cb o u v) R st:=by
 unfold hiB
 obtain⟨y,ey⟩:∃x,q[v -1]? =some x:=⟨_,Gaa (by omega)⟩
 obtain⟨x,ex⟩:∃x,p[u -1]? =some x:=⟨_,Gaa (by omega)⟩
 refine Gai (bH X.Rb ey ?_)
 have I1:=I.wQ X.sq (by omega) ey (hx y ey)
 have Ro1:=Ro.push (X.Rb.lt ey)
 by_cases e:(v -1==1)=true
 ·rw[Gaf e]
  have:v -1=1:=by simpa using e
  exact Gao (h _ (.inl ⟨_,_,rfl,X.first Ro1 I1 this⟩))
 rw[Gah e]
 have e' :v -1≠1:=by simpa using e
 refine Gai (bH X.Ra ex ?_)
 refine Gai (pD X.hA hk X.Rb (X.Ra.lt ex) (by omega) (by rw[GbB];exact fV X.sq _) (by omega) λc hc1 t1 t2=> ?_)
 rw[GbB] at t1 t2
 simp only[Gbs] at t1 t2
 dsimp only
 have t2' :∀z∈(q.drop c).take (v -1 -c),rk x≤rk z:=λz hz=>t2 z (by rw[GcC];exact hz)
 have t1' :∀z∈q.take c,rk z<rk x:=λz hz=>t1 z (by rw[Gcc,Gcs hc1];exact hz)
 have I2:=I1.Kb (c:=c) X.sq hc1 λz hz t ht=>by have:=t2' z hz;have:=mJ X.sp ex ht;omega
 have Ro2:=Ro1.append (X.Rb.extract c (v -1)).reverse
 have hx2:∀z,p[u -1]? =some z→∀t∈q.take c,rk t≤rk z:=λz hz t ht=>by
  rw[ex] at hz;cases hz
  have:=t1' t ht;omega
 by_cases g:v -1 -c>0
 ·rw[Gaf g]
  by_cases e2:(c==1)=true
  ·rw[Gaf e2]
   have:c=1:=by simpa using e2
   exact Gao (h _ (.inl ⟨_,_,rfl,X.first Ro2 I2 this⟩))
  rw[Gah e2]
  have e2' :c≠1:=by simpa using e2
  by_cases e3:(c==0)=true
  ·rw[Gaf e3]
   have:c=0:=by simpa using e3
   exact Gao (h _ (.inl ⟨_,_,rfl,X.done Ro2 I2 (.inr this)⟩))
  rw[Gah e3]
  have e3' :c≠0:=by simpa using e3
  exact Fn X Ro2 I2 bu (by omega) cu (by omega) hx2 (by omega) h
 ·rw[Gah g]
  have k0:c=v -1:=by omega
  rw[k0] at hx2
  exact Fn X Ro1 I1 bu (by omega) cu (by omega) hx2 (by omega) h
theorem Ke{mg ca cb u v N:Nat}{o:Array Keyed}{l:List Nat}{R:ForInStep B5→SortSt→Prop}(X:HiX prog w A s κ it rk a b p q)(hk:kindOf st=κ)(Ro:bh it o l)(I:HiI rk p q l u v)(bu:0<u)(bv:1<v)(cu:u≤p.length)(cv:v≤q.length)
  (hN:u+v≤N+2)(h:∀r z,bG st z→C3 it rk p q N r→R r z):wpS (model prog w) A E s (hiA a b mg ca cb o u v) R st:=by
 unfold hiA
 rw[og]
 refine Gai (GbG ?_)
 generalize hz:SortSt.mk' (kindOf st) (arrOf st) (pendingOf st) mg (failedOf st)=z
 have sz:bG st z:=by rw[←hz];exact⟨rfl,rfl,rfl,rfl⟩
 have hkz:kindOf z=κ:=sz.1.trans hk
 have h' :∀r,C3 it rk p q N r→R r z:=λr hr=>h r z sz hr
 obtain⟨y,ey⟩:∃x,q[v -1]? =some x:=⟨_,Gaa (by omega)⟩
 refine Gai (bH X.Rb ey ?_)
 refine Gai (pD X.hA hkz X.Ra (X.Rb.lt ey) (by omega) (by rw[GbB];exact fV X.sp _) (by omega) λc hc1 t1 t2=> ?_)
 rw[GbB] at t1 t2
 simp only[GaD,Gbf] at t1 t2
 dsimp only
 have t2' :∀z∈(p.drop c).take (u -c),rk y<rk z:=λz hz=>t2 z (by rw[GcC];exact hz)
 have t1' :∀z∈p.take c,rk z≤rk y:=λz hz=>t1 z (by rw[Gcc,Gcs hc1];exact hz)
 have I1:=I.B4 (c:=c) X.sp hc1 λz hz t ht=>by have:=t2' z hz;have:=mJ X.sq ey ht;omega
 have Ro1:=Ro.append (X.Ra.extract c u).reverse
 have hx:∀z,q[v -1]? =some z→∀t∈p.take c,rk t≤rk z:=λz hz t ht=>by
  rw[ey] at hz;cases hz
  exact t1' t ht
 by_cases g:u -c>0
 ·rw[Gaf g]
  by_cases e1:(c==0)=true
  ·rw[Gaf e1]
   have:c=0:=by simpa using e1
   exact Gao (h' _ (.inl ⟨_,_,rfl,X.done Ro1 I1 (.inl this)⟩))
  rw[Gah e1]
  have e1' :c≠0:=by simpa using e1
  exact Fo X hkz Ro1 I1 (by omega) bv (by omega) cv hx (by omega) h'
 ·rw[Gah g]
  have k0:c=u:=by omega
  rw[k0] at hx
  exact Fo X hkz Ro I bu bv cu cv hx (by omega) h'
theorem HQ{G:Nat→Option (Array Keyed)×Nat×Nat×Array Keyed×Nat→SortSt→Prop}{n m:Nat}(h:∀i z o u v mg,i<m→bG st z→HiP it rk p q o u v→u+v+i+1≤p.length+q.length→G i (none,u,v,o,mg) z):∀i c z,n≤i→i<m→(bG st z∧∃o u v mg,c=(none,u,v,o,mg)∧HiP it rk p q o u v∧u+v+i+1≤p.length+q.length)→G i c z:=by
 rintro i c z _ hi ⟨hz,o,u,v,mg,rfl,P,g3⟩
 exact h i z o u v mg hi hz P g3
theorem MP{G:Nat→Option (Array Keyed)×Nat×Nat×Array Keyed×Nat×Nat→SortSt→Prop}{n m t:Nat}{z:SortSt}(h:∀j o u v ca cb,j<m→HiP it rk p q o u v→u+v+j≤t→G j (none,u,v,o,ca,cb) z):∀j c z',n≤j→j<m→(z' =z∧∃o u v ca cb,c=(none,u,v,o,ca,cb)∧HiP it rk p q o u v∧u+v+j≤t)→G j c z' :=by
 rintro j c z' _ hj ⟨rfl,o,u',v',ca,cb,rfl,P,k3⟩
 exact h j o u' v' ca cb hj P k3
theorem MQ{G:Option (Array Keyed)×Nat×Nat×Array Keyed×Nat×Nat→SortSt→Prop}{n:Nat}{z:SortSt}(h1:∀r t,dC it rk p q r→G (some r,t) z)(h2:∀o u v ca cb,HiP it rk p q o u v→u+v+1≤n→G (none,u,v,o,ca,cb) z):∀c z',(z' =z∧((∃r t,c=(some r,t)∧dC it rk p q r)∨∃o u v ca cb,c=(none,u,v,o,ca,cb)∧HiP it rk p q o u v∧u+v+1≤n))→G c z' :=by
 rintro c z' ⟨rfl,⟨r,t,rfl,g⟩| ⟨o1,u1,v1,ca1,cb1,rfl,P1,k3⟩⟩
 ·exact h1 r t g
 ·exact h2 o1 u1 v1 ca1 cb1 P1 k3
theorem MR{G:Nat→Option (Array Keyed)×Nat×Nat×Array Keyed×Nat×Nat×Nat→SortSt→Prop}{n m t:Nat}(h:∀j y o u v mg ca cb,j<m→bG st y→HiP it rk p q o u v→u+v+j≤t→G j (none,u,v,o,mg,ca,cb) y):∀j c y,n≤j→j<m→(bG st y∧∃o u v mg ca cb,c=(none,u,v,o,mg,ca,cb)∧HiP it rk p q o u v∧u+v+j≤t)→G j c y:=by
 rintro j c y _ hj ⟨hy,o,u',v',mg',ca,cb,rfl,P,n3⟩
 exact h j y o u' v' mg' ca cb hj hy P n3
theorem MS{G:Option (Array Keyed)×Nat×Nat×Array Keyed×Nat×Nat×Nat→SortSt→Prop}{n:Nat}(h1:∀y r t,bG st y→dC it rk p q r→G (some r,t) y)(h2:∀y o u v mg ca cb,bG st y→HiP it rk p q o u v→u+v≤n→G (none,u,v,o,mg,ca,cb) y):∀c y,(bG st y∧((∃r t,c=(some r,t)∧dC it rk p q r)∨∃o u v mg ca cb,c=(none,u,v,o,mg,ca,cb)∧HiP it rk p q o u v∧u+v≤n))→G c y:=by
 rintro c y ⟨hy,⟨r,t,rfl,g⟩| ⟨o1,u1,v1,mg1,ca1,cb1,rfl,P1,k3⟩⟩
 ·exact h1 y r t hy g
 ·exact h2 y o1 u1 v1 mg1 ca1 cb1 hy P1 k3
theorem MT{Q:Array Keyed→SortSt→Prop}(hA:i8 prog w A s κ it rk)(hk:kindOf st=κ)(Ra:bh it a p)(Rb:bh it b q)(sp:Srt rk p)(sq:Srt rk q)(hp:0<p.length)(hq:0<q.length)
  (h0:∀x,q[0]? =some x→∀y∈p,rk x≤rk y)(hl:∀x,p[p.length -1]? =some x→∀y∈q,rk y≤rk x)(h:∀r z,bG st z→dC it rk p q r→Q r z):wpS (model prog w) A E s (Kd a b) Q st:=by
 rw[HP]
 refine Gai (wpS_lift (GbX ⟨rfl, ?_⟩))
 have sza:=Ra.size
 have szb:=Rb.size
 obtain⟨x0,hx0⟩:∃x,p[p.length -1]? =some x:=⟨_,Gaa (by omega)⟩
 rw[sza,szb]
 refine Gai (bH Ra hx0 ?_)
 have I0:HiI rk p q [x0] (p.length -1) q.length:=by
  refine⟨?_,GbN _ _,λx hx y hy=> ?_,λx hx y hy=> ?_⟩
  ·have:=take1 hx0
   rw[GbH,Gbh]
   have e:p.drop (p.length -1)=[x0]:=by
    rw[←this,Gbt (by simp;omega)]
   rw[e]
  ·simp at hx;subst hx;exact mJ sp hx0 (by rw[List.take_length];exact Gbi hy)
  ·simp at hx;subst hx;exact hl _ hx0 y (Gbi hy)
 have R0:bh it #[kas_item it x0] [x0]:=⟨rfl,λj hj=>by simp at hj;subst hj;exact Ra.lt hx0⟩
 have X:HiX prog w A s κ it rk a b p q:=⟨hA,Ra,Rb,sp,sq,h0⟩
 refine dG (λc1=> ?_) λc1=> ?_
 ·have:p.length -1=0:=by simpa using c1
  exact Gao (h _ _ .refl (X.done R0 I0 (.inl this)))
 have c1' :p.length -1≠0:=by simpa using c1
 refine dG (λc2=> ?_) λc2=> ?_
 ·have:q.length=1:=by simpa using c2
  exact Gao (h _ _ .refl (X.first R0 I0 this))
 have c2' :q.length≠1:=by simpa using c2
 refine Gai (GcB ?_)
 refine Gai (Gbn (Gbd (I:=λi c z=>bG st z∧∃o u v mg,c=(none,u,v,o,mg)∧HiP it rk p q o u v∧u+v+i+1≤p.length+q.length)
  (Q:=λc z=>bG st z∧∃r t,c=(some r,t)∧dC it rk p q r) ?step ?fin ⟨.refl,_,_,_,_,rfl,⟨⟨_,R0,I0⟩,by omega,by omega,by omega,by omega⟩,by omega⟩) ?post)
 case fin=>
  rintro c z ⟨_,o,u,v,mg,rfl,P,g3⟩
  have:=P.bu
  exfalso
  omega
 case post=>
  rintro c z ⟨hz,r,t,rfl,g⟩
  exact Gao (h r z hz g)
 case step=>
  refine HQ λi z o u v mg hi hz P g3=> ?_
  have hkz:kindOf z=κ:=hz.1.trans hk
  refine Gai (Gbn (Gbd (I:=λj c z' =>z' =z∧∃o u' v' ca cb,c=(none,u',v',o,ca,cb)∧HiP it rk p q o u' v' ∧u' +v' +j≤u+v)
   (Q:=λc z' =>z' =z∧((∃r t,c=(some r,t)∧dC it rk p q r)∨∃o u' v' ca cb,c=(none,u',v',o,ca,cb)∧HiP it rk p q o u' v' ∧u' +v' +1≤u+v)) ?s1 ?f1 ⟨rfl,o,u,v,0,0,rfl,P,by omega⟩) ?p1)
  case f1=>
   rintro c z' ⟨_,o,u',v',ca,cb,rfl,P',k3⟩
   have:=P'.bu
   have:=P.cu
   have:=P.cv
   exfalso
   omega
  case s1=>
   refine MP λj o u' v' ca cb hj P' k3=> ?_
   have⟨⟨l,Ro,I⟩,bu,bv,cu,cv⟩:=P'
   obtain⟨y,hy⟩:∃x,q[v' -1]? =some x:=⟨_,Gaa (by omega)⟩
   obtain⟨x,hx⟩:∃x,p[u' -1]? =some x:=⟨_,Gaa (by omega)⟩
   refine Gai (bH Rb hy (Gai (bH Ra hx (Gai (wO hA hkz (Rb.lt hy) (Ra.lt hx) ?_)))))
   dsimp only
   refine dG (λlt=> ?_) λlt=> ?_
   ·replace lt:=GaB lt
    refine Gai (bH Ra hx ?_)
    have I' :=I.rP sp bu hx λt ht=>by have:=mJ sq hy ht;omega
    have Ro' :=Ro.push (Ra.lt hx)
    refine dG (λe=> ?_) λe=> ?_
    ·have:u' -1=0:=by simpa using e
     exact Gao ⟨rfl,.inl ⟨_,_,rfl,X.done Ro' I' (.inl this)⟩⟩
    ·have e' :u' -1≠0:=by simpa using e
     refine dG (λe2=> ?_) λe2=> ?_
     ·exact Gao ⟨rfl,.inr ⟨_,_,_,_,_,rfl,⟨⟨_,Ro',I'⟩,by omega,bv,by omega,cv⟩,by omega⟩⟩
     ·exact Gao ⟨rfl,_,_,_,_,_,rfl,⟨⟨_,Ro',I'⟩,by omega,bv,by omega,cv⟩,by omega⟩
   ·replace lt:=of_decide_eq_false (Bool.eq_false_iff.mpr lt)
    refine Gai (bH Rb hy ?_)
    have I' :=I.wQ sq (by omega) hy λt ht=>by have:=mJ sp hx ht;omega
    have Ro' :=Ro.push (Rb.lt hy)
    refine dG (λe=> ?_) λe=> ?_
    ·have:v' -1=1:=by simpa using e
     exact Gao ⟨rfl,.inl ⟨_,_,rfl,X.first Ro' I' this⟩⟩
    ·have e' :v' -1≠1:=by simpa using e
     refine dG (λe2=> ?_) λe2=> ?_
     ·exact Gao ⟨rfl,.inr ⟨_,_,_,_,_,rfl,⟨⟨_,Ro',I'⟩,bu,by omega,cu,by omega⟩,by omega⟩⟩
     ·exact Gao ⟨rfl,_,_,_,_,_,rfl,⟨⟨_,Ro',I'⟩,bu,by omega,cu,by omega⟩,by omega⟩
  case p1=>
   refine MQ (λr t g=>Gao ⟨hz,r,_,rfl,g⟩) λo1 u1 v1 ca1 cb1 P1 k3=> ?_
   refine Gai (wpS_lift (GbX ⟨rfl, ?_⟩))
   refine Gai (Gbn (Gbd (I:=λj c y=>bG st y∧∃o u' v' mg ca cb,c=(none,u',v',o,mg,ca,cb)∧HiP it rk p q o u' v' ∧u' +v' +j≤u1+v1)
    (Q:=λc y=>bG st y∧((∃r t,c=(some r,t)∧dC it rk p q r)∨∃o u' v' mg ca cb,c=(none,u',v',o,mg,ca,cb)∧HiP it rk p q o u' v' ∧u' +v' ≤u1+v1)) ?s2 ?f2 ⟨hz,o1,u1,v1,_,ca1,cb1,rfl,P1,by omega⟩) ?p2)
   case f2=>
    rintro c y ⟨_,o,u',v',mg,ca,cb,rfl,P',n3⟩
    have:=P'.bu
    have:=P1.cu
    have:=P1.cv
    exfalso
    omega
   case p2=>
    refine MS (λy r t hy g=>Gao ⟨hy,r,_,rfl,g⟩) λy o2 u2 v2 mg2 ca2 cb2 hy P2 n3=> ?_
    dsimp only
    rw[og]
    exact Gai (GbG (Gao ⟨hy.trans ⟨rfl,rfl,rfl,rfl⟩,o2,u2,v2,_,rfl,P2,by omega⟩))
   case s2=>
    refine MR λj y o u' v' mg' ca cb hj hy P' n3=> ?_
    have⟨⟨l,Ro,I⟩,bu,bv,cu,cv⟩:=P'
    have fin:∀g,wpS (model prog w) A E s (hiA a b g ca cb o u' v') (λr y' =>match r with
      | .done c=>bG st y' ∧((∃r t,c=(some r,t)∧dC it rk p q r)∨∃o u' v' mg ca cb,c=(none,u',v',o,mg,ca,cb)∧HiP it rk p q o u' v' ∧u' +v' ≤u1+v1)
      | .yield c=>bG st y' ∧∃o u' v' mg ca cb,c=(none,u',v',o,mg,ca,cb)∧HiP it rk p q o u' v' ∧u' +v' +(j+1)≤u1+v1) y:=λg=>by
     refine Ke X (hy.1.trans hk) Ro I bu bv cu cv (N:=u' +v' -2) (by omega) λr z' sz hr=> ?_
     cases r with
     |done c=>
      rcases hr with hr| ⟨o,u,v,mg,ca,cb,e,P,hn⟩
      ·exact⟨hy.trans sz,.inl hr⟩
      ·exact⟨hy.trans sz,.inr ⟨o,u,v,mg,ca,cb,e,P,by omega⟩⟩
     |yield c=>
      obtain⟨o,u,v,mg,ca,cb,e,P,hn⟩:=hr
      exact⟨hy.trans sz,o,u,v,mg,ca,cb,e,P,by omega⟩
    show wpS (model prog w) A E s (if mg' >1 then hiA a b (mg' -1) ca cb o u' v' else hiA a b mg' ca cb o u' v') _ y
    split
    ·exact Gbn (fin _) λr y' hr=>by cases r<;>exact hr
    ·exact Gbn (fin _) λr y' hr=>by cases r<;>exact hr
end
open PySem.W (kas_item kas_swaps_map)
noncomputable abbrev Kf:=Option (Option Nat)×Nat
noncomputable abbrev Kg:=Option (Option Nat)×Nat×Nat
noncomputable def Fp(lo a nrem:Nat):SM Kf:=forIn [a:nrem] ((none,a):Kf) λ_ z=>do
 let x←ltAt' (lo+z.2) (lo+z.2 -1)
 match x with
 |some c=>if c=true then pure (.done (none,z.2)) else pure (.yield (none,z.2+1))
 |_=>pure (.done (some none,z.2))
noncomputable def wR(lo n nrem:Nat):SM (Option Nat):=do
 reverseSlice' lo (lo+n)
 let z←Fp lo n nrem
 match z.1 with
 |some r=>pure r
 |none=>pure (some z.2)
noncomputable def C4(lo n nrem:Nat):SM Kg:=forIn [n:nrem] ((none,n,0):Kg) λ_ z=>do
 let x←ltAt' (lo+z.2.1) (lo+z.2.1 -1)
 match x with
 |some c=>
  if c=true then
   if z.2.2>0 then do
    reverseSlice' (lo+z.2.1 -(z.2.2+1)) (lo+z.2.1)
    pure (.yield (none,z.2.1+1,0))
   else pure (.yield (none,z.2.1+1,0))
  else do
   let y←ltAt' (lo+z.2.1 -1) (lo+z.2.1)
   match y with
   |some d=>if d=true then pure (.done (none,z.2.1,z.2.2)) else pure (.yield (none,z.2.1+1,z.2.2+1))
   |_=>pure (.done (some none,z.2.1,z.2.2))
 |_=>pure (.done (some none,z.2.1,z.2.2))
noncomputable def rQ(lo n nrem:Nat):SM (Option Nat):=do
 rule "list.sort.descending-run"
 let z←C4 lo (n+1) nrem
 match z.1 with
 |some r=>pure r
 |none=>
  if z.2.2>0 then
   reverseSlice' (lo+z.2.1 -(z.2.2+1)) (lo+z.2.1)
   wR lo z.2.1 nrem
  else wR lo z.2.1 nrem
noncomputable def Kh(lo nrem:Nat):SM (Option Nat):=do
 let z←Fp lo 1 nrem
 match z.1 with
 |some r=>pure r
 |none=>
  if(z.2==nrem)=true then pure (some z.2)
  else if z.2>1 then
   let x←ltAt' lo (lo+z.2 -1)
   match x with
   |some c=>
    if c=true then pure (some z.2)
    else
     reverseSlice' lo (lo+z.2)
     rQ lo z.2 nrem
   |_=>pure none
  else rQ lo z.2 nrem
theorem vb(lo nrem:Nat):countRun' lo nrem=Kh lo nrem:=by
 rw[countRun'_eq]
 dsimp only
 unfold Kh rQ wR C4 Fp
 refine congrArg (bind _) (funext λz=> ?_)
 obtain⟨r,n⟩:=z
 cases r with
 |some r=>rfl
 |none=>
  dsimp only
  split
  ·rfl
  ·split
   ·congr 1
    funext x
    cases x with
    |none=>rfl
    |some c=>
     dsimp only
     split
     ·rfl
     ·congr 1
      funext _r
      congr 1
      funext _u
      congr 1
      congr 1
      funext z2
      obtain⟨r2,n2,q2⟩:=z2
      cases r2 with
      |some r2=>rfl
      |none=>
       dsimp only
       split
       ·congr 1
        funext _v
        congr 1
        funext _w
        congr 1
        funext z3
        obtain⟨r3,n3⟩:=z3
        cases r3<;>rfl
       ·congr 1
        funext _w
        congr 1
        funext z3
        obtain⟨r3,n3⟩:=z3
        cases r3<;>rfl
   ·congr 1
    funext _u
    congr 1
    congr 1
    funext z2
    obtain⟨r2,n2,q2⟩:=z2
    cases r2 with
    |some r2=>rfl
    |none=>
     dsimp only
     split
     ·congr 1
      funext _v
      congr 1
      funext _w
      congr 1
      funext z3
      obtain⟨r3,n3⟩:=z3
      cases r3<;>rfl
     ·congr 1
      funext _w
      congr 1
      funext z3
      obtain⟨r3,n3⟩:=z3
      cases r3<;>rfl
structure SS(κ:SortKind)(it:Array Keyed)(z:SortSt)(p:Array Nat):Prop where
 kind:kindOf z=κ
 arr:arrOf z=p.map (kas_item it)
 fail:failedOf z=none
 ok:∀i∈p.toList,i<it.size
def lP(z z' :SortSt):Prop:=pendingOf z' =pendingOf z
noncomputable def Rk(rk:Nat→Int)(p:Array Nat)(i:Nat):Int:=rk (p.getD i 0)
def Up'(rk:Nat→Int)(p:Array Nat)(lo hi:Nat):Prop:=∀u v,lo≤u→u≤v→v<hi→Rk rk p u≤Rk rk p v
def Dn'(rk:Nat→Int)(p:Array Nat)(lo hi:Nat):Prop:=∀u v,lo≤u→u≤v→v<hi→Rk rk p v≤Rk rk p u
structure Ag(lo hi:Nat)(p p' :Array Nat):Prop where
 perm:p'.Perm p
 out:∀k,k<lo∨hi≤k→p'[k]? =p[k]?
theorem Ag.refl{lo hi:Nat}{p:Array Nat}:Ag lo hi p p:=⟨Array.Perm.refl _,λ_ _=>rfl⟩
theorem Ag.trans{lo hi:Nat}{p q r:Array Nat}(a:Ag lo hi p q)(b:Ag lo hi q r):Ag lo hi p r:=⟨b.perm.trans a.perm,λk h=>(b.out k h).trans (a.out k h)⟩
theorem Ag.size{lo hi:Nat}{p q:Array Nat}(a:Ag lo hi p q):q.size=p.size:=by
 have:=a.perm.toList.length_eq
 simpa using this
theorem Ag.mono{lo hi hi' :Nat}{p q:Array Nat}(a:Ag lo hi p q)(h:hi≤hi'):Ag lo hi' p q:=⟨a.perm,λk z=>a.out k (by omega)⟩
theorem Ag.rk{rk:Nat→Int}{lo hi k:Nat}{p q:Array Nat}(a:Ag lo hi p q)(h:k<lo∨hi≤k):Rk rk q k=Rk rk p k:=by
 unfold Rk
 have:=a.out k h
 simp only[GbT,this]
theorem mK{lo hi:Nat}{p:Array Nat}(h:hi≤p.size):Ag lo hi p (mirror p lo hi ((hi -lo)/2)):=⟨mirror_perm _ _ _ _,λk z=>by
 rw[getElem?_mirror_all h,Gah (by omega)]⟩
theorem pE{rk:Nat→Int}{i j k:Nat}{p:Array Nat}(h:j≤p.size):Rk rk (mirror p i j ((j -i)/2)) k=if i≤k∧k<j then Rk rk p (i+j -1 -k) else Rk rk p k:=by
 unfold Rk
 simp only[GbT,getElem?_mirror_all h]
 split<;>rfl
theorem fW{rk:Nat→Int}{i j k:Nat}{p:Array Nat}(h:j≤p.size)(e:∀u,i≤u→u<j→Rk rk p u=Rk rk p (j -1)):Rk rk (mirror p i j ((j -i)/2)) k=Rk rk p k:=by
 rw[pE h]
 split
 ·rename_i z
  rw[e _ (by omega) (by omega),e k z.1 z.2]
 ·rfl
section
variable{prog:Program}{w:World}{A:Around}{E:Value→Shared→Prop}{s:Shared}{st:SortSt}{κ:SortKind}{it:Array Keyed}{rk:Nat→Int}{p:Array Nat}
theorem SS.rep(S:SS κ it st p):bh it (arrOf st) p.toList:=⟨by rw[S.arr];apply Gce.mp;simp,S.ok⟩
theorem SS.move{p' :Array Nat}{xs:Array Keyed}(S:SS κ it st p)(pm:p'.Perm p)(e:xs=p'.map (kas_item it)):SS κ it (setArr st xs) p' :=⟨S.kind,e,S.fail,λi hi=>S.ok i (by
 have:=pm.toList.mem_iff (a:=i)
 exact this.mp hi)⟩
theorem wp_at{i j:Nat}{Q:Option Bool→SortSt→Prop}(hA:i8 prog w A s κ it rk)(S:SS κ it st p)(hi:i<p.size)(hj:j<p.size)(h:Q (some (decide (Rk rk p i<Rk rk p j))) st):wpS (model prog w) A E s (ltAt' i j) Q st:=by
 rw[ltAt'_eq]
 refine Gai (GcB ?_)
 have gi:p.toList[i]? =some (p.getD i 0):=by simp[Array.getD,hi]
 have gj:p.toList[j]? =some (p.getD j 0):=by simp[Array.getD,hj]
 exact Gai (bH S.rep gi (Gai (bH S.rep gj (wO hA S.kind (S.rep.lt gi) (S.rep.lt gj) h))))
theorem vc{i j:Nat}{Q:Unit→SortSt→Prop}(S:SS κ it st p)(h:∀z,SS κ it z (mirror p i j ((j -i)/2))→lP st z→Q () z):wpS (model prog w) A E s (reverseSlice' i j) Q st:=by
 rw[reverseSlice'_eq]
 refine GbG (h _ (S.move (mirror_perm _ _ _ _) ?_) rfl)
 rw[S.arr]
 exact kas_swaps_map (kas_item it) (λk=>i+k) (λk=>j -1 -k) _ p
theorem C5{lo a nrem:Nat}{Q:Kf→SortSt→Prop}(hA:i8 prog w A s κ it rk)(S:SS κ it st p)(h1:1≤a)(ha:a≤nrem)(hz:lo+nrem≤p.size)(hu:Up' rk p lo (lo+a))
  (h:∀m,a≤m→m≤nrem→Up' rk p lo (lo+m)→(m=nrem∨Rk rk p (lo+m)<Rk rk p (lo+m -1))→Q (none,m) st):wpS (model prog w) A E s (Fp lo a nrem) Q st:=by
 unfold Fp
 refine Gbd (I:=λx c z=>z=st∧c=(none,x)∧Up' rk p lo (lo+x)) ?step ?fin ⟨rfl,rfl,hu⟩
 case fin=>
  rintro c z ⟨rfl,rfl,q⟩
  rw[show max a nrem=nrem by omega] at q⊢
  exact h nrem ha (Gap _) q (.inl rfl)
 case step=>
  rintro x c z h2 h3 ⟨rfl,rfl,q⟩
  dsimp only
  refine Gai (wp_at hA S (by omega) (by omega) ?_)
  dsimp only
  by_cases lt:Rk rk p (lo+x)<Rk rk p (lo+x -1)
  ·rw[GaK lt]
   simp only[Gbs]
   exact Gao (h x h2 (by omega) q (.inr lt))
  ·rw[GaL lt]
   simp only[GaD,Gbf]
   refine Gao ⟨rfl,rfl,λu v a1 a2 a3=> ?_⟩
   by_cases hv:v<lo+x
   ·exact q u v a1 a2 hv
   ·have e:v=lo+x:=by omega
    subst e
    by_cases hu:u=lo+x
    ·subst hu;exact GbF _
    ·have:=q u (lo+x -1) a1 (by omega) (by omega)
     omega
theorem wU{lo n nrem:Nat}{Q:Option Nat→SortSt→Prop}(hA:i8 prog w A s κ it rk)(S:SS κ it st p)(h1:1≤n)(hn:n≤nrem)(hz:lo+nrem≤p.size)(hd:Dn' rk p lo (lo+n))
  (h:∀m z p',SS κ it z p' →lP st z→Ag lo (lo+nrem) p p' →1≤m→m≤nrem→Up' rk p' lo (lo+m)→Q (some m) z):wpS (model prog w) A E s (wR lo n nrem) Q st:=by
 unfold wR
 refine Gai (vc S λz S' hp=> ?_)
 have ag:Ag lo (lo+n) p (mirror p lo (lo+n) ((lo+n -lo)/2)):=mK (by omega)
 refine Gai (C5 hA S' h1 hn (by rw[ag.size];exact hz) (λu v a1 a2 a3=> ?_) λm m1 m2 m3 _=> ?_)
 ·rw[pE (by omega),pE (by omega),Gaf (by omega),Gaf (by omega)]
  exact hd _ _ (by omega) (by omega) (by omega)
 ·exact Gao (h m z _ S' hp (ag.mono (by omega)) (by omega) m2 m3)
theorem Fq{lo n nrem:Nat}{Q:Kg→SortSt→Prop}(hA:i8 prog w A s κ it rk)(S:SS κ it st p)(h1:1≤n)(hn:n≤nrem)(hz:lo+nrem≤p.size)(hd:Dn' rk p lo (lo+n))
  (h:∀m e z p',SS κ it z p' →lP st z→Ag lo (lo+nrem) p p' →n≤m→m≤nrem→Dn' rk p' lo (lo+m)→e+1≤m→(∀u,lo+m -(e+1)≤u→u<lo+m→Rk rk p' u=Rk rk p' (lo+m -1))→Q (none,m,e) z):wpS (model prog w) A E s (C4 lo n nrem) Q st:=by
 unfold C4
 refine Gbd (I:=λx c z=>∃e p',c=(none,x,e)∧SS κ it z p' ∧lP st z∧Ag lo (lo+nrem) p p' ∧Dn' rk p' lo (lo+x)∧e+1≤x∧(∀u,lo+x -(e+1)≤u→u<lo+x→Rk rk p' u=Rk rk p' (lo+x -1))) ?step ?fin
  ⟨0,p,rfl,S,rfl,.refl,hd,by omega,λu a1 a2=>by rw[show u=lo+n -1 by omega]⟩
 case fin=>
  rintro c z ⟨e,p',rfl,S',hp,ag,d,e1,e2⟩
  rw[show max n nrem=nrem by omega] at d e1 e2⊢
  exact h nrem e z p' S' hp ag hn (Gap _) d e1 e2
 case step=>
  rintro x c z h2 h3 ⟨e,p',rfl,S',hp,ag,d,e1,e2⟩
  have sz:=ag.size
  dsimp only
  refine Gai (wp_at hA S' (by omega) (by omega) ?_)
  dsimp only
  by_cases lt:Rk rk p' (lo+x)<Rk rk p' (lo+x -1)
  ·rw[GaK lt]
   simp only[Gbs]
   have dn:∀r:Array Nat,(∀k,Rk rk r k=Rk rk p' k)→Dn' rk r lo (lo+(x+1)):=λr hr u v a1 a2 a3=>by
    rw[hr,hr]
    by_cases hv:v<lo+x
    ·exact d u v a1 a2 hv
    ·have ev:v=lo+x:=by omega
     subst ev
     by_cases hu:u=lo+x
     ·subst hu;exact GbF _
     ·have:=d u (lo+x -1) a1 (by omega) (by omega)
      omega
   by_cases g:e>0
   ·rw[Gaf g]
    refine Gai (vc S' λz' S2 hp2=>Gao ⟨0,_,rfl,S2,hp2.trans hp,ag.trans ?_,dn _ λk=>fW (by omega) e2,by omega,λu a1 a2=>by rw[show u=lo+(x+1)-1 by omega]⟩)
    have am:Ag (lo+x -(e+1)) (lo+x) p' (mirror p' (lo+x -(e+1)) (lo+x) ((lo+x -(lo+x -(e+1)))/2)):=mK (by omega)
    exact⟨am.perm,λk hk=>am.out k (by omega)⟩
   ·rw[Gah g]
    exact Gao ⟨0,p',rfl,S',hp,ag,dn p' λ_=>rfl,by omega,λu a1 a2=>by rw[show u=lo+(x+1)-1 by omega]⟩
  ·rw[GaL lt]
   simp only[GaD,Gbf]
   refine Gai (wp_at hA S' (by omega) (by omega) ?_)
   dsimp only
   by_cases gt:Rk rk p' (lo+x -1)<Rk rk p' (lo+x)
   ·rw[GaK gt]
    simp only[Gbs]
    exact Gao (h x e z p' S' hp ag h2 (by omega) d e1 e2)
   ·rw[GaL gt]
    simp only[GaD,Gbf]
    have eq:Rk rk p' (lo+x)=Rk rk p' (lo+x -1):=by omega
    refine Gao ⟨e+1,p',rfl,S',hp,ag,λu v a1 a2 a3=> ?_,by omega,λu a1 a2=> ?_⟩
    ·by_cases hv:v<lo+x
     ·exact d u v a1 a2 hv
     ·have ev:v=lo+x:=by omega
      subst ev
      by_cases hu:u=lo+x
      ·subst hu;exact GbF _
      ·have:=d u (lo+x -1) a1 (by omega) (by omega)
       omega
    ·rw[show lo+(x+1)-1=lo+x by omega,eq]
     by_cases hu:u=lo+x
     ·subst hu;exact eq
     ·exact e2 u (by omega) (by omega)
theorem uj{lo n nrem:Nat}{Q:Option Nat→SortSt→Prop}(hA:i8 prog w A s κ it rk)(S:SS κ it st p)(h1:1≤n)(hn:n+1≤nrem)(hz:lo+nrem≤p.size)(hd:Dn' rk p lo (lo+(n+1)))
  (h:∀m z p',SS κ it z p' →lP st z→Ag lo (lo+nrem) p p' →1≤m→m≤nrem→Up' rk p' lo (lo+m)→Q (some m) z):wpS (model prog w) A E s (rQ lo n nrem) Q st:=by
 unfold rQ
 refine Gai (wpS_lift (GbX ⟨rfl, ?_⟩))
 refine Gai (Fq hA S (by omega) hn hz hd λm e z p' S' hp ag m1 m2 d e1 e2=> ?_)
 have sz:=ag.size
 dsimp only
 by_cases g:e>0
 ·rw[Gaf g]
  refine Gai (vc S' λz2 S2 hp2=> ?_)
  have am:Ag (lo+m -(e+1)) (lo+m) p' (mirror p' (lo+m -(e+1)) (lo+m) ((lo+m -(lo+m -(e+1)))/2)):=mK (by omega)
  have am' :Ag lo (lo+nrem) p' (mirror p' (lo+m -(e+1)) (lo+m) ((lo+m -(lo+m -(e+1)))/2)):=⟨am.perm,λk hk=>am.out k (by omega)⟩
  refine wU hA S2 (by omega) m2 (by rw[am.size];omega) (λu v a1 a2 a3=> ?_) λm' z3 p3 S3 hp3 ag3=>h m' z3 p3 S3 ((hp3.trans hp2).trans hp) ((ag.trans am').trans ag3)
  rw[fW (by omega) e2,fW (by omega) e2]
  exact d u v a1 a2 a3
 ·rw[Gah g]
  exact wU hA S' (by omega) m2 (by omega) d λm' z3 p3 S3 hp3 ag3=>h m' z3 p3 S3 (hp3.trans hp) (ag.trans ag3)
theorem Fs{lo nrem:Nat}{Q:Option Nat→SortSt→Prop}(hA:i8 prog w A s κ it rk)(S:SS κ it st p)(h1:1≤nrem)(hz:lo+nrem≤p.size)
  (h:∀m z p',SS κ it z p' →lP st z→Ag lo (lo+nrem) p p' →1≤m→m≤nrem→Up' rk p' lo (lo+m)→Q (some m) z):wpS (model prog w) A E s (countRun' lo nrem) Q st:=by
 rw[vb]
 unfold Kh
 refine Gai (C5 hA S (Gap _) h1 hz (λu v a1 a2 a3=>by rw[show u=v by omega];exact GbF _) λn n1 n2 up stop=> ?_)
 dsimp only
 by_cases c1:(n==nrem)=true
 ·rw[Gaf c1]
  exact Gao (h n st p S rfl .refl n1 n2 up)
 rw[Gah c1]
 have c1' :n≠nrem:=by simpa using c1
 have lt:Rk rk p (lo+n)<Rk rk p (lo+n -1):=stop.resolve_left c1'
 by_cases c2:n>1
 ·rw[Gaf c2]
  refine Gai (wp_at hA S (by omega) (by omega) ?_)
  dsimp only
  by_cases ro:Rk rk p lo<Rk rk p (lo+n -1)
  ·rw[GaK ro]
   simp only[Gbs]
   exact Gao (h n st p S rfl .refl n1 n2 up)
  ·rw[GaL ro]
   simp only[GaD,Gbf]
   have eq:∀u,lo≤u→u<lo+n→Rk rk p u=Rk rk p (lo+n -1):=λu a1 a2=>by
    have b1:=up lo u (Gap _) a1 a2
    have b2:=up u (lo+n -1) a1 (by omega) (by omega)
    omega
   refine Gai (vc S λz S' hp=> ?_)
   have am:Ag lo (lo+n) p (mirror p lo (lo+n) ((lo+n -lo)/2)):=mK (by omega)
   refine uj hA S' n1 (by omega) (by rw[am.size];exact hz) (λu v a1 a2 a3=> ?_) λm' z3 p3 S3 hp3 ag3=>h m' z3 p3 S3 (hp3.trans hp) ((am.mono (by omega)).trans ag3)
   rw[fW (by omega) eq,fW (by omega) eq]
   by_cases hv:v<lo+n
   ·rw[eq u a1 (by omega),eq v (by omega) hv];exact GbF _
   ·rw[show v=lo+n by omega]
    by_cases hu:u=lo+n
    ·subst hu;exact GbF _
    ·rw[eq u a1 (by omega)];omega
 ·rw[Gah c2]
  have n1' :n=1:=by omega
  subst n1'
  refine uj hA S (Gap _) (by omega) hz (λu v a1 a2 a3=> ?_) h
  by_cases e1:u=v
  ·subst e1;exact GbF _
  ·rw[show v=lo+1 by omega,show u=lo+1 -1 by omega];omega
end
theorem uk{rk:Nat→Int}{src d k:Nat}{p:Array Nat}(h:src<p.size)(hd:d≤src):Rk rk (bubble p src d) k=if k=src -d then Rk rk p src else if src -d<k∧k≤src then Rk rk p (k -1) else Rk rk p k:=by
 unfold Rk
 simp only[GbT,getElem?_bubble h d hd]
 split
 ·rfl
 ·split<;>rfl
section
variable{prog:Program}{w:World}{A:Around}{E:Value→Shared→Prop}{s:Shared}{st:SortSt}{κ:SortKind}{it:Array Keyed}{rk:Nat→Int}{p:Array Nat}
theorem HR{src dst:Nat}{Q:Unit→SortSt→Prop}(S:SS κ it st p)(h:∀z,SS κ it z (bubble p src (src -dst))→lP st z→Q () z):wpS (model prog w) A E s (moveDown' src dst) Q st:=by
 rw[moveDown'_eq]
 refine GbG (h _ (S.move (bubble_perm _ _ _) ?_) rfl)
 rw[S.arr]
 exact kas_swaps_map (kas_item it) (λk=>src -k) (λk=>src -k -1) _ p
theorem Ki{lo n ok:Nat}{Q:Bool→SortSt→Prop}(hA:i8 prog w A s κ it rk)(S:SS κ it st p)(hz:lo+n≤p.size)(h1:1≤ok)(hok:ok≤n)(hu:Up' rk p lo (lo+ok))
  (h:∀z p',SS κ it z p' →lP st z→Ag lo (lo+n) p p' →Up' rk p' lo (lo+n)→Q true z):wpS (model prog w) A E s (binarySort' lo n ok) Q st:=by
 rw[binarySort'_eq]
 refine Gai (Gbn (Gbd (I:=λk c z=>∃p',c=(none,())∧SS κ it z p' ∧lP st z∧Ag lo (lo+n) p p' ∧Up' rk p' lo (lo+k))
  (Q:=λc z=>∃p',c=(none,())∧SS κ it z p' ∧lP st z∧Ag lo (lo+n) p p' ∧Up' rk p' lo (lo+n)) ?step ?fin ⟨p,rfl,S,rfl,.refl,by rw[show max ok 1=ok by omega];exact hu⟩) ?post)
 case post=>
  rintro c z ⟨p',rfl,S',hp,ag,up⟩
  exact Gao (h z p' S' hp ag up)
 case fin=>
  rintro c z ⟨p',rfl,S',hp,ag,up⟩
  rw[show max (max ok 1) n=n by omega] at up
  exact⟨p',rfl,S',hp,ag,up⟩
 case step=>
  rintro k c z k1 k2 ⟨p',rfl,S',hp,ag,up⟩
  have sz:=ag.size
  refine Gai (Gbn (Gbd (I:=λi c z' =>z' =z∧∃l r,c=(none,l,r)∧l≤r∧r≤k∧r -l≤k -i∧(∀u,u<l→Rk rk p' (lo+u)≤Rk rk p' (lo+k))∧(∀u,r≤u→u<k→Rk rk p' (lo+k)≤Rk rk p' (lo+u)))
   (Q:=λc z' =>z' =z∧∃l,c=(none,l,l)∧l≤k∧(∀u,u<l→Rk rk p' (lo+u)≤Rk rk p' (lo+k))∧(∀u,l≤u→u<k→Rk rk p' (lo+k)≤Rk rk p' (lo+u))) ?s1 ?f1 ⟨rfl,0,k,rfl,by omega,by omega,by omega,λu hu=>by omega,λu a1 a2=>by omega⟩) ?p1)
  case f1=>
   rintro c z' ⟨rfl,l,r,rfl,q1,q2,q3,q4,q5⟩
   have:l=r:=by omega
   subst this
   exact⟨rfl,l,rfl,q2,q4,q5⟩
  case s1=>
   rintro i c z' _ hi ⟨rfl,l,r,rfl,q1,q2,q3,q4,q5⟩
   dsimp only
   by_cases g:l≥r
   ·rw[Gaf g]
    have:l=r:=by omega
    subst this
    exact Gao ⟨rfl,l,rfl,q2,q4,q5⟩
   rw[Gah g]
   refine Gai (wp_at hA S' (by omega) (by omega) ?_)
   by_cases lt:Rk rk p' (lo+k)<Rk rk p' (lo+(l+r)/2)
   ·rw[GaK lt]
    simp only[Gbs]
    refine Gao ⟨rfl,l,(l+r)/2,rfl,by omega,by omega,by omega,q4,λu a1 a2=> ?_⟩
    have:=up (lo+(l+r)/2) (lo+u) (by omega) (by omega) (by omega)
    omega
   ·rw[GaL lt]
    simp only[GaD,Gbf]
    refine Gao ⟨rfl,(l+r)/2+1,r,rfl,by omega,by omega,by omega,λu a1=> ?_,q5⟩
    have:=up (lo+u) (lo+(l+r)/2) (by omega) (by omega) (by omega)
    omega
  case p1=>
   rintro c z' ⟨rfl,l,rfl,l1,l2,l3⟩
   refine Gai (HR S' λz2 S2 hp2=>Gao ⟨_,rfl,S2,hp2.trans hp,ag.trans ⟨bubble_perm _ _ _,λj hj=> ?_⟩,λu v a1 a2 a3=> ?_⟩)
   ·rw[getElem?_bubble (by omega) _ (by omega),Gah (by omega),Gah (by omega)]
   ·rw[uk (by omega) (by omega),uk (by omega) (by omega)]
    have e:lo+k -(lo+k -(lo+l))=lo+l:=by omega
    rw[e]
    by_cases u1:u=lo+l
    ·rw[Gaf u1]
     by_cases v1:v=lo+l
     ·rw[Gaf v1];exact GbF _
     ·rw[Gah v1,Gaf (by omega)]
      have:=l3 (v -1 -lo) (by omega) (by omega)
      rw[show lo+(v -1 -lo)=v -1 by omega] at this
      exact this
    ·rw[Gah u1]
     by_cases u2:lo+l<u∧u≤lo+k
     ·rw[Gaf u2,Gah (by omega),Gaf (by omega)]
      exact up _ _ (by omega) (by omega) (by omega)
     ·rw[Gah u2]
      have hu' :u<lo+l:=by omega
      by_cases v1:v=lo+l
      ·rw[Gaf v1]
       have:=l2 (u -lo) (by omega)
       rw[show lo+(u -lo)=u by omega] at this
       exact this
      ·rw[Gah v1]
       by_cases v2:lo+l<v∧v≤lo+k
       ·rw[Gaf v2]
        exact up _ _ (by omega) (by omega) (by omega)
       ·rw[Gah v2]
        exact up _ _ a1 a2 (by omega)
end
theorem Kj{rk:Nat→Int}{p:Array Nat}{k x:Nat}(h:p.toList[k]? =some x):Rk rk p k=rk x:=by
 unfold Rk
 have h' :p[k]? =some x:=by simpa using h
 simp[GbT,h']
theorem vd{rk:Nat→Int}{p:Array Nat}{lo n:Nat}(hz:lo+n≤p.size):Up' rk p lo (lo+n)↔Srt rk ((p.toList.drop lo).take n):=by
 have len:((p.toList.drop lo).take n).length=n:=by simp;omega
 have at_:∀u,u<n→∃x,((p.toList.drop lo).take n)[u]? =some x∧Rk rk p (lo+u)=rk x:=λu hu=>by
  have h1:u<((p.toList.drop lo).take n).length:=by rw[len];exact hu
  refine⟨((p.toList.drop lo).take n)[u],Gaa h1, ?_⟩
  have:=Gaa h1
  rw[GaS hu,Gbg] at this
  exact Kj this
 constructor
 ·intro h
  unfold Srt
  rw[GbY]
  intro i j hi hj hij
  rw[len] at hi hj
  obtain⟨x,e1,e2⟩:=at_ i hi
  obtain⟨y,e3,e4⟩:=at_ j hj
  obtain⟨_,e5⟩:=Gac.mp e1
  obtain⟨_,e6⟩:=Gac.mp e3
  rw[e5,e6,←e2,←e4]
  exact h _ _ (by omega) (by omega) (by omega)
 ·intro h u v a1 a2 a3
  obtain⟨x,e1,e2⟩:=at_ (u -lo) (by omega)
  obtain⟨y,e3,e4⟩:=at_ (v -lo) (by omega)
  rw[show lo+(u -lo)=u by omega] at e2
  rw[show lo+(v -lo)=v by omega] at e4
  rw[e2,e4]
  exact qQ h (by omega) e1 e3
theorem wV{α:Type}(c:Nat):∀(m:List α) (n:Nat) (a:Array α),c+n+m.length≤a.size→((m.zipIdx n).foldl (λa (x:α×Nat)=>a.setIfInBounds (c+x.2) x.1) a).toList=a.toList.take (c+n)++m++a.toList.drop (c+n+m.length)
 |[],n,a,_=>by simp
 |x::m,n,a,h=>by
  rw[List.zipIdx_cons,GbV]
  simp only[GaH] at h
  rw[wV c m (n+1) _ (by rw[Array.size_setIfInBounds];omega),Array.toList_setIfInBounds]
  have hc:c+n<a.toList.length:=by simp;omega
  have e1:(a.toList.set (c+n) x).take (c+(n+1))=a.toList.take (c+n)++[x]:=by
   rw[show c+(n+1)=c+n+1 by omega,List.take_succ,List.take_set_of_le (Gap _),GaN hc]
   rfl
  have e2:(a.toList.set (c+n) x).drop (c+(n+1)+m.length)=a.toList.drop (c+n+(x::m).length):=by
   rw[List.drop_set_of_lt (by omega)]
   congr 1
   simp only[GaH];omega
  rw[e1,e2]
  simp
theorem HS{M:Model}{A:Around}{E:Value→Shared→Prop}{s:Shared}{σ:Type}{x st:σ}{Q:PUnit→σ→Prop}(h:Q ⟨⟩ x):wpS M A E s (set x:StateT σ Sem PUnit) Q st:=by
 unfold wpS;rw[StateT.run_set];exact Gaq ⟨rfl,h⟩
theorem HU(i:Nat):mergeAt' i=(do
 let z←get
 let(some (sa,na,w0),some (sb,nb,_)):=((pendingOf z)[i]?,(pendingOf z)[i+1]?)|unsupported "internal:list.sort.pending"
 set (setPending z (((pendingOf z).setIfInBounds i (sa,na+nb,w0)).eraseIdxIfInBounds (i+1)))
 let some k←kX false (←elem' (arrOf z) sb) (arrOf z) sa na 0|return false
 let(sc,nc):=(sa+k,na -k)
 if nc==0 then return true
 let some nd←kX true (←elem' (arrOf z) (sc+nc -1)) (arrOf z) sb nb (nb -1)|return false
 if nd==0 then return true
 let x:=(arrOf z).extract sc sb
 let y:=(arrOf z).extract sb (sb+nd)
 let mm←if nc≤nd then Ka x y else Kd x y
 modify λz=>setArr z (mm.toList.zipIdx.foldl (λa (q,j)=>a.setIfInBounds (sc+j) q) (arrOf z))
 return(failedOf (←get)).isNone):=rfl
section
variable{prog:Program}{w:World}{A:Around}{E:Value→Shared→Prop}{s:Shared}{st:SortSt}{κ:SortKind}{it:Array Keyed}{rk:Nat→Int}{p:Array Nat}
theorem HV{l:List Nat}{a b:Nat}(h:a≤b):l=l.take a++(l.drop a).take (b -a)++l.drop b:=by
 rw[Gav,←Fm h,GaZ]
theorem B6{i sa na sb nb w0 w1:Nat}{Q:Bool→SortSt→Prop}(hA:i8 prog w A s κ it rk)(S:SS κ it st p)(e1:(pendingOf st)[i]? =some (sa,na,w0))(e2:(pendingOf st)[i+1]? =some (sb,nb,w1))(hb:sb=sa+na)(ha0:0<na)(hb0:0<nb)(hz:sb+nb≤p.size)
  (ua:Up' rk p sa sb)(ub:Up' rk p sb (sb+nb))
  (h:∀z p',SS κ it z p' →pendingOf z=((pendingOf st).setIfInBounds i (sa,na+nb,w0)).eraseIdxIfInBounds (i+1)→Ag sa (sb+nb) p p' →Up' rk p' sa (sb+nb)→Q true z):wpS (model prog w) A E s (mergeAt' i) Q st:=by
 rw[HU]
 refine Gai (GcB ?_)
 rw[e1,e2]
 refine Gai (HS ?_)
 generalize hz1:setPending st (((pendingOf st).setIfInBounds i (sa,na+nb,w0)).eraseIdxIfInBounds (i+1))=z1
 have S1:SS κ it z1 p:=by rw[←hz1];exact⟨S.kind,S.arr,S.fail,S.ok⟩
 have pe:pendingOf z1=((pendingOf st).setIfInBounds i (sa,na+nb,w0)).eraseIdxIfInBounds (i+1):=by rw[←hz1]
 have R:=S.rep
 have szl:p.toList.length=p.size:=by simp
 subst hb
 have sA:Srt rk ((p.toList.drop sa).take na):=(vd (by omega)).mp ua
 have sB:Srt rk ((p.toList.drop (sa+na)).take nb):=(vd (by omega)).mp ub
 have whole:∀l:List Nat,(p.toList.drop sa).take (na+nb)=l→Srt rk l→Up' rk p sa (sa+na+nb):=λl hl hs=>by
  rw[Gdv]
  exact(vd (by omega)).mpr (by rw[hl];exact hs)
 have split:(p.toList.drop sa).take (na+nb)=(p.toList.drop sa).take na++(p.toList.drop (sa+na)).take nb:=by
  rw[List.take_add,GbL]
 obtain⟨y0,ey0⟩:∃x,p.toList[sa+na]? =some x:=⟨_,Gaa (by omega)⟩
 refine Gai (bH R ey0 ?_)
 refine Gai (pD hA S1.kind R (R.lt ey0) (by omega) sA ha0 λk k1 t1 t2=> ?_)
 simp only[GaD,Gbf] at t1 t2
 dsimp only
 have hB0:((p.toList.drop (sa+na)).take nb)[0]? =some y0:=by
  rw[GaS hb0,Gbg];exact ey0
 have leB:∀y∈(p.toList.drop (sa+na)).take nb,rk y0≤rk y:=λy hy=>mI sB hB0 (by rw[GbB];exact hy)
 by_cases c1:(na -k==0)=true
 ·rw[Gaf c1]
  have:na -k=0:=by simpa using c1
  have kk:k=na:=by omega
  subst kk
  refine Gao (h z1 p S1 pe .refl (whole _ split (dH sA sB λx hx y hy=> ?_)))
  have q1:=t1 x (by rw[Gcc,Gdz];exact hx)
  have q2:=leB y hy
  omega
 rw[Gah c1]
 have c1' :na -k≠0:=by simpa using c1
 obtain⟨x1,ex1⟩:∃x,p.toList[sa+k+(na -k)-1]? =some x:=⟨_,Gaa (by omega)⟩
 refine Gai (bH R ex1 ?_)
 refine Gai (pD hA S1.kind R (R.lt ex1) (by omega) sB (by omega) λnd d1 t3 t4=> ?_)
 simp only[Gbs] at t3 t4
 dsimp only
 have hAl:((p.toList.drop sa).take na)[na -1]? =some x1:=by
  rw[GaS (by omega),Gbg,show sa+(na -1)=sa+k+(na -k)-1 by omega]
  exact ex1
 have leA:∀x∈(p.toList.drop sa).take na,rk x≤rk x1:=λx hx=>by
  refine mJ (n:=na) sA hAl ?_
  rw[Gcc,Gdz];exact hx
 by_cases c2:(nd==0)=true
 ·rw[Gaf c2]
  have nd0:nd=0:=by simpa using c2
  subst nd0
  refine Gao (h z1 p S1 pe .refl (whole _ split (dH sA sB λx hx y hy=> ?_)))
  have q1:=leA x hx
  have q2:=t4 y (by rw[GbB];exact hy)
  omega
 rw[Gah c2]
 have c2' :nd≠0:=by simpa using c2
 have Rx:bh it ((arrOf st).extract (sa+k) (sa+na)) ((p.toList.drop (sa+k)).take (na -k)):=by
  have:=R.extract (sa+k) (sa+na)
  rw[show sa+na -(sa+k)=na -k by omega] at this
  exact this
 have Ry:bh it ((arrOf st).extract (sa+na) (sa+na+nd)) ((p.toList.drop (sa+na)).take nd):=by
  have:=R.extract (sa+na) (sa+na+nd)
  rw[show sa+na+nd -(sa+na)=nd by omega] at this
  exact this
 have ePx:(p.toList.drop (sa+k)).take (na -k)=((p.toList.drop sa).take na).drop k:=by rw[GcC,GbL]
 have ePy:(p.toList.drop (sa+na)).take nd=((p.toList.drop (sa+na)).take nb).take nd:=by rw[Gcc,Gcs d1]
 have sx:Srt rk ((p.toList.drop (sa+k)).take (na -k)):=by rw[ePx];exact ft sA k
 have sy:Srt rk ((p.toList.drop (sa+na)).take nd):=by rw[ePy];exact fV sB nd
 have lx:((p.toList.drop (sa+k)).take (na -k)).length=na -k:=by simp;omega
 have ly:((p.toList.drop (sa+na)).take nd).length=nd:=by simp;omega
 have f0:∀x,((p.toList.drop (sa+na)).take nd)[0]? =some x→∀y∈(p.toList.drop (sa+k)).take (na -k),rk x≤rk y:=λx hx y hy=>by
  rw[GaS (by omega),Gbg] at hx
  have:p.toList[sa+na]? =some x:=hx
  rw[ey0] at this;cases this
  rw[ePx] at hy
  have:=t2 y hy
  omega
 have fl:∀x,((p.toList.drop (sa+k)).take (na -k))[((p.toList.drop (sa+k)).take (na -k)).length -1]? =some x→∀y∈(p.toList.drop (sa+na)).take nd,rk y≤rk x:=λx hx y hy=>by
  rw[lx,GaS (by omega),Gbg,show sa+k+(na -k -1)=sa+k+(na -k)-1 by omega,ex1] at hx
  cases hx
  rw[ePy] at hy
  have:=t3 y hy
  omega
 have fin:∀mm z,bG z1 z→dC it rk ((p.toList.drop (sa+k)).take (na -k)) ((p.toList.drop (sa+na)).take nd) mm→
   wpS (model prog w) A E s (do
    modify λz=>setArr z (mm.toList.zipIdx.foldl (λa (x:Keyed×Nat)=>a.setIfInBounds (sa+k+x.2) x.1) (arrOf z))
    let z' ←get
    pure (failedOf z').isNone) Q z:=by
  rintro mm z sg ⟨m,Rm,pm,sm⟩
  have lm:m.length=na -k+nd:=by have:=pm.length_eq;rw[Gar,lx,ly] at this;exact this
  refine Gai (GbG (Gai (GcB (Gao ?_))))
  have ea:arrOf z=arrOf st:=sg.2.1.trans (by rw[S1.arr,S.arr])
  have hmm:mm.toList=m.map (kas_item it):=by rw[Rm.1]
  have hw:((mm.toList.zipIdx.foldl (λa (x:Keyed×Nat)=>a.setIfInBounds (sa+k+x.2) x.1) (arrOf z))).toList=(p.toList.take (sa+k)++m++p.toList.drop (sa+na+nd)).map (kas_item it):=by
   rw[hmm,ea]
   have:=wV (sa+k) (m.map (kas_item it)) 0 (arrOf st) (by rw[Gae,lm,R.size,szl];omega)
   rw[this,R.1]
   simp only[GaI,List.map_take,Gdu,Gae,lm,Nat.add_zero]
   rw[show sa+k+(na -k+nd)=sa+na+nd by omega]
  have fz:failedOf (setArr z (mm.toList.zipIdx.foldl (λa (x:Keyed×Nat)=>a.setIfInBounds (sa+k+x.2) x.1) (arrOf z)))=none:=sg.2.2.2.trans S1.fail
  have pieces:p.toList=p.toList.take (sa+k)++((p.toList.drop (sa+k)).take (na -k)++(p.toList.drop (sa+na)).take nd)++p.toList.drop (sa+na+nd):=by
   conv=>lhs;rw[HV (l:=p.toList) (show sa+k≤sa+na+nd by omega)]
   congr 2
   rw[show sa+na+nd -(sa+k)=(na -k)+nd by omega,List.take_add,GbL,show sa+k+(na -k)=sa+na by omega]
  generalize hl' :p.toList.take (sa+k)++m++p.toList.drop (sa+na+nd)=l' at hw
  have pl:l'.Perm p.toList:=by
   rw[←hl']
   conv=>rhs;rw[pieces]
   exact Gbj _ (GbM _ pm)
  have S2:SS κ it (setArr z (mm.toList.zipIdx.foldl (λa (x:Keyed×Nat)=>a.setIfInBounds (sa+k+x.2) x.1) (arrOf z))) l'.toArray:=by
   refine⟨sg.1.trans S1.kind, ?_,fz,λj hj=>S.ok j (pl.mem_iff.mp hj)⟩
   apply Gce.mp
   show(mm.toList.zipIdx.foldl (λa (x:Keyed×Nat)=>a.setIfInBounds (sa+k+x.2) x.1) (arrOf z)).toList=_
   rw[hw];simp
  have lt1:(p.toList.take (sa+k)).length=sa+k:=by simp;omega
  have ag:Ag sa (sa+na+nb) p l'.toArray:=by
   refine⟨⟨pl⟩,λj hj=> ?_⟩
   show l'.toArray[j]? =p[j]?
   have g1:l'.toArray[j]? =l'[j]? :=by simp
   have g2:p[j]? =p.toList[j]? :=by simp
   rw[g1,g2,←hl']
   rcases hj with hj|hj
   ·rw[Gav,GaR (by rw[lt1];omega),GaS (by omega)]
   ·rw[GaJ (by rw[Gar,lt1,lm];omega),Gar,lt1,lm,Gbg]
    congr 1;omega
  have nn:failedOf (setArr z (mm.toList.zipIdx.foldl (λa (x:Keyed×Nat)=>a.setIfInBounds (sa+k+x.2) x.1) (arrOf z)))=none:=fz
  have goal:=h _ l'.toArray S2 (sg.2.2.1.trans pe) ag ?_
  ·rw[nn];exact goal
  ·rw[Gdv]
   refine(vd (by rw[Gam,pl.length_eq,szl];omega)).mpr ?_
   have seg:(l'.drop sa).take (na+nb)=((p.toList.drop sa).take na).take k++m++((p.toList.drop (sa+na)).take nb).drop nd:=by
    rw[←hl',Gav,List.drop_append_of_le_length (by rw[lt1];omega)]
    have q1:(p.toList.take (sa+k)).drop sa=((p.toList.drop sa).take na).take k:=by rw[GcC,Gcc,show sa+k -sa=k by omega,Gcs k1]
    rw[q1]
    have lk:(((p.toList.drop sa).take na).take k).length=k:=by simp;omega
    rw[←Gav,List.take_append,Gar,lk,lm,Gbt (by rw[Gar,lk,lm];omega)]
    congr 1
    rw[GcC,GbL]
    congr 1
    omega
   show Srt rk ((l'.toArray.toList.drop sa).take (na+nb))
   show Srt rk ((l'.drop sa).take (na+nb))
   rw[seg]
   refine dH (dH (fV sA k) sm λx hx y hy=> ?_) (ft sB nd) λx hx y hy=> ?_
   ·rcases Gaw.mp (pm.mem_iff.mp hy) with hy|hy
    ·rw[ePx] at hy
     exact qR sA k x hx y hy
    ·rw[ePy] at hy
     have b1:=t1 x hx
     have b2:=leB y (Gbi hy)
     omega
   ·rcases Gaw.mp hx with hx|hx
    ·have b1:=leA x (Gbi hx)
     have b2:=t4 y hy
     omega
    ·rcases Gaw.mp (pm.mem_iff.mp hx) with hx|hx
     ·rw[ePx] at hx
      have b1:=leA x (Gbo hx)
      have b2:=t4 y hy
      omega
     ·rw[ePy] at hx
      exact qR sB nd x hx y hy
 by_cases c3:na -k≤nd
 ·rw[Gaf c3]
  exact Gai (MO hA S1.kind Rx Ry sx sy (by omega) (by omega) f0 fl fin)
 ·rw[Gah c3]
  exact Gai (MT hA S1.kind Rx Ry sx sy (by omega) (by omega) f0 fl fin)
end
noncomputable abbrev Run:=Nat×Nat×Nat
def chain:Nat→List Run→Nat→Prop
 |a,[],b=>a=b
 |a,r::t,b=>r.1=a∧0<r.2.1∧chain (a+r.2.1) t b
theorem oh:∀{l:List Run} {a b:Nat},chain a l b→a+l.length≤b
 |[],a,b,h=>by have:a=b:=h;simp;omega
 |r::t,a,b,h=>by
  have:=oh h.2.2
  have:=h.2.1
  simp only[GaH];omega
theorem pF:∀{l:List Run} {a b:Nat} {r:Run},chain a l b→r∈l→a≤r.1∧r.1+r.2.1≤b∧0<r.2.1
 |q::t,a,b,r,h,hr=>by
  rcases Gay.mp hr with e|e
  ·subst e
   have:=oh h.2.2
   have:=h.1
   exact⟨by omega,by omega,h.2.1⟩
  ·have:=pF h.2.2 e
   exact⟨by omega,this.2.1,this.2.2⟩
theorem rR:∀{l:List Run} {a b:Nat} {n w0:Nat},chain a l b→0<n→chain a (l++[(b,n,w0)]) (b+n)
 |[],a,b,n,w0,h,hn=>by have:a=b:=h;subst this;exact⟨rfl,hn,rfl⟩
 |r::t,a,b,n,w0,h,hn=> ⟨h.1,h.2.1,rR h.2.2 hn⟩
theorem oj{f:Run→Run}(hf:∀r,(f r).1=r.1∧(f r).2.1=r.2.1):∀{l:List Run} {a b:Nat} (i:Nat),chain a l b→chain a (l.modify i f) b
 |[],a,b,i,h=>by simpa using h
 |r::t,a,b,0,h=>by
  rw[List.modify_zero_cons]
  exact⟨(hf r).1.trans h.1,by rw[(hf r).2];exact h.2.1,by rw[(hf r).2];exact h.2.2⟩
 |r::t,a,b,i+1,h=>by
  rw[List.modify_succ_cons]
  exact⟨h.1,h.2.1,oj hf i h.2.2⟩
theorem mem_modify{f:Run→Run}(hf:∀r,(f r).1=r.1∧(f r).2.1=r.2.1):∀{l:List Run} {i:Nat} {r:Run},r∈l.modify i f→∃r' ∈l,r'.1=r.1∧r'.2.1=r.2.1
 |[],i,r,h=>by simp at h
 |q::t,0,r,h=>by
  rw[List.modify_zero_cons] at h
  rcases Gay.mp h with e|e
  ·subst e;exact⟨q,Gan,(hf q).1.symm,(hf q).2.symm⟩
  ·exact⟨r,Gag _ e,rfl,rfl⟩
 |q::t,i+1,r,h=>by
  rw[List.modify_succ_cons] at h
  rcases Gay.mp h with e|e
  ·subst e;exact⟨r,Gan,rfl,rfl⟩
  ·obtain⟨r',h1,h2⟩:=mem_modify hf e
   exact⟨r',Gag _ h1,h2⟩
theorem pZ:∀{l:List Run} {a b:Nat} {i sa na w0 sb nb w1:Nat},chain a l b→l[i]? =some (sa,na,w0)→l[i+1]? =some (sb,nb,w1)→
  sb=sa+na∧0<na∧0<nb∧a≤sa∧sb+nb≤b∧chain a ((l.set i (sa,na+nb,w0)).eraseIdx (i+1)) b∧∀r∈(l.set i (sa,na+nb,w0)).eraseIdx (i+1),r=(sa,na+nb,w0)∨(r∈l∧(r.1+r.2.1≤sa∨sb+nb≤r.1))
 |r::r2::t,a,b,0,sa,na,w0,sb,nb,w1,h,e1,e2=>by
  simp at e1 e2
  subst e1 e2
  obtain⟨h1,h2,h3,h4,h5⟩:=h
  have h1' :sa=a:=h1
  have h3' :sb=a+na:=h3
  have h2' :0<na:=h2
  have h4' :0<nb:=h4
  have le:=oh h5
  refine⟨by omega,h2',h4',by omega, ?_, ?_,λq hq=> ?_⟩
  ·have:a+na+nb≤b:=by
    have:a+(sa,na,w0).2.1+(sb,nb,w1).2.1+t.length≤b:=le
    have:a+na+nb+t.length≤b:=this
    omega
   omega
  ·show chain a ((sa,na+nb,w0)::t) b
   refine⟨h1,by show 0<na+nb;omega, ?_⟩
   show chain (a+(na+nb)) t b
   rw[←Gdv]
   exact h5
  ·have hq' :q=(sa,na+nb,w0)∨q∈t:=by simpa using hq
   rcases hq' with e|e
   ·exact .inl e
   ·refine .inr ⟨Gag _ (Gag _ e),.inr ?_⟩
    have:=(pF h5 e).1
    have:a+na+nb≤q.1:=this
    omega
 |r::t,a,b,i+1,sa,na,w0,sb,nb,w1,h,e1,e2=>by
  rw[GcV] at e1 e2
  obtain⟨g1,g2,g3,g4,g5,g6,g7⟩:=pZ h.2.2 e1 e2
  have:=h.2.1
  refine⟨g1,g2,g3,by omega,g5,⟨h.1,h.2.1, ?_⟩,λq hq=> ?_⟩
  ·exact g6
  ·have hq' :q=r∨q∈(t.set i (sa,na+nb,w0)).eraseIdx (i+1):=by simpa using hq
   rcases hq' with e|e
   ·subst e
    refine .inr ⟨Gan,.inl ?_⟩
    have:=h.1
    omega
   ·rcases g7 q e with z| ⟨z1,z2⟩
    ·exact .inl z
    ·exact .inr ⟨Gag _ z1,z2⟩
section
variable{prog:Program}{w:World}{A:Around}{E:Value→Shared→Prop}{s:Shared}{st:SortSt}{κ:SortKind}{it:Array Keyed}{rk:Nat→Int}{p0 p:Array Nat}
structure Pd(κ:SortKind)(it:Array Keyed)(rk:Nat→Int)(p0:Array Nat)(lo:Nat)(z:SortSt)(p:Array Nat):Prop where
 ss:SS κ it z p
 perm:p.Perm p0
 ch:chain 0 (pendingOf z).toList lo
 up:∀r∈(pendingOf z).toList,Up' rk p r.1 (r.1+r.2.1)
 le:lo≤p0.size
theorem Pd.size{lo:Nat}{z:SortSt}(P:Pd κ it rk p0 lo z p):p.size=p0.size:=by
 have:=P.perm.toList.length_eq
 simpa using this
theorem rT{lo i:Nat}{Q:Bool→SortSt→Prop}(hA:i8 prog w A s κ it rk)(P:Pd κ it rk p0 lo st p)(hi:i+1<(pendingOf st).size)
  (h:∀z p',Pd κ it rk p0 lo z p' →Ag 0 lo p p' →(pendingOf z).size+1=(pendingOf st).size→Q true z):wpS (model prog w) A E s (mergeAt' i) Q st:=by
 obtain⟨⟨sa,na,w0⟩,e1⟩:∃x,(pendingOf st)[i]? =some x:=⟨_,Gca (by omega)⟩
 obtain⟨⟨sb,nb,w1⟩,e2⟩:∃x,(pendingOf st)[i+1]? =some x:=⟨_,Gca hi⟩
 have e1' :(pendingOf st).toList[i]? =some (sa,na,w0):=by simpa using e1
 have e2' :(pendingOf st).toList[i+1]? =some (sb,nb,w1):=by simpa using e2
 obtain⟨g1,g2,g3,g4,g5,g6,g7⟩:=pZ P.ch e1' e2'
 have le:=P.le
 have sz:=P.size
 have u1:=P.up _ (GaF e1')
 have u2:=P.up _ (GaF e2')
 refine B6 hA P.ss e1 e2 g1 g2 g3 (by omega) (by rw[g1];exact u1) u2 λz p' S' pe ag up' => ?_
 have tl:(pendingOf z).toList=((pendingOf st).toList.set i (sa,na+nb,w0)).eraseIdx (i+1):=by
  rw[pe]
  simp[Array.toList_eraseIdxIfInBounds,Array.toList_setIfInBounds]
 have aL:Ag 0 lo p p' :=⟨ag.perm,λk hk=>ag.out k (by omega)⟩
 refine h z p' ⟨S',ag.perm.trans P.perm,by rw[tl];exact g6,λr hr=> ?_,P.le⟩ aL ?_
 ·rw[tl] at hr
  rcases g7 r hr with e| ⟨hr1,hr2⟩
  ·subst e
   show Up' rk p' sa (sa+(na+nb))
   rw[←Gdv,←g1];exact up'
  ·intro u v a1 a2 a3
   rw[ag.rk (by omega),ag.rk (by omega)]
   exact P.up r hr1 u v a1 a2 a3
 ·have l1:(pendingOf z).size=(pendingOf z).toList.length:=by simp
  have l2:(pendingOf st).size=(pendingOf st).toList.length:=by simp
  rw[l1,l2,tl,List.length_eraseIdx_of_lt (by rw[GcK,←l2];exact hi),GcK]
  omega
end
section
variable{prog:Program}{w:World}{A:Around}{E:Value→Shared→Prop}{s:Shared}{st:SortSt}{κ:SortKind}{it:Array Keyed}{rk:Nat→Int}{p0 p:Array Nat}
theorem Pd.push{lo n:Nat}{z:SortSt}(P:Pd κ it rk p0 lo z p)(hn:0<n)(hz:lo+n≤p0.size)(hu:Up' rk p lo (lo+n)):Pd κ it rk p0 (lo+n) (setPending z ((pendingOf z).push (lo,n,0))) p:=by
 refine⟨⟨P.ss.kind,P.ss.arr,P.ss.fail,P.ss.ok⟩,P.perm, ?_,λr hr=> ?_,hz⟩
 ·show chain 0 ((pendingOf z).push (lo,n,0)).toList (lo+n)
  rw[Gcy]
  exact rR P.ch hn
 ·have hr' :r∈((pendingOf z).push (lo,n,0)).toList:=hr
  rw[Gcy] at hr'
  rcases Gaw.mp hr' with e|e
  ·exact P.up r e
  ·simp at e;subst e;exact hu
theorem Pd.modify{lo i:Nat}{z:SortSt}{f:Run→Run}(P:Pd κ it rk p0 lo z p)(hf:∀r,(f r).1=r.1∧(f r).2.1=r.2.1):Pd κ it rk p0 lo (setPending z ((pendingOf z).modify i f)) p:=by
 refine⟨⟨P.ss.kind,P.ss.arr,P.ss.fail,P.ss.ok⟩,P.perm, ?_,λr hr=> ?_,P.le⟩
 ·show chain 0 ((pendingOf z).modify i f).toList lo
  rw[Array.toList_modify]
  exact oj hf i P.ch
 ·have hr' :r∈((pendingOf z).modify i f).toList:=hr
  rw[Array.toList_modify] at hr'
  obtain⟨r',h1,h2,h3⟩:=mem_modify hf hr'
  rw[←h2,←h3]
  exact P.up r' h1
theorem HW{Q:Unit→SortSt→Prop}(hA:i8 prog w A s κ it rk)(S:SS κ it st p0)(hp:pendingOf st=#[])(h1:1≤p0.size)
  (h:∀z p,SS κ it z p→p.Perm p0→Up' rk p 0 p0.size→Q () z):wpS (model prog w) A E s sortRuns' Q st:=by
 rw[sortRuns'_eq]
 refine Gai (GcB ?_)
 dsimp only
 have sz:(arrOf st).size=p0.size:=by rw[S.arr];simp
 rw[sz]
 generalize minRun' p0.size p0.size 0=mr
 have P0:Pd κ it rk p0 0 st p0:=⟨S,Array.Perm.refl _,by rw[hp];rfl,λr hr=>(by rw[hp] at hr;cases hr),by omega⟩
 refine Gai (Gbn (Gbd (I:=λx c z=>∃lo p,c=(none,lo)∧Pd κ it rk p0 lo z p∧(x≤lo))
  (Q:=λc z=>∃p,c=(none,p0.size)∧Pd κ it rk p0 p0.size z p) ?step ?fin ⟨0,p0,rfl,P0,Gap _⟩) ?post)
 case fin=>
  rintro c z ⟨lo,p,rfl,P,hx⟩
  have:=P.le
  have e:lo=p0.size:=by
   have:max 0 p0.size=p0.size:=by omega
   omega
  subst e
  exact⟨p,rfl,P⟩
 case step=>
  rintro x c z _ hx ⟨lo,p,rfl,P,hlo⟩
  have le:=P.le
  have szp:=P.size
  by_cases c1:lo≥p0.size
  ·rw[Gaf c1]
   have e:lo=p0.size:=by omega
   subst e
   exact Gao ⟨p,rfl,P⟩
  rw[Gah c1]
  refine Gai (Fs hA P.ss (by omega) (by omega) λm z1 p1 S1 hp1 ag1 m1 m2 up1=> ?_)
  dsimp only
  have carry:∀{n:Nat} {z2:SortSt} {p2:Array Nat},SS κ it z2 p2→lP z z2→Ag lo (lo+n) p p2→lo+n≤p0.size→Pd κ it rk p0 lo z2 p2:=λ{n z2 p2} S2 hp2 ag2 hn=>by
   have hp2' :pendingOf z2=pendingOf z:=hp2
   refine⟨S2,ag2.perm.trans P.perm,by rw[hp2'];exact P.ch,λr hr=> ?_,le⟩
   rw[hp2'] at hr
   have:=(pF P.ch hr).2.1
   intro u v a1 a2 a3
   rw[ag2.rk (by omega),ag2.rk (by omega)]
   exact P.up r hr u v a1 a2 a3
  by_cases c2:m<mr
  ·rw[Gaf c2]
   refine Gai (wpS_lift (GbX ⟨rfl, ?_⟩))
   have sz1:=ag1.size
   refine Gai (Ki hA S1 (by omega) m1 (by omega) up1 λz2 p2 S2 hp2 ag2 up2=> ?_)
   simp only[Gde,GaD,Gbf]
   obtain⟨n,hnn⟩:∃n,n=min (p0.size -lo) mr:=⟨_,rfl⟩
   have P2:Pd κ it rk p0 lo z2 p2:=carry S2 (hp2.trans hp1) (ag1.trans (ag2.mono (by omega))|>.mono (hi' :=lo+(p0.size -lo)) (by omega)) (by omega)
   rw[←hnn] at up2⊢
   have n0:0<n:=by omega
   have hn:lo+n≤p0.size:=by omega
   refine Gai (GcB ?_)
   cases hb:(pendingOf z2).back? with
   |none=>
    exact Gai (GbG (Gao ⟨lo+n,p2,rfl,P2.push n0 hn up2,by omega⟩))
   |some r=>
    obtain⟨s1,n1,w1⟩:=r
    refine Gai (Gbn (Gbd (I:=λ_ c y=>c=(none,⟨⟩)∧∃p3,Pd κ it rk p0 lo y p3∧Up' rk p3 lo (lo+n)) (Q:=λc y=>c=(none,⟨⟩)∧∃p3,Pd κ it rk p0 lo y p3∧Up' rk p3 lo (lo+n)) ?s1 (λ_ _ z=>z) ⟨rfl,p2,P2,up2⟩) ?p1)
    case p1=>
     rintro c y ⟨rfl,p3,P3,up3⟩
     refine Gai (GbG (Gai (GbG (Gao ⟨lo+n,p3,rfl, ?_,by omega⟩))))
     exact(P3.modify (f:=λx=>(x.1,x.2.1,power' p0.size (2*s1+n1) (2*s1+n1+n1+n) p0.size)) (λr=> ⟨rfl,rfl⟩)).push n0 hn up3
    case s1=>
     rintro i c y _ _ ⟨rfl,p3,P3,up3⟩
     refine Gai (GcB ?_)
     by_cases g:(pendingOf y).size>1
     ·rw[Gaf g]
      obtain⟨⟨t1,t2,t3⟩,ht⟩:∃x,(pendingOf y)[(pendingOf y).size -2]? =some x:=⟨_,Gca (by omega)⟩
      rw[ht]
      dsimp only
      split
      ·exact Gao ⟨rfl,p3,P3,up3⟩
      ·refine Gai (rT hA P3 (by omega) λy2 p4 P4 ag4 _=> ?_)
       simp only[Gde,GaD,Gbf]
       refine Gao ⟨rfl,p4,P4,λu v a1 a2 a3=> ?_⟩
       rw[ag4.rk (by omega),ag4.rk (by omega)]
       exact up3 u v a1 a2 a3
     ·rw[Gah g]
      exact Gao ⟨rfl,p3,P3,up3⟩
  ·rw[Gah c2]
   obtain⟨n,hnn⟩:∃n,n=m:=⟨_,rfl⟩
   rw[←hnn] at up1⊢
   have P2:Pd κ it rk p0 lo z1 p1:=carry S1 hp1 (ag1.mono (hi' :=lo+(p0.size -lo)) (by omega)) (by omega)
   have n0:0<n:=by omega
   have hn:lo+n≤p0.size:=by omega
   refine Gai (GcB ?_)
   cases hb:(pendingOf z1).back? with
   |none=>
    exact Gai (GbG (Gao ⟨lo+n,p1,rfl,P2.push n0 hn up1,by omega⟩))
   |some r=>
    obtain⟨s1,n1,w1⟩:=r
    refine Gai (Gbn (Gbd (I:=λ_ c y=>c=(none,⟨⟩)∧∃p3,Pd κ it rk p0 lo y p3∧Up' rk p3 lo (lo+n)) (Q:=λc y=>c=(none,⟨⟩)∧∃p3,Pd κ it rk p0 lo y p3∧Up' rk p3 lo (lo+n)) ?s1 (λ_ _ z=>z) ⟨rfl,p1,P2,up1⟩) ?pp)
    case pp=>
     rintro c y ⟨rfl,p3,P3,up3⟩
     refine Gai (GbG (Gai (GbG (Gao ⟨lo+n,p3,rfl, ?_,by omega⟩))))
     exact(P3.modify (f:=λx=>(x.1,x.2.1,power' p0.size (2*s1+n1) (2*s1+n1+n1+n) p0.size)) (λr=> ⟨rfl,rfl⟩)).push n0 hn up3
    case s1=>
     rintro i c y _ _ ⟨rfl,p3,P3,up3⟩
     refine Gai (GcB ?_)
     by_cases g:(pendingOf y).size>1
     ·rw[Gaf g]
      obtain⟨⟨t1,t2,t3⟩,ht⟩:∃x,(pendingOf y)[(pendingOf y).size -2]? =some x:=⟨_,Gca (by omega)⟩
      rw[ht]
      dsimp only
      split
      ·exact Gao ⟨rfl,p3,P3,up3⟩
      ·refine Gai (rT hA P3 (by omega) λy2 p4 P4 ag4 _=> ?_)
       simp only[Gde,GaD,Gbf]
       refine Gao ⟨rfl,p4,P4,λu v a1 a2 a3=> ?_⟩
       rw[ag4.rk (by omega),ag4.rk (by omega)]
       exact up3 u v a1 a2 a3
     ·rw[Gah g]
      exact Gao ⟨rfl,p3,P3,up3⟩
 case post=>
  rintro c z ⟨p,rfl,P⟩
  refine Gai (Gbn (Gbd (I:=λx c y=>c=(none,())∧∃p,Pd κ it rk p0 p0.size y p∧(pendingOf y).size+x≤p0.size) (Q:=λc y=>c=(none,())∧∃p,Pd κ it rk p0 p0.size y p∧(pendingOf y).size≤1) ?s2 ?f2 ⟨rfl,p,P, ?i2⟩) ?p2)
  case i2=>
   have:=oh P.ch
   simp at this
   omega
  case f2=>
   rintro c y ⟨rfl,p,P,hs⟩
   refine⟨rfl,p,P, ?_⟩
   have:max 0 p0.size=p0.size:=by omega
   omega
  case p2=>
   rintro c y ⟨rfl,p,P,hs⟩
   refine Gao (h y p P.ss P.perm ?_)
   have ch:=P.ch
   have up:=P.up
   have l1:(pendingOf y).toList.length≤1:=by simpa using hs
   generalize (pendingOf y).toList=l at ch up l1
   match l,l1 with
   |[],_=>
    have:0=p0.size:=ch
    omega
   |[r],_=>
    obtain⟨c1,c2,c3⟩:=ch
    have c3' :0+r.2.1=p0.size:=c3
    have:=up r (by simp)
    rw[c1,c3'] at this
    exact this
  case s2=>
   rintro x c y _ hx ⟨rfl,p,P,hs⟩
   refine Gai (GcB ?_)
   by_cases g:(pendingOf y).size≤1
   ·rw[Gaf g]
    exact Gao ⟨rfl,p,P,g⟩
   rw[Gah g]
   have go:∀i,i+1<(pendingOf y).size→wpS (model prog w) A E s (do
     let b←mergeAt' i
     if(!b)=true then pure (ForInStep.done ((some ⟨⟩,()):Option PUnit×PUnit)) else pure (ForInStep.yield (none,()))) (λr z' =>match r with
     | .done c=>c=(none,())∧∃p,Pd κ it rk p0 p0.size z' p∧(pendingOf z').size≤1
     | .yield c=>c=(none,())∧∃p,Pd κ it rk p0 p0.size z' p∧(pendingOf z').size+(x+1)≤p0.size) y:=λi hi=>by
    refine Gai (rT hA P hi λy2 p4 P4 ag4 hs4=> ?_)
    simp only[Gde,GaD,Gbf]
    exact Gao ⟨rfl,p4,P4,by omega⟩
   refine Gbn (go _ ?_) λr z' hr=>by cases r<;>exact hr
   by_cases i0:(pendingOf y).size -2>0
   ·rw[Gaf i0]
    split<;>omega
   ·rw[Gah i0]
    simp only[Option.any_none,GaD,Gbf]
    omega
end
section
variable{prog:Program}{w:World}{A:Around}{E:Value→Shared→Prop}{s:Shared}
theorem t6{a:Addr}{vs:List Value}{cs:List (List (List Int))}{n:Nat}{P:PySem.Fin→Shared→Prop}(ho:s.heap.get? a=some (seqObj "list" vs.toArray n))(h64:vs.length<1000000)
  (hK:∀G:Heap,(∀b o,b≠a→s.heap.get? b=some o→G.get? b=some o)→uY prog w A E {s with heap:=G} cs vs)
  (h:∀p:Array Nat,Ord vs.length p→Up (rank cs) p vs.length→P (.done (.ret .none)) {s with heap:=sortedHeap s.heap a vs (List.toArray (p.toList.map λi=>vs.getD i Value.none))}):wpAny (model prog w) A (Builtin.«list.sort» ⟨[.ref a],[]⟩) P E s:=by
 have hz:(vs.toArray.zip vs.toArray).size=vs.length:=by simp
 have zr:(List.toArray (List.range vs.length)).size=vs.length:=by simp
 refine AU (Ok:=kB cs vs) ho (by rw[Gbz];omega) kB.one (λ_ q=>q.len) (λG kp c=>hK G kp c _ λκ hκ=> ?_) λ_ ⟨p,h1,h2,e⟩=>e▸h p h1 h2
 refine GbA (HW (prog:=prog) (w:=w) (A:=A) (κ:=κ) (E:=E) (s:={s with heap:=G}) (st:=SortSt.mk' κ (vs.toArray.zip vs.toArray) #[] 7 none) (it:=vs.toArray.zip vs.toArray) (rk:=rank cs) (p0:=List.toArray (List.range vs.length))
  (Q:=λ_ st=>failedOf st=none∧kB cs vs ((arrOf st).map (·.2))) (λi j hi hj C hc=> ?_) ⟨rfl, ?_,rfl,λi hi=> ?_⟩ rfl (by omega) λz p S pm up=> ?_) (λr s' q=> ?_) λ_ _ e=>e
 ·have:=hκ i j C (by omega) (by omega) hc
  rwa[PySem.W.kat_ask_eq (ks:=vs) (vs:=vs) rfl] at this
 ·have e:=PySem.W.kas_range (vs.toArray.zip vs.toArray)
  rw[hz] at e
  exact e.symm
 ·simpa using hi
 ·rw[zr] at up
  exact⟨S.fail,p,pm.toList,λu v q r=>up u v (GbE _) q r,kat_snds rfl S.arr⟩
 ·exact q
theorem B7{l:Addr}{o:Obj}{vs:List Value}{cs:List (List (List Int))}{n:Nat}{T:String}{Q:Value→Shared→Prop}(ho:s.heap.get? l=some o)(hc:o.cls= .type T)(hT:T="list"∨T="tuple")(hd:o.data= .seq vs.toArray n)(h64:vs.length<1000000)
  (hK:∀G:Heap,(∀b o,s.heap.get? b=some o→G.get? b=some o)→∀A' :Around,A'.units=A.units+2→uY prog w A' E {s with heap:=G} cs vs)
  (h:∀p:Array Nat,Ord vs.length p→Up (rank cs) p vs.length→Q (.ref (s.heap.objs.size+1)) {s with heap:=sortedAll s.heap vs (List.toArray (p.toList.map λi=>vs.getD i Value.none))}):wpAny (model prog w) A (call (.builtin "sorted") [.ref l]) Q E s:=by
 have szl:vs.length≤sizeLine:=by rw[Gbz];omega
 refine Calls.call_function_entry kind_sorted plain_sorted entry_sorted (args_sorted1 _) ?_
 unfold Builtin.«sorted»
 refine Gad (m:=checkCount "sorted" 1 1 _) (Gaq (Gad (wG ho hc hT hd ?_ szl)))
 refine Gad (wpAny_newList ?_ szl)
 generalize hG:(s.heap.push (seqObj "list" #[] 0)).update s.heap.objs.size (Obj.mapSeq (· ++vs.toArray))=G
 have hsz:G.objs.size=s.heap.objs.size+1:=by rw[←hG,Heap.size_update,size_push']
 have hoL:(G.push (seqObj "list" vs.toArray 0)).get? (s.heap.objs.size+1)=some (seqObj "list" vs.toArray 0):=by rw[←hsz];exact GaC _ rfl
 have keep:∀b o,s.heap.get? b=some o→(G.push (seqObj "list" vs.toArray 0)).get? b=some o:=λb o e=>by
  have hlt:=Gax e
  refine Gaj _ ?_
  rw[←hG,Heap.get?_update_ne _ _ _ _ (GaO hlt)]
  exact Gaj _ e
 show wpAny _ _ _ _ _ {s with heap:=G.push (seqObj "list" vs.toArray 0)}
 rw[hsz]
 refine Gad (GcG (GbQ slot_list_sort ⟨_,hoL,rfl⟩ entry_list_sort (t6 (cs:=cs) (s:={s with heap:=G.push (seqObj "list" vs.toArray 0)}) hoL h64 (λG' kG=> ?_) λp h1 h2=> ⟨_,rfl, ?_⟩) (args_list_sort _)))
 ·exact hK G' (λb o e=>kG b o (GaO (GcX (Gax e))) (keep b o e)) _ rfl
 ·have:=h p h1 h2
  unfold sortedAll at this
  rw[hG] at this
  exact Gaq ⟨_,rfl,this⟩
theorem ve{ds:List D}{vs:List Value}(hK:Paired (o9 s.heap) ds vs)(hok:keysOk ds=true):uY prog w A E s (ds.map code) vs:=λh2 Q hQ=>by
 have hl:=hK.length
 exact D0 hK hok (by omega) λκ hκ=>hQ κ λi j C hi hj hc=>ET hK hok hκ i j C (by omega) (by omega) hc
theorem De{h G:Heap}(kG:∀b o,h.get? b=some o→G.get? b=some o){d:D}{v:Value}(k:o9 h d v):o9 G d v:=by
 cases d with
 |int i=>exact k
 |tup fs=>
  obtain⟨b,o,m,us,h1,h2,h3,h4⟩:=k
  exact⟨b,o,m,us,h1,kG b o h2,h3,h4⟩
 |_=>exact k
end
section
variable{X:Cx}{e a b c:Expr}{f g h:DE}{pos:Pos}
def rV(K:aD):List V→Hp→VK→Prop:=λxs H Q=>∃(p:Addr) (ds:List D) (vs:List V) (F:Addr→Prop),xs=[.ref p]∧(SqL K H p vs∨SqT K H p vs)∧aY K F H ds vs∧ds.length<1000000∧keysOk ds=true∧
 ∀l out,H l=none→(∀F',aY K F' H ds vs→aY K F' H (df ds) out)→Q (.ref l) (upd H l (.lst out))
theorem dY:i7 X (.builtin "sorted") (rV X.K):=by
 intro pins s σ H xs us Q I rv h
 obtain⟨p,ds,vs,F,rfl,hq,hr,h64,hok,q⟩:=h
 obtain⟨u,rfl,ru⟩:=rv.one
 cases ru
 obtain⟨o,T,n,its,ho,hc,hT,hd,rvs⟩:∃(o:Obj) (T:String) (n:Nat) (its:List Value),s.heap.get? p=some o∧o.cls= .type T∧(T="list"∨T="tuple")∧o.data= .seq its.toArray n∧Vals vs its:=by
  rcases hq with hq|hq
  ·obtain⟨its,rvs,pl,_⟩:=I.list hq
   obtain⟨o,h1,h2,n,h3⟩:=pl.isList
   exact⟨o,"list",n,its,h1,h2,.inl rfl,h3,rvs⟩
  ·obtain⟨its,rvs,⟨o,h1,h2,n,h3⟩,_⟩:=I.tuple hq
   exact⟨o,"tuple",n,its,h1,h2,.inr rfl,h3,rvs⟩
 have e1:its.length=ds.length:=by rw[←rvs.length,hr.1]
 have hK:=BV I hr (EW hok) rvs
 refine B7 (cs:=ds.map code) ho hc hT hd (by omega) (λG kG A' _=>ve (pY (λd v kv=>De kG kv) hK) hok) λod h1 h2=> ?_
 have h1' :Ord ds.length od:=by rw[←e1];exact h1
 have h2' :Up (rank (ds.map code)) od ds.length:=by rw[←e1];exact h2
 have uniq:(od.toList.map λi=>ds.getD i .non)=df ds:=jJ ((rH h1').trans (fH ds).symm) (AV h1' h2') (fS ds) λa ha b hb=>ER hok a ((rH h1').mem_iff.mp ha) b ((rH h1').mem_iff.mp hb)
 obtain⟨c,hat⟩:=sortedAll_at s.heap its (List.toArray (od.toList.map λi=>its.getD i Value.none))
 have fresh:H (s.heap.objs.size+1)=none:=I.hok.fresh (Gdb _)
 have h1v:Ord vs.length od:=by rw[←hr.1];exact h1'
 refine⟨.ref (s.heap.objs.size+1),_,I.laid (a:=s.heap.objs.size+1) (o:= .lst (od.toList.map λi=>vs.getD i .non)) (t' :=s.toks) (λb ob e=>sortedAll_old e) (Gdb _) ?_,rfl,q _ _ fresh λF' r=> ?_⟩
 ·refine⟨?_,_,c,EZ h1v rvs,hat⟩
  rw[Gae,GbO,h1v.size,←hr.1,Gbz]
  omega
 ·rw[←uniq]
  exact EY h1' r
theorem jP:CallD X fT (rV X.K):=by
 intro F H ds vs rv Q ps e k
 obtain⟨d,xs,rfl,h1,h2⟩:=AS e
 split at h2
 ·rename_i c
  rw[Gas] at c
  cases h2
  obtain⟨v,rfl,i⟩:=il ps
  obtain⟨p,vs,rfl,hs,r⟩:=AR i h1
  exact⟨p,xs,vs,F,rfl,hs,r,GaB c.1,c.2,λl out hl hr=>k _ _ (bL hl) ⟨l,rfl,hl,rf,rfl,j5 hl (hr F r)⟩⟩
 ·cases h2
end
open PySem
def Ris(xs:Array Nat):Prop:=∀i j:Nat,i<j→∀x y,xs[i]? =some x→xs[j]? =some y→x<y
def Tb(bt:Bool)(t:SetTable):Prop:=t.led= !bt∧(t.plain=true→Ris t.place)
open PySem PySem.Spec PyProof.Rows
noncomputable def kOf(e:Int×Value):Int:=match e.2 with
 | .int k _=>k
 |_=>0
section
variable{prog:Program}{w:World}{A:Around}{E:Value→Shared→Prop}{z:Shared}
def vf(prog:Program)(w:World)(es:Array (Int×Value))(ks:List Int):Prop:=(∀e∈es.toList,∃k t,e=((intKind prog w).hash k,Value.int k t))∧(es.toList.map kOf).Perm ks
def SetT(prog:Program)(w:World)(bt:Bool)(g:Heap)(a:Addr)(ks:List Int):Prop:=
 ∃o es ep t,g.get? a=some o∧o.ExactSet∧o.data= .set es ep t∧vf prog w es ks∧es.size<scanBound∧t.fits es.size=true∧Tb bt t
theorem vf.size{es:Array (Int×Value)}{ks:List Int}(h:vf prog w es ks):es.size=ks.length:=by
 have:=h.2.length_eq
 simpa using this
theorem vf.perm{es fs:Array (Int×Value)}{ks:List Int}(h:vf prog w es ks)(p:fs.toList.Perm es.toList):vf prog w fs ks:=⟨λe he=>h.1 e (p.mem_iff.mp he),(p.map kOf).trans h.2⟩
theorem vf.grow{es fs:Array (Int×Value)}{ks:List Int}{k:Int}{tk:Tok}(h:vf prog w es ks)(p:fs.toList.Perm (es.push ((intKind prog w).hash k,.int k tk)).toList):vf prog w fs (ks++[k]):=by
 rw[Gcy] at p
 refine⟨λe he=> ?_,(p.map kOf).trans ?_⟩
 ·rcases Gaw.mp (p.mem_iff.mp he) with q|q
  ·exact h.1 e q
  ·exact⟨k,tk,by simpa using q⟩
 ·rw[GaI]
  exact h.2.append_right _
end
section
variable{prog:Program}{w:World}{A:Around}{R:Result→Shared→Prop}{I:Addr}{fp wr:List Addr}{G:Array GenState→Array GenState→Prop}{n:Nat}{P:Nat→Value→Prop}{St:Nat→Shared→Prop}
theorem SetT.at{bt:Bool}{g g' :Heap}{a:Addr}{ks:List Int}(h:SetT prog w bt g a ks)(e:∀o,g.get? a=some o→g'.get? a=some o):SetT prog w bt g' a ks:=let⟨o,es,ep,t,ho,r⟩:=h;⟨o,es,ep,t,e o ho,r⟩
end
noncomputable def MU(w:World):Bool:=w.params.followText "set-order"
section
variable{prog:Program}{w:World}{A:Around}{E:Value→Shared→Prop}{z:Shared}
theorem after{c:Code}{Q:Value→Shared→Prop}{R:Result→Shared→Prop}(h:codeAny (model prog w) A c (wants Q E) z)(k:∀v s',Q v s' →R (.ok (.ret v)) s')(e:∀x s',E x s' →R (.error x) s'):codeAny (model prog w) A c R z:=by
 refine codeAny_mono h ?_
 rintro(x|(v|_|_|_)) s' q
 ·exact e x s' q
 all_goals first|exact k _ s' q|exact q.elim
end
namespace Fr
end Fr
theorem rW{α:Type}:∀(xs:List α) (i:Nat) (h:i<xs.length),(xs[i]::xs.eraseIdx i).Perm xs
 |x::xs,0,h=>by simp
 |x::xs,i+1,h=>by
  have h' :i<xs.length:=by simpa using h
  simp only[List.getElem_cons_succ,List.eraseIdx_cons_succ]
  exact(List.Perm.swap _ _ _).trans ((rW xs i h').cons x)
theorem C6{α:Type}{next:Nat→Nat}:∀(f k:Nat) (left:List α) (out:Array α),left.length=f→(pickOrder.go next f k left out).toList.Perm (out.toList++left)
 |0,k,left,out,e=>by
  have:left=[]:=List.length_eq_zero_iff.mp e
  subst this
  simp[pickOrder.go]
 |f+1,k,left,out,e=>by
  have hl:next k%left.length<left.length:=Nat.mod_lt _ (by omega)
  unfold pickOrder.go
  rw[Gaa hl]
  dsimp only
  refine(C6 f (k+1) _ _ (by rw[List.length_eraseIdx_of_lt hl];omega)).trans ?_
  rw[Gcy,Gav]
  refine GbM _ ?_
  exact(rW _ _ hl)
theorem Df{α:Type}(next:Nat→Nat)(xs:Array α):(pickOrder next xs).toList.Perm xs.toList:=by
 have:=C6 (next:=next) xs.size 0 xs.toList #[] (by simp)
 simpa[pickOrder] using this
section
variable{prog:Program}{w:World}{A:Around}{E:Value→Shared→Prop}{z:Shared}
def Ft(h:Heap)(a:Addr)(es:Array (Int×Value))(ep:Nat)(t:SetTable):Prop:=∃o,h.get? a=some o∧o.ExactSet∧o.data= .set es ep t
theorem Ft.at{h h' :Heap}{a:Addr}{es:Array (Int×Value)}{ep:Nat}{t:SetTable}(x:Ft h a es ep t)(e:∀o,h.get? a=some o→h'.get? a=some o):Ft h' a es ep t:=let⟨o,ho,r⟩:=x;⟨o,e _ ho,r⟩
theorem Ft.ty{a:Addr}{es:Array (Int×Value)}{ep:Nat}{t:SetTable}(x:Ft z.heap a es ep t):z.TypeIs (.ref a) "set":=let⟨o,ho,hc,_⟩:=x;⟨o,ho,hc.1⟩
inductive Way (w:World) (a:Addr) (es:Array (Int×Value)) (ep:Nat) (t:SetTable) (h:Heap) (tp:Addr):Value→Nat→List (Int×Value)→Prop
 |text {i:Nat}:MU w=true→Way w a es ep t h tp (rawInt 0) i (pickOrder (w.params.setOrder a ep) es).toList
 |drawn {i:Nat} {ps:List Nat}:IsTup h tp (ps.map λ(j:Nat)=>rawInt j).toArray→ps.Perm (List.range es.size)→Way w a es ep t h tp (.ref tp) i (ps.map λj=>es.getD j (0,.none))
 |plain {i:Nat} {s:Nat}:MU w=false→¬(t.plain=false∧es.size>1)→Ris t.place→t.led=true→(s=if i=0 then 0 else t.place.getD (i -1) 0+1)→Way w a es ep t h tp (rawInt s) i es.toList
def C7(w:World)(h:Heap)(it a tp:Addr)(es:Array (Int×Value))(ep:Nat)(t:SetTable)(xs:List (Int×Value))(i:Nat):Prop:=
 ∃o first,h.get? it=some o∧o.cls= .type "set_iterator"∧o.data= .fields #[first,rawInt i,.ref a,rawInt es.size,rawInt ep]∧Way w a es ep t h tp first i xs
theorem Way.perm{a tp:Addr}{es:Array (Int×Value)}{ep i:Nat}{t:SetTable}{h:Heap}{f:Value}{xs:List (Int×Value)}(x:Way w a es ep t h tp f i xs):xs.Perm es.toList:=by
 cases x with
 |text _=>exact Df _ _
 |drawn _ hp=>
  refine(hp.map _).trans ?_
  have:(List.range es.size).map (λj=>es.getD j (0,Value.none))=es.toList:=by
   apply List.ext_getElem
   ·simp
   ·intro i h1 h2
    simp at h1 h2⊢
    simp[Array.getD,h2]
  rw[this]
 |plain _ _ _ _ _=>exact List.Perm.refl _
theorem C7.ty{it a tp:Addr}{es:Array (Int×Value)}{ep i:Nat}{t:SetTable}{xs:List (Int×Value)}(x:C7 w z.heap it a tp es ep t xs i):z.TypeIs (.ref it) "set_iterator":=let⟨o,f,ho,hc,_⟩:=x;⟨o,ho,hc⟩
end
open PySem PySem.Spec PyProof.Rows
section
variable{prog:Program}{w:World}{A:Around}{E:Value→Shared→Prop}{z:Shared}
theorem Way.at{a tp:Addr}{es:Array (Int×Value)}{ep i:Nat}{t:SetTable}{h h' :Heap}{f:Value}{xs:List (Int×Value)}(x:Way w a es ep t h tp f i xs)(k:∀o,h.get? tp=some o→h'.get? tp=some o):Way w a es ep t h' tp f i xs:=by
 cases x with
 |text q=>exact .text q
 |drawn q1 q2=>
  obtain⟨o,ho,r⟩:=q1
  exact .drawn ⟨o,k o ho,r⟩ q2
 |plain q1 q2 q3 q4 q5=>exact .plain q1 q2 q3 q4 q5
end
open PySem PySem.Spec PyProof.Rows L2
section
variable{X:Cx}{pins:List (Addr×Obj)}{σ:St}{H:Hp}{s:Shared}
theorem _root_.L2.Inv.draw(I:Inv X pins σ H s)(d:Drawn):Inv X pins σ H {s with drawn:=d}:=⟨I.ok,I.os,I.bare,I.base,I.loc,I.cell,I.free,I.ko,I.pin,I.hok,I.len⟩
end
section
variable{X:Cx}{e a b c:Expr}{f g h:DE}{pos:Pos}{pins:List (Addr×Obj)}{σ:St}{H:Hp}{s:Shared}
theorem mC:∀{ns:List Int} {us:List Value},Vals (ns.map V.int) us→IntsAre us ns
 |[],_,.nil=> .nil
 |n::ns,_,.cons h t=>by
  obtain⟨k,rfl⟩:=h
  exact .cons n k (mC t)
end
namespace Fr
end Fr
section
variable{X:Cx}{e a b c:Expr}{f g h:DE}{pos:Pos}{pins:List (Addr×Obj)}{σ:St}{H:Hp}{s:Shared}
noncomputable def gone(H:Hp)(it l:Addr)(o:HO):Hp:=λb=>if b=it then none else upd H l o b
end
open PySem PySem.Spec PyProof.Rows L2
section
variable{prog:Program}{w:World}{K:Type} [DecidableEq K]{knd:HeapKind prog w K}{A:Around}{E:Value→Shared→Prop}{s:Shared}
theorem Fu{d:Addr}{o:Obj}{es:Array DictEntry}{ep:Nat}{ys:List (K×Addr×Value)}{f:Array DictEntry→Array DictEntry}{p:Option Value}{Q:Unit→Shared→Prop}(ho:s.heap.get? d=some o)(hc:o.ExactDict)(hd:o.data= .dict es ep)(he:(f es).toList=ys.map (entryOfKey knd))
  (his:∀x∈ys,knd.is s.heap x.1 x.2.1)(hn:(ys.map (·.1)).Nodup)(hz:es.size≤sizeLine)(hf:(f es).size≤es.size+1)(h:∀h',h'.DictOfH knd d ys→Heap.SameBut d s.heap h' →Q () {s with heap:=h' }):wpAny (model prog w) A (updateDictKeys d f p) Q E s:=by
 have sb:=Heap.SameBut.update s.heap d (Obj.mapDictKeys f)
 refine wpAny_updateDictKeys ho hd (h _ ⟨_,f es,ep+1,GbJ _ ho ?_,hc.mapDictKeys _,Obj.data_mapDictKeys hd _,he,λx m=>knd.keeps (his x m) ho hd sb,hn⟩ sb) hz hf
 exact Obj.isFreed_of_dict (Obj.data_mapDictKeys hd _)
theorem qH{d a:Addr}{xs:List (K×Addr×Value)}{k:K}{v:Value}{Q:Value→Shared→Prop}(hu:knd.room A)(hkey:knd.is s.heap k a)(hm:s.heap.DictOfH knd d xs)
  (hthere:∀p,atKey xs k=some p→Q p.2 {s with toks:=s.toks+knd.draws k})
  (hnew:atKey xs k=none→∀h',h'.DictOfH knd d (storedH xs k a v)→Heap.SameBut d s.heap h' →Q v {s with heap:=h',toks:=s.toks+knd.draws k})
  (hsz:xs.length≤sizeLine):
  wpAny (model prog w) A (dictSetDefault d (.ref a) v) Q E s:=by
 obtain⟨o,es,ep,ho,hc,hd,he,his,hn⟩:=hm
 have sz:=size_of_entries he
 wp_walk using knd.pyHash hu hkey,wpAny_dictFind_heap (s:={s with toks:=s.toks+knd.draws k}) hu hkey ho hd he his hn
 ·intro no
  have none' :=atKey_none_of_get no
  have ys:=storedH_new none' a v
  refine Gad (GbX (Gad (Fu (knd:=knd) (ys:=storedH xs k a v) (s:={s with toks:=s.toks+knd.draws k}) ho hc hd ?_ ?_ ?_ (by omega) (by simp) λh' q1 q2=>Gaq (hnew none' h' q1 q2))))
  ·rw[ys,Gcy,he,GaI];rfl
  ·rw[ys]
   intro x m
   rcases Gaw.mp m with m|m
   ·exact his x m
   ·rw[Gcq.mp m];exact hkey
  ·rw[ys,GaI,GcZ]
   exact⟨hn,by simp,λx m y n=>by simp at n;rw[n];exactλe=>not_mem_keys_of_get no (e▸m)⟩
 ·intro j p at_
  have e:=entry_at he j
  rw[at_] at e
  wp_walk using wpAny_dictEntries (s:={s with toks:=s.toks+knd.draws k}) ho hd
  rw[e]
  wp_walk
  exact hthere p (atKey_of_get hn at_)
theorem om(d a:Addr)(hd:(d==sysModules)=false)(dflt:Value):
  MeetsIn prog w (Builtin.«dict.setdefault» ⟨[.ref d,.ref a,dflt],[]⟩) (λA R s=>knd.room A.in1∧∃k xs,knd.is s.heap k a∧s.heap.DictOfH knd d xs∧xs.length≤sizeLine∧
   (∀p,atKey xs k=some p→R (.ok (.ret p.2)) {s with toks:=s.toks+knd.draws k})∧
   (atKey xs k=none→∀h',h'.DictOfH knd d (storedH xs k a dflt)→Heap.SameBut d s.heap h' →R (.ok (.ret dflt)) {s with heap:=h',toks:=s.toks+knd.draws k})):=by
 apply MeetsIn.of_wp
 rintro A R s ⟨hu,k,xs,hkey,hm,hsz,h1,h2⟩
 wp_walk using wpAny_notOrdered_dict hm.typeIs,qH hu hkey hm
 ·exactλp q=>Gaq ⟨_,rfl,h1 p q⟩
 ·exactλq h' q1 q2=>Gaq ⟨_,rfl,h2 q h' q1 q2⟩
 ·exact hsz
end
section
variable{X:Cx}{pins:List (Addr×Obj)}{σ:St}{H:Hp}{s:Shared}{a b:Addr}{d:V}{u r:Value}{o:Option V}{A:Around}{E:Value→Shared→Prop}
theorem vg{kvs:List (List Key×V)}{k:List Key}{Q:Value→Shared→Prop}(hu:A.units+1<cLine)(I:Inv X pins σ H s)(e:H a=some (.dT kvs))(eb:H b=some (.tup (k.map kV)))(hl:kvs.length<sizeLine)(rd:RelV d r)
  (h1:∀v w' s',gr kvs k=some v→Inv X pins σ H s' →RelV v w' →Q w' s')(h2:∀s',gr kvs k=none→Inv X pins σ (upd H a (.dT (putK kvs k d))) s' →Q r s'):
  wpAny (model X.prog X.w) A (call (.builtin "dict.setdefault") [.ref a,.ref b,r]) Q E s:=by
 obtain⟨z,hd,xs,rel,dd⟩:=Eh I.hok e
 have hz:xs.length≤sizeLine:=by rw[←Paired.length rel];exact z
 refine call_meetsIn PySem.F.slot_dict_setdefault dd.typeIs PySem.F.entry_dict_setdefault (PySem.F.args_dict_setdefault_3 _ _ _) (om (knd:=tupleKind (cH X.prog X.w)) a b hd r) ⟨Gco hu,k,xs,L2.lE I.hok eb,dd,hz,λp hp=> ?_,λhn h' dd' hs=> ?_⟩
 ·have rv:=rel.val k
  rw[hp] at rv
  cases hv:gr kvs k with
  |none=>rw[hv] at rv;exact rv.elim
  |some v=>rw[hv] at rv;exact h1 v _ _ hv (I.tok _) rv
 ·have rv:=rel.val k
  rw[hn] at rv
  cases hv:gr kvs k with
  |some v=>rw[hv] at rv;exact rv.elim
  |none=>
   refine h2 _ hv ?_
   have hl' :(putK kvs k d).length≤sizeLine:=by have:=lD kvs k d;omega
   obtain⟨q,es,ep,hq,g2,g3,g4,_,g5⟩:=dd'
   refine qM I (by rw[e];exact True.intro) hs ⟨q,hq⟩ ⟨hl',hd,_,(rel.put k eb rd).keeps λc ys ec=> ?_,q,es,ep,hq,g2,g3,g4,g5⟩
   rw[az (Br ec e (λz=>nomatch z))]
   exact ec
end
noncomputable def Kk(td ty tx:TE):TE:=λσ H Q=>td σ H λx H1=>∃a,x= .ref a∧IsD H1 a∧ty σ H1 λy H2=>tx σ H2 λz H3=>∃kvs k b,H3 a=some (.dT kvs)∧y= .ref b∧H3 b=some (.tup (k.map kV))∧kvs.length<sizeLine∧
 (∀v,gr kvs k=some v→Q v H3)∧(gr kvs k=none→Q z (upd H3 a (.dT (putK kvs k z))))
section
variable{X:Cx}{o e f:Expr}{apos cpos:Pos}{td ty tx:TE}
theorem Fv(hu:X.A.units+1<cLine)(ho:PE X o td)(he:PE X e ty)(hf:PE X f tx)(m:M2 X o "setdefault" apos e f cpos):PE X (.Call (.Attribute o "setdefault" apos) [e,f] [] cpos) (Kk td ty tx):=by
 intro pins s σ H Q I h
 refine wpAny_Call_method m.base m.few m.line GcU PySem.F.slot_dict_setdefault PySem.F.type_dict_setdefault (thn (ho pins s σ H _ I h) λu s1 ⟨x,H1,I1,rx,a,ex,d,q1⟩=> ?_)
 subst ex
 obtain rfl:u=Value.ref a:=rx
 obtain⟨t1,t2,_⟩:=AH I1 d
 refine⟨t1,t2, ?_⟩
 rw[m.trees]
 refine Gcu rfl (Gdm (Gcl (thn (he pins s1 σ H1 _ I1 q1) λiv s2 ⟨y,H2,I2,ry,q2⟩=>
  Gcl (thn (hf pins s2 σ H2 _ I2 q2) λfv s3 ⟨z,H3,I3,rz,kvs,k,b,e1,e2,e3,e4,e5,e6⟩=>Calls.spliced_nil ?_))))
 subst e2
 cases(show iv=Value.ref b from ry)
 exact vg hu I3 e1 e3 e4 rz (λv w' s4 hv I4 rv=> ⟨_,H3,I4,rv,e5 v hv⟩) λs4 hv I4=> ⟨_,_,I4,rz,e6 hv⟩
end
def gO(Bad:Addr→Prop)(p:Addr)(ws:List (List Key×V))(b:Addr):Prop:=Bad b∨b=p∨V.ref b∈ws.map (·.2)
structure fh(K:aD)(Bad:Addr→Prop)(env:Env)(σ:St)(H:Hp)(i:Nat)(p:Addr)(ws:List (List Key×V))(kvs:Rws):Prop where
 at_:σ[i]? =some (some (.ref p))
 hid:env[i]? =some none
 top:H p=some (.dT ws)
 keys:kvs.map (·.1)=ws.map (·.1)
 row:∀(j:Nat) k v d,ws[j]? =some (k,v)→kvs[j]? =some (k,d)→∃a ds vs,v= .ref a∧d= .lst ds∧a≠p∧H a=some (.lst vs)∧aY K (λ_=>False) H ds vs
 inj:∀(j j' :Nat) k k' a,ws[j]? =some (k,V.ref a)→ws[j']? =some (k',V.ref a)→j=j'
def nL(H H' :Hp):Prop:=∀b o,H b=some o→isT o→H' b=some o
theorem nL.trans{H H1 H2:Hp}(a:nL H H1)(b:nL H1 H2):nL H H2:=λc o e t=>b c o (a c o e t) t
theorem nL.same{H H1:Hp}(s:cj H H1):nL H H1:=λc o e _=>s c o e
theorem nL.upd{H:Hp}{a:Addr}{o o' :HO}(h:H a=some o)(n:¬isT o):nL H (upd H a o'):=λc x e t=>by
 have:c≠a:=by rintro rfl;rw[h] at e;cases e;exact n t
 rw[az this];exact e
section
variable{K:aD}{H₀ H H' H1:Hp}{Bad Bad' :Addr→Prop}{env env' :Env}{σ σ' :St}{d:D}{v:V}{a p:Addr}{i j:Nat}{ws:List (List Key×V)}{kvs:Rws}
theorem fh.mono(N:fh K Bad env σ H i p ws kvs)(s:cj H H'):fh K Bad env σ H' i p ws kvs where
 at_:=N.at_
 hid:=N.hid
 top:=s _ _ N.top
 keys:=N.keys
 row:=λj k v d h1 h2=>let⟨a,ds,vs,e1,e2,e3,e4,e5⟩:=N.row j k v d h1 h2;⟨a,ds,vs,e1,e2,e3,s _ _ e4,e5.gen (.of_same s) λ_ f _=>f⟩
 inj:=N.inj
theorem fh.lJ(N:fh K Bad env σ H i p ws kvs)(hij:i≠j):fh K Bad (env.set j (some (.sh d))) (σ.set j (some v)) H i p ws kvs where
 at_:=by rw[Gab (GaX hij)];exact N.at_
 hid:=by rw[Gab (GaX hij)];exact N.hid
 top:=N.top
 keys:=N.keys
 row:=λj k v d h1 h2=>let⟨a,ds,vs,e1,e2,e3,e4,e5⟩:=N.row j k v d h1 h2;⟨a,ds,vs,e1,e2,e3,e4,e5⟩
 inj:=N.inj
theorem fh.Km(N:fh K Bad env σ H i p ws kvs):fh K Bad' env σ H i p ws kvs:=⟨N.at_,N.hid,N.top,N.keys,N.row,N.inj⟩
theorem fh.app{vs:List V}{ds:List D}{k:List Key}(N:fh K Bad env σ H i p ws kvs)(ba:Bad a)(ha:ws[j]? =some (k,.ref a))(hd:kvs[j]? =some (k,.lst ds))(hv:H a=some (.lst vs))(rp:aY K (λ_=>False) H (ds++[d]) (vs++[v])):
  fh K Bad env σ (upd H a (.lst (vs++[v]))) i p ws (kvs.set j (k,.lst (ds++[d]))):=by
 have dN:j4 (λ_=>False) H (upd H a (.lst (vs++[v]))):=λb x hx q=>by
  have:b≠a:=by
   rintro rfl
   rcases q with q|q
   ·exact q
   ·rw[hv] at hx;cases hx;exact q
  rw[az this];exact hx
 have hpa:p≠a:=by
  obtain⟨a',_,_,e1,_,e3,_⟩:=N.row j k _ _ ha hd
  cases e1
  exact GaX e3
 have hjl:=(Gac.mp hd).1
 refine⟨N.at_,N.hid,by rw[az hpa];exact N.top, ?_,λj' k' v' d' h1 h2=> ?_,N.inj⟩
 ·rw[List.map_set,←N.keys]
  apply GcW
  intro m
  by_cases q:j=m
  ·subst q
   rw[GaN (by simpa using hjl),Gal,hd];rfl
  ·rw[Gab q]
 ·by_cases q:j=j'
  ·subst q
   rw[ha] at h1;cases h1
   rw[GaN hjl] at h2
   cases h2
   exact⟨a,_,_,rfl,rfl,GaX hpa,aN,rp.gen dN λ_ f _=>f⟩
  ·rw[Gab q] at h2
   obtain⟨a',ds',us,e1,e2,e3,e4,e5⟩:=N.row j' k' v' d' h1 h2
   subst e1
   have na:a' ≠a:=by
    rintro rfl
    exact q (N.inj j j' _ _ _ ha h1)
   exact⟨a',ds',us,rfl,e2,e3,by rw[az na];exact e4,e5.gen dN λ_ f _=>f⟩
theorem fh.make{k:List Key}(N:fh K Bad env σ H i p ws kvs)(bp:Bad p)(ba:Bad a)(hn:V.ref a∉ws.map (·.2))(hpa:a≠p)(hv:H a=some (.lst [])):fh K Bad env σ (upd H p (.dT (ws++[(k,.ref a)]))) i p (ws++[(k,.ref a)]) (kvs++[(k,.lst [])]):=by
 have dN:j4 (λ_=>False) H (upd H p (.dT (ws++[(k,.ref a)]))):=λb x hx q=>by
  have:b≠p:=by
   rintro rfl
   rcases q with q|q
   ·exact q
   ·rw[N.top] at hx;cases hx;exact q
  rw[az this];exact hx
 have hlen:kvs.length=ws.length:=by have:=congrArg List.length N.keys;simpa using this
 refine⟨N.at_,N.hid,aN,by rw[GaI,GaI,N.keys];rfl,λj' k' v' d' h1 h2=> ?_,λj1 j2 k1 k2 b h1 h2=> ?_⟩
 ·by_cases q:j' <ws.length
  ·rw[GaR q] at h1
   rw[GaR (by omega)] at h2
   obtain⟨a',ds',us,e1,e2,e3,e4,e5⟩:=N.row j' k' v' d' h1 h2
   exact⟨a',ds',us,e1,e2,e3,by rw[az e3];exact e4,e5.gen dN λ_ f _=>f⟩
  ·rw[GaJ (by omega)] at h1
   rw[GaJ (by omega)] at h2
   rw[hlen] at h2
   cases hz:j' -ws.length with
   |zero=>
    rw[hz] at h1 h2
    cases h1;cases h2
    exact⟨a,[],[],rfl,rfl,hpa,by rw[az hpa];exact hv,.nil⟩
   |succ n=>rw[hz] at h1;simp at h1
 ·by_cases q1:j1<ws.length
  ·rw[GaR q1] at h1
   by_cases q2:j2<ws.length
   ·rw[GaR q2] at h2
    exact N.inj j1 j2 _ _ _ h1 h2
   ·rw[GaJ (by omega)] at h2
    cases hz:j2 -ws.length with
    |zero=>
     rw[hz] at h2;cases h2
     exact absurd (GaM.mpr ⟨_,GaF h1,rfl⟩) hn
    |succ n=>rw[hz] at h2;simp at h2
  ·rw[GaJ (by omega)] at h1
   cases hz:j1 -ws.length with
   |succ n=>rw[hz] at h1;simp at h1
   |zero=>
    rw[hz] at h1;cases h1
    by_cases q2:j2<ws.length
    ·rw[GaR q2] at h2
     exact absurd (GaM.mpr ⟨_,GaF h2,rfl⟩) hn
    ·rw[GaJ (by omega)] at h2
     cases hz2:j2 -ws.length with
     |succ n=>rw[hz2] at h2;simp at h2
     |zero=>omega
end
def FrW(H₀:Hp)(Bad:Addr→Prop)(p:Addr)(ws:List (List Key×V)):Prop:=∀b,(b=p∨V.ref b∈ws.map (·.2))→H₀ b=none∧¬Bad b
theorem vh{kvs:Rws}{ws:List (List Key×V)}{k:List Key}(h:kvs.map (·.1)=ws.map (·.1)):kvs.findIdx? (λp=>decide (p.1=k))=ws.findIdx? (λp=>decide (p.1=k)):=by
 have h1:(kvs.map (·.1)).findIdx? (λq=>decide (q=k))=kvs.findIdx? (λp=>decide (p.1=k)):=by rw[Gdx];rfl
 have h2:(ws.map (·.1)).findIdx? (λq=>decide (q=k))=ws.findIdx? (λp=>decide (p.1=k)):=by rw[Gdx];rfl
 rw[←h1,←h2,h]
theorem find_some:∀{ws:List (List Key×V)} {k:List Key} {j:Nat},ws.findIdx? (λp=>decide (p.1=k))=some j→∃v,ws[j]? =some (k,v)∧gr ws k=some v
 |[],k,j,h=>by simp at h
 |p::ws,k,j,h=>by
  rw[List.findIdx?_cons] at h
  by_cases c:p.1=k
  ·rw[GaK c] at h
   cases h
   exact⟨p.2,by rw[←c];rfl,lC c⟩
  ·rw[GaL c] at h
   simp only[GaD,Gbf] at h
   obtain⟨j',hj,rfl⟩:=Gak.mp h
   obtain⟨v,h1,h2⟩:=find_some hj
   exact⟨v,by rw[GcV];exact h1,by rw[iX c];exact h2⟩
theorem find_none:∀{ws:List (List Key×V)} {k:List Key},ws.findIdx? (λp=>decide (p.1=k))=none→gr ws k=none
 |[],k,h=>rfl
 |p::ws,k,h=>by
  rw[List.findIdx?_cons] at h
  by_cases c:p.1=k
  ·rw[GaK c] at h;cases h
  ·rw[GaL c] at h
   simp only[GaD,Gbf] at h
   rw[iX c]
   exact find_none (Option.map_eq_none_iff.mp h)
theorem B8{kvs:Rws}{ws:List (List Key×V)}{j:Nat}{k:List Key}{v:V}{q:List Key×D}(h:kvs.map (·.1)=ws.map (·.1))(h1:kvs[j]? =some q)(h2:ws[j]? =some (k,v)):q.1=k:=by
 have e1:(kvs.map (·.1))[j]? =some q.1:=by rw[Gal,h1];rfl
 have e2:(ws.map (·.1))[j]? =some k:=by rw[Gal,h2];rfl
 rw[h,e2] at e1
 cases e1;rfl
noncomputable def tM(X:Cx)(i:Nat)(f:DM):TS:=λD σ H=>∃H₀ Bad env p ws kvs q,aI X.K H₀ (gO Bad p ws) env σ H∧fh X.K (gO Bad p ws) env σ H i p ws kvs∧FrW H₀ Bad p ws∧f env kvs=some q∧
 ∀σ' H' ws',aI X.K H₀ (gO Bad p ws') q.1 σ' H' →fh X.K (gO Bad p ws') q.1 σ' H' i p ws' q.2→FrW H₀ Bad p ws' →nL H H' →D.nx σ' H'
section
variable{X:Cx}{e a b c:Expr}{f g h:DE}{t u:DT}{pos:Pos}{st:Stmt}{rest body:List Stmt}{i j:Nat}{x:Str}{n1 n2:DM}
theorem HX(h1:PS X st (tM X i n1)):PSs X [st] (tM X i n1):=uI h1
theorem Fw(h1:PS X st (tM X i n1))(h2:PSs X rest (tM X i n2)):PSs X (st::rest) (tM X i (Mr n1 n2)):=by
 refine(nQ h1 h2).aU ?_
 rintro D σ H ⟨H₀,Bad,env,p,ws,kvs,q,E,N,h0,e,k⟩
 obtain⟨q1,hq,e⟩:=bind_some e
 exact⟨H₀,Bad,env,p,ws,kvs,q1,E,N,h0,hq,λσ' H' ws' E' N' f' t' => ⟨H₀,Bad,q1.1,p,ws',q1.2,q,E',N',f',e,λσ2 H2 ws2 E2 N2 f2 t2=>k σ2 H2 ws2 E2 N2 f2 (t'.trans t2)⟩⟩
theorem Kn{pos' :Pos}(hN:X.N.Nodup)(hj:X.N[j]? =some x)(hx:Loc X.env.scope x)(hij:i≠j)(he:PEd X e f)(hs:swapsWith e (some (.Name x pos')) pos.line X.env=pure false:=by rfl)
  (hf:X.fn x=true∨X.env.scope.names.lookup x=some .local:=by first|exact .inl rfl|exact .inr rfl|assumption):PS X (.Assign [.Name x pos'] e pos) (tM X i (setM j f)):=by
 refine(Au hN hj hx he hs hf).aU ?_
 rintro D σ H ⟨H₀,Bad,env,p,ws,kvs,q,E,N,h0,e,k⟩
 obtain⟨⟨kr,d⟩,hr,e⟩:=bind_some e
 cases kr with
 |c=>
  cases e
  refine⟨H₀,_,env,_,E,hr,λv H1 s1 R=> ?_⟩
  exact k _ _ ws ((E.mono s1).lJ R) ((N.mono s1).lJ hij) h0 (.same s1)
 |tn=>cases e
 |to=>cases e
 |tb=>cases e
theorem bindM{α β:Type}{o:Option α}{f:α→Option β}{b:β}(h:o.bind f=some b):∃a,o=some a∧f a=some b:=bind_some h
theorem Ko{px ap cp apos cpos lp:Pos}{ke:Expr}(hu:X.A.units+1<cLine)(hN:X.N[i]? =some x)(hv:Vis X.env.scope x)(hk:PEd X ke g)(he:PEd X e f)(hd:(x==("__debug__":Str))=false:=by decide)(hcd:(x==("__classdict__":Str))=false:=by decide)
  (m:M2 X (.Name x px) "setdefault" ap ke (.List [] lp) cp:=by exact⟨rfl,rfl,rfl,rfl⟩)
  (hs1:starEach [e] X.env=[(false,eval e X.env)]:=by rfl)
  (hbase:attributeBase (.Call (.Attribute (.Name x px) "setdefault" ap) [ke,.List [] lp] [] cp) "append" X.env (eval (.Call (.Attribute (.Name x px) "setdefault" ap) [ke,.List [] lp] [] cp) X.env)=eval (.Call (.Attribute (.Name x px) "setdefault" ap) [ke,.List [] lp] [] cp) X.env:=by rfl)
  (hfew:((backTo cpos (starEach [e] X.env)).all (λx=> !x.1)&&(backToKw cpos (keywordEach [] X.env)).all (λx=>x.1.isSome)
   &&decide (([e]:List Expr).length+([]:List Keyword).length+(if([]:List Keyword).isEmpty then 0 else 1)<30))=true:=by rfl)
  (hline:(apos.endLine==cpos.line)=true:=by rfl)(hs:swapsWith (.Call (.Attribute (.Call (.Attribute (.Name x px) "setdefault" ap) [ke,.List [] lp] [] cp) "append" apos) [e] [] cpos) none pos.line X.env=pure false:=by rfl):
  PS X (.Expr (.Call (.Attribute (.Call (.Attribute (.Name x px) "setdefault" ap) [ke,.List [] lp] [] cp) "append" apos) [e] [] cpos) pos) (tM X i (Ms g f)):=by
 refine(qL (By Gcj PySem.F.slot_list_append PySem.F.type_list_append oZ (Fv hu (lu hN hv hd hcd) hk (Ec AA) m) (a4 he aa hs1) hbase hfew hline hs1 rfl) hs).aU ?_
 rintro D σ H ⟨H₀,Bad,env,p,ws,kvs,q,E,N,h0,e,kk⟩
 obtain⟨⟨ky,dy⟩,hy,e⟩:=bindM e
 obtain⟨r,hr,e⟩:=bindM e
 cases dy with
 |tup ks=>
  dsimp only at e
  split at e
  ·rename_i z
   rw[Gas] at z
   obtain⟨key,hkey,e⟩:=bindM e
   obtain⟨kvs',hsd,e⟩:=Gak.mp e
   cases e
   have bp:gO Bad p ws p:= .inr (.inl rfl)
   refine⟨_,N.at_,p,rfl,.inr ⟨ws,.inl N.top⟩,H₀,_,env,_,E,hy,λvy H1 s1 Ry=> ?_⟩
   have iy:Inn X.K (Cln (gO Bad p ws) env σ) H1 (.tup ks) vy:=Ry.inn
   cases iy with
   | @tup bk kv _ hb rb=>
    have ekv:=js rb hkey
    subst ekv
    have E1:=E.mono s1
    have N1:=N.mono s1
    refine⟨GbE _,λa1 n1' => ?_⟩
    have sA:cj H1 (upd H1 a1 (.lst [])):=bL n1'
    have hbA:upd H1 a1 (.lst []) bk=some (.tup (key.map kV)):=sA _ _ hb
    have N2:=N1.mono sA
    have E2:=E1.mono sA
    have hlen:kvs.length=ws.length:=by have:=congrArg List.length N.keys;simpa using this
    have szk:kvs.length<ai∧((∃jj ds k0,kvs.findIdx? (λp=>decide (p.1=key))=some jj∧kvs[jj]? =some (k0,.lst ds)∧ds.length<ai∧kvs' =kvs.set jj (key,.lst (ds++[r.d])))∨(kvs.findIdx? (λp=>decide (p.1=key))=none∧kvs' =kvs++[(key,.lst [r.d])])):=by
     unfold Er at hsd
     split at hsd
     ·rename_i hz
      refine⟨hz, ?_⟩
      split at hsd
      ·rename_i jj hjj
       split at hsd
       ·rename_i k0 ds hds
        split at hsd
        ·rename_i hl
         cases hsd
         exact .inl ⟨jj,ds,k0,hjj,hds,hl,rfl⟩
        ·cases hsd
       ·cases hsd
      ·rename_i hjj
       cases hsd
       exact .inr ⟨hjj,rfl⟩
     ·cases hsd
    have fin:∀(H2:Hp) (ws2:List (List Key×V)) (kvs2:Rws) (jj:Nat) (a:Addr) (ds:List DL.D),aI X.K H₀ (gO Bad p ws2) env σ H2→fh X.K (gO Bad p ws2) env σ H2 i p ws2 kvs2→FrW H₀ Bad p ws2→nL H H2→ws2[jj]? =some (key,.ref a)→kvs2[jj]? =some (key,.lst ds)→ds.length<ai→kvs' =kvs2.set jj (key,.lst (ds++[r.d]))→
      tyV X.K "list" (.ref a) H2∧tA X (a5 f ao) σ H2 λvs H3=>Bz (.ref a) vs H3 λ_ H4=>D.nx σ H4:=by
     intro H2 ws2 kvs2 jj a ds E2 N2 F2 T2 hw hkv hl ek
     obtain⟨a',ds',vs,e1,e2,e3,hvs,rp⟩:=N2.row jj _ _ _ hw hkv
     cases e1;cases e2
     have ba:gO Bad p ws2 a:= .inr (.inr (GaM.mpr ⟨_,GaF hw,rfl⟩))
     refine⟨.inl ⟨rfl,vs,.inl (.inl hvs)⟩,H₀,_,env,[r],E2,by unfold a5 ao;rw[hr];rfl,λus H3 s3 Rs=> ?_⟩
     cases Rs with
     | @cons _ v _ _ R1 tl=>
      cases tl
      have hvs3:=s3 _ _ hvs
      have N3:=N2.mono s3
      have E3:=E2.mono s3
      refine⟨_,vs,v,rfl,rfl,hvs3,by rw[←rp.1,←size_eq];exact hl, ?_⟩
      have rep1:Rep X.K (λ_=>False) H3 r.d v:=R1.inn.imm z.1
      have rp3:aY X.K (λ_=>False) H3 (ds++[r.d]) (vs++[v]):=(rp.gen (.of_same s3) λ_ f _=>f).append (.cons rep1 .nil)
      have N4:=N3.app ba hw hkv hvs3 rp3
      rw[←ek] at N4
      exact kk σ _ ws2 (E3.Fe ba (F2 a (.inr (GaM.mpr ⟨_,GaF hw,rfl⟩))).1 hvs3 (λz=>z) z.2) N4 F2 ((T2.trans (.same s3)).trans (.upd hvs3 λz=>z))
    refine⟨ws,key,bk,N2.top,rfl,hbA,by rw[←hlen,←size_eq];exact szk.1,λv hv=> ?_,λhv=> ?_⟩
    ·rcases szk.2 with⟨jj,ds,k0,hjj,hds,hl,ek⟩| ⟨hjj,_⟩
     ·rw[vh N.keys] at hjj
      obtain⟨v',hw,hv'⟩:=find_some hjj
      rw[hv] at hv';cases hv'
      have hk0:k0=key:=B8 N.keys hds hw
      subst hk0
      obtain⟨a',_,_,e1,_⟩:=N.row jj _ _ _ hw hds
      subst e1
      exact fin _ ws kvs jj a' ds E2 N2 h0 ((nL.same s1).trans (.same sA)) hw hds hl ek
     ·rw[vh N.keys] at hjj
      rw[find_none hjj] at hv;cases hv
    ·rcases szk.2 with⟨jj,ds,k0,hjj,hds,hl,ek⟩| ⟨hjj,ek⟩
     ·rw[vh N.keys] at hjj
      obtain⟨v',hw,hv'⟩:=find_some hjj
      rw[hv] at hv';cases hv'
     ·have hn:V.ref a1∉ws.map (·.2):=λhm=>by
       obtain⟨⟨k1,v1⟩,hm1,hm2⟩:=GaM.mp hm
       have hm2' :v1=V.ref a1:=hm2
       subst hm2'
       obtain⟨j1,hj1⟩:=Gbw.mp hm1
       have hj1' :j1<kvs.length:=by rw[hlen];exact(Gac.mp hj1).1
       have hk1:kvs[j1]? =some kvs[j1]:=Gaa hj1'
       have hk2:kvs[j1].1=k1:=B8 N.keys hk1 hj1
       obtain⟨a',_,us,e1,_,_,e4,_⟩:=N1.row j1 k1 _ kvs[j1].2 hj1 (by rw[hk1,←hk2])
       cases e1
       rw[n1'] at e4;cases e4
      have hpa:a1≠p:=λq=>by subst q;rw[N1.top] at n1';cases n1'
      rw[Eg _ hv]
      have eB:(λb=>gO Bad p ws b∨b=a1)=gO Bad p (ws++[(key,V.ref a1)]):=by
       funext b
       apply propext
       unfold gO
       rw[GaI,Gaw]
       simp only[Gau,Gdy,Gcq,V.ref.injEq]
       constructor
       ·rintro((h|h|h)|h)
        ·exact .inl h
        ·exact .inr (.inl h)
        ·exact .inr (.inr (.inl h))
        ·exact .inr (.inr (.inr h))
       ·rintro(h|h|h|h)
        ·exact .inl (.inl h)
        ·exact .inl (.inr (.inl h))
        ·exact .inl (.inr (.inr h))
        ·exact .inr h
      have E3:aI X.K H₀ (gO Bad p (ws++[(key,V.ref a1)])) env σ (upd H1 a1 (.lst [])):=by
       rw[←eB]
       exact E1.C0 (New:=λb=>b=a1) sA (λb hb=>by rw[hb];exact n1') λb hb=>by rw[hb,aN];simp
      have N3:fh X.K (gO Bad p (ws++[(key,V.ref a1)])) env σ (upd H1 a1 (.lst [])) i p ws kvs:=by
       exact N1.Km.mono sA
      have F3:FrW H₀ Bad p (ws++[(key,V.ref a1)]):=λb hb=>by
       rw[GaI,Gaw] at hb
       simp only[Gau,Gdy,Gcq,V.ref.injEq] at hb
       rcases hb with h|h|h
       ·exact h0 b (.inl h)
       ·exact h0 b (.inr h)
       ·subst h
        exact⟨E1.same.free n1',λq=>E1.bad b (.inl q) n1'⟩
      have bp' :gO Bad p (ws++[(key,V.ref a1)]) p:= .inr (.inl rfl)
      have ba' :gO Bad p (ws++[(key,V.ref a1)]) a1:= .inr (.inr (by rw[GaI,Gaw];exact .inr Gan))
      have N4:=N3.make (k:=key) bp' ba' hn hpa aN
      have E4:=E3.Fe (o' := .dT (ws++[(key,V.ref a1)])) bp' (F3 p (.inl rfl)).1 N3.top (λz=>z) z.2
      have lw:(ws++[(key,V.ref a1)])[ws.length]? =some (key,V.ref a1):=by rw[GaJ (Gap _),Nat.sub_self];rfl
      have lk:(kvs++[(key,DL.D.lst [])])[ws.length]? =some (key,DL.D.lst []):=by rw[←hlen,GaJ (Gap _),Nat.sub_self];rfl
      refine fin _ _ (kvs++[(key,DL.D.lst [])]) ws.length a1 [] E4 N4 F3 (((nL.same s1).trans (.same sA)).trans (.upd N3.top λz=>z)) lw lk (by rw[size_eq,Gbz];exact(by decide:(0:Nat)<16777216)) ?_
      rw[ek,←hlen,List.set_append_right _ _ (Gap _),Nat.sub_self]
      rfl
  ·cases e
 |_=>cases e
theorem Kp{px:Pos}(hp:PassesOwn (model X.prog X.w) X.A X.env X.xe)(hc:X.calm=true)(he:PEd X e f)(hN:X.N.Nodup)(hj:X.N[j]? =some x)(hx:Loc X.env.scope x)(hij:i≠j)(hb:PSs X body (tM X i n1))
  (hs:∀x,foldedSetIterable e X.env x=pure x:=by intro _;rfl)
  (hf:X.fn x=true∨X.env.scope.names.lookup x=some .local:=by first|exact .inl rfl|exact .inr rfl|assumption):
  PS X (.For (.Name x px) e body [] pos) (tM X i (IM j f n1)):=by
 refine(E9 hp hc (EC he) (Bu hN hj hx hf) hb hs).aU ?_
 rintro D σ H ⟨H₀,Bad,env,p,ws,kvs,q,E,N,h0,e,k⟩
 obtain⟨⟨kr,d⟩,hr,e⟩:=bindM e
 split at e
 ·rename_i xs hd
  have hd' :d= .tup xs:=hd
  subst hd'
  split at e
  ·rename_i him
   refine⟨H₀,_,env,_,E,hr,λv H1 s1 R=> ?_⟩
   have i1:Inn X.K (Cln (gO Bad p ws) env σ) H1 (.tup xs) v:=R.inn
   cases i1 with
   | @tup la lv _ hla rr=>
    have hll:xs.length=lv.length:=rr.1
    refine⟨_,rfl,.inr ⟨⟨_,SqT.of hla⟩, ?_⟩⟩
    refine⟨λc n σ' H' =>n=xs.length -c∧c≤xs.length∧nL H1 H' ∧∃envi wsi kvi,aI X.K H₀ (gO Bad p wsi) envi σ' H' ∧fh X.K (gO Bad p wsi) envi σ' H' i p wsi kvi∧FrW H₀ Bad p wsi∧nV j n1 (xs.drop c) envi kvi=some q,
     ⟨xs.length,by simp,GbE _,λ_ _ e _=>e,env,ws,kvs,E.mono s1,N.mono s1,h0,by simpa using e⟩, ?_⟩
    rintro c n σ' H' ⟨rfl,hle,tS,envi,wsi,kvi,Ei,Ni,Fi,ei⟩
    have hla' :H' la=some (.tup lv):=tS _ _ hla trivial
    by_cases hlt:c<xs.length
    ·have hd:xs.drop c=xs[c]::xs.drop (c+1):=Gbv hlt
     rw[hd] at ei
     unfold nV at ei
     obtain⟨q1,hq,ei⟩:=bindM ei
     have hlv:lv[c]? =some (lv[c]'(by omega)):=Gaa _
     refine .inr ⟨⟨lv,_,SqT.of hla',hlv⟩,λσ2 H2=>nL H1 H2∧∃envi wsi kvi,aI X.K H₀ (gO Bad p wsi) envi σ2 H2∧fh X.K (gO Bad p wsi) envi σ2 H2 i p wsi kvi∧FrW H₀ Bad p wsi∧nV j n1 (xs.drop (c+1)) envi kvi=some q,λσ2 H2 z=> ⟨xs.length -(c+1),by omega,rfl,hlt,z⟩,λy H2 ⟨e2,e3⟩=> ?_⟩
     subst e2
     have ey:=e3 _ (SqT.of hla')
     rw[hlv] at ey
     cases ey
     have rep0:=rr.2 c _ _ (Gaa hlt) hlv
     have rep1:Rep X.K (λ_=>False) H1 xs[c] lv[c]:=rep0.imm (qN him c _ (Gaa hlt))
     have rep2:Rep X.K (Cln (gO Bad p wsi) envi σ') H2 xs[c] lv[c]:=rep1.gen (λb o hb w=>w.elim (λz=>z.elim) λw=>tS b o hb w) λ_ z _=>z.elim
     refine⟨H₀,Bad,envi.set j (some (.sh xs[c])),p,wsi,kvi,q1,Ei.lJ rep2,Ni.lJ hij,Fi,hq,λσ3 H3 ws3 E3 N3 F3 t3=> ?_⟩
     exact⟨tS.trans t3,q1.1,ws3,q1.2,E3,N3,F3,ei⟩
    ·have hc' :c=xs.length:=by omega
     subst hc'
     rw[GbH] at ei
     cases ei
     exact .inl ⟨⟨lv,SqT.of hla',by omega⟩,k σ' H' wsi Ei Ni Fi ((nL.same s1).trans tS)⟩
  ·cases e
 ·cases e
theorem Dg{pos' dp px rp:Pos}(hN:X.N.Nodup)(hi:X.N[i]? =some x)(hx:Loc X.env.scope x)(hv:Vis X.env.scope x)(h1:PS X st (tM X i n1))(hd:(x==("__debug__":Str))=false:=by decide)(hcd:(x==("__classdict__":Str))=false:=by decide)
  (hs:swapsWith (.Dict [] [] dp) (some (.Name x pos')) pos.line X.env=pure false:=by rfl)
  (hf:X.fn x=true∨X.env.scope.names.lookup x=some .local:=by first|exact .inl rfl|exact .inr rfl|assumption):
  lq X [.Assign [.Name x pos'] (.Dict [] [] dp) pos,st,.Return (some (.Name x px)) rp] (Es i n1):=by
 intro pins z σ H D I hw
 have hl:=I.len
 refine(nQ (Au hN hi hx vX hs hf) (nQ h1 (uI (DX (lu hi hv hd hcd))))) pins z σ H D I ?_
 obtain⟨H₀,Bad,env,o,E,e,k⟩:=hw
 obtain⟨q,hq,e⟩:=bindM e
 cases e
 have hie:i<env.length:=AL E hl hi
 have hie' :i<σ.length:=by rw[←E.len];exact hie
 intro p np
 have eB:(λb=>Bad b∨b=p)=gO Bad p []:=by
  funext b
  apply propext
  unfold gO
  simp
 have E1:aI X.K H₀ (gO Bad p []) (env.set i none) (σ.set i (some (.ref p))) (upd H p (.dT [])):=by
  rw[←eB]
  exact(E.hide i (.ref p)).C0 (New:=λb=>b=p) (bL np) (λb hb=>by rw[hb];exact np) λb hb=>by rw[hb,aN];simp
 have N1:fh X.K (gO Bad p []) (env.set i none) (σ.set i (some (.ref p))) (upd H p (.dT [])) i p [] []:=
  ⟨cI hie',cI hie,aN,rfl,λj k v d h=>by simp at h,λj j' k k' a h=>by simp at h⟩
 have F1:FrW H₀ Bad p []:=λb hb=>by
  rcases hb with rfl|hb
  ·exact⟨E.same.free np,λq=>E.bad b q np⟩
  ·simp at hb
 refine⟨H₀,Bad,env.set i none,p,[],[],q,E1,N1,F1,hq,λσ' H' ws' E' N' F' _=> ?_⟩
 refine⟨.ref p,N'.at_,k (.ref p) H' E'.same ⟨λ_=> ⟨p,rfl,(F' p (.inl rfl)).1,⟨_,N'.top,trivial⟩⟩,.dT N'.top ⟨N'.keys,λj pd wd e1 e2=> ?_⟩⟩⟩
 obtain⟨kd,dd⟩:=pd
 obtain⟨kw,vw⟩:=wd
 have ek:kd=kw:=B8 N'.keys e1 e2
 subst ek
 obtain⟨a,ds,vs,r1,r2,r3,r4,r5⟩:=N'.row j kd vw dd e2 e1
 subst r1 r2
 have fa:=F' a (.inr (GaM.mpr ⟨_,GaF e2,rfl⟩))
 exact .lst ⟨fa.1,λz=>r3 (by cases z;rfl)⟩ (.inl r4) r5.1 λj' d v h1 h2=>(r5.2 j' d v h1 h2).imp λ_ z=>z.elim
end
section
variable{X:Cx}
theorem Dh{ds:List D}{r:RV}(h:sortedS ds=some r):fT ds=some r:=by
 obtain⟨d,xs,rfl,h1,h2⟩:=AS h
 split at h2
 ·rename_i c
  rw[Gas] at c
  have c1:=GaB c.1
  unfold fT one
  simp only[h1,Option.bind_some]
  rw[GaK (by omega:xs.length<1000000),c.2]
  exact h2
 ·cases h2
theorem gC:CallD X sortedS (rV X.K):=λF H ds vs rv Q ps e k=>jP F H ds vs rv Q ps (Dh e) k
end
theorem fP{N P:List Str}{sc:Scope}(a:sc.kind= .function:=by rfl)(b:sc.isCoroutine=false:=by rfl)(c:sc.isGenerator=false:=by rfl)(d:N.Nodup:=by decide+kernel)(e:N.take P.length=P:=by rfl)(f:∀x∈P,sc.names.lookup x=some .local∨sc.names.lookup x=some .cell:=by decide+kernel)(g:∀y∈sc.names,y.2≠ .free:=by decide+kernel):aW N P sc:=⟨a,b,c,d,e,f,g⟩
end DL
namespace Den
open DL PySem
noncomputable def kD:DS:=
 (aE (ifS (b8 eqB (ixE (vE 0) (kE (.int 0))) (kE (.str "ever")))
  (retS (ixE (vE 0) (kE (.int 1))))
  bc)
 (aE (ifS (b8 eqB (ixE (vE 0) (kE (.int 0))) (kE (.str "flat")))
  (retS (ixE (vE 0) (kE (.int 2))))
  bc)
 (aE (ifS (b8 nF (vE 1) (kE .non))
  (retS (kE .non))
  bc)
 (retS (opE mP (opE dB (vE 1) (ixE (vE 0) (kE (.int 2)))) (ixE (vE 0) (kE (.int 3))))))))
noncomputable def jv:List D→Option D:=dW 2 2 kD
noncomputable def k7:DS:=
 (aE (aT 2 (ixE (vE 0) (kE (.int 4))))
 (aE (ifS (b8 eqB (ixE (vE 2) (kE (.int 0))) (kE (.str "asked")))
  (retS (kE .non))
  bc)
 (aE (aT 3 (opE lj (vE 1) (opE lj (ixE (vE 2) (kE (.int 1))) (ixE (vE 2) (kE (.int 4))))))
 (aE (aT 4 (opE mP (vE 3) (ixE (vE 2) (kE (.int 2)))))
 (aE (ifS (orT (uN (Em leB ltB (kE (.int 0)) (vE 4) (ixE (vE 2) (kE (.int 3))))) (b8 gtB (opE lj (vE 3) (opE dB (vE 4) (ixE (vE 2) (kE (.int 2))))) (opE aS (ixE (vE 2) (kE (.int 4))) (ixE (vE 2) (kE (.int 5))))))
  (retS (kE .non))
  bc)
 (retS (vE 4)))))))
noncomputable def jb:List D→Option D:=dW 5 2 k7
noncomputable def lQ:DS:=
 (aE (aT 2 (ixE (vE 0) (kE (.int 4))))
 (aE (ifS (b8 eqB (ixE (vE 2) (kE (.int 0))) (kE (.str "asked")))
  (retS (bE (b8 ltB (vE 1) (ixE (vE 2) (kE (.int 1))))))
  bc)
 (retS (bE (b8 nF (aH jb (a5 (vE 0) (a5 (vE 1) ao))) (kE .non))))))
noncomputable def lR:List D→Option D:=dW 3 2 lQ
noncomputable def jc:DS:=
 (ifS (kz (b8 eqB (ixE (vE 4) (kE (.int 0))) (vE 1)) (b8 leB (ixE (vE 4) (kE (.int 1))) (vE 2)))
  (aT 3 (ixE (vE 4) (kE (.int 2))))
  bc)
noncomputable def gP:DS:=
 (aE (aT 3 (kE .non))
 (aE (gV (some 0) (ll (vE 0)) (gN 4)
  jc)
 (retS (vE 3))))
noncomputable def gQ:List D→Option D:=dW 5 3 gP
noncomputable def fN:DT:=
 (kz (b8 kW (vE 1) (kE .non)) (b8 leB (ixE (ixE (vE 2) (vE 5)) (kE (.int 0))) (opE lj (ixE (vE 7) (kE (.int 0))) (vE 1))))
noncomputable def iW:DS:=
 (aE (aT 4 (opE lj (vE 4) (ixE (ixE (vE 2) (vE 5)) (kE (.int 1)))))
 (aT 5 (opE aS (vE 5) (kE (.int 1)))))
noncomputable def dw:DS:=
 (aE (aT 4 (opE aS (vE 4) (ixE (vE 7) (kE (.int 1)))))
 (aE (uP fN
  iW)
 (ifS (orT (b8 eqB (opE aS (vE 6) (kE (.int 1))) (dQ cV (a5 (vE 2) ao))) (b8 gtB (ixE (ixE (vE 2) (opE aS (vE 6) (kE (.int 1)))) (kE (.int 0))) (ixE (vE 7) (kE (.int 0)))))
  (jq 3 (bD (a5 (ixE (vE 7) (kE (.int 0))) (a5 (vE 4) ao))))
  bc)))
noncomputable def rX:DS:=
 (aE (aT 2 (dQ sortedS (a5 (vE 0) ao)))
 (aE (aT 3 (fQ ao))
 (aE (aT 4 (kE (.int 0)))
 (aE (aT 5 (kE (.int 0)))
 (aE (gV (some 2) (BE (vE 2)) (gT [6,7])
  dw)
 (retS (vE 3)))))))
noncomputable def jQ:List D→Option D:=dW 8 2 rX
noncomputable def dZ:DS:=
 (retS (dQ anyS (a5 (mR none 1 [] (ll (ixE (vE 0) (kE (.int 2)))) (gN 0) j0 (bE (b8 eqB (ixE (vE 0) (kE (.int 0))) (kE (.str "kilo"))))) ao)))
noncomputable def f7:List D→Option D:=dW 1 1 dZ
noncomputable def gD:DS:=
 (aE (aT 3 (ixE (vE 2) (kE (.int 0))))
 (aE (aT 4 (ixE (vE 2) (kE (.int 1))))
 (aE (aT 5 (ixE (vE 2) (kE (.int 2))))
 (aE (aT 6 (ixE (ixE (vE 0) (kE (.int 3))) (vE 3)))
 (aE (aT 7 (ixE (ixE (vE 0) (kE (.int 1))) (ixE (vE 6) (kE (.int 2)))))
 (aE (aT 8 (fQ ao))
 (aE (ifS (vZ (aH lR (a5 (vE 6) (a5 (vE 4) ao))))
  (jq 8 (kE (.str "astray")))
  bc)
 (aE (ifS (b8 gtB (vE 5) (ixE (ixE (vE 6) (kE (.int 3))) (kE (.int 3))))
  (jq 8 (kE (.str "most")))
  bc)
 (aE (ifS (orT (b8 ltB (vE 5) (kE (.int 1))) (b8 neB (opE qF (vE 5) (ixE (ixE (vE 7) (kE (.int 1))) (kE (.int 0)))) (kE (.int 0))))
  (jq 8 (kE (.str "part")))
  bc)
 (aE (ifS (kz (vZ (aH f7 (a5 (vE 7) ao))) (b8 nF (aH gQ (a5 (vE 1) (a5 (ixE (vE 6) (kE (.int 1))) (a5 (vE 4) ao)))) (kE .non)))
  (jq 8 (kE (.str "weight")))
  bc)
 (aE (ifS (b8 ltB (vE 4) (opE aS (ixE (ixE (ixE (vE 0) (kE (.int 0))) (ixE (vE 6) (kE (.int 1)))) (kE (.int 1))) (ixE (vE 7) (kE (.int 3)))))
  (jq 8 (kE (.str "young")))
  bc)
 (retS (mR (some 8) 1 [3,4] (ll (vE 8)) (gN 0) j0 (bD (a5 (vE 0) (a5 (vE 1) (a5 (vE 2) ao)))))))))))))))))
noncomputable def fu:List D→Option D:=dW 9 3 gD
noncomputable def bS:DM:=
 (Mr (setM 4 (ixE (ixE (vE 0) (kE (.int 3))) (ixE (vE 3) (kE (.int 0)))))
 (Ms (bD (a5 (ixE (vE 4) (kE (.int 1))) (a5 (ixE (vE 4) (kE (.int 2))) ao))) (bD (a5 (ixE (vE 3) (kE (.int 1))) (a5 (ixE (vE 3) (kE (.int 2))) ao)))))
noncomputable def dI:DS:=
 (Es 2 (IM 3 (vE 1) bS))
noncomputable def cW:List D→Option D:=dW 5 2 dI
noncomputable def cN:DS:=
 (aE (aT 11 (aH jv (a5 (vE 8) (a5 (aH gQ (a5 (vE 1) (a5 (vE 6) (a5 (ixE (vE 10) (kE (.int 0))) ao)))) ao))))
 (ifS (kz (b8 kW (vE 11) (kE .non)) (b8 gtB (ixE (vE 10) (kE (.int 1))) (vE 11)))
  (jq 3 (bD (a5 (kE (.str "cap")) (a5 (vE 6) (a5 (ixE (vE 4) (kE (.int 1))) (a5 (vE 7) (a5 (ixE (vE 10) (kE (.int 0))) (a5 (ixE (vE 10) (kE (.int 1))) (a5 (vE 11) ao)))))))))
  bc))
noncomputable def cO:DS:=
 (aE (aT 9 (ifE (b8 eqB (ixE (vE 8) (kE (.int 0))) (kE (.str "ever"))) (kE .non) (ixE (vE 8) (kE (.int 1)))))
 (gV none (ll (aH jQ (a5 (vE 5) (a5 (vE 9) ao)))) (gN 10)
  cN))
noncomputable def dD:DS:=
 (aE (aT 6 (ixE (vE 4) (kE (.int 0))))
 (gV none (BE (ixE (ixE (ixE (vE 0) (kE (.int 1))) (ixE (vE 4) (kE (.int 1)))) (kE (.int 2)))) (gT [7,8])
  cO))
noncomputable def iq:DS:=
 (aE (aT 3 (fQ ao))
 (aE (gV none (Ep bO (aH cW (a5 (vE 0) (a5 (vE 2) ao)))) (gT [4,5])
  dD)
 (retS (vE 3))))
noncomputable def fX:List D→Option D:=dW 12 3 iq
noncomputable def dh:DS:=
 (aE (w6 1 (bD (a5 (ixE (vE 2) (kE (.int 0))) (a5 (ixE (vE 2) (kE (.int 1))) ao))) (ixE (vE 2) (kE (.int 2))))
 (w6 1 (bD (a5 (ixE (vE 2) (kE (.int 1))) (a5 (ixE (vE 2) (kE (.int 0))) ao))) (ixE (vE 2) (kE (.int 2)))))
noncomputable def f9:DS:=
 (aE (aT 1 (r9))
 (aE (gV (some 0) (ll (vE 0)) (gN 2)
  dh)
 (retS (vE 1))))
noncomputable def fb:List D→Option D:=dW 3 1 f9
noncomputable def gE:DS:=
 (aE (ifS (b8 neB (ixE (vE 1) (kE (.int 1))) (ixE (vE 2) (kE (.int 1))))
  (retS (kE (.int 0)))
  bc)
 (retS (GS (vE 0) (bD (a5 (ixE (vE 1) (kE (.int 2))) (a5 (ixE (vE 2) (kE (.int 2))) ao))) (kE (.int 0)))))
noncomputable def gF:List D→Option D:=dW 3 3 gE
noncomputable def bJ:DS:=
 (aE (aT 9 (opE lj (ixE (vE 8) (kE (.int 0))) (ixE (vE 7) (kE (.int 0)))))
 (aE (ifS (b8 geB (vE 9) (vE 3))
  bkS
  bc)
 (ifS (b8 ltB (vE 9) (aH gF (a5 (vE 2) (a5 (ixE (ixE (vE 0) (kE (.int 3))) (ixE (vE 7) (kE (.int 1)))) (a5 (ixE (ixE (vE 0) (kE (.int 3))) (ixE (vE 8) (kE (.int 1)))) ao)))))
  (jq 5 (bD (a5 (kE (.str "gap")) (a5 (ixE (vE 7) (kE (.int 1))) (a5 (ixE (vE 7) (kE (.int 0))) (a5 (ixE (vE 8) (kE (.int 1))) (a5 (ixE (vE 8) (kE (.int 0))) ao)))))))
  bc)))
noncomputable def cP:DS:=
 (gV none (ll (slE (vE 4) (En (opE aS (vE 6) (kE (.int 1)))) noO)) (gN 8)
  bJ)
noncomputable def iz:DS:=
 (aE (aT 2 (aH fb (a5 (ixE (vE 0) (kE (.int 2))) ao)))
 (aE (aT 3 (mmE AI (.int 0) (mR none 1 [] (ll (ixE (vE 0) (kE (.int 2)))) (gN 0) j0 (ixE (vE 0) (kE (.int 2))))))
 (aE (aT 4 (dQ sortedS (a5 (mR (some 1) 1 [] (ll (vE 1)) (gN 0) j0 (bD (a5 (ixE (vE 0) (kE (.int 1))) (a5 (ixE (vE 0) (kE (.int 0))) ao)))) ao)))
 (aE (aT 5 (fQ ao))
 (aE (gV (some 4) (BE (vE 4)) (gT [6,7])
  cP)
 (retS (vE 5)))))))
noncomputable def fY:List D→Option D:=dW 10 2 iz
noncomputable def bY:DS:=
 (aE (aT 4 (aH jb (a5 (ixE (ixE (vE 0) (kE (.int 3))) (ixE (vE 3) (kE (.int 0)))) (a5 (ixE (vE 3) (kE (.int 1))) ao))))
 (ifS (b8 kW (vE 4) (kE .non))
  (w6 2 (bD (a5 (ixE (vE 3) (kE (.int 0))) (a5 (vE 4) ao))) (opE aS (GS (vE 2) (bD (a5 (ixE (vE 3) (kE (.int 0))) (a5 (vE 4) ao))) (kE (.int 0))) (kE (.int 1))))
  bc))
noncomputable def fZ:DS:=
 (aE (aT 2 (r9))
 (aE (gV (some 1) (ll (vE 1)) (gN 3)
  bY)
 (retS (pf bO 2 2 [] (gT [0,1]) (b8 gtB (vE 1) (kE (.int 1))) (bD (a5 (kE (.str "twice")) (a5 (ixE (vE 0) (kE (.int 0))) (a5 (ixE (vE 0) (kE (.int 1))) ao))))))))
noncomputable def dS:List D→Option D:=dW 5 2 fZ
noncomputable def gR:DS:=
 (LU 4 (aH fu (a5 (vE 0) (a5 (vE 2) (a5 (vE 5) ao)))))
noncomputable def oq:DS:=
 (aE (aT 2 (ixE (vE 1) (kE (.int 0))))
 (aE (aT 3 (ixE (vE 1) (kE (.int 1))))
 (aE (aT 4 (opE aS (opE aS (aH fX (a5 (vE 0) (a5 (vE 2) (a5 (vE 3) ao)))) (aH fY (a5 (vE 0) (a5 (vE 3) ao)))) (aH dS (a5 (vE 0) (a5 (vE 3) ao)))))
 (aE (gV (some 3) (ll (vE 3)) (gN 5)
  gR)
 (retS (dQ fT (a5 (vE 4) ao)))))))
noncomputable def lS:List D→Option D:=dW 6 2 oq
noncomputable def aq:DS:=
 (aE (aT 3 (kE (.int 0)))
 (aE (ifS (b8 gtB (dQ cV (a5 (vE 0) ao)) (kE (.int 0)))
  (aT 3 (opE qF (ixE (vE 0) (opE qF (vE 1) (dQ cV (a5 (vE 0) ao)))) (kE (.int 1000003))))
  bc)
 (retS (opE qF (opE mP (opE qF (opE dB (opE qF (opE dB (opE aS (vE 3) (kE (.int 1))) (opE aS (opE aS (opE dB (vE 1) (vE 1)) (vE 1)) (kE (.int 41)))) (kE (.int 999983))) (kE (.int 48271))) (kE (.int 2147483647))) (kE (.int 11))) (vE 2)))))
noncomputable def a9:List D→Option D:=dW 4 3 aq
noncomputable def fw:DS:=
 (aE (aT 6 (opE aS (opE aS (vE 1) (kE (.int 1))) (opE dB (kE (.int 4)) (vE 5))))
 (aE (aT 7 (opE dB (vE 3) (opE aS (kE (.int 1)) (aH a9 (a5 (vE 0) (a5 (vE 6) (a5 (kE (.int 30)) ao)))))))
 (aE (aT 8 (aH a9 (a5 (vE 0) (a5 (opE aS (vE 6) (kE (.int 2))) (a5 (kE (.int 3)) ao)))))
 (aE (ifS (b8 eqB (vE 8) (kE (.int 0)))
  (jq 4 (bD (a5 (kE (.str "flat")) (a5 (vE 7) (a5 (opE dB (vE 2) (opE aS (kE (.int 1)) (aH a9 (a5 (vE 0) (a5 (opE aS (vE 6) (kE (.int 1))) (a5 (kE (.int 30)) ao)))))) ao)))))
  bc)
 (aE (ifS (b8 eqB (vE 8) (kE (.int 1)))
  (aE (aT 9 (opE dB (vE 2) (opE aS (kE (.int 1)) (aH a9 (a5 (vE 0) (a5 (opE aS (vE 6) (kE (.int 1))) (a5 (kE (.int 9)) ao)))))))
 (jq 4 (bD (a5 (kE (.str "kilo")) (a5 (vE 7) (a5 (vE 9) (a5 (opE aS (kE (.int 1)) (aH a9 (a5 (vE 0) (a5 (opE aS (vE 6) (kE (.int 3))) (a5 (kE (.int 40)) ao))))) ao)))))))
  bc)
 (ifS (b8 eqB (vE 8) (kE (.int 2)))
  (jq 4 (bD (a5 (kE (.str "ever")) (a5 (opE dB (vE 2) (opE aS (kE (.int 2)) (aH a9 (a5 (vE 0) (a5 (opE aS (vE 6) (kE (.int 1))) (a5 (kE (.int 60)) ao)))))) ao))))
  bc))))))
noncomputable def kH:DS:=
 (aE (aT 4 (fQ ao))
 (aE (gV none (ij (ixE (fQ (a5 (kE (.int 0)) (a5 (kE (.int 1)) (a5 (kE (.int 1)) (a5 (kE (.int 2)) (a5 (kE (.int 3)) (a5 (kE (.int 4)) ao))))))) (aH a9 (a5 (vE 0) (a5 (vE 1) (a5 (kE (.int 6)) ao)))))) (gN 5)
  fw)
 (retS (dQ iY (a5 (vE 4) ao)))))
noncomputable def jd:List D→Option D:=dW 10 4 kH
noncomputable def cQ:DS:=
 (aE (aT 4 (opE aS (kE (.int 100)) (opE dB (kE (.int 30)) (vE 3))))
 (aE (aT 5 (ixE (fQ (a5 (kE (.int 1)) (a5 (kE (.int 2)) (a5 (kE (.int 5)) (a5 (kE (.int 12)) (a5 (opE p9 (kE (.int 10)) (kE (.int 5))) ao)))))) (aH a9 (a5 (vE 0) (a5 (vE 4) (a5 (kE (.int 5)) ao))))))
 (aE (aT 6 (ixE (fQ (a5 (bD (a5 (vE 5) ao)) (a5 (bD (a5 (vE 5) (a5 (opE dB (kE (.int 2)) (vE 5)) ao))) (a5 (bD (a5 (vE 5) (a5 (opE dB (kE (.int 3)) (vE 5)) (a5 (opE dB (kE (.int 7)) (vE 5)) ao)))) ao)))) (aH a9 (a5 (vE 0) (a5 (opE aS (vE 4) (kE (.int 1))) (a5 (kE (.int 3)) ao))))))
 (aE (aT 7 (opE dB (ixE (fQ (a5 (kE (.int 0)) (a5 (vE 1) ao))) (aH a9 (a5 (vE 0) (a5 (opE aS (vE 4) (kE (.int 2))) (a5 (kE (.int 2)) ao))))) (aH a9 (a5 (vE 0) (a5 (opE aS (vE 4) (kE (.int 3))) (a5 (kE (.int 20)) ao))))))
 (jq 2 (bD (a5 (opE aS (kE (.str "stuff")) (ixE (kE (.str "abcdef")) (vE 3))) (a5 (vE 6) (a5 (aH jd (a5 (vE 0) (a5 (opE aS (vE 4) (kE (.int 5))) (a5 (vE 5) (a5 (vE 1) ao))))) (a5 (vE 7) ao))))))))))
noncomputable def iA:DS:=
 (aE (aT 2 (fQ ao))
 (aE (gV none (ij (ixE (fQ (a5 (kE (.int 1)) (a5 (kE (.int 2)) (a5 (kE (.int 3)) (a5 (kE (.int 3)) (a5 (kE (.int 2)) (a5 (kE (.int 6)) ao))))))) (aH a9 (a5 (vE 0) (a5 (kE (.int 21)) (a5 (kE (.int 6)) ao)))))) (gN 3)
  cQ)
 (retS (dQ iY (a5 (vE 2) ao)))))
noncomputable def g8:List D→Option D:=dW 8 2 iA
noncomputable def fA:DS:=
 (aE (aT 6 (opE aS (opE aS (kE (.int 3000)) (opE dB (kE (.int 18)) (vE 4))) (opE dB (kE (.int 3)) (vE 5))))
 (ifS (kz (b8 ltB (dQ cV (a5 (vE 3) ao)) (kE (.int 12))) (b8 eqB (aH a9 (a5 (vE 0) (a5 (vE 6) (a5 (kE (.int 3)) ao)))) (kE (.int 0))))
  (aE (aT 7 (bD (a5 (vE 4) (a5 (vE 5) (a5 (opE dB (vE 2) (opE aS (kE (.int 1)) (aH a9 (a5 (vE 0) (a5 (opE aS (vE 6) (kE (.int 1))) (a5 (kE (.int 10)) ao)))))) ao)))))
 (Mp 3 (aH a9 (a5 (vE 0) (a5 (opE aS (vE 6) (kE (.int 2))) (a5 (opE aS (dQ cV (a5 (vE 3) ao)) (kE (.int 1))) ao)))) (vE 7)))
  bc))
noncomputable def fB:DS:=
 (gV none (BC (vE 4) (vE 1)) (gN 5)
  fA)
noncomputable def kI:DS:=
 (aE (aT 3 (fQ ao))
 (aE (gV none (ij (vE 1)) (gN 4)
  fB)
 (retS (dQ iY (a5 (vE 3) ao)))))
noncomputable def je:List D→Option D:=dW 8 3 kI
noncomputable def jf:DS:=
 (aE (ifS (b8 eqB (aH a9 (a5 (vE 0) (a5 (vE 1) (a5 (kE (.int 3)) ao)))) (kE (.int 0)))
  (retS (bD (a5 (kE (.str "asked")) (a5 (opE dB (vE 2) (aH a9 (a5 (vE 0) (a5 (opE aS (vE 1) (kE (.int 1))) (a5 (kE (.int 20)) ao))))) ao))))
  bc)
 (aE (aT 3 (opE dB (vE 2) (opE aS (kE (.int 1)) (aH a9 (a5 (vE 0) (a5 (opE aS (vE 1) (kE (.int 2))) (a5 (kE (.int 12)) ao)))))))
 (aE (aT 4 (opE dB (vE 2) (aH a9 (a5 (vE 0) (a5 (opE aS (vE 1) (kE (.int 3))) (a5 (opE mP (vE 3) (vE 2)) ao))))))
 (aE (aT 5 (opE dB (vE 2) (aH a9 (a5 (vE 0) (a5 (opE aS (vE 1) (kE (.int 4))) (a5 (opE mP (opE lj (vE 3) (vE 4)) (vE 2)) ao))))))
 (aE (aT 6 (opE aS (vE 4) (opE dB (vE 2) (aH a9 (a5 (vE 0) (a5 (opE aS (vE 1) (kE (.int 5))) (a5 (kE (.int 10)) ao)))))))
 (retS (bD (a5 (kE (.str "due")) (a5 (vE 6) (a5 (vE 3) (a5 (ixE (fQ (a5 (kE (.int 1)) (a5 (kE (.int 2)) (a5 (kE (.int 4)) (a5 (kE (.int 6)) (a5 (kE (.int 60)) ao)))))) (aH a9 (a5 (vE 0) (a5 (opE aS (vE 1) (kE (.int 6))) (a5 (kE (.int 5)) ao))))) (a5 (vE 4) (a5 (vE 5) ao)))))))))))))
noncomputable def jg:List D→Option D:=dW 7 3 jf
noncomputable def dU:DS:=
 (jq 2 (bD (a5 (opE aS (kE (.str "guest")) (ixE (kE (.str "abcdef")) (vE 3))) (a5 (opE dB (vE 1) (aH a9 (a5 (vE 0) (a5 (opE aS (kE (.int 30)) (vE 3)) (a5 (kE (.int 15)) ao))))) ao))))
noncomputable def dz:DS:=
 (aE (aT 7 (opE aS (kE (.int 300)) (opE dB (kE (.int 20)) (vE 6))))
 (aE (aT 8 (aH a9 (a5 (vE 0) (a5 (vE 7) (a5 (dQ cV (a5 (vE 4) ao)) ao)))))
 (aE (aT 9 (opE dB (ixE (ixE (ixE (vE 4) (vE 8)) (kE (.int 1))) (kE (.int 0))) (ixE (fQ (a5 (kE (.int 4)) (a5 (kE (.int 15)) (a5 (kE (.int 2000)) ao)))) (aH a9 (a5 (vE 0) (a5 (opE aS (vE 7) (kE (.int 1))) (a5 (kE (.int 3)) ao)))))))
 (aE (aT 10 (bD (a5 (ixE (fQ (a5 (kE (.str "down")) (a5 (kE (.str "up")) (a5 (kE (.str "near")) ao)))) (opE qF (vE 6) (kE (.int 3)))) (a5 (opE aS (kE (.int 1)) (aH a9 (a5 (vE 0) (a5 (opE aS (vE 7) (kE (.int 2))) (a5 (kE (.int 90)) ao))))) (a5 (aH a9 (a5 (vE 0) (a5 (opE aS (vE 7) (kE (.int 3))) (a5 (kE (.int 9)) ao)))) (a5 (vE 9) ao))))))
 (aE (aT 11 (aH jg (a5 (vE 0) (a5 (opE aS (vE 7) (kE (.int 4))) (a5 (vE 1) ao)))))
 (aE (aT 12 (bD ao))
 (aE (ifS (kz (b8 eqB (ixE (vE 11) (kE (.int 0))) (kE (.str "due"))) (b8 gtB (ixE (vE 11) (kE (.int 3))) (kE (.int 2))))
  (aT 12 (bD (a5 (bD (a5 (kE (.int 1)) (a5 (kE (.int 1)) (a5 (kE (.int 2)) ao)))) (a5 (bD (a5 (kE (.int 2)) (a5 (kE (.int 1)) (a5 (kE (.int 3)) ao)))) ao))))
  bc)
 (jq 5 (bD (a5 (opE aS (kE (.str "order")) (ixE (kE (.str "abcdefghijkl")) (vE 6))) (a5 (aH a9 (a5 (vE 0) (a5 (opE aS (vE 7) (kE (.int 12))) (a5 (dQ cV (a5 (vE 2) ao)) ao)))) (a5 (vE 8) (a5 (vE 10) (a5 (vE 11) (a5 (vE 12) ao)))))))))))))))
noncomputable def jw:DS:=
 (aE (aT 1 (ixE (fQ (a5 (kE (.int 1)) (a5 (kE (.int 1)) (a5 (kE (.int 1)) (a5 (kE (.int 1)) (a5 (kE (.int 1)) (a5 (opE p9 (kE (.int 10)) (kE (.int 6))) ao))))))) (aH a9 (a5 (vE 0) (a5 (kE (.int 1)) (a5 (kE (.int 6)) ao))))))
 (aE (aT 2 (fQ ao))
 (aE (gV none (ij (ixE (fQ (a5 (kE (.int 1)) (a5 (kE (.int 2)) (a5 (kE (.int 3)) (a5 (kE (.int 2)) (a5 (kE (.int 3)) (a5 (kE (.int 6)) ao))))))) (aH a9 (a5 (vE 0) (a5 (kE (.int 20)) (a5 (kE (.int 6)) ao)))))) (gN 3)
  dU)
 (aE (aT 4 (aH g8 (a5 (vE 0) (a5 (vE 1) ao))))
 (aE (aT 5 (fQ ao))
 (aE (gV none (ij (ixE (fQ (a5 (kE (.int 1)) (a5 (kE (.int 2)) (a5 (kE (.int 3)) (a5 (kE (.int 4)) (a5 (kE (.int 4)) (a5 (kE (.int 12)) ao))))))) (aH a9 (a5 (vE 0) (a5 (kE (.int 22)) (a5 (kE (.int 6)) ao)))))) (gN 6)
  dz)
 (retS (bD (a5 (dQ iY (a5 (vE 2) ao)) (a5 (vE 4) (a5 (aH je (a5 (vE 0) (a5 (dQ cV (a5 (vE 4) ao)) (a5 (vE 1) ao)))) (a5 (dQ iY (a5 (vE 5) ao)) ao))))))))))))
noncomputable def gS:List D→Option D:=dW 13 1 jw
noncomputable def kJ:DS:=
 (aE (aT 4 (ixE (fQ (a5 (kE (.int 1)) (a5 (kE (.int 1)) (a5 (kE (.int 1)) (a5 (kE (.int 1)) (a5 (kE (.int 1)) (a5 (opE p9 (kE (.int 10)) (kE (.int 6))) ao))))))) (aH a9 (a5 (vE 0) (a5 (kE (.int 1)) (a5 (kE (.int 6)) ao))))))
 (aE (aT 5 (ixE (ixE (ixE (vE 1) (kE (.int 3))) (vE 2)) (kE (.int 4))))
 (aE (aT 6 (opE dB (vE 4) (aH a9 (a5 (vE 0) (a5 (vE 3) (a5 (kE (.int 70)) ao))))))
 (aE (ifS (kz (b8 eqB (ixE (vE 5) (kE (.int 0))) (kE (.str "due"))) (b8 gtB (aH a9 (a5 (vE 0) (a5 (opE aS (vE 3) (kE (.int 3000))) (a5 (kE (.int 4)) ao)))) (kE (.int 0))))
  (aE (aT 7 (opE aS (ixE (vE 5) (kE (.int 1))) (opE dB (aH a9 (a5 (vE 0) (a5 (vE 3) (a5 (dQ nU (a5 (ixE (vE 5) (kE (.int 3))) (a5 (kE (.int 6)) ao))) ao)))) (ixE (vE 5) (kE (.int 2))))))
 (aE (aT 8 (fQ (a5 (vE 7) (a5 (opE lj (vE 7) (ixE (vE 5) (kE (.int 4)))) (a5 (opE aS (vE 7) (ixE (vE 5) (kE (.int 5)))) (a5 (opE lj (opE lj (vE 7) (ixE (vE 5) (kE (.int 4)))) (kE (.int 1))) (a5 (opE aS (opE aS (vE 7) (ixE (vE 5) (kE (.int 5)))) (kE (.int 1))) (a5 (vE 7) ao))))))))
 (aT 6 (dQ u0 (a5 (kE (.int 0)) (a5 (ixE (vE 8) (aH a9 (a5 (vE 0) (a5 (opE aS (vE 3) (kE (.int 4000))) (a5 (kE (.int 6)) ao))))) ao))))))
  bc)
 (aE (ifS (b8 eqB (aH a9 (a5 (vE 0) (a5 (opE aS (vE 3) (kE (.int 5000))) (a5 (kE (.int 12)) ao)))) (kE (.int 0)))
  (aT 6 (opE aS (vE 6) (kE (.int 1))))
  bc)
 (aE (ifS (b8 eqB (aH a9 (a5 (vE 0) (a5 (opE aS (vE 3) (kE (.int 5500))) (a5 (kE (.int 25)) ao)))) (kE (.int 0)))
  (aT 6 (opE p9 (kE (.int 10)) (kE (.int 9))))
  bc)
 (retS (vE 6))))))))
noncomputable def jh:List D→Option D:=dW 9 4 kJ
noncomputable def iC:DS:=
 (aE (aT 4 (ixE (ixE (ixE (ixE (vE 1) (kE (.int 1))) (ixE (ixE (ixE (vE 1) (kE (.int 3))) (vE 2)) (kE (.int 2)))) (kE (.int 1))) (kE (.int 0))))
 (aE (aT 5 (opE dB (vE 4) (opE aS (kE (.int 1)) (aH a9 (a5 (vE 0) (a5 (opE aS (vE 3) (kE (.int 6000))) (a5 (kE (.int 8)) ao)))))))
 (aE (aT 6 (fQ (a5 (kE (.int 0)) (a5 (unE CM (vE 5)) (a5 (opE aS (vE 5) (kE (.int 1))) (a5 (opE p9 (kE (.int 10)) (kE (.int 9))) (a5 (opE dB (vE 4) (kE (.int 2001))) (a5 (unE CM (kE (.int 1))) ao))))))))
 (aE (ifS (b8 eqB (aH a9 (a5 (vE 0) (a5 (opE aS (vE 3) (kE (.int 7000))) (a5 (kE (.int 14)) ao)))) (kE (.int 0)))
  (retS (ixE (vE 6) (aH a9 (a5 (vE 0) (a5 (opE aS (vE 3) (kE (.int 8000))) (a5 (kE (.int 6)) ao))))))
  bc)
 (retS (vE 5))))))
noncomputable def fc:List D→Option D:=dW 7 4 iC
noncomputable def cA:DS:=
 (aE (aT 6 (bD (a5 (aH a9 (a5 (vE 0) (a5 (opE aS (kE (.int 900)) (vE 5)) (a5 (dQ cV (a5 (ixE (vE 1) (kE (.int 0))) ao)) ao)))) (a5 (opE dB (vE 3) (aH a9 (a5 (vE 0) (a5 (opE aS (kE (.int 920)) (vE 5)) (a5 (kE (.int 50)) ao))))) ao))))
 (aE (ifS (kz (b8 ltB (vE 5) (dQ cV (a5 (ixE (vE 1) (kE (.int 0))) ao))) (b8 eqB (aH a9 (a5 (vE 0) (a5 (kE (.int 980)) (a5 (kE (.int 2)) ao)))) (kE (.int 0))))
  (aT 6 (bD (a5 (vE 5) (a5 (kE (.int 0)) ao))))
  bc)
 (w6 4 (vE 6) (ixE (fQ (a5 (opE aS (kE (.int 1)) (aH a9 (a5 (vE 0) (a5 (opE aS (kE (.int 940)) (vE 5)) (a5 (kE (.int 200)) ao))))) (a5 (opE p9 (kE (.int 10)) (kE (.int 6))) ao))) (opE mP (aH a9 (a5 (vE 0) (a5 (opE aS (kE (.int 960)) (vE 5)) (a5 (kE (.int 8)) ao)))) (kE (.int 7)))))))
noncomputable def gG:DS:=
 (aE (aT 3 (ixE (fQ (a5 (kE (.int 1)) (a5 (kE (.int 1)) (a5 (kE (.int 1)) (a5 (kE (.int 1)) (a5 (kE (.int 1)) (a5 (opE p9 (kE (.int 10)) (kE (.int 6))) ao))))))) (aH a9 (a5 (vE 0) (a5 (kE (.int 1)) (a5 (kE (.int 6)) ao))))))
 (aE (aT 4 (r9))
 (aE (gV none (ij (vE 2)) (gN 5)
  cA)
 (retS (dQ iY (a5 (dQ sortedS (a5 (pf bO 4 2 [] (gT [0,1]) j0 (bD (a5 (ixE (vE 0) (kE (.int 0))) (a5 (ixE (vE 0) (kE (.int 1))) (a5 (vE 1) ao))))) ao)) ao))))))
noncomputable def fC:List D→Option D:=dW 7 3 gG
noncomputable def cB:DS:=
 (aE (aT 5 (aH a9 (a5 (vE 0) (a5 (opE aS (kE (.int 1000)) (vE 4)) (a5 (dQ cV (a5 (ixE (vE 1) (kE (.int 3))) ao)) ao)))))
 (aE (aT 6 (bD (a5 (vE 5) (a5 (aH jh (a5 (vE 0) (a5 (vE 1) (a5 (vE 5) (a5 (opE aS (kE (.int 1100)) (vE 4)) ao))))) ao))))
 (aE (w6 3 (vE 6) (aH fc (a5 (vE 0) (a5 (vE 1) (a5 (vE 5) (a5 (opE aS (kE (.int 1100)) (vE 4)) ao))))))
 (ifS (b8 eqB (aH a9 (a5 (vE 0) (a5 (opE aS (kE (.int 1050)) (vE 4)) (a5 (kE (.int 40)) ao)))) (kE (.int 0)))
  (w6 3 (vE 6) (opE aS (opE p9 (kE (.int 10)) (kE (.int 40))) (vE 4)))
  bc))))
noncomputable def gH:DS:=
 (aE (aT 3 (r9))
 (aE (gV none (ij (vE 2)) (gN 4)
  cB)
 (retS (dQ iY (a5 (dQ sortedS (a5 (pf bO 3 2 [] (gT [0,1]) j0 (bD (a5 (ixE (vE 0) (kE (.int 0))) (a5 (ixE (vE 0) (kE (.int 1))) (a5 (vE 1) ao))))) ao)) ao)))))
noncomputable def fD:List D→Option D:=dW 7 3 gH
noncomputable def gZ:DS:=
 (ifS (kz (b8 eqB (ixE (vE 4) (kE (.int 0))) (vE 1)) (b8 leB (ixE (vE 4) (kE (.int 1))) (vE 2)))
  (aT 3 (ixE (vE 4) (kE (.int 2))))
  bc)
noncomputable def iD:DS:=
 (aE (aT 3 (kE .non))
 (aE (gV (some 0) (ll (vE 0)) (gN 4)
  gZ)
 (retS (vE 3))))
noncomputable def kK:List D→Option D:=dW 5 3 iD
noncomputable def kL:DS:=
 (ifS (kz (b8 leB (opE lj (opE aS (ixE (vE 0) (kE (.int 1))) (opE dB (vE 2) (ixE (vE 0) (kE (.int 2))))) (ixE (vE 0) (kE (.int 4)))) (vE 1)) (b8 leB (vE 1) (opE aS (opE aS (ixE (vE 0) (kE (.int 1))) (opE dB (vE 2) (ixE (vE 0) (kE (.int 2))))) (ixE (vE 0) (kE (.int 5))))))
  (retS (vE 2))
  bc)
noncomputable def k8:DS:=
 (aE (gV none (ij (ixE (vE 0) (kE (.int 3)))) (gN 2)
  kL)
 (retS (kE .non)))
noncomputable def pG:List D→Option D:=dW 3 2 k8
noncomputable def cR:DS:=
 (aE (aT 6 (ixE (ixE (vE 0) (kE (.int 3))) (vE 3)))
 (aE (aT 7 (ixE (ixE (vE 0) (kE (.int 1))) (ixE (vE 6) (kE (.int 2)))))
 (aE (ifS (orT (kz (b8 eqB (ixE (ixE (vE 6) (kE (.int 4))) (kE (.int 0))) (kE (.str "asked"))) (b8 ltB (vE 4) (ixE (ixE (vE 6) (kE (.int 4))) (kE (.int 1))))) (kz (b8 eqB (ixE (ixE (vE 6) (kE (.int 4))) (kE (.int 0))) (kE (.str "due"))) (b8 nF (aH pG (a5 (ixE (vE 6) (kE (.int 4))) (a5 (vE 4) ao))) (kE .non))))
  (jq 2 (bD (a5 (kE (.str "astray")) (a5 (vE 3) (a5 (vE 4) ao)))))
  bc)
 (aE (ifS (b8 gtB (vE 5) (ixE (ixE (vE 6) (kE (.int 3))) (kE (.int 3))))
  (jq 2 (bD (a5 (kE (.str "most")) (a5 (vE 3) (a5 (vE 4) ao)))))
  bc)
 (aE (ifS (orT (b8 ltB (vE 5) (kE (.int 1))) (b8 neB (opE qF (vE 5) (ixE (ixE (vE 7) (kE (.int 1))) (kE (.int 0)))) (kE (.int 0))))
  (jq 2 (bD (a5 (kE (.str "part")) (a5 (vE 3) (a5 (vE 4) ao)))))
  bc)
 (aE (aT 8 (mR none 1 [] (ll (ixE (vE 7) (kE (.int 2)))) (gN 0) (b8 eqB (ixE (vE 0) (kE (.int 0))) (kE (.str "kilo"))) (vE 0)))
 (aE (ifS (kz (b8 gtB (dQ cV (a5 (vE 8) ao)) (kE (.int 0))) (b8 nF (aH kK (a5 (ixE (vE 1) (kE (.int 0))) (a5 (ixE (vE 6) (kE (.int 1))) (a5 (vE 4) ao)))) (kE .non)))
  (jq 2 (bD (a5 (kE (.str "weight")) (a5 (vE 3) (a5 (vE 4) ao)))))
  bc)
 (ifS (b8 ltB (vE 4) (opE aS (ixE (ixE (ixE (vE 0) (kE (.int 0))) (ixE (vE 6) (kE (.int 1)))) (kE (.int 1))) (ixE (vE 7) (kE (.int 3)))))
  (jq 2 (bD (a5 (kE (.str "young")) (a5 (vE 3) (a5 (vE 4) ao)))))
  bc))))))))
noncomputable def iE:DS:=
 (aE (aT 2 (fQ ao))
 (aE (gV none (ll (ixE (vE 1) (kE (.int 1)))) (gT [3,4,5])
  cR)
 (retS (vE 2))))
noncomputable def g9:List D→Option D:=dW 9 2 iE
noncomputable def jx:DS:=
 (retS (bE (kz (CN "int" (vE 0)) (uN (CN "bool" (vE 0))))))
noncomputable def jy:List D→Option D:=dW 1 1 jx
noncomputable def dE:DS:=
 (ifS (uN (vZ (aH jy (a5 (vE 2) ao))))
  (retS (kE (.bl false)))
  bc)
noncomputable def fG:DS:=
 (aE (ifS (orT (uN (vZ (bE (CN "tuple" (vE 1))))) (orT (b8 ltB (dQ cV (a5 (vE 1) ao)) (kE (.int 3))) (uN (vZ (bE (CN "str" (ixE (vE 1) (kE (.int 0)))))))))
  (retS (kE (.bl false)))
  bc)
 (gV none (ll (slE (vE 1) (En (kE (.int 1))) noO)) (gN 2)
  dE))
noncomputable def iF:DS:=
 (aE (ifS (uN (vZ (bE (CN "list" (vE 0)))))
  (retS (kE (.bl false)))
  bc)
 (aE (gV (some 0) (ll (vE 0)) (gN 1)
  fG)
 (retS (kE (.bl true)))))
noncomputable def gc:List D→Option D:=dW 3 1 iF
noncomputable def Fx:DS:=
 (aE (aT 1 (aH gS (a5 (vE 0) ao)))
 (aE (aT 2 (bD (a5 (aH fC (a5 (vE 0) (a5 (vE 1) (a5 (aH a9 (a5 (vE 0) (a5 (kE (.int 11)) (a5 (kE (.int 9)) ao)))) ao)))) (a5 (bD ao) ao))))
 (aE (aT 2 (bD (a5 (ixE (vE 2) (kE (.int 0))) (a5 (aH fD (a5 (vE 0) (a5 (vE 1) (a5 (opE aS (dQ nU (a5 (dQ cV (a5 (vE 0) ao)) (a5 (kE (.int 30)) ao))) (aH a9 (a5 (vE 0) (a5 (kE (.int 12)) (a5 (kE (.int 4)) ao))))) ao)))) ao))))
 (aE (aT 3 (aH lS (a5 (vE 1) (a5 (vE 2) ao))))
 (aE (ifS (uN (vZ (aH gc (a5 (vE 3) ao))))
  (retS (kE (.bl false)))
  bc)
 (aE (aT 4 (fQ (a5 (kE (.str "astray")) (a5 (kE (.str "most")) (a5 (kE (.str "part")) (a5 (kE (.str "weight")) (a5 (kE (.str "young")) ao)))))))
 (retS (bE (b8 eqB (mR (some 3) 1 [4] (ll (vE 3)) (gN 0) (b8 inB (ixE (vE 0) (kE (.int 0))) (vE 1)) (vE 0)) (dQ fT (a5 (aH g9 (a5 (vE 1) (a5 (vE 2) ao))) ao)))))))))))
noncomputable def rY:List D→Option D:=dW 5 1 Fx
end Den
namespace Maths
open DL Den PySem
noncomputable def cell(ns:List Int)(k:Int):Int:=if ns.length=0 then 0 else ns[(k%ns.length).toNat]?.getD 0%1000003
noncomputable def draw(ns:List Int)(k m:Int):Int:=(cell ns k+1)*(k*k+k+41)%999983*48271%2147483647/11%m
theorem HY(ns:List Int)(k:Int):0≤cell ns k∧cell ns k<1000003:=by
 unfold cell
 split
 ·omega
 ·exact⟨Int.emod_nonneg _ (by omega),Gdt _ (by omega)⟩
theorem b5(ns:List Int)(k m:Int)(hm:0<m):0≤draw ns k m∧draw ns k m<m:=⟨Int.emod_nonneg _ (by omega),Gdt _ hm⟩
theorem HZ{ns:List Int}{k:Int}(h:0<ns.length):atD ns (k%ns.length)=some (ns[(k%ns.length).toNat]?.getD 0):=by
 unfold atD
 have h1:0≤k%(ns.length:Int):=Int.emod_nonneg _ (by omega)
 have h2:k%(ns.length:Int)<ns.length:=Gdt _ (by omega)
 rw[Gaf h1]
 have h3:(k%(ns.length:Int)).toNat<ns.length:=by omega
 simp[h3]
theorem bQ{i j:Int}(h: -18446744073709551616<i)(h2:i<18446744073709551616):ck i j=true:=by
 unfold ck
 rw[GaW]
 exact .inl (GaK (by omega))
theorem ot{i j:Int}(h: -18446744073709551616<j)(h2:j<18446744073709551616):ck i j=true:=by
 unfold ck
 rw[GaW]
 exact .inr (GaK (by omega))
theorem aR{ns:List Int}{k m:Int}(hk:0≤k)(hk2:k<1000000)(hm:0<m):a9 [.scr ns,.int k,.int m]=some (.int (draw ns k m)):=by
 have c:=HY ns k
 have e1:ck k k=true:=bQ (by omega) (by omega)
 have e2:∀j,ck (cell ns k+1) j=true:=λj=>bQ (by omega) (by omega)
 have e3:∀i,ck i 48271=true:=λi=>ot (by omega) (by omega)
 unfold a9 aq
 by_cases h:0<ns.length
 ·have hc:cell ns k=ns[(k%ns.length).toNat]?.getD 0%1000003:=by unfold cell;rw[Gah (by omega)]
  have h' :(0:Int)<ns.length:=by omega
  simp[h,h',HZ h,e1,e3,hm,←hc]
  simp[e2,e3,hm,draw]
 ·have hc:cell ns k=0:=by unfold cell;rw[Gaf (by omega)]
  have h' :¬(0:Int)<ns.length:=by omega
  simp[h,h',e1,e3,hm]
  have:=e2 (k*k+k+41)
  rw[hc] at this
  simp at this
  simp[this,e3,hm,draw,hc]
theorem um{g:DG}{body:DS}(mk:Option Slot→DL.Env)(r:D→Option D)(hg:∀d x,g d (mk x)=some (mk (some (.sh d)))):∀(ds:List D) (x:Option Slot),
  (∀d∈ds,body (mk (some (.sh d)))=some (match r d with|some v=> .ret v|none=> .nx (mk (some (.sh d)))))→∃y,forL g body ds (mk x)=some (match ds.findSome? r with|some v=> .ret v|none=> .nx (mk y))
 |[],x,_=> ⟨x,rfl⟩
 |d::ds,x,h=>by
  have h1:=h d Gan
  cases hr:r d with
  |some v=>
   rw[hr] at h1
   exact⟨x,by simp[forL,hg,h1,List.findSome?_cons,hr]⟩
  |none=>
   rw[hr] at h1
   obtain⟨y,hy⟩:=um mk r hg ds (some (.sh d)) λd' hd=>h d' (Gag _ hd)
   exact⟨y,by simp[forL,hg,h1,List.findSome?_cons,hr,hy]⟩
theorem cF{i:Int}(h1: -4611686018427387904≤i)(h2:i<4611686018427387904):cn i=true:=by
 unfold cn
 rw[Gas]
 exact⟨GaK h1,GaK h2⟩
theorem gf{g:DG}{body:DS}(I:Nat→DL.Env→Prop):∀(ds:List D) (k:Nat) (env:DL.Env),I k env→(∀(i:Nat) d e,ds[i]? =some d→I (k+i) e→∃e1 e2,g d e=some e1∧body e1=some (.nx e2)∧I (k+i+1) e2)→∃e,forL g body ds env=some (.nx e)∧I (k+ds.length) e
 |[],k,env,h,_=> ⟨env,rfl,h⟩
 |d::ds,k,env,h,st=>by
  obtain⟨e1,e2,h1,h2,h3⟩:=st 0 d env rfl h
  obtain⟨e,h4,h5⟩:=gf I ds (k+1) e2 h3 λi d' e' hd hI=>by
   have:=st (i+1) d' e' (by simpa using hd) (by rw[show k+(i+1)=k+1+i by omega];exact hI)
   rw[show k+(i+1)+1=k+1+i+1 by omega] at this
   exact this
  refine⟨e,by simp[forL,h1,h2,h4], ?_⟩
  rw[show k+(d::ds).length=k+1+ds.length by simp;omega]
  exact h5
theorem cG{lo:Int}{n i:Nat}{d:D}(h:(bB lo n)[i]? =some d):i<n∧d= .int (lo+i):=by
 unfold bB at h
 rw[Gal] at h
 by_cases hi:i<n
 ·rw[List.getElem?_range hi] at h;cases h;exact⟨hi,rfl⟩
 ·rw[Gbk (by simp;omega)] at h;cases h
theorem gz{lo:Int}{n:Nat}:(bB lo n).length=n:=by simp[bB]
theorem k9{α:Type}{g:DG}{t:DT}{f:DE}(emb:α→D)(C:DL.Env→Prop)(p:α→Bool)(r:α→D):∀(xs:List α) (e:DL.Env),C e→
  (∀x∈xs,∀e,C e→∃e',g (emb x) e=some e' ∧C e' ∧t e' =some (p x)∧(p x=true→∃k,f e' =some ⟨k,r x⟩∧RV.free ⟨k,r x⟩=true))→cy g t f (xs.map emb) e=some ((xs.filter p).map r)
 |[],e,_,_=>rfl
 |d::ds,e,h,st=>by
  obtain⟨e',h1,h2,h3,h4⟩:=st d Gan e h
  have ih:=k9 emb C p r ds e' h2 λd' hd=>st d' (Gag _ hd)
  cases q:p d with
  |false=>simp[cy,h1,h3,q,ih]
  |true=>
   obtain⟨k,h5,h6⟩:=h4 q
   simp[cy,h1,h3,q,h5,h6,ih]
theorem ka{α:Type}{g:DG}{f:DE}(emb:α→D)(C:DL.Env→Prop)(r:α→D)(xs:List α)(e:DL.Env)(h:C e)
  (st:∀x∈xs,∀e,C e→∃e',g (emb x) e=some e' ∧C e' ∧∃k,f e' =some ⟨k,r x⟩∧RV.free ⟨k,r x⟩=true):cy g j0 f (xs.map emb) e=some (xs.map r):=by
 have:=k9 (g:=g) (t:=j0) (f:=f) emb C (λ_=>true) r xs e h (λx hx e he=>by
  obtain⟨e',h1,h2,h3⟩:=st x hx e he
  exact⟨e',h1,h2,rfl,λ_=>h3⟩)
 rw[List.filter_eq_self.mpr λ_ _=>rfl] at this
 exact this
theorem Di(bs:List Bool):uO (bs.map D.bl)=some bs:=by
 induction bs with
 |nil=>rfl
 |cons b bs ih=>simp[ih]
theorem Dj(bs:List Int):BA (bs.map D.int)=some bs:=by
 induction bs with
 |nil=>rfl
 |cons b bs ih=>simp[ih]
@[simp] theorem MV(bs:List Bool):anyS [.lst (bs.map D.bl)]=some ⟨.c,.bl (bs.any id)⟩:=by
 simp[anyS,one,mQ,Di]
theorem Fy(hs:List Int):lF (hs.map D.int) (hs.map D.int)=true:=by
 induction hs with
 |nil=>rfl
 |cons b bs ih=>simp[ih]
theorem B9(n:Nat)(hs:List Int):(hs.map D.int).all (av n)=true:=by
 induction hs with
 |nil=>rfl
 |cons b bs ih=>simp[ih]
theorem ou(hs:List Int):aP (hs.map D.int)=true:=by
 induction hs with
 |nil=>rfl
 |cons b bs ih=>simp[ih]
theorem ar{f g:DS}{env e:DL.Env}(h:f env=some (.nx e)):aE f g env=g e:=by simp[aE,h]
theorem vk{f g:DS}{env:DL.Env}{d:D}(h:f env=some (.ret d)):aE f g env=some (.ret d):=by simp[aE,h]
theorem bf{n np:Nat}{body:DS}{ds:List D}{d:D}(hl:ds.length=np)(h:body (bq n ds)=some (.ret d)):dW n np body ds=some d:=by
 unfold dW;rw[Gaf hl,h];rfl
theorem MW{t:DT}{f g:DS}{env:DL.Env}(h:t env=some true):ifS t f g env=f env:=by simp[ifS,h]
inductive Cap where
 |flat (h t:Int)
 |kilo (h t p:Int)
 |ever (t:Int)
noncomputable def bM:Cap→D
 | .flat h t=> .tup [.str "flat",.int h,.int t]
 | .kilo h t p=> .tup [.str "kilo",.int h,.int t,.int p]
 | .ever t=> .tup [.str "ever",.int t]
def q9:Cap→Prop
 | .flat h t=>1≤h∧1≤t∧t≤3100000
 | .kilo h t p=>1≤h∧1≤t∧t≤3100000∧1≤p∧p≤40
 | .ever t=>1≤t∧t≤6200000
theorem wW(c:Cap):(bM c).imm=true:=by cases c<;>simp[bM]
theorem rZ(cs:List Cap):aP (cs.map bM)=true:=by
 induction cs with
 |nil=>rfl
 |cons c cs ih=>
  have:=wW c
  simp[this] at ih⊢
  exact ih
theorem pH{a b A B:Int}(h0:0≤a)(h1:a≤A)(h2:0≤b)(h3:b≤B):a*b≤A*B:=
 Int.le_trans (Int.mul_le_mul_of_nonneg_right h1 h2) (Int.mul_le_mul_of_nonneg_left h3 (by omega))
theorem gA{a b:Int}(h0:1≤a)(h1:1≤b):1≤a*b:=by
 have:=Int.mul_le_mul h0 h1 (by omega) (by omega)
 omega
theorem Dk{ns:List Int}{k part scale c:Int}{cs:List Cap}{x6 x7 x8 x9:Option Slot}(hk:0≤k)(hk2:k<10000)(hp:1≤part)(hp2:part≤100000)(hs:1≤scale)(hs2:scale≤1000000)(hc:0≤c)(hc2:c≤10)(hl:cs.length≤100):
  ∃cap y6 y7 y8 y9,q9 cap∧fw [some (.sh (.scr ns)),some (.sh (.int k)),some (.sh (.int part)),some (.sh (.int scale)),some (.own (.lst (cs.map bM))),some (.sh (.int c)),x6,x7,x8,x9]=
   some (.nx [some (.sh (.scr ns)),some (.sh (.int k)),some (.sh (.int part)),some (.sh (.int scale)),some (.own (.lst ((cs++[cap]).map bM))),some (.sh (.int c)),y6,y7,y8,y9]):=by
 have m4:ck 4 c=true:=bQ (by omega) (by omega)
 generalize hat:k+1+4*c=t
 have ht:0≤t:=by omega
 have ht2:t<20000:=by omega
 have d0:=aR (ns:=ns) (k:=t) (m:=30) (by omega) (by omega) (by omega)
 have d2:=aR (ns:=ns) (k:=t+2) (m:=3) (by omega) (by omega) (by omega)
 have d1:=aR (ns:=ns) (k:=t+1) (m:=30) (by omega) (by omega) (by omega)
 have d1b:=aR (ns:=ns) (k:=t+1) (m:=9) (by omega) (by omega) (by omega)
 have d1c:=aR (ns:=ns) (k:=t+1) (m:=60) (by omega) (by omega) (by omega)
 have d3:=aR (ns:=ns) (k:=t+3) (m:=40) (by omega) (by omega) (by omega)
 have l0:=b5 ns t 30 (by omega)
 have l2:=b5 ns (t+2) 3 (by omega)
 have l1:=b5 ns (t+1) 30 (by omega)
 have l1b:=b5 ns (t+1) 9 (by omega)
 have l1c:=b5 ns (t+1) 60 (by omega)
 have l3:=b5 ns (t+3) 40 (by omega)
 have ms:∀j,ck scale j=true:=λj=>bQ (by omega) (by omega)
 have mp:∀j,ck part j=true:=λj=>bQ (by omega) (by omega)
 generalize draw ns t 30=q0 at*
 generalize draw ns (t+2) 3=q2 at*
 generalize draw ns (t+1) 30=q1 at*
 generalize draw ns (t+1) 9=q1b at*
 generalize draw ns (t+1) 60=q1c at*
 generalize draw ns (t+3) 40=q3 at*
 have hz:(cs.map bM).length<16777216:=by rw[Gae];omega
 have ih:=gA (a:=scale) (b:=1+q0) hs (by omega)
 have e1:∀cap,(cs++[cap]).map bM=cs.map bM++[bM cap]:=λcap=>by simp
 generalize cs.map bM=C at*
 have q:q2=0∨q2=1∨q2=2:=by omega
 unfold fw
 rcases q with rfl|rfl|rfl
 ·refine⟨.flat (scale*(1+q0)) (part*(1+q1)),some (.sh (.int t)),some (.sh (.int (scale*(1+q0)))),some (.sh (.int 0)),x9,⟨ih,gA hp (by omega), ?_⟩, ?_⟩
  ·have:=pH (a:=part) (b:=1+q1) (A:=100000) (B:=30) (by omega) hp2 (by omega) (by omega)
   omega
  ·rw[e1]
   simp[m4,hat,d0,d2,d1,ms,mp,ai,hz,bM]
 ·refine⟨.kilo (scale*(1+q0)) (part*(1+q1b)) (1+q3),some (.sh (.int t)),some (.sh (.int (scale*(1+q0)))),some (.sh (.int 1)),some (.sh (.int (part*(1+q1b)))),⟨ih,gA hp (by omega), ?_,by omega,by omega⟩, ?_⟩
  ·have:=pH (a:=part) (b:=1+q1b) (A:=100000) (B:=9) (by omega) hp2 (by omega) (by omega)
   omega
  ·rw[e1]
   simp[m4,hat,d0,d2,d1b,d3,ms,mp,ai,hz,bM]
 ·refine⟨.ever (part*(2+q1c)),some (.sh (.int t)),some (.sh (.int (scale*(1+q0)))),some (.sh (.int 2)),x9,⟨gA hp (by omega), ?_⟩, ?_⟩
  ·have:=pH (a:=part) (b:=2+q1c) (A:=100000) (B:=61) (by omega) hp2 (by omega) (by omega)
   omega
  ·rw[e1]
   simp[m4,hat,d0,d2,d1c,ms,mp,ai,hz,bM]
theorem at6{a b c d e f:Int}{q:Int}(h:0≤q)(h2:q<6):∃v,(v=a∨v=b∨v=c∨v=d∨v=e∨v=f)∧atD [D.int a,.int b,.int c,.int d,.int e,.int f] q=some (.int v):=by
 have:q=0∨q=1∨q=2∨q=3∨q=4∨q=5:=by omega
 rcases this with rfl|rfl|rfl|rfl|rfl|rfl
 ·exact⟨a,.inl rfl,rfl⟩
 ·exact⟨b,.inr (.inl rfl),rfl⟩
 ·exact⟨c,.inr (.inr (.inl rfl)),rfl⟩
 ·exact⟨d,.inr (.inr (.inr (.inl rfl))),rfl⟩
 ·exact⟨e,.inr (.inr (.inr (.inr (.inl rfl)))),rfl⟩
 ·exact⟨f,.inr (.inr (.inr (.inr (.inr rfl)))),rfl⟩
theorem Fz{ns:List Int}{k part scale q n:Int}{C:List D}{y5 y6 y7 y8 y9:Option Slot}(d:a9 [.scr ns,.int k,.int 6]=some (.int q))(ea:atD [D.int 0,.int 1,.int 1,.int 2,.int 3,.int 4] q=some (.int n))(sm:cn n=true)
  (h1:forL (gN 5) fw (bB 0 n.toNat) [some (.sh (.scr ns)),some (.sh (.int k)),some (.sh (.int part)),some (.sh (.int scale)),some (.own (.lst [])),none,none,none,none,none]=some (.nx [some (.sh (.scr ns)),some (.sh (.int k)),some (.sh (.int part)),some (.sh (.int scale)),some (.own (.lst C)),y5,y6,y7,y8,y9]))(im:aP C=true):
  jd [.scr ns,.int k,.int part,.int scale]=some (.tup C):=by
 refine bf rfl ?_
 unfold kH
 refine(ar (e:=[some (.sh (.scr ns)),some (.sh (.int k)),some (.sh (.int part)),some (.sh (.int scale)),some (.own (.lst [])),none,none,none,none,none]) (by simp[bq,ai])).trans ?_
 refine(ar (e:=[some (.sh (.scr ns)),some (.sh (.int k)),some (.sh (.int part)),some (.sh (.int scale)),some (.own (.lst C)),y5,y6,y7,y8,y9]) (by simp[-forL,d,ea,sm,h1,ai])).trans ?_
 simp[im]
theorem Kq{ns:List Int}{k part scale:Int}(hk:0≤k)(hk2:k<10000)(hp:1≤part)(hp2:part≤100000)(hs:1≤scale)(hs2:scale≤1000000):∃cs:List Cap,cs.length≤4∧(∀c∈cs,q9 c)∧jd [.scr ns,.int k,.int part,.int scale]=some (.tup (cs.map bM)):=by
 have d:=aR (ns:=ns) (k:=k) (m:=6) (by omega) (by omega) (by omega)
 have l:=b5 ns k 6 (by omega)
 generalize draw ns k 6=q at*
 obtain⟨n,hn,ea⟩:=at6 (a:=0) (b:=1) (c:=1) (d:=2) (e:=3) (f:=4) l.1 l.2
 obtain⟨e,h1,cs,y5,y6,y7,y8,y9,h2,h3,rfl⟩:=gf (g:=gN 5) (body:=fw) (λm env=>∃(cs:List Cap) (y5 y6 y7 y8 y9:Option Slot),cs.length=m∧(∀c∈cs,q9 c)∧env=[some (.sh (.scr ns)),some (.sh (.int k)),some (.sh (.int part)),some (.sh (.int scale)),some (.own (.lst (cs.map bM))),y5,y6,y7,y8,y9]) (bB 0 n.toNat) 0
  [some (.sh (.scr ns)),some (.sh (.int k)),some (.sh (.int part)),some (.sh (.int scale)),some (.own (.lst [])),none,none,none,none,none] ⟨[],none,none,none,none,none,rfl,by simp,rfl⟩ (by
   rintro i d e hd ⟨cs,y5,y6,y7,y8,y9,h2,h3,rfl⟩
   obtain⟨hi,rfl⟩:=cG hd
   obtain⟨cap,z6,z7,z8,z9,hc,h⟩:=Dk (ns:=ns) (k:=k) (part:=part) (scale:=scale) (c:=0+(i:Int)) (cs:=cs) (x6:=y6) (x7:=y7) (x8:=y8) (x9:=y9) hk hk2 hp hp2 hs hs2 (by omega) (by omega) (by omega)
   refine⟨_,_,rfl,h,cs++[cap],some (.sh (.int (0+(i:Int)))),z6,z7,z8,z9,by simp[h2],λx hx=> ?_,rfl⟩
   rcases Gaw.mp hx with hx|hx
   ·exact h3 x hx
   ·simp at hx;rw[hx];exact hc)
 rw[gz] at h2
 exact⟨cs,by omega,h3,Fz d ea (cF (by omega) (by omega)) h1 (rZ cs)⟩
theorem bZ{d:D}(h:d.imm=true):ku d=⟨.c,d⟩:=by
 unfold ku
 have:d.top=false:=by cases d<;>simp[D.imm] at h<;>rfl
 rw[this];rfl
structure i9 where
 name:Str
 part:Int
 more:List Int
 aO:List Cap
 young:Int
noncomputable def aV(s:i9):D:= .tup [.str s.name,.tup ((s.part::s.more).map .int),.tup (s.aO.map bM),.int s.young]
structure kM(s:i9):Prop where
 p1:1≤s.part
 p2:s.part≤100000
 cl:s.aO.length≤4
 ok:∀c∈s.aO,q9 c
 y0:0≤s.young
theorem jk(s:i9):(aV s).imm=true:=by
 have h1:=rZ s.aO
 have h2:=ou (s.part::s.more)
 simp[aV] at h2⊢
 exact⟨h2,h1⟩
theorem gh{α:Type}{f:α→D}(h:∀a,(f a).imm=true):∀l:List α,aP (l.map f)=true
 |[]=>rfl
 |a::l=>by
  have h1:=h a
  have h2:=gh h l
  rw[Gau]
  simp[h1,h2]
theorem FA{i:Nat}(h:i<6):∃c,atD (Str.ofString "abcdef").cps.toList (i:Int)=some c:=by
 match i,h with
 |0,_=>exact⟨_,rfl⟩
 |1,_=>exact⟨_,rfl⟩
 |2,_=>exact⟨_,rfl⟩
 |3,_=>exact⟨_,rfl⟩
 |4,_=>exact⟨_,rfl⟩
 |5,_=>exact⟨_,rfl⟩
theorem Dl{i:Nat}(h:i<12):∃c,atD (Str.ofString "abcdefghijkl").cps.toList (i:Int)=some c:=by
 match i,h with
 |0,_=>exact⟨_,rfl⟩
 |1,_=>exact⟨_,rfl⟩
 |2,_=>exact⟨_,rfl⟩
 |3,_=>exact⟨_,rfl⟩
 |4,_=>exact⟨_,rfl⟩
 |5,_=>exact⟨_,rfl⟩
 |6,_=>exact⟨_,rfl⟩
 |7,_=>exact⟨_,rfl⟩
 |8,_=>exact⟨_,rfl⟩
 |9,_=>exact⟨_,rfl⟩
 |10,_=>exact⟨_,rfl⟩
 |11,_=>exact⟨_,rfl⟩
theorem at5{a b c d e:Int}{q:Int}(h:0≤q)(h2:q<5):∃v,(v=a∨v=b∨v=c∨v=d∨v=e)∧atD [D.int a,.int b,.int c,.int d,.int e] q=some (.int v):=by
 have:q=0∨q=1∨q=2∨q=3∨q=4:=by omega
 rcases this with rfl|rfl|rfl|rfl|rfl
 ·exact⟨a,.inl rfl,rfl⟩
 ·exact⟨b,.inr (.inl rfl),rfl⟩
 ·exact⟨c,.inr (.inr (.inl rfl)),rfl⟩
 ·exact⟨d,.inr (.inr (.inr (.inl rfl))),rfl⟩
 ·exact⟨e,.inr (.inr (.inr (.inr rfl))),rfl⟩
theorem at2{a b q:Int}(h:0≤q)(h2:q<2):∃v,(v=a∨v=b)∧atD [D.int a,.int b] q=some (.int v):=by
 have:q=0∨q=1:=by omega
 rcases this with rfl|rfl
 ·exact⟨a,.inl rfl,rfl⟩
 ·exact⟨b,.inr rfl,rfl⟩
theorem FC{p q:Int}(h:0≤q)(h2:q<3):∃ms:List Int,atD [D.tup [.int p],.tup [.int p,.int (2*p)],.tup [.int p,.int (3*p),.int (7*p)]] q=some (.tup ((p::ms).map .int)):=by
 have:q=0∨q=1∨q=2:=by omega
 rcases this with rfl|rfl|rfl
 ·exact⟨[],rfl⟩
 ·exact⟨[2*p],rfl⟩
 ·exact⟨[3*p,7*p],rfl⟩
theorem FD{ns:List Int}{scale j k part qa qb qc qd young y0:Int}{S C:List D}{sz:D}{ch:Nat}{x4 x5 x6 x7:Option Slot}(mk:ck 30 j=true)(hk:100+30*j=k)(da:a9 [.scr ns,.int k,.int 5]=some (.int qa))(pa:atD [D.int 1,.int 2,.int 5,.int 12,.int 100000] qa=some (.int part))(m2:ck 2 part=true)(m3:ck 3 part=true)(m7:ck 7 part=true)
  (db:a9 [.scr ns,.int (k+1),.int 3]=some (.int qb))(sb:atD [D.tup [.int part],.tup [.int part,.int (2*part)],.tup [.int part,.int (3*part),.int (7*part)]] qb=some sz)(isz:sz.imm=true)(dc:a9 [.scr ns,.int (k+2),.int 2]=some (.int qc))(yc:atD [D.int 0,.int scale] qc=some (.int y0))(dd:a9 [.scr ns,.int (k+3),.int 20]=some (.int qd))(my:ck y0 qd=true)(hy:y0*qd=young)
  (hch:atD (Str.ofString "abcdef").cps.toList j=some ch)(ec:jd [.scr ns,.int (k+5),.int part,.int scale]=some (.tup C))(ic:aP C=true)(hz:S.length<1000):
  cQ [some (.sh (.scr ns)),some (.sh (.int scale)),some (.own (.lst S)),some (.sh (.int j)),x4,x5,x6,x7]=some (.nx [some (.sh (.scr ns)),some (.sh (.int scale)),some (.own (.lst (S++[.tup [.str ("stuff"++ ⟨#[ch]⟩),sz,.tup C,.int young]]))),some (.sh (.int j)),some (.sh (.int k)),some (.sh (.int part)),some (.sh sz),some (.sh (.int young))]):=by
 have z:S.length<16777216:=by omega
 unfold cQ
 refine(ar (e:=[some (.sh (.scr ns)),some (.sh (.int scale)),some (.own (.lst S)),some (.sh (.int j)),some (.sh (.int k)),x5,x6,x7]) (by simp[mk,hk])).trans ?_
 refine(ar (e:=[some (.sh (.scr ns)),some (.sh (.int scale)),some (.own (.lst S)),some (.sh (.int j)),some (.sh (.int k)),some (.sh (.int part)),x6,x7]) (by simp[da,pa,ai])).trans ?_
 refine(ar (e:=[some (.sh (.scr ns)),some (.sh (.int scale)),some (.own (.lst S)),some (.sh (.int j)),some (.sh (.int k)),some (.sh (.int part)),some (.sh sz),x7]) (by simp[m2,m3,m7,db,sb,isz,ai])).trans ?_
 refine(ar (e:=[some (.sh (.scr ns)),some (.sh (.int scale)),some (.own (.lst S)),some (.sh (.int j)),some (.sh (.int k)),some (.sh (.int part)),some (.sh sz),some (.sh (.int young))]) (by simp[dc,yc,dd,my,hy,ai])).trans ?_
 have rc:=bZ (d:= .tup C) (by simp[ic])
 have w1:(Str.ofString "abcdef").length≤16777216:=by decide
 have w2:(Str.ofString "stuff").length+(⟨#[ch]⟩:Str).length≤16777216:=by
  have:(⟨#[ch]⟩:Str).length=1:=rfl
  rw[this];decide
 simp[hch,w1,w2,ec,rc,isz,ic,ai,z]
theorem Ba{ns:List Int}{scale q n:Int}{S:List D}{y3 y4 y5 y6 y7:Option Slot}(d:a9 [.scr ns,.int 21,.int 6]=some (.int q))(ea:atD [D.int 1,.int 2,.int 3,.int 3,.int 2,.int 6] q=some (.int n))(sm:cn n=true)
  (h1:forL (gN 3) cQ (bB 0 n.toNat) [some (.sh (.scr ns)),some (.sh (.int scale)),some (.own (.lst [])),none,none,none,none,none]=some (.nx [some (.sh (.scr ns)),some (.sh (.int scale)),some (.own (.lst S)),y3,y4,y5,y6,y7]))(im:aP S=true):
  g8 [.scr ns,.int scale]=some (.tup S):=by
 refine bf rfl ?_
 unfold iA
 refine(ar (e:=[some (.sh (.scr ns)),some (.sh (.int scale)),some (.own (.lst [])),none,none,none,none,none]) (by simp[bq,ai])).trans ?_
 refine(ar (e:=[some (.sh (.scr ns)),some (.sh (.int scale)),some (.own (.lst S)),y3,y4,y5,y6,y7]) (by simp[-forL,d,ea,sm,h1,ai])).trans ?_
 simp[im]
theorem Bb{ns:List Int}{scale:Int}{i:Nat}{ss:List i9}{x4 x5 x6 x7:Option Slot}(hs:1≤scale)(hs2:scale≤1000000)(hi:i<6)(hl:ss.length≤100):
  ∃s y4 y5 y6 y7,kM s∧cQ [some (.sh (.scr ns)),some (.sh (.int scale)),some (.own (.lst (ss.map aV))),some (.sh (.int (i:Int))),x4,x5,x6,x7]=some (.nx [some (.sh (.scr ns)),some (.sh (.int scale)),some (.own (.lst ((ss++[s]).map aV))),some (.sh (.int (i:Int))),y4,y5,y6,y7]):=by
 obtain⟨ch,hch⟩:=FA hi
 have hj:(0:Int)≤(i:Int)∧(i:Int)≤5:=by omega
 have hz:(ss.map aV).length<1000:=by rw[Gae];omega
 have e1:∀s,(ss++[s]).map aV=ss.map aV++[aV s]:=λs=>by simp
 generalize (i:Int)=j at*
 generalize ss.map aV=S at*
 generalize hk:100+30*j=k
 have da:=aR (ns:=ns) (k:=k) (m:=5) (by omega) (by omega) (by omega)
 have la:=b5 ns k 5 (by omega)
 have db:=aR (ns:=ns) (k:=k+1) (m:=3) (by omega) (by omega) (by omega)
 have lb:=b5 ns (k+1) 3 (by omega)
 have dc:=aR (ns:=ns) (k:=k+2) (m:=2) (by omega) (by omega) (by omega)
 have lc:=b5 ns (k+2) 2 (by omega)
 have dd:=aR (ns:=ns) (k:=k+3) (m:=20) (by omega) (by omega) (by omega)
 have ld:=b5 ns (k+3) 20 (by omega)
 obtain⟨part,hp,pa⟩:=at5 (a:=1) (b:=2) (c:=5) (d:=12) (e:=100000) la.1 la.2
 obtain⟨ms,sb⟩:=FC (p:=part) lb.1 lb.2
 obtain⟨y0,hy0,yc⟩:=at2 (a:=0) (b:=scale) lc.1 lc.2
 obtain⟨cs,c1,c2,ec⟩:=Kq (ns:=ns) (k:=k+5) (part:=part) (scale:=scale) (by omega) (by omega) (by omega) (by omega) hs hs2
 have ii:=ou (part::ms)
 refine⟨⟨"stuff"++ ⟨#[ch]⟩,part,ms,cs,y0*draw ns (k+3) 20⟩,some (.sh (.int k)),some (.sh (.int part)),some (.sh (.tup ((part::ms).map .int))),some (.sh (.int (y0*draw ns (k+3) 20))),⟨by simp;omega,by simp;omega,c1,c2,GcT (by omega) ld.1⟩, ?_⟩
 rw[e1]
 exact FD (bQ (by omega) (by omega)) hk da pa (bQ (by omega) (by omega)) (bQ (by omega) (by omega)) (bQ (by omega) (by omega)) db sb (by simpa using ii) dc yc dd (bQ (by omega) (by omega)) rfl hch ec (rZ cs) hz
theorem FE{ns:List Int}{scale:Int}(hs:1≤scale)(hs2:scale≤1000000):∃ss:List i9,1≤ss.length∧ss.length≤6∧(∀s∈ss,kM s)∧g8 [.scr ns,.int scale]=some (.tup (ss.map aV)):=by
 have d:=aR (ns:=ns) (k:=21) (m:=6) (by omega) (by omega) (by omega)
 have l:=b5 ns 21 6 (by omega)
 generalize draw ns 21 6=q at*
 obtain⟨n,hn,ea⟩:=at6 (a:=1) (b:=2) (c:=3) (d:=3) (e:=2) (f:=6) l.1 l.2
 obtain⟨e,h1,ss,y3,y4,y5,y6,y7,h2,h3,rfl⟩:=gf (g:=gN 3) (body:=cQ) (λm env=>∃(ss:List i9) (y3 y4 y5 y6 y7:Option Slot),ss.length=m∧(∀s∈ss,kM s)∧env=[some (.sh (.scr ns)),some (.sh (.int scale)),some (.own (.lst (ss.map aV))),y3,y4,y5,y6,y7]) (bB 0 n.toNat) 0
  [some (.sh (.scr ns)),some (.sh (.int scale)),some (.own (.lst [])),none,none,none,none,none] ⟨[],none,none,none,none,none,rfl,by simp,rfl⟩ (by
   rintro i d e hd ⟨ss,y3,y4,y5,y6,y7,h2,h3,rfl⟩
   obtain⟨hi,rfl⟩:=cG hd
   obtain⟨s,z4,z5,z6,z7,hc,h⟩:=Bb (ns:=ns) (scale:=scale) (i:=i) (ss:=ss) (x4:=y4) (x5:=y5) (x6:=y6) (x7:=y7) hs hs2 (by omega) (by omega)
   rw[show(0:Int)+(i:Int)=(i:Int) by omega]
   refine⟨_,_,rfl,h,ss++[s],some (.sh (.int (i:Int))),z4,z5,z6,z7,by simp[h2],λx hx=> ?_,rfl⟩
   rcases Gaw.mp hx with hx|hx
   ·exact h3 x hx
   ·simp at hx;rw[hx];exact hc)
 rw[gz] at h2
 exact⟨ss,by omega,by omega,h3,Ba d ea (cF (by omega) (by omega)) h1 (gh jk ss)⟩
noncomputable def trD(t:Int×Int×Int):D:= .tup [.int t.1,.int t.2.1,.int t.2.2]
theorem vn(t:Int×Int×Int):(trD t).imm=true:=by simp[trD]
def lT(n:Int)(bs:List (Int×Int×Int)):Prop:=∀b∈bs,0≤b.1∧b.1<n∧0≤b.2.1∧b.2.1<n∧1≤b.2.2
theorem Dm{α β:Type}(f:α→β)(xs:List α)(i:Int)(y:α):(gw xs i y).map f=gw (xs.map f) i (f y):=by
 unfold gw
 simp[GaI,List.map_take,Gdu]
theorem Kr{ns:List Int}{many scale i j k q0 q1 q2 L g:Int}{B:List D}{x6 x7:Option Slot}(m18:ck 18 i=true)(m3:ck 3 j=true)(hk:3000+18*i+3*j=k)(hL:cV [.lst B]=some ⟨.c,.int L⟩)(d0:a9 [.scr ns,.int k,.int 3]=some (.int q0))(d1:a9 [.scr ns,.int (k+1),.int 10]=some (.int q1))(d2:a9 [.scr ns,.int (k+2),.int (L+1)]=some (.int q2))(sm:cn q2=true)(mg:ck scale (1+q1)=true)(hg:scale*(1+q1)=g)(hz:B.length<1000):
  fA [some (.sh (.scr ns)),some (.sh (.int many)),some (.sh (.int scale)),some (.own (.lst B)),some (.sh (.int i)),some (.sh (.int j)),x6,x7]=
   some (.nx (if L<12∧q0=0 then[some (.sh (.scr ns)),some (.sh (.int many)),some (.sh (.int scale)),some (.own (.lst (gw B q2 (.tup [.int i,.int j,.int g])))),some (.sh (.int i)),some (.sh (.int j)),some (.sh (.int k)),some (.sh (.tup [.int i,.int j,.int g]))]
    else[some (.sh (.scr ns)),some (.sh (.int many)),some (.sh (.int scale)),some (.own (.lst B)),some (.sh (.int i)),some (.sh (.int j)),some (.sh (.int k)),x7])):=by
 have z:B.length<16777216:=by omega
 unfold fA
 refine(ar (e:=[some (.sh (.scr ns)),some (.sh (.int many)),some (.sh (.int scale)),some (.own (.lst B)),some (.sh (.int i)),some (.sh (.int j)),some (.sh (.int k)),x7]) (by simp[m18,m3,hk])).trans ?_
 by_cases c1:L<12
 ·by_cases c2:q0=0
  ·rw[Gaf ⟨c1,c2⟩]
   simp[-jT,hL,c1,c2,d0,d1,d2,mg,hg,sm,z,ai]
  ·rw[Gah (λh=>c2 h.2)]
   simp[-jT,hL,c1,c2,d0]
 ·rw[Gah (λh=>c1 h.1)]
  simp[-jT,hL,c1]
theorem FF{ns:List Int}{n:Nat}{scale i j:Int}{bs:List (Int×Int×Int)}{x6 x7:Option Slot}(hs:1≤scale)(hs2:scale≤1000000)(hn:n≤6)(hi:0≤i)(hi2:i<n)(hj:0≤j)(hj2:j<n)(hb:lT n bs)(hl:bs.length≤12):
  ∃bs' y6 y7,lT n bs' ∧bs'.length≤12∧fA [some (.sh (.scr ns)),some (.sh (.int (n:Int))),some (.sh (.int scale)),some (.own (.lst (bs.map trD))),some (.sh (.int i)),some (.sh (.int j)),x6,x7]=
   some (.nx [some (.sh (.scr ns)),some (.sh (.int (n:Int))),some (.sh (.int scale)),some (.own (.lst (bs'.map trD))),some (.sh (.int i)),some (.sh (.int j)),y6,y7]):=by
 generalize hk:3000+18*i+3*j=k
 have d0:=aR (ns:=ns) (k:=k) (m:=3) (by omega) (by omega) (by omega)
 have d1:=aR (ns:=ns) (k:=k+1) (m:=10) (by omega) (by omega) (by omega)
 have l1:=b5 ns (k+1) 10 (by omega)
 have d2:=aR (ns:=ns) (k:=k+2) (m:=(bs.length:Int)+1) (by omega) (by omega) (by omega)
 have l2:=b5 ns (k+2) ((bs.length:Int)+1) (by omega)
 have hL:cV [.lst (bs.map trD)]=some ⟨.c,.int (bs.length:Int)⟩:=by simp[cV]
 have ev:=Kr (many:=(n:Int)) (x6:=x6) (x7:=x7) (bQ (by omega) (by omega)) (bQ (by omega) (by omega)) hk hL d0 d1 d2 (cF (by omega) (by omega)) (bQ (i:=scale) (j:=1+draw ns (k+1) 10) (by omega) (by omega)) rfl (by rw[Gae];omega)
 rw[ev]
 by_cases c:(bs.length:Int)<12∧draw ns k 3=0
 ·rw[Gaf c]
  refine⟨gw bs (draw ns (k+2) ((bs.length:Int)+1)) (i,j,scale*(1+draw ns (k+1) 10)),some (.sh (.int k)),some (.sh (.tup [.int i,.int j,.int (scale*(1+draw ns (k+1) 10))])),λb hb' => ?_,by rw[u3];omega,by rw[Dm];rfl⟩
  rcases Gay.mp ((AJ _ _ _).mem_iff.mp hb') with h|h
  ·subst h
   exact⟨hi,hi2,hj,hj2,gA hs (by omega)⟩
  ·exact hb b h
 ·rw[Gah c]
  exact⟨bs,some (.sh (.int k)),x7,hb,hl,rfl⟩
theorem Ia{ns:List Int}{n:Nat}{scale i:Int}{bs:List (Int×Int×Int)}{x5 x6 x7:Option Slot}(hs:1≤scale)(hs2:scale≤1000000)(hn:n≤6)(hi:0≤i)(hi2:i<n)(hb:lT n bs)(hl:bs.length≤12):
  ∃bs' y5 y6 y7,lT n bs' ∧bs'.length≤12∧fB [some (.sh (.scr ns)),some (.sh (.int (n:Int))),some (.sh (.int scale)),some (.own (.lst (bs.map trD))),some (.sh (.int i)),x5,x6,x7]=
   some (.nx [some (.sh (.scr ns)),some (.sh (.int (n:Int))),some (.sh (.int scale)),some (.own (.lst (bs'.map trD))),some (.sh (.int i)),y5,y6,y7]):=by
 obtain⟨e,h1,bs',y5,y6,y7,h2,h3,rfl⟩:=gf (g:=gN 5) (body:=fA) (λm env=>∃(bs' :List (Int×Int×Int)) (y5 y6 y7:Option Slot),lT n bs' ∧bs'.length≤12∧env=[some (.sh (.scr ns)),some (.sh (.int (n:Int))),some (.sh (.int scale)),some (.own (.lst (bs'.map trD))),some (.sh (.int i)),y5,y6,y7]) (bB i ((n:Int)-i).toNat) 0 _ ⟨bs,x5,x6,x7,hb,hl,rfl⟩ (by
  rintro j d e hd ⟨bs',y5,y6,y7,h2,h3,rfl⟩
  obtain⟨hj,rfl⟩:=cG hd
  obtain⟨bs2,z6,z7,q1,q2,q3⟩:=FF (ns:=ns) (n:=n) (scale:=scale) (i:=i) (j:=i+(j:Int)) (bs:=bs') (x6:=y6) (x7:=y7) hs hs2 hn hi hi2 (by omega) (by omega) h2 h3
  exact⟨_,_,rfl,q3,bs2,some (.sh (.int (i+(j:Int)))),z6,z7,q1,q2,rfl⟩)
 refine⟨bs',y5,y6,y7,h2,h3, ?_⟩
 have sa:cn i=true:=cF (by omega) (by omega)
 have sb:cn (n:Int)=true:=cF (by omega) (by omega)
 unfold fB
 generalize (n:Int)=nn at*
 simp[-forL,sa,sb,h1]
theorem FG{ns:List Int}{n scale:Int}{B:List D}{y4 y5 y6 y7:Option Slot}(sm:cn n=true)(h1:forL (gN 4) fB (bB 0 n.toNat) [some (.sh (.scr ns)),some (.sh (.int n)),some (.sh (.int scale)),some (.own (.lst [])),none,none,none,none]=some (.nx [some (.sh (.scr ns)),some (.sh (.int n)),some (.sh (.int scale)),some (.own (.lst B)),y4,y5,y6,y7]))(im:aP B=true):je [.scr ns,.int n,.int scale]=some (.tup B):=by
 refine bf rfl ?_
 unfold kI
 refine(ar (e:=[some (.sh (.scr ns)),some (.sh (.int n)),some (.sh (.int scale)),some (.own (.lst [])),none,none,none,none]) (by simp[bq,ai])).trans ?_
 refine(ar (e:=[some (.sh (.scr ns)),some (.sh (.int n)),some (.sh (.int scale)),some (.own (.lst B)),y4,y5,y6,y7]) (by simp[-forL,sm,h1])).trans ?_
 simp[im]
theorem Ks{ns:List Int}{n:Nat}{scale:Int}(hs:1≤scale)(hs2:scale≤1000000)(hn:n≤6):∃bs:List (Int×Int×Int),lT n bs∧bs.length≤12∧je [.scr ns,.int (n:Int),.int scale]=some (.tup (bs.map trD)):=by
 obtain⟨e,h1,bs',y4,y5,y6,y7,h2,h3,rfl⟩:=gf (g:=gN 4) (body:=fB) (λm env=>∃(bs' :List (Int×Int×Int)) (y4 y5 y6 y7:Option Slot),lT n bs' ∧bs'.length≤12∧env=[some (.sh (.scr ns)),some (.sh (.int (n:Int))),some (.sh (.int scale)),some (.own (.lst (bs'.map trD))),y4,y5,y6,y7]) (bB 0 (n:Int).toNat) 0 [some (.sh (.scr ns)),some (.sh (.int (n:Int))),some (.sh (.int scale)),some (.own (.lst [])),none,none,none,none] ⟨[],none,none,none,none,λb hb=>by simp at hb,by simp,rfl⟩ (by
  rintro j d e hd ⟨bs',y4,y5,y6,y7,h2,h3,rfl⟩
  obtain⟨hj,rfl⟩:=cG hd
  obtain⟨bs2,z5,z6,z7,q1,q2,q3⟩:=Ia (ns:=ns) (n:=n) (scale:=scale) (i:=0+(j:Int)) (bs:=bs') (x5:=y5) (x6:=y6) (x7:=y7) hs hs2 hn (by omega) (by omega) h2 h3
  exact⟨_,_,rfl,q3,bs2,some (.sh (.int (0+(j:Int)))),z5,z6,z7,q1,q2,rfl⟩)
 exact⟨bs',h2,h3,FG (cF (by omega) (by omega)) h1 (gh vn bs')⟩
inductive t7 where
 |asked (b:Int)
 |due (b e m ea la:Int)
noncomputable def cz:t7→D
 | .asked b=> .tup [.str "asked",.int b]
 | .due b e m ea la=> .tup [.str "due",.int b,.int e,.int m,.int ea,.int la]
def lU:t7→Prop
 | .asked b=>0≤b
 | .due b e m ea la=>1≤e∧e≤12000000∧(m=1∨m=2∨m=4∨m=6∨m=60)∧0≤ea∧0≤la∧ea+la<e∧ea≤b∧b≤30000000
theorem pI(u:t7):(cz u).imm=true:=by cases u<;>simp[cz]
theorem Kt{ns:List Int}{k scale q0 w u v t b e ea la m qm:Int}(hs:1≤scale)(hs2:scale≤1000000)(d0:a9 [.scr ns,.int k,.int 3]=some (.int q0))(c:¬q0=0)(d2:a9 [.scr ns,.int (k+2),.int 12]=some (.int (w -1)))(ms:∀j,ck scale j=true)(he:scale*w=e)(hq:e/scale=w)(d3:a9 [.scr ns,.int (k+3),.int w]=some (.int u))(hea:scale*u=ea)(hq2:(e -ea)/scale=w -u)(d4:a9 [.scr ns,.int (k+4),.int (w -u)]=some (.int v))(hla:scale*v=la)(d5:a9 [.scr ns,.int (k+5),.int 10]=some (.int t))(hb:ea+scale*t=b)(d6:a9 [.scr ns,.int (k+6),.int 5]=some (.int qm))(am:atD [D.int 1,.int 2,.int 4,.int 6,.int 60] qm=some (.int m)):
  jg [.scr ns,.int k,.int scale]=some (.tup [.str "due",.int b,.int e,.int m,.int ea,.int la]):=by
 have sp:0<scale:=by omega
 have sp2:scale<1073741824:=by omega
 have w1:1+(w -1)=w:=by omega
 refine bf rfl ?_
 unfold jf
 refine(ar (e:=[some (.sh (.scr ns)),some (.sh (.int k)),some (.sh (.int scale)),none,none,none,none]) (by simp[bq,d0,c])).trans ?_
 refine(ar (e:=[some (.sh (.scr ns)),some (.sh (.int k)),some (.sh (.int scale)),some (.sh (.int e)),none,none,none]) (by simp[d2,ms,w1,he])).trans ?_
 refine(ar (e:=[some (.sh (.scr ns)),some (.sh (.int k)),some (.sh (.int scale)),some (.sh (.int e)),some (.sh (.int ea)),none,none]) (by simp[sp,sp2,hq,d3,ms,hea])).trans ?_
 refine(ar (e:=[some (.sh (.scr ns)),some (.sh (.int k)),some (.sh (.int scale)),some (.sh (.int e)),some (.sh (.int ea)),some (.sh (.int la)),none]) (by simp[sp,sp2,hq2,d4,ms,hla])).trans ?_
 refine(ar (e:=[some (.sh (.scr ns)),some (.sh (.int k)),some (.sh (.int scale)),some (.sh (.int e)),some (.sh (.int ea)),some (.sh (.int la)),some (.sh (.int b))]) (by simp[d5,ms,hb])).trans ?_
 simp[d6,am,ai]
theorem Ku{ns:List Int}{k scale:Int}(hk:0≤k)(hk2:k<10000)(hs:1≤scale)(hs2:scale≤1000000):∃u:t7,lU u∧jg [.scr ns,.int k,.int scale]=some (cz u):=by
 have d0:=aR (ns:=ns) (k:=k) (m:=3) (by omega) (by omega) (by omega)
 have ms:∀j,ck scale j=true:=λj=>bQ (by omega) (by omega)
 by_cases c:draw ns k 3=0
 ·have d1:=aR (ns:=ns) (k:=k+1) (m:=20) (by omega) (by omega) (by omega)
  have l1:=b5 ns (k+1) 20 (by omega)
  refine⟨.asked (scale*draw ns (k+1) 20),GcT (by omega) l1.1, ?_⟩
  refine bf rfl ?_
  unfold jf
  refine vk ?_
  simp[bq,d0,c,d1,ms,ai,cz]
 ·have d2:=aR (ns:=ns) (k:=k+2) (m:=12) (by omega) (by omega) (by omega)
  have l2:=b5 ns (k+2) 12 (by omega)
  generalize hw:1+draw ns (k+2) 12=w
  have hw' :draw ns (k+2) 12=w -1:=by omega
  rw[hw'] at d2
  have d3:=aR (ns:=ns) (k:=k+3) (m:=w) (by omega) (by omega) (by omega)
  have l3:=b5 ns (k+3) w (by omega)
  generalize draw ns (k+3) w=u at*
  have d4:=aR (ns:=ns) (k:=k+4) (m:=w -u) (by omega) (by omega) (by omega)
  have l4:=b5 ns (k+4) (w -u) (by omega)
  generalize draw ns (k+4) (w -u)=v at*
  have d5:=aR (ns:=ns) (k:=k+5) (m:=10) (by omega) (by omega) (by omega)
  have l5:=b5 ns (k+5) 10 (by omega)
  generalize draw ns (k+5) 10=t at*
  have d6:=aR (ns:=ns) (k:=k+6) (m:=5) (by omega) (by omega) (by omega)
  have l6:=b5 ns (k+6) 5 (by omega)
  obtain⟨m,hm,am⟩:=at5 (a:=1) (b:=2) (c:=4) (d:=6) (e:=60) l6.1 l6.2
  have hq:scale*w/scale=w:=Int.mul_ediv_cancel_left w (by omega)
  have hq2:(scale*w -scale*u)/scale=w -u:=by rw[←Int.mul_sub];exact Int.mul_ediv_cancel_left _ (by omega)
  refine⟨.due (scale*u+scale*t) (scale*w) m (scale*u) (scale*v),⟨gA hs (by omega), ?_,hm,GcT (by omega) l3.1,GcT (by omega) l4.1, ?_, ?_, ?_⟩,Kt hs hs2 d0 c d2 ms rfl hq d3 rfl hq2 d4 rfl d5 rfl d6 am⟩
  ·have:=pH (a:=scale) (b:=w) (A:=1000000) (B:=12) (by omega) hs2 (by omega) (by omega)
   omega
  ·have h1:scale*u+scale*v=scale*(u+v):=by rw[Int.mul_add]
   have h2:scale*(u+v)<scale*w:=Int.mul_lt_mul_of_pos_left (by omega) (by omega)
   omega
  ·have:=GcT (a:=scale) (b:=t) (by omega) l5.1
   omega
  ·have h1:=pH (a:=scale) (b:=u) (A:=1000000) (B:=12) (by omega) hs2 (by omega) (by omega)
   have h2:=pH (a:=scale) (b:=t) (A:=1000000) (B:=10) (by omega) hs2 (by omega) (by omega)
   omega
structure Order where
 name:Str
 bN:Int
 fj:Int
 way:Str
 top:Int
 per:Int
 most:Int
 gq:t7
 Bm:List D
noncomputable def aF(o:Order):D:= .tup [.str o.name,.int o.bN,.int o.fj,.tup [.str o.way,.int o.top,.int o.per,.int o.most],cz o.gq,.tup o.Bm]
structure ox(ng nst:Nat)(o:Order):Prop where
 g0:0≤o.bN
 g1:o.bN<ng
 s0:0≤o.fj
 s1:o.fj<nst
 du:lU o.gq
 ti:aP o.Bm=true
theorem Kv{u:t7}{env:DL.Env}(h:env[11]? =some (some (.sh (cz u))))(hl:env.length=13):∃T:List D,aP T=true∧∀(he:env[12]? =some (some (.sh (.tup [])))),ifS (kz (b8 eqB (ixE (vE 11) (kE (.int 0))) (kE (.str "due"))) (b8 gtB (ixE (vE 11) (kE (.int 3))) (kE (.int 2))))
  (aT 12 (bD (a5 (bD (a5 (kE (.int 1)) (a5 (kE (.int 1)) (a5 (kE (.int 2)) ao)))) (a5 (bD (a5 (kE (.int 2)) (a5 (kE (.int 1)) (a5 (kE (.int 3)) ao)))) ao))))
  bc env=some (.nx (env.set 12 (some (.sh (.tup T))))):=by
 have e0:∀(he:env[12]? =some (some (.sh (.tup [])))),env.set 12 (some (.sh (.tup [])))=env:=λhe=>by
  apply GcW
  intro i
  by_cases q:12=i
  ·subst q;rw[GaN (by omega),he]
  ·rw[Gab q]
 cases u with
 |asked b=>
  refine⟨[],rfl,λhe=> ?_⟩
  rw[e0 he]
  unfold cz at h
  simp[h,eqB]
 |due b e m ea la=>
  unfold cz at h
  by_cases c:m>2
  ·refine⟨[.tup [.int 1,.int 1,.int 2],.tup [.int 2,.int 1,.int 3]],rfl,λhe=> ?_⟩
   simp[h,eqB,c,ai,DL.stored]
  ·refine⟨[],rfl,λhe=> ?_⟩
   rw[e0 he]
   simp[h,eqB,c]
theorem Kw{r:Int}(h:0≤r):∃w:Str,atD [D.str "down",.str "up",.str "near"] (r%3)=some (.str w):=by
 have:r%3=0∨r%3=1∨r%3=2:=by omega
 rcases this with q|q|q<;>rw[q]
 ·exact⟨"down",rfl⟩
 ·exact⟨"up",rfl⟩
 ·exact⟨"near",rfl⟩
theorem at3{a b c q:Int}(h:0≤q)(h2:q<3):∃v,(v=a∨v=b∨v=c)∧atD [D.int a,.int b,.int c] q=some (.int v):=by
 have:q=0∨q=1∨q=2:=by omega
 rcases this with rfl|rfl|rfl
 ·exact⟨a,.inl rfl,rfl⟩
 ·exact⟨b,.inr (.inl rfl),rfl⟩
 ·exact⟨c,.inr (.inr rfl),rfl⟩
theorem FH{ns:List Int}{scale r k st part f q1 most q2 q3 LS LG g:Int}{G S O M T:List D}{nm C Y:D}{u:t7}{w:Str}{ch:Nat}{x3 x7 x8 x9 x10 x11 x12:Option Slot}(m20:ck 20 r=true)(hk:300+20*r=k)(hLS:cV [.tup S]=some ⟨.c,.int LS⟩)(d0:a9 [.scr ns,.int k,.int LS]=some (.int st))(hS:atD S st=some (.tup [nm,.tup (.int part::M),C,Y]))(d1:a9 [.scr ns,.int (k+1),.int 3]=some (.int q1))(hf:atD [D.int 4,.int 15,.int 2000] q1=some (.int f))(mm:ck part f=true)(hm:part*f=most)
  (hw:atD [D.str "down",.str "up",.str "near"] (r%3)=some (.str w))(d2:a9 [.scr ns,.int (k+2),.int 90]=some (.int q2))(d3:a9 [.scr ns,.int (k+3),.int 9]=some (.int q3))(du:jg [.scr ns,.int (k+4),.int scale]=some (cz u))(hLG:cV [.lst G]=some ⟨.c,.int LG⟩)(dg:a9 [.scr ns,.int (k+12),.int LG]=some (.int g))(hch:atD (Str.ofString "abcdefghijkl").cps.toList r=some ch)(hz:O.length<1000)
  (iT:aP T=true)(ht:∀env:DL.Env,env=[some (.sh (.scr ns)),some (.sh (.int scale)),some (.own (.lst G)),x3,some (.sh (.tup S)),some (.own (.lst O)),some (.sh (.int r)),some (.sh (.int k)),some (.sh (.int st)),some (.sh (.int most)),some (.sh (.tup [.str w,.int (1+q2),.int q3,.int most])),some (.sh (cz u)),some (.sh (.tup []))]→
   ifS (kz (b8 eqB (ixE (vE 11) (kE (.int 0))) (kE (.str "due"))) (b8 gtB (ixE (vE 11) (kE (.int 3))) (kE (.int 2)))) (aT 12 (bD (a5 (bD (a5 (kE (.int 1)) (a5 (kE (.int 1)) (a5 (kE (.int 2)) ao)))) (a5 (bD (a5 (kE (.int 2)) (a5 (kE (.int 1)) (a5 (kE (.int 3)) ao)))) ao)))) bc env=some (.nx (env.set 12 (some (.sh (.tup T)))))):
  dz [some (.sh (.scr ns)),some (.sh (.int scale)),some (.own (.lst G)),x3,some (.sh (.tup S)),some (.own (.lst O)),some (.sh (.int r)),x7,x8,x9,x10,x11,x12]=
   some (.nx [some (.sh (.scr ns)),some (.sh (.int scale)),some (.own (.lst G)),x3,some (.sh (.tup S)),some (.own (.lst (O++[.tup [.str ("order"++ ⟨#[ch]⟩),.int g,.int st,.tup [.str w,.int (1+q2),.int q3,.int most],cz u,.tup T]]))),some (.sh (.int r)),some (.sh (.int k)),some (.sh (.int st)),some (.sh (.int most)),some (.sh (.tup [.str w,.int (1+q2),.int q3,.int most])),some (.sh (cz u)),some (.sh (.tup T))]):=by
 have z:O.length<16777216:=by omega
 have iu:=pI u
 have ru:=bZ iu
 generalize cz u=U at*
 have w1:(Str.ofString "abcdefghijkl").length≤16777216:=by decide
 have w2:(Str.ofString "order").length+(⟨#[ch]⟩:Str).length≤16777216:=by
  have:(⟨#[ch]⟩:Str).length=1:=rfl
  rw[this];decide
 unfold dz
 refine(ar (e:=[some (.sh (.scr ns)),some (.sh (.int scale)),some (.own (.lst G)),x3,some (.sh (.tup S)),some (.own (.lst O)),some (.sh (.int r)),some (.sh (.int k)),x8,x9,x10,x11,x12]) (by simp[m20,hk])).trans ?_
 refine(ar (e:=[some (.sh (.scr ns)),some (.sh (.int scale)),some (.own (.lst G)),x3,some (.sh (.tup S)),some (.own (.lst O)),some (.sh (.int r)),some (.sh (.int k)),some (.sh (.int st)),x9,x10,x11,x12]) (by simp[-j3,hLS,d0])).trans ?_
 refine(ar (e:=[some (.sh (.scr ns)),some (.sh (.int scale)),some (.own (.lst G)),x3,some (.sh (.tup S)),some (.own (.lst O)),some (.sh (.int r)),some (.sh (.int k)),some (.sh (.int st)),some (.sh (.int most)),x10,x11,x12]) (by simp[hS,d1,hf,mm,hm,ai])).trans ?_
 refine(ar (e:=[some (.sh (.scr ns)),some (.sh (.int scale)),some (.own (.lst G)),x3,some (.sh (.tup S)),some (.own (.lst O)),some (.sh (.int r)),some (.sh (.int k)),some (.sh (.int st)),some (.sh (.int most)),some (.sh (.tup [.str w,.int (1+q2),.int q3,.int most])),x11,x12]) (by simp[hw,d2,d3,ai])).trans ?_
 refine(ar (e:=[some (.sh (.scr ns)),some (.sh (.int scale)),some (.own (.lst G)),x3,some (.sh (.tup S)),some (.own (.lst O)),some (.sh (.int r)),some (.sh (.int k)),some (.sh (.int st)),some (.sh (.int most)),some (.sh (.tup [.str w,.int (1+q2),.int q3,.int most])),some (.sh U),x12]) (by simp[du,ru])).trans ?_
 refine(ar (e:=[some (.sh (.scr ns)),some (.sh (.int scale)),some (.own (.lst G)),x3,some (.sh (.tup S)),some (.own (.lst O)),some (.sh (.int r)),some (.sh (.int k)),some (.sh (.int st)),some (.sh (.int most)),some (.sh (.tup [.str w,.int (1+q2),.int q3,.int most])),some (.sh U),some (.sh (.tup []))]) (by simp[ai])).trans ?_
 refine(ar (ht _ rfl)).trans ?_
 simp[-jT,hLG,dg,hch,w1,w2,iu,iT,ai,z]
theorem fO(o:Order)(h:aP o.Bm=true):(aF o).imm=true:=by
 have:=pI o.gq
 simp[aF,this,h]
theorem Bc{ns:List Int}{scale:Int}{i:Nat}{G:List D}{ss:List i9}{os:List Order}{x3 x7 x8 x9 x10 x11 x12:Option Slot}(hs:1≤scale)(hs2:scale≤1000000)(hi:i<12)(hG:1≤G.length)(hG2:G.length≤100)(hS:1≤ss.length)(hS2:ss.length≤100)(hok:∀s∈ss,kM s)(hl:os.length≤100):
  ∃o y7 y8 y9 y10 y11 y12,ox G.length ss.length o∧dz [some (.sh (.scr ns)),some (.sh (.int scale)),some (.own (.lst G)),x3,some (.sh (.tup (ss.map aV))),some (.own (.lst (os.map aF))),some (.sh (.int (i:Int))),x7,x8,x9,x10,x11,x12]=
   some (.nx [some (.sh (.scr ns)),some (.sh (.int scale)),some (.own (.lst G)),x3,some (.sh (.tup (ss.map aV))),some (.own (.lst ((os++[o]).map aF))),some (.sh (.int (i:Int))),y7,y8,y9,y10,y11,y12]):=by
 obtain⟨ch,hch⟩:=Dl hi
 have hj:(0:Int)≤(i:Int)∧(i:Int)≤11:=by omega
 have hz:(os.map aF).length<1000:=by rw[Gae];omega
 have e1:∀s,(os++[s]).map aF=os.map aF++[aF s]:=λs=>by simp
 generalize (i:Int)=r at*
 generalize os.map aF=O at*
 generalize hk:300+20*r=k
 have hLS:cV [.tup (ss.map aV)]=some ⟨.c,.int (ss.length:Int)⟩:=by simp[cV]
 have hLG:cV [.lst G]=some ⟨.c,.int (G.length:Int)⟩:=rfl
 have d0:=aR (ns:=ns) (k:=k) (m:=(ss.length:Int)) (by omega) (by omega) (by omega)
 have l0:=b5 ns k (ss.length:Int) (by omega)
 generalize draw ns k (ss.length:Int)=st at*
 obtain⟨n,rfl⟩:=GaE l0.1
 have hn:n<ss.length:=by omega
 have hSat:atD (ss.map aV) (n:Int)=some (.tup [.str ss[n].name,.tup (.int ss[n].part::ss[n].more.map .int),.tup (ss[n].aO.map bM),.int ss[n].young]):=by
  rw[dA,Gal,Gaa hn];rfl
 have ok:=hok ss[n] (GaA hn)
 have okp1:=ok.p1
 have okp2:=ok.p2
 have d1:=aR (ns:=ns) (k:=k+1) (m:=3) (by omega) (by omega) (by omega)
 have l1:=b5 ns (k+1) 3 (by omega)
 obtain⟨f,hf0,hf⟩:=at3 (a:=4) (b:=15) (c:=2000) l1.1 l1.2
 obtain⟨w,hw⟩:=Kw (r:=r) hj.1
 have d2:=aR (ns:=ns) (k:=k+2) (m:=90) (by omega) (by omega) (by omega)
 have d3:=aR (ns:=ns) (k:=k+3) (m:=9) (by omega) (by omega) (by omega)
 obtain⟨u,u1,du⟩:=Ku (ns:=ns) (k:=k+4) (scale:=scale) (by omega) (by omega) hs hs2
 have dg:=aR (ns:=ns) (k:=k+12) (m:=(G.length:Int)) (by omega) (by omega) (by omega)
 have lg:=b5 ns (k+12) (G.length:Int) (by omega)
 obtain⟨T,iT,ht⟩:=Kv (u:=u) (env:=[some (.sh (.scr ns)),some (.sh (.int scale)),some (.own (.lst G)),x3,some (.sh (.tup (ss.map aV))),some (.own (.lst O)),some (.sh (.int r)),some (.sh (.int k)),some (.sh (.int (n:Int))),some (.sh (.int (ss[n].part*f))),some (.sh (.tup [.str w,.int (1+draw ns (k+2) 90),.int (draw ns (k+3) 9),.int (ss[n].part*f)])),some (.sh (cz u)),some (.sh (.tup []))]) rfl rfl
 refine⟨⟨"order"++ ⟨#[ch]⟩,draw ns (k+12) (G.length:Int),(n:Int),w,1+draw ns (k+2) 90,draw ns (k+3) 9,ss[n].part*f,u,T⟩,some (.sh (.int k)),some (.sh (.int (n:Int))),some (.sh (.int (ss[n].part*f))),some (.sh (.tup [.str w,.int (1+draw ns (k+2) 90),.int (draw ns (k+3) 9),.int (ss[n].part*f)])),some (.sh (cz u)),some (.sh (.tup T)),⟨lg.1,lg.2,by simp,by simp;omega,u1,iT⟩, ?_⟩
 rw[e1]
 exact FH (bQ (by omega) (by omega)) hk hLS d0 hSat d1 hf (bQ (by omega) (by omega)) rfl hw d2 d3 du hLG dg hch hz iT λenv he=>by subst he;exact ht rfl
theorem Bd{ns:List Int}{scale:Int}{i:Nat}{gs:List (Str×Int)}{x4 x5 x6 x7 x8 x9 x10 x11 x12:Option Slot}(hs:1≤scale)(hs2:scale≤1000000)(hi:i<6)(hl:gs.length≤100):
  ∃g:Str×Int,dU [some (.sh (.scr ns)),some (.sh (.int scale)),some (.own (.lst (gs.map λg=> .tup [.str g.1,.int g.2]))),some (.sh (.int (i:Int))),x4,x5,x6,x7,x8,x9,x10,x11,x12]=
   some (.nx [some (.sh (.scr ns)),some (.sh (.int scale)),some (.own (.lst ((gs++[g]).map λg=> .tup [.str g.1,.int g.2]))),some (.sh (.int (i:Int))),x4,x5,x6,x7,x8,x9,x10,x11,x12]):=by
 obtain⟨ch,hch⟩:=FA hi
 have hj:(0:Int)≤(i:Int)∧(i:Int)≤5:=by omega
 have hz:(gs.map λg=>D.tup [.str g.1,.int g.2]).length<16777216:=by rw[Gae];omega
 have e1:∀s:Str×Int,((gs++[s]).map λg=>D.tup [.str g.1,.int g.2])=(gs.map λg=>D.tup [.str g.1,.int g.2])++[.tup [.str s.1,.int s.2]]:=λs=>by simp
 generalize (i:Int)=j at*
 generalize (gs.map λg=>D.tup [.str g.1,.int g.2])=G at*
 have d:=aR (ns:=ns) (k:=30+j) (m:=15) (by omega) (by omega) (by omega)
 have ms:∀j,ck scale j=true:=λj=>bQ (by omega) (by omega)
 have w1:(Str.ofString "abcdef").length≤16777216:=by decide
 have w2:(Str.ofString "guest").length+(⟨#[ch]⟩:Str).length≤16777216:=by
  have:(⟨#[ch]⟩:Str).length=1:=rfl
  rw[this];decide
 refine⟨("guest"++ ⟨#[ch]⟩,scale*draw ns (30+j) 15), ?_⟩
 rw[e1]
 unfold dU
 simp[hch,w1,w2,d,ms,ai,hz]
structure World where
 bT:List (Str×Int)
 aG:List i9
 cX:List (Int×Int×Int)
 orders:List Order
noncomputable def cw(g:Str×Int):D:= .tup [.str g.1,.int g.2]
noncomputable def bK(w:World):D:= .tup [.tup (w.bT.map cw),.tup (w.aG.map aV),.tup (w.cX.map trD),.tup (w.orders.map aF)]
structure c0(w:World):Prop where
 g1:1≤w.bT.length
 g6:w.bT.length≤6
 s1:1≤w.aG.length
 s6:w.aG.length≤6
 so:∀s∈w.aG,kM s
 b12:w.cX.length≤12
 bo:lT w.aG.length w.cX
 o1:1≤w.orders.length
 o12:w.orders.length≤12
 oo:∀o∈w.orders,ox w.bT.length w.aG.length o
theorem se(g:Str×Int):(cw g).imm=true:=by simp[cw]
theorem Dn{ns:List Int}{q1 scale qg ng qo no LS:Int}{G S B O:List D}{y3 y6 y7 y8 y9 y10 y11 y12:Option Slot}(d1:a9 [.scr ns,.int 1,.int 6]=some (.int q1))(h1:atD [D.int 1,.int 1,.int 1,.int 1,.int 1,.int 1000000] q1=some (.int scale))(dg:a9 [.scr ns,.int 20,.int 6]=some (.int qg))(hg:atD [D.int 1,.int 2,.int 3,.int 2,.int 3,.int 6] qg=some (.int ng))(sg:cn ng=true)
  (lg:forL (gN 3) dU (bB 0 ng.toNat) [some (.sh (.scr ns)),some (.sh (.int scale)),some (.own (.lst [])),none,none,none,none,none,none,none,none,none,none]=some (.nx [some (.sh (.scr ns)),some (.sh (.int scale)),some (.own (.lst G)),y3,none,none,none,none,none,none,none,none,none]))
  (es:g8 [.scr ns,.int scale]=some (.tup S))(iS:aP S=true)(do' :a9 [.scr ns,.int 22,.int 6]=some (.int qo))(ho:atD [D.int 1,.int 2,.int 3,.int 4,.int 4,.int 12] qo=some (.int no))(so:cn no=true)
  (lo:forL (gN 6) dz (bB 0 no.toNat) [some (.sh (.scr ns)),some (.sh (.int scale)),some (.own (.lst G)),y3,some (.sh (.tup S)),some (.own (.lst [])),none,none,none,none,none,none,none]=some (.nx [some (.sh (.scr ns)),some (.sh (.int scale)),some (.own (.lst G)),y3,some (.sh (.tup S)),some (.own (.lst O)),y6,y7,y8,y9,y10,y11,y12]))
  (hLS:cV [.tup S]=some ⟨.c,.int LS⟩)(eb:je [.scr ns,.int LS,.int scale]=some (.tup B))(iB:aP B=true)(iG:aP G=true)(iO:aP O=true):gS [.scr ns]=some (.tup [.tup G,.tup S,.tup B,.tup O]):=by
 have rS:=bZ (d:= .tup S) (by simp[iS])
 have rB:=bZ (d:= .tup B) (by simp[iB])
 refine bf rfl ?_
 unfold jw
 refine(ar (e:=[some (.sh (.scr ns)),some (.sh (.int scale)),none,none,none,none,none,none,none,none,none,none,none]) (by simp[bq,d1,h1,ai])).trans ?_
 refine(ar (e:=[some (.sh (.scr ns)),some (.sh (.int scale)),some (.own (.lst [])),none,none,none,none,none,none,none,none,none,none]) (by simp[ai])).trans ?_
 refine(ar (e:=[some (.sh (.scr ns)),some (.sh (.int scale)),some (.own (.lst G)),y3,none,none,none,none,none,none,none,none,none]) (by simp[-forL,dg,hg,sg,lg,ai])).trans ?_
 refine(ar (e:=[some (.sh (.scr ns)),some (.sh (.int scale)),some (.own (.lst G)),y3,some (.sh (.tup S)),none,none,none,none,none,none,none,none]) (by simp[es,rS])).trans ?_
 refine(ar (e:=[some (.sh (.scr ns)),some (.sh (.int scale)),some (.own (.lst G)),y3,some (.sh (.tup S)),some (.own (.lst [])),none,none,none,none,none,none,none]) (by simp[ai])).trans ?_
 refine(ar (e:=[some (.sh (.scr ns)),some (.sh (.int scale)),some (.own (.lst G)),y3,some (.sh (.tup S)),some (.own (.lst O)),y6,y7,y8,y9,y10,y11,y12]) (by simp[-forL,do',ho,so,lo,ai])).trans ?_
 simp[-j3,hLS,eb,rB,iS,iB,iG,iO,ai]
theorem vo(ns:List Int):∃scale:Int,1≤scale∧scale≤1000000∧atD [D.int 1,.int 1,.int 1,.int 1,.int 1,.int 1000000] (draw ns 1 6)=some (.int scale):=by
 have l:=b5 ns 1 6 (by omega)
 obtain⟨v,hv,e⟩:=at6 (a:=1) (b:=1) (c:=1) (d:=1) (e:=1) (f:=1000000) l.1 l.2
 exact⟨v,by omega,by omega,e⟩
theorem Ib(ns:List Int):∃w:World,c0 w∧gS [.scr ns]=some (bK w):=by
 have d1:=aR (ns:=ns) (k:=1) (m:=6) (by omega) (by omega) (by omega)
 obtain⟨scale,c1,c2,h1⟩:=vo ns
 have dg:=aR (ns:=ns) (k:=20) (m:=6) (by omega) (by omega) (by omega)
 have lg:=b5 ns 20 6 (by omega)
 obtain⟨ng,hng,hg⟩:=at6 (a:=1) (b:=2) (c:=3) (d:=2) (e:=3) (f:=6) lg.1 lg.2
 have dO:=aR (ns:=ns) (k:=22) (m:=6) (by omega) (by omega) (by omega)
 have lO:=b5 ns 22 6 (by omega)
 obtain⟨no,hno,hO⟩:=at6 (a:=1) (b:=2) (c:=3) (d:=4) (e:=4) (f:=12) lO.1 lO.2
 obtain⟨e,l1,gs,y3,g2,rfl⟩:=gf (g:=gN 3) (body:=dU) (λm env=>∃(gs:List (Str×Int)) (y3:Option Slot),gs.length=m∧env=[some (.sh (.scr ns)),some (.sh (.int scale)),some (.own (.lst (gs.map λg=> .tup [.str g.1,.int g.2]))),y3,none,none,none,none,none,none,none,none,none]) (bB 0 ng.toNat) 0 [some (.sh (.scr ns)),some (.sh (.int scale)),some (.own (.lst [])),none,none,none,none,none,none,none,none,none,none] ⟨[],none,rfl,rfl⟩ (by
  rintro i d e hd ⟨gs,y3,h2,rfl⟩
  obtain⟨hi,rfl⟩:=cG hd
  obtain⟨g,h⟩:=Bd (ns:=ns) (scale:=scale) (i:=i) (gs:=gs) (x4:=none) (x5:=none) (x6:=none) (x7:=none) (x8:=none) (x9:=none) (x10:=none) (x11:=none) (x12:=none) c1 c2 (by omega) (by omega)
  rw[show(0:Int)+(i:Int)=(i:Int) by omega]
  exact⟨_,_,rfl,h,gs++[g],some (.sh (.int (i:Int))),by simp[h2],rfl⟩)
 rw[gz] at g2
 obtain⟨ss,t1,t2,t3,t4⟩:=FE (ns:=ns) c1 c2
 obtain⟨bs,b1,b2,b3⟩:=Ks (ns:=ns) (n:=ss.length) c1 c2 t2
 have hLG:(gs.map cw).length=gs.length:=by simp
 have eG:(gs.map λg=>D.tup [.str g.1,.int g.2])=gs.map cw:=rfl
 rw[eG] at l1
 obtain⟨e,l2,os,y6,y7,y8,y9,y10,y11,y12,o2,o3,rfl⟩:=gf (g:=gN 6) (body:=dz) (λm env=>∃(os:List Order) (y6 y7 y8 y9 y10 y11 y12:Option Slot),os.length=m∧(∀o∈os,ox gs.length ss.length o)∧env=[some (.sh (.scr ns)),some (.sh (.int scale)),some (.own (.lst (gs.map cw))),y3,some (.sh (.tup (ss.map aV))),some (.own (.lst (os.map aF))),y6,y7,y8,y9,y10,y11,y12]) (bB 0 no.toNat) 0 [some (.sh (.scr ns)),some (.sh (.int scale)),some (.own (.lst (gs.map cw))),y3,some (.sh (.tup (ss.map aV))),some (.own (.lst [])),none,none,none,none,none,none,none] ⟨[],none,none,none,none,none,none,none,rfl,by simp,rfl⟩ (by
  rintro i d e hd ⟨os,y6,y7,y8,y9,y10,y11,y12,h2,h3,rfl⟩
  obtain⟨hi,rfl⟩:=cG hd
  obtain⟨o,z7,z8,z9,z10,z11,z12,k1,k2⟩:=Bc (ns:=ns) (scale:=scale) (i:=i) (G:=gs.map cw) (ss:=ss) (os:=os) (x3:=y3) (x7:=y7) (x8:=y8) (x9:=y9) (x10:=y10) (x11:=y11) (x12:=y12) c1 c2 (by omega) (by omega) (by omega) t1 (by omega) t3 (by omega)
  rw[hLG] at k1
  rw[show(0:Int)+(i:Int)=(i:Int) by omega]
  refine⟨_,_,rfl,k2,os++[o],some (.sh (.int (i:Int))),z7,z8,z9,z10,z11,z12,by simp[h2],λx hx=> ?_,rfl⟩
  rcases Gaw.mp hx with hx|hx
  ·exact h3 x hx
  ·simp at hx;rw[hx];exact k1)
 rw[gz] at o2
 have iO:aP (os.map aF)=true:=by
  have:∀l:List Order,(∀o∈l,ox gs.length ss.length o)→aP (l.map aF)=true:=by
   intro l
   induction l with
   |nil=>intro _;rfl
   |cons o l ih=>
    intro h
    have h1:=fO o (h o Gan).ti
    have h2:=ih λx hx=>h x (Gag _ hx)
    rw[Gau]
    simp[h1,h2]
  exact this os o3
 refine⟨⟨gs,ss,bs,os⟩,⟨by simp;omega,by simp;omega,t1,t2,t3,b2,b1,by simp;omega,by simp;omega,o3⟩, ?_⟩
 exact Dn d1 h1 dg hg (cF (by omega) (by omega)) l1 t4 (gh jk ss) dO hO (cF (by omega) (by omega)) l2 (by simp[cV]) b3 (gh vn bs) (gh se gs) iO
theorem wX{w:World}{o:Int}(h0:0≤o)(h1:o<w.orders.length):∃x∈w.orders,atD (w.orders.map aF) o=some (aF x):=by
 obtain⟨n,rfl⟩:=GaE h0
 have hn:n<w.orders.length:=by omega
 exact⟨w.orders[n],GaA hn,by rw[dA,Gal,Gaa hn];rfl⟩
theorem FI{w:World}{o:Int}(h0:0≤o)(h1:o<w.aG.length):∃x∈w.aG,atD (w.aG.map aV) o=some (aV x):=by
 obtain⟨n,rfl⟩:=GaE h0
 have hn:n<w.aG.length:=by omega
 exact⟨w.aG[n],GaA hn,by rw[dA,Gal,Gaa hn];rfl⟩
theorem Dp{ns:List Int}{k q5 q6 h:Int}{x1 x2 x4 x5 x7 x8:Option Slot}(d5:a9 [.scr ns,.int (k+5000),.int 12]=some (.int q5))(d6:a9 [.scr ns,.int (k+5500),.int 25]=some (.int q6)):∃h' :Int,
  aE (ifS (b8 eqB (aH a9 (a5 (vE 0) (a5 (opE aS (vE 3) (kE (.int 5000))) (a5 (kE (.int 12)) ao)))) (kE (.int 0))) (aT 6 (opE aS (vE 6) (kE (.int 1)))) bc)
   (aE (ifS (b8 eqB (aH a9 (a5 (vE 0) (a5 (opE aS (vE 3) (kE (.int 5500))) (a5 (kE (.int 25)) ao)))) (kE (.int 0))) (aT 6 (opE p9 (kE (.int 10)) (kE (.int 9)))) bc) (retS (vE 6)))
   [some (.sh (.scr ns)),x1,x2,some (.sh (.int k)),x4,x5,some (.sh (.int h)),x7,x8]=some (.ret (.int h')):=by
 by_cases c5:q5=0
 ·by_cases c6:q6=0
  ·exact⟨1000000000,by simp[d5,d6,c5,c6]⟩
  ·exact⟨h+1,by simp[d5,d6,c5,c6]⟩
 ·by_cases c6:q6=0
  ·exact⟨1000000000,by simp[d5,d6,c5,c6]⟩
  ·exact⟨h,by simp[d5,d6,c5,c6]⟩
theorem Ic{ns:List Int}{k o q1 scale q0 q3 q4:Int}{A B C O:List D}{nm g st ru tp:D}{u:t7}(d1:a9 [.scr ns,.int 1,.int 6]=some (.int q1))(h1:atD [D.int 1,.int 1,.int 1,.int 1,.int 1,.int 1000000] q1=some (.int scale))(hs:1≤scale)(hs2:scale≤1000000)(hO:atD O o=some (.tup [nm,g,st,ru,cz u,tp]))(du:lU u)(d0:a9 [.scr ns,.int k,.int 70]=some (.int q0))(d3:a9 [.scr ns,.int (k+3000),.int 4]=some (.int q3))(d4:a9 [.scr ns,.int (k+4000),.int 6]=some (.int q4))(l4:0≤q4)(l4' :q4<6)(hk:0≤k)(hk2:k<10000):
  ∃h:Int,jh [.scr ns,.tup [.tup A,.tup B,.tup C,.tup O],.int o,.int k]=some (.int h):=by
 have d5:=aR (ns:=ns) (k:=k+5000) (m:=12) (by omega) (by omega) (by omega)
 have d6:=aR (ns:=ns) (k:=k+5500) (m:=25) (by omega) (by omega) (by omega)
 have ms:∀j,ck scale j=true:=λj=>bQ (by omega) (by omega)
 have iu:=pI u
 suffices hmid:∃(x7 x8:Option Slot) (h0:Int),ifS (kz (b8 eqB (ixE (vE 5) (kE (.int 0))) (kE (.str "due"))) (b8 gtB (aH a9 (a5 (vE 0) (a5 (opE aS (vE 3) (kE (.int 3000))) (a5 (kE (.int 4)) ao)))) (kE (.int 0))))
  (aE (aT 7 (opE aS (ixE (vE 5) (kE (.int 1))) (opE dB (aH a9 (a5 (vE 0) (a5 (vE 3) (a5 (dQ nU (a5 (ixE (vE 5) (kE (.int 3))) (a5 (kE (.int 6)) ao))) ao)))) (ixE (vE 5) (kE (.int 2))))))
 (aE (aT 8 (fQ (a5 (vE 7) (a5 (opE lj (vE 7) (ixE (vE 5) (kE (.int 4)))) (a5 (opE aS (vE 7) (ixE (vE 5) (kE (.int 5)))) (a5 (opE lj (opE lj (vE 7) (ixE (vE 5) (kE (.int 4)))) (kE (.int 1))) (a5 (opE aS (opE aS (vE 7) (ixE (vE 5) (kE (.int 5)))) (kE (.int 1))) (a5 (vE 7) ao))))))))
 (aT 6 (dQ u0 (a5 (kE (.int 0)) (a5 (ixE (vE 8) (aH a9 (a5 (vE 0) (a5 (opE aS (vE 3) (kE (.int 4000))) (a5 (kE (.int 6)) ao))))) ao))))))
  bc [some (.sh (.scr ns)),some (.sh (.tup [.tup A,.tup B,.tup C,.tup O])),some (.sh (.int o)),some (.sh (.int k)),some (.sh (.int scale)),some (.sh (cz u)),some (.sh (.int (scale*q0))),none,none]=some (.nx [some (.sh (.scr ns)),some (.sh (.tup [.tup A,.tup B,.tup C,.tup O])),some (.sh (.int o)),some (.sh (.int k)),some (.sh (.int scale)),some (.sh (cz u)),some (.sh (.int h0)),x7,x8]) by
  obtain⟨x7,x8,h0,hm⟩:=hmid
  obtain⟨h',ht⟩:=Dp (ns:=ns) (k:=k) (h:=h0) (x1:=some (.sh (.tup [.tup A,.tup B,.tup C,.tup O]))) (x2:=some (.sh (.int o))) (x4:=some (.sh (.int scale))) (x5:=some (.sh (cz u))) (x7:=x7) (x8:=x8) d5 d6
  refine⟨h',bf rfl ?_⟩
  unfold kJ
  generalize cz u=U at*
  refine(ar (e:=[some (.sh (.scr ns)),some (.sh (.tup [.tup A,.tup B,.tup C,.tup O])),some (.sh (.int o)),some (.sh (.int k)),some (.sh (.int scale)),none,none,none,none]) (by simp[bq,d1,h1,ai])).trans ?_
  refine(ar (e:=[some (.sh (.scr ns)),some (.sh (.tup [.tup A,.tup B,.tup C,.tup O])),some (.sh (.int o)),some (.sh (.int k)),some (.sh (.int scale)),some (.sh U),none,none,none]) (by simp[hO,iu])).trans ?_
  refine(ar (e:=[some (.sh (.scr ns)),some (.sh (.tup [.tup A,.tup B,.tup C,.tup O])),some (.sh (.int o)),some (.sh (.int k)),some (.sh (.int scale)),some (.sh U),some (.sh (.int (scale*q0))),none,none]) (by simp[d0,ms])).trans ?_
  exact(ar hm).trans ht
 cases u with
 |asked b=>
  refine⟨none,none,scale*q0, ?_⟩
  simp[cz,eqB]
 |due b e m ea la=>
  obtain⟨e1,e2,hm,_⟩:=du
  by_cases c:q3>0
  ·have mm:∃mn:Int,0<mn∧(if(6:Int)<m then 6 else m)=mn:=⟨_,by split<;>omega,rfl⟩
   obtain⟨mn,mn0,emn⟩:=mm
   have dn:=aR (ns:=ns) (k:=k) (m:=mn) (by omega) (by omega) mn0
   have me:∀j,ck j e=true:=λj=>ot (by omega) (by omega)
   generalize hnear:b+draw ns k mn*e=near
   obtain⟨v,hv,ev⟩:=at6 (a:=near) (b:=near -ea) (c:=near+la) (d:=near -ea -1) (e:=near+la+1) (f:=near) l4 l4'
   refine⟨some (.sh (.int near)),some (.own (.lst [.int near,.int (near -ea),.int (near+la),.int (near -ea -1),.int (near+la+1),.int near])),(if v>0 then v else 0), ?_⟩
   have mi:nU [.int m,.int 6]=some ⟨.c,.int mn⟩:=by rw[←emn];rfl
   have mx:u0 [.int 0,.int v]=some ⟨.c,.int (if v>0 then v else 0)⟩:=rfl
   have cc:q3>0:=c
   generalize (if v>0 then v else 0:Int)=vm at*
   unfold cz
   refine(MW (by simp[eqB,d3,cc])).trans ?_
   refine(ar (e:=[some (.sh (.scr ns)),some (.sh (.tup [.tup A,.tup B,.tup C,.tup O])),some (.sh (.int o)),some (.sh (.int k)),some (.sh (.int scale)),some (.sh (.tup [.str "due",.int b,.int e,.int m,.int ea,.int la])),some (.sh (.int (scale*q0))),some (.sh (.int near)),none]) (by simp[mi,dn,me,hnear])).trans ?_
   refine(ar (e:=[some (.sh (.scr ns)),some (.sh (.tup [.tup A,.tup B,.tup C,.tup O])),some (.sh (.int o)),some (.sh (.int k)),some (.sh (.int scale)),some (.sh (.tup [.str "due",.int b,.int e,.int m,.int ea,.int la])),some (.sh (.int (scale*q0))),some (.sh (.int near)),some (.own (.lst [.int near,.int (near -ea),.int (near+la),.int (near -ea -1),.int (near+la+1),.int near]))]) (by simp[ai])).trans ?_
   simp[d4,ev,mx]
  ·refine⟨none,none,scale*q0, ?_⟩
   simp[cz,eqB,d3,c]
theorem Kx{ns:List Int}{w:World}{k o:Int}(W:c0 w)(h0:0≤o)(h1:o<w.orders.length)(hk:0≤k)(hk2:k<10000):∃h:Int,jh [.scr ns,bK w,.int o,.int k]=some (.int h):=by
 obtain⟨x,hx,hO⟩:=wX h0 h1
 have d1:=aR (ns:=ns) (k:=1) (m:=6) (by omega) (by omega) (by omega)
 obtain⟨scale,c1,c2,e1⟩:=vo ns
 exact Ic d1 e1 c1 c2 hO (W.oo x hx).du (aR (by omega) (by omega) (by omega)) (aR (by omega) (by omega) (by omega)) (aR (by omega) (by omega) (by omega)) (b5 ns (k+4000) 6 (by omega)).1 (b5 ns (k+4000) 6 (by omega)).2 hk hk2
theorem Dq{ns:List Int}{k o st part q6 q7 q8:Int}{A B C O M:List D}{nm g ru dd tp n2 cp yg:D}(hO:atD O o=some (.tup [nm,g,.int st,ru,dd,tp]))(hS:atD B st=some (.tup [n2,.tup (.int part::M),cp,yg]))(hp:1≤part)(hp2:part≤100000)(d6:a9 [.scr ns,.int (k+6000),.int 8]=some (.int q6))(d7:a9 [.scr ns,.int (k+7000),.int 14]=some (.int q7))(d8:a9 [.scr ns,.int (k+8000),.int 6]=some (.int q8))(l8:0≤q8)(l8' :q8<6):
  ∃a:Int,fc [.scr ns,.tup [.tup A,.tup B,.tup C,.tup O],.int o,.int k]=some (.int a):=by
 have mp:∀j,ck part j=true:=λj=>bQ (by omega) (by omega)
 generalize hmany:part*(1+q6)=many
 obtain⟨v,hv,ev⟩:=at6 (a:=0) (b:= -many) (c:=many+1) (d:=1000000000) (e:=part*2001) (f:= -1) l8 l8'
 have pre:∀r,(∃a,r=some (Out.ret (.int a)))→aE (ifS (b8 eqB (aH a9 (a5 (vE 0) (a5 (opE aS (vE 3) (kE (.int 7000))) (a5 (kE (.int 14)) ao)))) (kE (.int 0))) (retS (ixE (vE 6) (aH a9 (a5 (vE 0) (a5 (opE aS (vE 3) (kE (.int 8000))) (a5 (kE (.int 6)) ao)))))) bc) (retS (vE 5)) [some (.sh (.scr ns)),some (.sh (.tup [.tup A,.tup B,.tup C,.tup O])),some (.sh (.int o)),some (.sh (.int k)),some (.sh (.int part)),some (.sh (.int many)),some (.own (.lst [.int 0,.int (-many),.int (many+1),.int 1000000000,.int (part*2001),.int (-1)]))]=r→∃a:Int,fc [.scr ns,.tup [.tup A,.tup B,.tup C,.tup O],.int o,.int k]=some (.int a):=by
  rintro r ⟨a,rfl⟩ h
  refine⟨a,bf rfl ?_⟩
  unfold iC
  refine(ar (e:=[some (.sh (.scr ns)),some (.sh (.tup [.tup A,.tup B,.tup C,.tup O])),some (.sh (.int o)),some (.sh (.int k)),some (.sh (.int part)),none,none]) (by simp[bq,hO,hS])).trans ?_
  refine(ar (e:=[some (.sh (.scr ns)),some (.sh (.tup [.tup A,.tup B,.tup C,.tup O])),some (.sh (.int o)),some (.sh (.int k)),some (.sh (.int part)),some (.sh (.int many)),none]) (by simp[d6,mp,hmany])).trans ?_
  exact(ar (e:=[some (.sh (.scr ns)),some (.sh (.tup [.tup A,.tup B,.tup C,.tup O])),some (.sh (.int o)),some (.sh (.int k)),some (.sh (.int part)),some (.sh (.int many)),some (.own (.lst [.int 0,.int (-many),.int (many+1),.int 1000000000,.int (part*2001),.int (-1)]))]) (by simp[mp,ai])).trans h
 by_cases c:q7=0
 ·exact pre _ ⟨v,rfl⟩ (by simp[d7,c,d8,ev])
 ·exact pre _ ⟨many,rfl⟩ (by simp[d7,c])
theorem FJ{ns:List Int}{w:World}{k o:Int}(W:c0 w)(h0:0≤o)(h1:o<w.orders.length)(hk:0≤k)(hk2:k<10000):∃a:Int,fc [.scr ns,bK w,.int o,.int k]=some (.int a):=by
 obtain⟨x,hx,hO⟩:=wX h0 h1
 have ok:=W.oo x hx
 obtain⟨s,hs,hS⟩:=FI (w:=w) ok.s0 ok.s1
 have so:=W.so s hs
 exact Dq hO hS so.p1 so.p2 (aR (by omega) (by omega) (by omega)) (aR (by omega) (by omega) (by omega)) (aR (by omega) (by omega) (by omega)) (b5 ns (k+8000) 6 (by omega)).1 (b5 ns (k+8000) 6 (by omega)).2
noncomputable abbrev Tr:=Int×Int×Int
noncomputable def kvT(ts:List Tr):List (List Key×D):=ts.map λt=>([Sum.inl t.1,Sum.inl t.2.1],D.int t.2.2)
theorem C8(ts:List Tr)(o h:Int):((kvT ts).any λkv=>decide (kv.1=[Sum.inl o,Sum.inl h]))=true↔∃v,(o,h,v)∈ts:=by
 rw[GcF]
 constructor
 ·rintro⟨kv,hk,e⟩
  obtain⟨t,ht,rfl⟩:=GaM.mp hk
  have e' :=GaB e
  simp at e'
  exact⟨t.2.2,by rw[←e'.1,←e'.2];exact ht⟩
 ·rintro⟨v,hv⟩
  exact⟨_,GaM.mpr ⟨_,hv,rfl⟩,by simp⟩
theorem qS(ts:List Tr)(o h v:Int):∃ts' :List Tr,DL.put (kvT ts) [Sum.inl o,Sum.inl h] (.int v)=kvT ts' ∧ts'.length≤ts.length+1∧(∀t∈ts',t∈ts∨t=(o,h,v))∧((∃v,(o,h,v)∈ts)→ts'.length=ts.length)∧∃v,(o,h,v)∈ts' :=by
 unfold DL.put
 by_cases c:((kvT ts).any λkv=>decide (kv.1=[Sum.inl o,Sum.inl h]))=true
 ·rw[Gaf c]
  refine⟨ts.map λt=>if t.1=o∧t.2.1=h then(o,h,v) else t, ?_,by simp,λt ht=> ?_,λ_=>by simp,v, ?_⟩
  ·unfold kvT
   rw[GaT,GaT]
   refine GaQ λt _=> ?_
   simp only[Function.comp]
   by_cases c:t.1=o∧t.2.1=h
   ·have e:([Sum.inl t.1,Sum.inl t.2.1]:List Key)=[Sum.inl o,Sum.inl h]:=by rw[c.1,c.2]
    rw[Gaf e,Gaf c,c.1,c.2]
   ·have e:¬([Sum.inl t.1,Sum.inl t.2.1]:List Key)=[Sum.inl o,Sum.inl h]:=λz=>by
     simp at z
     exact c z
    rw[Gah e,Gah c]
  ·obtain⟨s,hs,rfl⟩:=GaM.mp ht
   split
   ·exact .inr rfl
   ·exact .inl hs
  ·obtain⟨v',hv'⟩:=(C8 ts o h).mp c
   exact GaM.mpr ⟨_,hv',by simp⟩
 ·rw[Gah c]
  refine⟨ts++[(o,h,v)],by simp[kvT],by simp,λt ht=> ?_,λq=>absurd ((C8 ts o h).mpr q) c,v,by simp⟩
  rcases Gaw.mp ht with h|h
  ·exact .inl h
  ·exact .inr (by simpa using h)
theorem kb(ts:List Tr):bO (kvT ts)=ts.map λt=>D.tup [.tup [.int t.1,.int t.2.1],.int t.2.2]:=by
 unfold bO kvT
 rw[GaT]
 rfl
theorem wY(ts:List Tr):cy (gT [0,1]) j0 (bD (a5 (ixE (vE 0) (kE (.int 0))) (a5 (ixE (vE 0) (kE (.int 1))) (a5 (vE 1) ao)))) (bO (kvT ts)) [none,none]=some (ts.map trD):=by
 rw[kb]
 refine ka (g:=gT [0,1]) (λt:Tr=>D.tup [.tup [.int t.1,.int t.2.1],.int t.2.2]) (λenv=>∃y z,env=[y,z]) trD ts _ ⟨none,none,rfl⟩ ?_
 rintro t ht env ⟨y,z,rfl⟩
 refine⟨[some (.sh (.tup [.int t.1,.int t.2.1])),some (.sh (.int t.2.2))],by simp,⟨_,_,rfl⟩,.c, ?_,rfl⟩
 simp[ai,trD]
theorem Ie(ts:List Tr):keysOk (ts.map trD)=true:=by
 have h1:(ts.map trD).all (mN 1)=true:=by
  rw[Gbx,Gat]
  intro p _
  simp[trD,mN,tyD,mM]
 have h2:((ts.map trD).all λx=>(ts.map trD).all λy=>w9 x y)=true:=by
  rw[Gbx,Gat]
  intro p _
  simp only[GcJ]
  rw[Gbx,Gat]
  intro q _
  simp[trD,w9,mS,tyD,b9]
 unfold keysOk
 rw[h1,h2];simp
noncomputable def Ig:D→Tr
 | .tup [.int a,.int b,.int c]=>(a,b,c)
 |_=>(0,0,0)
theorem C9(ts:List Tr)(hl:ts.length<64):∃rs:List Tr,sortedS [.lst (ts.map trD)]=some ⟨.tn,.lst (rs.map trD)⟩∧rs.Perm ts:=by
 have hp:=fH (ts.map trD)
 have all:∀x∈df (ts.map trD),∃p,x=trD p:=λx hx=>by
  obtain⟨p,_,e⟩:=GaM.mp (hp.mem_iff.mp hx)
  exact⟨p,e.symm⟩
 have e:df (ts.map trD)=((df (ts.map trD)).map Ig).map trD:=by
  rw[GaT]
  conv=>lhs;rw[←Gcb (df (ts.map trD))]
  apply GaQ
  intro x hx
  obtain⟨p,rfl⟩:=all x hx
  rfl
 refine⟨(df (ts.map trD)).map Ig, ?_, ?_⟩
 ·rw[←e]
  have h1:((ts.map trD).length<64):=by simpa using hl
  unfold sortedS one mQ
  simp only[Option.bind_some]
  rw[Ie,GaK h1];rfl
 ·have:=Gdd Ig hp
  rw[GaT] at this
  have e2:ts.map (Ig∘trD)=ts:=by
   conv=>rhs;rw[←Gcb ts]
   exact GaQ λp _=>rfl
  rw[e2] at this
  exact this
theorem uo{ns:List Int}{scale many n LG qa qb qc qd qe g h v:Int}{A B C O:List D}{ts ts' :List Tr}{x6:Option Slot}(hLG:cV [.tup A]=some ⟨.c,.int LG⟩)(da:a9 [.scr ns,.int (900+n),.int LG]=some (.int qa))(db:a9 [.scr ns,.int (920+n),.int 50]=some (.int qb))(ms:∀j,ck scale j=true)(dc:a9 [.scr ns,.int 980,.int 2]=some (.int qc))(hgh:(n<LG∧qc=0∧g=n∧h=0)∨(¬(n<LG∧qc=0)∧g=qa∧h=scale*qb))(dd:a9 [.scr ns,.int (940+n),.int 200]=some (.int qd))(de:a9 [.scr ns,.int (960+n),.int 8]=some (.int qe))(hv:atD [D.int (1+qd),.int 1000000] (qe/7)=some (.int v))
  (hp:DL.put (kvT ts) [Sum.inl g,Sum.inl h] (.int v)=kvT ts')(hz:(kvT ts).length<1000):
  ∃y6,cA [some (.sh (.scr ns)),some (.sh (.tup [.tup A,B',C',O'])),some (.sh (.int many)),some (.sh (.int scale)),some (.own (.dT (kvT ts))),some (.sh (.int n)),x6]=
   some (.nx [some (.sh (.scr ns)),some (.sh (.tup [.tup A,B',C',O'])),some (.sh (.int many)),some (.sh (.int scale)),some (.own (.dT (kvT ts'))),some (.sh (.int n)),y6]):=by
 have z:(kvT ts).length<16777216:=by omega
 generalize hkv:kvT ts=kv at*
 refine⟨some (.sh (.tup [.int g,.int h])), ?_⟩
 unfold cA
 refine(ar (e:=[some (.sh (.scr ns)),some (.sh (.tup [.tup A,B',C',O'])),some (.sh (.int many)),some (.sh (.int scale)),some (.own (.dT kv)),some (.sh (.int n)),some (.sh (.tup [.int qa,.int (scale*qb)]))]) (by simp[-j3,hLG,da,db,ms,ai])).trans ?_
 refine(ar (e:=[some (.sh (.scr ns)),some (.sh (.tup [.tup A,B',C',O'])),some (.sh (.int many)),some (.sh (.int scale)),some (.own (.dT kv)),some (.sh (.int n)),some (.sh (.tup [.int g,.int h]))]) ?_).trans ?_
 ·rcases hgh with⟨c1,c2,rfl,rfl⟩| ⟨c,rfl,rfl⟩
  ·simp[-j3,hLG,c1,c2,dc,ai]
  ·by_cases c1:n<LG
   ·have c2:¬qc=0:=λz=>c ⟨c1,z⟩
    simp[-j3,hLG,c1,c2,dc]
   ·simp[-j3,hLG,c1]
 ·simp[dd,de,hv,putD,keyOf,z,ai,hp]
theorem wZ{ns:List Int}{w:World}{scale many n:Int}{ts:List Tr}{x6:Option Slot}(W:c0 w)(hs:1≤scale)(hs2:scale≤1000000)(hn:0≤n)(hn2:n<100)(hl:ts.length≤100):
  ∃(ts' :List Tr) (y6:Option Slot),ts'.length≤ts.length+1∧cA [some (.sh (.scr ns)),some (.sh (bK w)),some (.sh (.int many)),some (.sh (.int scale)),some (.own (.dT (kvT ts))),some (.sh (.int n)),x6]=
   some (.nx [some (.sh (.scr ns)),some (.sh (bK w)),some (.sh (.int many)),some (.sh (.int scale)),some (.own (.dT (kvT ts'))),some (.sh (.int n)),y6]):=by
 have g1:=W.g1
 have g6:=W.g6
 have hLG:cV [.tup (w.bT.map cw)]=some ⟨.c,.int (w.bT.length:Int)⟩:=by simp[cV]
 have da:=aR (ns:=ns) (k:=900+n) (m:=(w.bT.length:Int)) (by omega) (by omega) (by omega)
 have db:=aR (ns:=ns) (k:=920+n) (m:=50) (by omega) (by omega) (by omega)
 have dc:=aR (ns:=ns) (k:=980) (m:=2) (by omega) (by omega) (by omega)
 have dd:=aR (ns:=ns) (k:=940+n) (m:=200) (by omega) (by omega) (by omega)
 have de:=aR (ns:=ns) (k:=960+n) (m:=8) (by omega) (by omega) (by omega)
 have le:=b5 ns (960+n) 8 (by omega)
 obtain⟨v,_,hv⟩:=at2 (a:=1+draw ns (940+n) 200) (b:=1000000) (q:=draw ns (960+n) 8/7) (by omega) (by omega)
 have hz:(kvT ts).length<1000:=by unfold kvT;rw[Gae];omega
 by_cases c:n<(w.bT.length:Int)∧draw ns 980 2=0
 ·obtain⟨ts',p1,p2,_⟩:=qS ts n 0 v
  obtain⟨y6,e⟩:=uo (scale:=scale) (many:=many) (x6:=x6) (B:=[]) (C:=[]) (O:=[]) hLG da db (λj=>bQ (by omega) (by omega)) dc (.inl ⟨c.1,c.2,rfl,rfl⟩) dd de hv p1 hz
  exact⟨ts',y6,p2,e⟩
 ·obtain⟨ts',p1,p2,_⟩:=qS ts (draw ns (900+n) (w.bT.length:Int)) (scale*draw ns (920+n) 50) v
  obtain⟨y6,e⟩:=uo (many:=many) (x6:=x6) (B:=[]) (C:=[]) (O:=[]) hLG da db (λj=>bQ (by omega) (by omega)) dc (.inr ⟨c,rfl,rfl⟩) dd de hv p1 hz
  exact⟨ts',y6,p2,e⟩
theorem iH(ts:List Tr):aP (ts.map trD)=true:=gh vn ts
theorem A0{ns:List Int}{q1 scale many:Int}{wd:D}{kv:List (List Key×D)}{R Rs:List D}{y5 y6:Option Slot}(d1:a9 [.scr ns,.int 1,.int 6]=some (.int q1))(h1:atD [D.int 1,.int 1,.int 1,.int 1,.int 1,.int 1000000] q1=some (.int scale))(sm:cn many=true)
  (l1:forL (gN 5) cA (bB 0 many.toNat) [some (.sh (.scr ns)),some (.sh wd),some (.sh (.int many)),some (.sh (.int scale)),some (.own (.dT [])),none,none]=some (.nx [some (.sh (.scr ns)),some (.sh wd),some (.sh (.int many)),some (.sh (.int scale)),some (.own (.dT kv)),y5,y6]))
  (hz:(bO kv).length≤16777216)(hc:cy (gT [0,1]) j0 (bD (a5 (ixE (vE 0) (kE (.int 0))) (a5 (ixE (vE 0) (kE (.int 1))) (a5 (vE 1) ao)))) (bO kv) [none,none]=some R)(hs:sortedS [.lst R]=some ⟨.tn,.lst Rs⟩)(im:aP Rs=true):fC [.scr ns,wd,.int many]=some (.tup Rs):=by
 refine bf rfl ?_
 unfold gG
 refine(ar (e:=[some (.sh (.scr ns)),some (.sh wd),some (.sh (.int many)),some (.sh (.int scale)),none,none,none]) (by simp[bq,d1,h1,ai])).trans ?_
 refine(ar (e:=[some (.sh (.scr ns)),some (.sh wd),some (.sh (.int many)),some (.sh (.int scale)),some (.own (.dT [])),none,none]) (by simp)).trans ?_
 refine(ar (e:=[some (.sh (.scr ns)),some (.sh wd),some (.sh (.int many)),some (.sh (.int scale)),some (.own (.dT kv)),y5,y6]) (by simp[-forL,sm,l1])).trans ?_
 simp[-cy,ai,DL.compEnv,fE,hz,hc,hs,im]
theorem Dr{ns:List Int}{w:World}{n:Nat}(W:c0 w)(hn:n≤60):∃ws:List Tr,ws.length≤60∧fC [.scr ns,bK w,.int (n:Int)]=some (.tup (ws.map trD)):=by
 have d1:=aR (ns:=ns) (k:=1) (m:=6) (by omega) (by omega) (by omega)
 obtain⟨scale,c1,c2,h1⟩:=vo ns
 obtain⟨e,l1,ts,y5,y6,t1,rfl⟩:=gf (g:=gN 5) (body:=cA) (λm env=>∃(ts:List Tr) (y5 y6:Option Slot),ts.length≤m∧env=[some (.sh (.scr ns)),some (.sh (bK w)),some (.sh (.int (n:Int))),some (.sh (.int scale)),some (.own (.dT (kvT ts))),y5,y6]) (bB 0 (n:Int).toNat) 0 [some (.sh (.scr ns)),some (.sh (bK w)),some (.sh (.int (n:Int))),some (.sh (.int scale)),some (.own (.dT [])),none,none] ⟨[],none,none,by simp,rfl⟩ (by
  rintro i d e hd ⟨ts,y5,y6,t1,rfl⟩
  obtain⟨hi,rfl⟩:=cG hd
  obtain⟨ts',z6,p1,p2⟩:=wZ (ns:=ns) (w:=w) (scale:=scale) (many:=(n:Int)) (n:=0+(i:Int)) (ts:=ts) (x6:=y6) W c1 c2 (by omega) (by omega) (by omega)
  exact⟨_,_,rfl,p2,ts',some (.sh (.int (0+(i:Int)))),z6,by omega,rfl⟩)
 rw[gz] at t1
 obtain⟨rs,r1,r2⟩:=C9 ts (by omega)
 have hz:(bO (kvT ts)).length≤16777216:=by rw[kb,Gae];omega
 exact⟨rs,by rw[r2.length_eq];omega,A0 d1 h1 (cF (by omega) (by omega)) l1 hz (wY ts) r1 (iH rs)⟩
theorem Ds{ns:List Int}{many n LO o h a q:Int}{A B C O:List D}{ts t1 t2:List Tr}{x5 x6:Option Slot}(hLO:cV [.tup O]=some ⟨.c,.int LO⟩)(d0:a9 [.scr ns,.int (1000+n),.int LO]=some (.int o))(eh:jh [.scr ns,.tup [.tup A,.tup B,.tup C,.tup O],.int o,.int (1100+n)]=some (.int h))(ea:fc [.scr ns,.tup [.tup A,.tup B,.tup C,.tup O],.int o,.int (1100+n)]=some (.int a))(dq:a9 [.scr ns,.int (1050+n),.int 40]=some (.int q))(p1:DL.put (kvT ts) [Sum.inl o,Sum.inl h] (.int a)=kvT t1)(p2:DL.put (kvT t1) [Sum.inl o,Sum.inl h] (.int (10000000000000000000000000000000000000000+n))=kvT t2)(hz:(kvT ts).length<1000)(hz2:(kvT t1).length<1000):
  cB [some (.sh (.scr ns)),some (.sh (.tup [.tup A,.tup B,.tup C,.tup O])),some (.sh (.int many)),some (.own (.dT (kvT ts))),some (.sh (.int n)),x5,x6]=
   some (.nx [some (.sh (.scr ns)),some (.sh (.tup [.tup A,.tup B,.tup C,.tup O])),some (.sh (.int many)),some (.own (.dT (if q=0 then kvT t2 else kvT t1))),some (.sh (.int n)),some (.sh (.int o)),some (.sh (.tup [.int o,.int h]))]):=by
 have z:(kvT ts).length<16777216:=by omega
 have z2:(kvT t1).length<16777216:=by omega
 generalize kvT ts=k0 at*
 generalize kvT t1=k1 at*
 generalize kvT t2=k2 at*
 unfold cB
 refine(ar (e:=[some (.sh (.scr ns)),some (.sh (.tup [.tup A,.tup B,.tup C,.tup O])),some (.sh (.int many)),some (.own (.dT k0)),some (.sh (.int n)),some (.sh (.int o)),x6]) (by simp[-j3,hLO,d0])).trans ?_
 refine(ar (e:=[some (.sh (.scr ns)),some (.sh (.tup [.tup A,.tup B,.tup C,.tup O])),some (.sh (.int many)),some (.own (.dT k0)),some (.sh (.int n)),some (.sh (.int o)),some (.sh (.tup [.int o,.int h]))]) (by simp[eh,ai])).trans ?_
 refine(ar (e:=[some (.sh (.scr ns)),some (.sh (.tup [.tup A,.tup B,.tup C,.tup O])),some (.sh (.int many)),some (.own (.dT k1)),some (.sh (.int n)),some (.sh (.int o)),some (.sh (.tup [.int o,.int h]))]) (by simp[ea,putD,keyOf,z,ai,p1])).trans ?_
 by_cases c:q=0
 ·rw[Gaf c]
  simp[dq,c,putD,keyOf,z2,ai,p2]
 ·rw[Gah c]
  simp[dq,c]
def ie(n:Nat)(gv:List Tr):Prop:=∀t∈gv,0≤t.1∧t.1<n
theorem A1{ns:List Int}{w:World}{many n:Int}{ts:List Tr}{x5 x6:Option Slot}(W:c0 w)(hn:0≤n)(hn2:n<100)(hl:ts.length≤100)(hg:ie w.orders.length ts):
  ∃(ts' :List Tr) (y5 y6:Option Slot),ts'.length≤ts.length+1∧ie w.orders.length ts' ∧cB [some (.sh (.scr ns)),some (.sh (bK w)),some (.sh (.int many)),some (.own (.dT (kvT ts))),some (.sh (.int n)),x5,x6]=
   some (.nx [some (.sh (.scr ns)),some (.sh (bK w)),some (.sh (.int many)),some (.own (.dT (kvT ts'))),some (.sh (.int n)),y5,y6]):=by
 have o1:=W.o1
 have o12:=W.o12
 have hLO:cV [.tup (w.orders.map aF)]=some ⟨.c,.int (w.orders.length:Int)⟩:=by simp[cV]
 have d0:=aR (ns:=ns) (k:=1000+n) (m:=(w.orders.length:Int)) (by omega) (by omega) (by omega)
 have l0:=b5 ns (1000+n) (w.orders.length:Int) (by omega)
 generalize draw ns (1000+n) (w.orders.length:Int)=o at*
 obtain⟨h,eh⟩:=Kx (ns:=ns) (w:=w) (k:=1100+n) (o:=o) W l0.1 l0.2 (by omega) (by omega)
 obtain⟨a,ea⟩:=FJ (ns:=ns) (w:=w) (k:=1100+n) (o:=o) W l0.1 l0.2 (by omega) (by omega)
 have dq:=aR (ns:=ns) (k:=1050+n) (m:=40) (by omega) (by omega) (by omega)
 obtain⟨t1,p1,p2,p3,_,p4⟩:=qS ts o h a
 obtain⟨t2,r1,r2,r3,r4,_⟩:=qS t1 o h (10000000000000000000000000000000000000000+n)
 have hz:(kvT ts).length<1000:=by unfold kvT;rw[Gae];omega
 have hz2:(kvT t1).length<1000:=by unfold kvT;rw[Gae];omega
 have ev:=Ds (many:=many) (x5:=x5) (x6:=x6) hLO d0 eh ea dq p1 r1 hz hz2
 have g1:ie w.orders.length t1:=λt ht=>by
  rcases p3 t ht with q|q
  ·exact hg t q
  ·rw[q];exact l0
 have g2:ie w.orders.length t2:=λt ht=>by
  rcases r3 t ht with q|q
  ·exact g1 t q
  ·rw[q];exact l0
 by_cases c:draw ns (1050+n) 40=0
 ·rw[Gaf c] at ev
  exact⟨t2,_,_,by have:=r4 p4;omega,g2,ev⟩
 ·rw[Gah c] at ev
  exact⟨t1,_,_,by omega,g1,ev⟩
theorem A2{ns:List Int}{many:Int}{wd:D}{kv:List (List Key×D)}{R Rs:List D}{y4 y5 y6:Option Slot}(sm:cn many=true)
  (l1:forL (gN 4) cB (bB 0 many.toNat) [some (.sh (.scr ns)),some (.sh wd),some (.sh (.int many)),some (.own (.dT [])),none,none,none]=some (.nx [some (.sh (.scr ns)),some (.sh wd),some (.sh (.int many)),some (.own (.dT kv)),y4,y5,y6]))
  (hz:(bO kv).length≤16777216)(hc:cy (gT [0,1]) j0 (bD (a5 (ixE (vE 0) (kE (.int 0))) (a5 (ixE (vE 0) (kE (.int 1))) (a5 (vE 1) ao)))) (bO kv) [none,none]=some R)(hs:sortedS [.lst R]=some ⟨.tn,.lst Rs⟩)(im:aP Rs=true):fD [.scr ns,wd,.int many]=some (.tup Rs):=by
 refine bf rfl ?_
 unfold gH
 refine(ar (e:=[some (.sh (.scr ns)),some (.sh wd),some (.sh (.int many)),some (.own (.dT [])),none,none,none]) (by simp[bq])).trans ?_
 refine(ar (e:=[some (.sh (.scr ns)),some (.sh wd),some (.sh (.int many)),some (.own (.dT kv)),y4,y5,y6]) (by simp[-forL,sm,l1])).trans ?_
 simp[-cy,ai,DL.compEnv,fE,hz,hc,hs,im]
theorem Dt{ns:List Int}{w:World}{n:Nat}(W:c0 w)(hn:n<64):∃gv:List Tr,gv.length<64∧ie w.orders.length gv∧fD [.scr ns,bK w,.int (n:Int)]=some (.tup (gv.map trD)):=by
 obtain⟨e,l1,ts,y4,y5,y6,t1,t2,rfl⟩:=gf (g:=gN 4) (body:=cB) (λm env=>∃(ts:List Tr) (y4 y5 y6:Option Slot),ts.length≤m∧ie w.orders.length ts∧env=[some (.sh (.scr ns)),some (.sh (bK w)),some (.sh (.int (n:Int))),some (.own (.dT (kvT ts))),y4,y5,y6]) (bB 0 (n:Int).toNat) 0 [some (.sh (.scr ns)),some (.sh (bK w)),some (.sh (.int (n:Int))),some (.own (.dT [])),none,none,none] ⟨[],none,none,none,by simp,λt ht=>by simp at ht,rfl⟩ (by
  rintro i d e hd ⟨ts,y4,y5,y6,t1,t2,rfl⟩
  obtain⟨hi,rfl⟩:=cG hd
  obtain⟨ts',z5,z6,p1,p2,p3⟩:=A1 (ns:=ns) (w:=w) (many:=(n:Int)) (n:=0+(i:Int)) (ts:=ts) (x5:=y5) (x6:=y6) W (by omega) (by omega) (by omega) t2
  exact⟨_,_,rfl,p3,ts',some (.sh (.int (0+(i:Int)))),z5,z6,by omega,p2,rfl⟩)
 rw[gz] at t1
 obtain⟨rs,r1,r2⟩:=C9 ts (by omega)
 have hz:(bO (kvT ts)).length≤16777216:=by rw[kb,Gae];omega
 exact⟨rs,by rw[r2.length_eq];omega,λt ht=>t2 t (r2.mem_iff.mp ht),A2 (cF (by omega) (by omega)) l1 hz (wY ts) r1 (iH rs)⟩
noncomputable def i4:Option Int→D
 |some k=> .int k
 |none=> .non
@[simp] theorem Du{k:Int}:i4 (some k)= .int k:=rfl
@[simp] theorem uq:i4 none= .non:=rfl
theorem gk(o:Option Int):(i4 o).imm=true:=by cases o<;>rfl
noncomputable def qI(b e m ea la h:Int):Option Int:=
 if(0≤(h -(b -ea))/e∧(h -(b -ea))/e<m)∧h -(b -ea)-(h -(b -ea))/e*e≤ea+la then some ((h -(b -ea))/e) else none
noncomputable def sf:t7→Int→Option Int
 | .asked _,_=>none
 | .due b e m ea la,h=>qI b e m ea la h
theorem qf{o:Order}{h:Int}(ok:lU o.gq):jb [aF o,.int h]=some (i4 (sf o.gq h)):=by
 obtain⟨name,g,st,way,top,per,most,u,ts⟩:=o
 unfold aF
 cases u with
 |asked b=>
  unfold jb k7 cz sf
  simp
 |due b e m ea la=>
  obtain⟨e1,e2,hm,a0,l0,al,ab,b3⟩:=ok
  have p1:∀i,ck i e=true:=λi=>ot (by omega) (by omega)
  have p2:0<e∧e<1073741824:=by omega
  unfold jb k7 cz sf qI
  simp[p1,p2]
  generalize hk:(h -(b -ea))/e=k
  by_cases c1:0≤k
  ·by_cases c2:k<m
   ·by_cases c3:h -(b -ea)-k*e≤ea+la
    ·have c4:¬ea+la<h -(b -ea)-k*e:=by omega
     simp[c1,c2,c3,c4]
    ·have c4:ea+la<h -(b -ea)-k*e:=by omega
     simp[c1,c2,c3,c4]
   ·simp[c1,c2]
  ·simp[c1]
noncomputable def c9:t7→Int→Bool
 | .asked b,h=>decide (h<b)
 | .due b e m ea la,h=>(qI b e m ea la h).isNone
theorem A3{o:Order}{h:Int}(ok:lU o.gq):lR [aF o,.int h]=some (.bl (c9 o.gq h)):=by
 have d:=qf (h:=h) ok
 obtain⟨name,g,st,way,top,per,most,u,ts⟩:=o
 unfold aF at d⊢
 cases u with
 |asked b=>
  unfold lR lQ cz c9
  simp
 |due b e m ea la=>
  unfold sf at d
  unfold lR lQ c9
  unfold cz at d⊢
  have rv:=bZ (gk (qI b e m ea la h))
  simp[d,rv]
  cases qI b e m ea la h<;>simp[nF,dm]
noncomputable def wgt(g h:Int):List Tr→Option Int→Option Int
 |[],f=>f
 |t::ts,f=>wgt g h ts (if t.1=g∧t.2.1≤h then some t.2.2 else f)
theorem lV{body:DS}{wd:D}{g h:Int}(st:∀(t:Tr) (f:Option Int),body [some (.sh wd),some (.sh (.int g)),some (.sh (.int h)),some (.sh (i4 f)),some (.sh (trD t))]=some (.nx [some (.sh wd),some (.sh (.int g)),some (.sh (.int h)),some (.sh (i4 (if t.1=g∧t.2.1≤h then some t.2.2 else f))),some (.sh (trD t))])):
  ∀(ts:List Tr) (f:Option Int) (x4:Option Slot),∃y4,forL (gN 4) body (ts.map trD) [some (.sh wd),some (.sh (.int g)),some (.sh (.int h)),some (.sh (i4 f)),x4]=some (.nx [some (.sh wd),some (.sh (.int g)),some (.sh (.int h)),some (.sh (i4 (wgt g h ts f))),y4])
 |[],f,x4=> ⟨x4,by simp[wgt]⟩
 |t::ts,f,x4=>by
  obtain⟨y4,e⟩:=lV st ts (if t.1=g∧t.2.1≤h then some t.2.2 else f) (some (.sh (trD t)))
  refine⟨y4, ?_⟩
  have e1:=st t f
  rw[Gau]
  show forL (gN 4) body (trD t::ts.map trD) _=_
  generalize trD t=td at*
  simp only[forL,gN,GaU,GaV,Option.bind_some,e1]
  exact e
theorem lW{ws:List Tr}{g h:Int}:gQ [.tup (ws.map trD),.int g,.int h]=some (i4 (wgt g h ws none)):=by
 obtain⟨y4,e⟩:=lV (body:=jc) (wd:= .tup (ws.map trD)) (g:=g) (h:=h) (λt f=>by
  unfold jc trD
  by_cases c1:t.1=g
  ·by_cases c2:t.2.1≤h
   ·simp[c1,c2,eqB]
   ·simp[c1,c2,eqB]
  ·simp[c1,eqB]) ws none none
 rw[uq] at e
 have im:=gk (wgt g h ws none)
 refine bf rfl ?_
 unfold gP
 generalize i4 (wgt g h ws none)=r at*
 generalize ws.map trD=W at*
 refine(ar (e:=[some (.sh (.tup W)),some (.sh (.int g)),some (.sh (.int h)),some (.sh .non),none]) (by simp[bq])).trans ?_
 refine(ar (e:=[some (.sh (.tup W)),some (.sh (.int g)),some (.sh (.int h)),some (.sh r),y4]) (by simp[-forL,e])).trans ?_
 simp[im]
noncomputable def iI:Cap→Option Int→Option Int
 | .ever t,_=>some t
 | .flat _ t,_=>some t
 | .kilo _ t p,w=>w.map λw=>w*t/p
theorem Be{c:Cap}{w:Option Int}(ok:q9 c):jv [bM c,i4 w]=some (i4 (iI c w)):=by
 cases c with
 |ever t=>unfold jv kD bM iI;simp
 |flat h t=>unfold jv kD bM iI;simp
 |kilo h t p=>
  obtain⟨h1,t1,t2,p1,p2⟩:=ok
  cases w with
  |none=>unfold jv kD bM iI;simp[nF,dm]
  |some w=>
   have mm:ck w t=true:=ot (by omega) (by omega)
   have pp:0<p∧p<1073741824:=by omega
   unfold jv kD bM iI
   simp[nF,dm,mm,pp]
noncomputable def bC:Cap→Bool
 | .kilo _ _ _=>true
 |_=>false
theorem Dv{s:i9}(hc:s.aO.length≤4):f7 [aV s]=some (.bl (s.aO.any bC)):=by
 have c:=ka (g:=gN 0) (f:=bE (b8 eqB (ixE (vE 0) (kE (.int 0))) (kE (.str "kilo")))) bM (λenv=>∃y,env=[y]) (λc=> .bl (bC c)) s.aO [none] ⟨none,rfl⟩ (by
  rintro c hc env ⟨y,rfl⟩
  refine⟨_,rfl,⟨_,rfl⟩,.c, ?_,rfl⟩
  cases c<;>simp[bM,bC,eqB])
 have z:(s.aO.map bM).length≤16777216:=by rw[Gae];omega
 have e2:s.aO.map (λc=>D.bl (bC c))=(s.aO.map bC).map D.bl:=by rw[GaT];rfl
 rw[e2] at c
 have an:((s.aO.map bC).any id)=s.aO.any bC:=by rw[List.any_map];rfl
 unfold f7 dZ aV
 generalize s.aO.map bM=C at*
 rw[←an]
 generalize s.aO.map bC=bs at*
 simp[-cy,ai,DL.compEnv,fE,c,z]
theorem qJ{ws:List Tr}{g h:Int}:kK [.tup (ws.map trD),.int g,.int h]=some (i4 (wgt g h ws none)):=by
 obtain⟨y4,e⟩:=lV (body:=gZ) (wd:= .tup (ws.map trD)) (g:=g) (h:=h) (λt f=>by
  unfold gZ trD
  by_cases c1:t.1=g
  ·by_cases c2:t.2.1≤h
   ·simp[c1,c2,eqB]
   ·simp[c1,c2,eqB]
  ·simp[c1,eqB]) ws none none
 rw[uq] at e
 have im:=gk (wgt g h ws none)
 refine bf rfl ?_
 unfold iD
 generalize i4 (wgt g h ws none)=r at*
 generalize ws.map trD=W at*
 refine(ar (e:=[some (.sh (.tup W)),some (.sh (.int g)),some (.sh (.int h)),some (.sh .non),none]) (by simp[bq])).trans ?_
 refine(ar (e:=[some (.sh (.tup W)),some (.sh (.int g)),some (.sh (.int h)),some (.sh r),y4]) (by simp[-forL,e])).trans ?_
 simp[im]
noncomputable abbrev Flt:=Str×List Int
noncomputable def aw(f:Flt):D:= .tup (.str f.1::f.2.map .int)
noncomputable def kk(b:Bool)(x:Str):List Str:=if b then[x] else[]
theorem oy{L:List Str}{b:Bool}{x:Str}{t:DT}{e0 e1 e2 e3 e4 e5 e6 e7:Option Slot}(ht:t [e0,e1,e2,e3,e4,e5,e6,e7,some (.own (.lst (L.map .str)))]=some b)(hl:L.length<1000):
  ifS t (jq 8 (kE (.str x))) bc [e0,e1,e2,e3,e4,e5,e6,e7,some (.own (.lst (L.map .str)))]=some (.nx [e0,e1,e2,e3,e4,e5,e6,e7,some (.own (.lst ((L++kk b x).map .str)))]):=by
 have z:(L.map D.str).length<16777216:=by rw[Gae];omega
 have e:(L++kk b x).map D.str=L.map D.str++(kk b x).map D.str:=by rw[GaI]
 rw[e]
 cases b with
 |true=>
  generalize L.map D.str=M at*
  simp[ht,kk,ai,z]
 |false=>
  generalize L.map D.str=M at*
  simp[ht,kk]
noncomputable def jm(o:Order)(s:i9)(born:Int)(ws:List Tr)(t:Tr):List Str:=
 kk (c9 o.gq t.2.1) "astray"++kk (decide (o.most<t.2.2)) "most"++kk (decide (t.2.2<1)||decide (¬t.2.2%s.part=0)) "part"++kk (s.aO.any bC&&(wgt o.bN t.2.1 ws none).isNone) "weight"++kk (decide (t.2.1<born+s.young)) "young"
theorem cZ(b:Bool)(x:Str):(kk b x).length≤1:=by cases b<;>simp[kk]
theorem Dw{K:List Str}{n h:Int}:cy (gN 0) j0 (bD (a5 (vE 0) (a5 (vE 1) (a5 (vE 2) ao)))) (K.map .str) [none,some (.sh (.int n)),some (.sh (.int h))]=some (K.map λk=>aw (k,[n,h])):=by
 refine ka (g:=gN 0) D.str (λenv=>∃y,env=[y,some (.sh (.int n)),some (.sh (.int h))]) (λk=>aw (k,[n,h])) K _ ⟨none,rfl⟩ ?_
 rintro k hk env ⟨y,rfl⟩
 refine⟨_,rfl,⟨_,rfl⟩,.c, ?_,rfl⟩
 simp[ai,aw]
theorem gB(fs:List Flt):aP (fs.map aw)=true:=gh (λf=>by
 have:=ou f.2
 simp[aw,this]) fs
theorem Ky{A B C O:List D}{o:Order}{s:i9}{gu:Str×Int}{ws:List Tr}{t:Tr}(hO:atD O t.1=some (aF o))(du:lU o.gq)(hS:atD B o.fj=some (aV s))(so:kM s)(hG:atD A o.bN=some (cw gu))(im:(aF o).imm=true):
  fu [.tup [.tup A,.tup B,.tup C,.tup O],.tup (ws.map trD),trD t]=some (.lst ((jm o s gu.2 ws t).map λk=>aw (k,[t.1,t.2.1]))):=by
 have ea:=A3 (h:=t.2.1) du
 have eg:=Dv (s:=s) so.cl
 have ew:=lW (ws:=ws) (g:=o.bN) (h:=t.2.1)
 have sp:=so.p1
 have is:=jk s
 obtain⟨n,h,a⟩:=t
 dsimp only at*
 have rw' :=bZ (gk (wgt o.bN h ws none))
 generalize hW:ws.map trD=W at*
 have p1:ixD (aF o) (.int 3)=some (.tup [.str o.way,.int o.top,.int o.per,.int o.most]):=rfl
 have p2:ixD (aF o) (.int 1)=some (.int o.bN):=rfl
 have p3:ixD (aF o) (.int 2)=some (.int o.fj):=rfl
 have p4:ixD (aV s) (.int 1)=some (.tup (.int s.part::s.more.map .int)):=rfl
 have p5:ixD (aV s) (.int 3)=some (.int s.young):=rfl
 have p6:ixD (cw gu) (.int 1)=some (.int gu.2):=rfl
 generalize aF o=OD at*
 generalize aV s=SD at*
 generalize cw gu=GD at*
 have sp' :0<s.part:=by omega
 refine bf rfl ?_
 unfold gD trD
 refine(ar (e:=[some (.sh (.tup [.tup A,.tup B,.tup C,.tup O])),some (.sh (.tup W)),some (.sh (.tup [.int n,.int h,.int a])),some (.sh (.int n)),none,none,none,none,none]) (by simp[bq])).trans ?_
 refine(ar (e:=[some (.sh (.tup [.tup A,.tup B,.tup C,.tup O])),some (.sh (.tup W)),some (.sh (.tup [.int n,.int h,.int a])),some (.sh (.int n)),some (.sh (.int h)),none,none,none,none]) (by simp)).trans ?_
 refine(ar (e:=[some (.sh (.tup [.tup A,.tup B,.tup C,.tup O])),some (.sh (.tup W)),some (.sh (.tup [.int n,.int h,.int a])),some (.sh (.int n)),some (.sh (.int h)),some (.sh (.int a)),none,none,none]) (by simp)).trans ?_
 refine(ar (e:=[some (.sh (.tup [.tup A,.tup B,.tup C,.tup O])),some (.sh (.tup W)),some (.sh (.tup [.int n,.int h,.int a])),some (.sh (.int n)),some (.sh (.int h)),some (.sh (.int a)),some (.sh OD),none,none]) (by simp[hO,im])).trans ?_
 refine(ar (e:=[some (.sh (.tup [.tup A,.tup B,.tup C,.tup O])),some (.sh (.tup W)),some (.sh (.tup [.int n,.int h,.int a])),some (.sh (.int n)),some (.sh (.int h)),some (.sh (.int a)),some (.sh OD),some (.sh SD),none]) (by simp[p3,hS,is])).trans ?_
 refine(ar (e:=[some (.sh (.tup [.tup A,.tup B,.tup C,.tup O])),some (.sh (.tup W)),some (.sh (.tup [.int n,.int h,.int a])),some (.sh (.int n)),some (.sh (.int h)),some (.sh (.int a)),some (.sh OD),some (.sh SD),some (.own (.lst (([]:List Str).map .str)))]) (by simp[ai])).trans ?_
 refine(ar (oy (b:=c9 o.gq h) (by simp[ea]) (by simp))).trans ?_
 refine(ar (oy (b:=decide (o.most<a)) (by simp[p1]) (by have:=cZ (c9 o.gq h) "astray";simp;omega))).trans ?_
 refine(ar (oy (b:=decide (a<1)||decide (¬a%s.part=0)) ?_ (by have:=cZ (c9 o.gq h) "astray";have:=cZ (decide (o.most<a)) "most";simp;omega))).trans ?_
 ·by_cases c:a<1
  ·simp[c]
  ·by_cases c2:a%s.part=0
   ·simp[c,p4,sp',neB,c2]
   ·simp[c,p4,sp',neB,c2]
 refine(ar (oy (b:=s.aO.any bC&&(wgt o.bN h ws none).isNone) ?_ (by have:=cZ (c9 o.gq h) "astray";have:=cZ (decide (o.most<a)) "most";have:=cZ (decide (a<1)||decide (¬a%s.part=0)) "part";simp only[Gar,Gcn];omega))).trans ?_
 ·generalize s.aO.any bC=bk at*
  cases bk with
  |false=>simp[eg]
  |true=>
   simp[eg,p2,ew,rw']
   cases wgt o.bN h ws none<;>simp[nF,dm]
 refine(ar (oy (b:=decide (h<gu.2+s.young)) (by simp[p2,hG,p6,p5]) (by have:=cZ (c9 o.gq h) "astray";have:=cZ (decide (o.most<a)) "most";have:=cZ (decide (a<1)||decide (¬a%s.part=0)) "part";have:=cZ (s.aO.any bC&&(wgt o.bN h ws none).isNone) "weight";simp only[Gar,Gcn];omega))).trans ?_
 have cm:=Dw (K:=[]++kk (c9 o.gq h) "astray"++kk (decide (o.most<a)) "most"++kk (decide (a<1)||decide (¬a%s.part=0)) "part"++kk (s.aO.any bC&&(wgt o.bN h ws none).isNone) "weight"++kk (decide (h<gu.2+s.young)) "young") (n:=n) (h:=h)
 have hK:[]++kk (c9 o.gq h) "astray"++kk (decide (o.most<a)) "most"++kk (decide (a<1)||decide (¬a%s.part=0)) "part"++kk (s.aO.any bC&&(wgt o.bN h ws none).isNone) "weight"++kk (decide (h<gu.2+s.young)) "young"=jm o s gu.2 ws (n,h,a):=by
  unfold jm
  rw[List.nil_append]
 have hlen:([]++kk (c9 o.gq h) "astray"++kk (decide (o.most<a)) "most"++kk (decide (a<1)||decide (¬a%s.part=0)) "part"++kk (s.aO.any bC&&(wgt o.bN h ws none).isNone) "weight"++kk (decide (h<gu.2+s.young)) "young").length≤5:=by
  have:=cZ (c9 o.gq h) "astray";have:=cZ (decide (o.most<a)) "most";have:=cZ (decide (a<1)||decide (¬a%s.part=0)) "part";have:=cZ (s.aO.any bC&&(wgt o.bN h ws none).isNone) "weight";have:=cZ (decide (h<gu.2+s.young)) "young"
  simp only[Gar,Gcn];omega
 rw[hK] at cm hlen⊢
 have fi:=gB ((jm o s gu.2 ws (n,h,a)).map λk=>(k,[n,h]))
 rw[GaT] at fi
 have fi' :aP ((jm o s gu.2 ws (n,h,a)).map λk=>aw (k,[n,h]))=true:=fi
 generalize jm o s gu.2 ws (n,h,a)=KL at*
 have z:(KL.map D.str).length≤16777216:=by rw[Gae];omega
 generalize KL.map D.str=M at*
 generalize (KL.map λk=>aw (k,[n,h]))=R at*
 simp[-cy,ai,DL.compEnv,fE,cm,z,fi']
noncomputable def atT(o h:Int)(t:Tr):Bool:=decide (t.1=o∧t.2.1=h)
noncomputable def si(ts:List Tr)(o h v:Int):List Tr:=if ts.any (atT o h) then ts.map (λt=>if atT o h t then(o,h,v) else t) else ts++[(o,h,v)]
noncomputable def Bf(ts:List Tr)(o h:Int):Int:=((ts.find? (atT o h)).map (·.2.2)).getD 0
theorem vp(o h:Int)(t:Tr):decide (([Sum.inl t.1,Sum.inl t.2.1]:List Key)=[Sum.inl o,Sum.inl h])=atT o h t:=by
 unfold atT
 rw[decide_eq_decide]
 simp
theorem nM(ts:List Tr)(o h v:Int):DL.put (kvT ts) [Sum.inl o,Sum.inl h] (.int v)=kvT (si ts o h v):=by
 unfold DL.put si kvT
 have e:((ts.map λt=>(([Sum.inl t.1,Sum.inl t.2.1]:List Key),D.int t.2.2)).any λkv=>decide (kv.1=[Sum.inl o,Sum.inl h]))=ts.any (atT o h):=by
  rw[List.any_map]
  congr 1
  funext t
  exact vp o h t
 rw[e]
 cases ts.any (atT o h) with
 |true=>
  simp only[Gbs]
  rw[GaT,GaT]
  refine GaQ λt _=> ?_
  simp only[Function.comp]
  have k:=vp o h t
  by_cases c:t.1=o∧t.2.1=h
  ·have e1:([Sum.inl t.1,Sum.inl t.2.1]:List Key)=[Sum.inl o,Sum.inl h]:=by rw[c.1,c.2]
   have e2:atT o h t=true:=GaK c
   rw[Gaf e1,Gaf e2,c.1,c.2]
  ·have e1:¬([Sum.inl t.1,Sum.inl t.2.1]:List Key)=[Sum.inl o,Sum.inl h]:=λz=>by simp at z;exact c z
   have e2:¬atT o h t=true:=λz=>c (GaB z)
   rw[Gah e1,Gah e2]
 |false=>simp
theorem A4(ts:List Tr)(o h:Int):look (kvT ts) [Sum.inl o,Sum.inl h]=(ts.find? (atT o h)).map λt=>D.int t.2.2:=by
 unfold look kvT
 rw[List.find?_map]
 have e:((λkv:List Key×D=>decide (kv.1=[Sum.inl o,Sum.inl h]))∘λt:Tr=>(([Sum.inl t.1,Sum.inl t.2.1]:List Key),D.int t.2.2))=atT o h:=by
  funext t
  exact vp o h t
 rw[e]
 cases ts.find? (atT o h)<;>rfl
theorem oz(ts:List Tr)(o h v:Int):(si ts o h v).length≤ts.length+1:=by
 unfold si
 split<;>simp
noncomputable def twU(ts:List Tr)(n:Int):Option Int→List Tr
 |some k=>si ts n k (Bf ts n k+1)
 |none=>ts
noncomputable def cx(os:List Order)(ts:List Tr)(g:Tr):List Tr:=twU ts g.1 ((os[g.1.toNat]?).bind λo=>sf o.gq g.2.1)
theorem Ca(ts:List Tr)(n:Int)(u:Option Int):(twU ts n u).length≤ts.length+1:=by
 cases u with
 |none=>exact Gdb _
 |some k=>exact oz _ _ _ _
theorem Kz{ts:List Tr}{o k:Int}{e0 e1 e3:Option Slot}{n h a:Int}:GS (vE 2) (bD (a5 (ixE (vE 3) (kE (.int 0))) (a5 (vE 4) ao))) (kE (.int 0)) [e0,e1,some (.own (.dT (kvT ts))),some (.sh (.tup [.int o,.int h,.int a])),some (.sh (.int k))]=some ⟨.c,.int (Bf ts o k)⟩:=by
 have l:=A4 ts o k
 unfold Bf
 generalize kvT ts=kv at*
 cases hf:ts.find? (atT o k) with
 |none=>
  rw[hf] at l
  simp at l
  simp[l,keyOf,ai]
 |some t=>
  rw[hf] at l
  simp at l
  simp[l,keyOf,ai]
theorem MX{ts:List Tr}{n h a k:Int}{OD:D}{u:Option Int}{A B C O G:List D}{x4:Option Slot}(hO:atD O n=some OD)(im:OD.imm=true)(ed:jb [OD,.int h]=some (i4 u))(hz:(kvT ts).length<1000):
  bY [some (.sh (.tup [.tup A,.tup B,.tup C,.tup O])),some (.sh (.tup G)),some (.own (.dT (kvT ts))),some (.sh (.tup [.int n,.int h,.int a])),x4]=
   some (.nx [some (.sh (.tup [.tup A,.tup B,.tup C,.tup O])),some (.sh (.tup G)),some (.own (.dT (kvT (twU ts n u)))),some (.sh (.tup [.int n,.int h,.int a])),some (.sh (i4 u))]):=by
 have z:(kvT ts).length<16777216:=by omega
 have ru:=bZ (gk u)
 unfold bY
 refine(ar (e:=[some (.sh (.tup [.tup A,.tup B,.tup C,.tup O])),some (.sh (.tup G)),some (.own (.dT (kvT ts))),some (.sh (.tup [.int n,.int h,.int a])),some (.sh (i4 u))]) (by simp[hO,ed,ru])).trans ?_
 cases u with
 |none=>simp[kW,dm,twU]
 |some k=>
  have g:=Kz (ts:=ts) (o:=n) (k:=k) (e0:=some (.sh (.tup [.tup A,.tup B,.tup C,.tup O]))) (e1:=some (.sh (.tup G))) (e3:=none) (n:=0) (h:=h) (a:=a)
  have p:=nM ts n k (Bf ts n k+1)
  rw[Du]
  refine(MW (by simp[kW,dm])).trans ?_
  unfold twU
  rw[←p]
  generalize Bf ts n k=gv at*
  generalize kvT ts=kv at*
  unfold w6 opE
  rw[g]
  simp[putD,keyOf,z,ai]
theorem Cb{w:World}(W:c0 w){A B C G:List D}:∀(gv:List Tr) (ts:List Tr) (x3 x4:Option Slot),ie w.orders.length gv→ts.length+gv.length<1000→∃y3 y4,forL (gN 3) bY (gv.map trD) [some (.sh (.tup [.tup A,.tup B,.tup C,.tup (w.orders.map aF)])),some (.sh (.tup G)),some (.own (.dT (kvT ts))),x3,x4]=
  some (.nx [some (.sh (.tup [.tup A,.tup B,.tup C,.tup (w.orders.map aF)])),some (.sh (.tup G)),some (.own (.dT (kvT (gv.foldl (cx w.orders) ts)))),y3,y4])
 |[],ts,x3,x4,_,_=> ⟨x3,x4,by simp⟩
 |g::gv,ts,x3,x4,hg,hl=>by
  have g0:=hg g Gan
  obtain⟨n,hn⟩:=GaE g0.1
  have hn' :n<w.orders.length:=by omega
  have hO:atD (w.orders.map aF) g.1=some (aF w.orders[n]):=by
   rw[hn,dA,Gal,Gaa hn'];rfl
  have ok:=W.oo w.orders[n] (GaA hn')
  have ed:=qf (h:=g.2.1) ok.du
  have hz:(kvT ts).length<1000:=by unfold kvT;rw[Gae];simp at hl;omega
  have ev:=MX (A:=A) (B:=B) (C:=C) (G:=G) (ts:=ts) (n:=g.1) (h:=g.2.1) (a:=g.2.2) (k:=0) (x4:=x4) hO (fO _ ok.ti) ed hz
  have es:twU ts g.1 (sf w.orders[n].gq g.2.1)=cx w.orders ts g:=by
   unfold cx
   rw[hn,Gbe,Gaa hn']
   rfl
  rw[es] at ev
  have ln:(cx w.orders ts g).length≤ts.length+1:=by
   rw[←es]
   exact Ca _ _ _
  obtain⟨y3,y4,e⟩:=Cb W (A:=A) (B:=B) (C:=C) (G:=G) gv (cx w.orders ts g) (some (.sh (trD g))) (some (.sh (i4 (sf w.orders[n].gq g.2.1)))) (λt ht=>hg t (Gag _ ht)) (by simp at hl;omega)
  refine⟨y3,y4, ?_⟩
  rw[Gau,GbV]
  have ev' :bY [some (.sh (.tup [.tup A,.tup B,.tup C,.tup (w.orders.map aF)])),some (.sh (.tup G)),some (.own (.dT (kvT ts))),some (.sh (trD g)),x4]=_:=ev
  have td:D.tup [.int g.1,.int g.2.1,.int g.2.2]=trD g:=rfl
  rw[td] at ev'
  generalize trD g=d at*
  simp only[forL,gN,GaU,GaV,Option.bind_some,ev']
  exact e
noncomputable def twF(ts:List Tr):List Flt:=(ts.filter λt=>decide (1<t.2.2)).map λt=>("twice",[t.1,t.2.1])
theorem Ih(ts:List Tr):cy (gT [0,1]) (b8 gtB (vE 1) (kE (.int 1))) (bD (a5 (kE (.str "twice")) (a5 (ixE (vE 0) (kE (.int 0))) (a5 (ixE (vE 0) (kE (.int 1))) ao)))) (bO (kvT ts)) [none,none]=some ((twF ts).map aw):=by
 rw[kb]
 unfold twF
 rw[GaT]
 refine k9 (g:=gT [0,1]) (λt:Tr=>D.tup [.tup [.int t.1,.int t.2.1],.int t.2.2]) (λenv=>∃y z,env=[y,z]) (λt=>decide (1<t.2.2)) (aw∘λt:Tr=>("twice",[t.1,t.2.1])) ts _ ⟨none,none,rfl⟩ ?_
 rintro t ht env ⟨y,z,rfl⟩
 refine⟨[some (.sh (.tup [.int t.1,.int t.2.1])),some (.sh (.int t.2.2))],by simp,⟨_,_,rfl⟩,by simp,λ_=> ⟨.c, ?_,rfl⟩⟩
 simp[ai,aw]
theorem KA{wd:D}{G R:List D}{kv:List (List Key×D)}{y3 y4:Option Slot}(h1:forL (gN 3) bY G [some (.sh wd),some (.sh (.tup G)),some (.own (.dT [])),none,none]=some (.nx [some (.sh wd),some (.sh (.tup G)),some (.own (.dT kv)),y3,y4]))(hz:(bO kv).length≤16777216)
  (hc:cy (gT [0,1]) (b8 gtB (vE 1) (kE (.int 1))) (bD (a5 (kE (.str "twice")) (a5 (ixE (vE 0) (kE (.int 0))) (a5 (ixE (vE 0) (kE (.int 1))) ao)))) (bO kv) [none,none]=some R)(im:aP R=true):dS [wd,.tup G]=some (.lst R):=by
 refine bf rfl ?_
 unfold fZ
 refine(ar (e:=[some (.sh wd),some (.sh (.tup G)),some (.own (.dT [])),none,none]) (by simp[bq])).trans ?_
 refine(ar (e:=[some (.sh wd),some (.sh (.tup G)),some (.own (.dT kv)),y3,y4]) (by simp[-forL,h1])).trans ?_
 simp[-cy,ai,DL.compEnv,fE,hz,hc,im]
theorem Ij{w:World}{gv:List Tr}(W:c0 w)(hg:ie w.orders.length gv)(hl:gv.length<64):dS [bK w,.tup (gv.map trD)]=some (.lst ((twF (gv.foldl (cx w.orders) [])).map aw))∧(gv.foldl (cx w.orders) []).length<64:=by
 have ln:∀(gv ts:List Tr),(gv.foldl (cx w.orders) ts).length≤ts.length+gv.length:=by
  intro gv
  induction gv with
  |nil=>intro ts;simp
  |cons g gv ih=>
   intro ts
   rw[GbV]
   have h1:=ih (cx w.orders ts g)
   have h2:(cx w.orders ts g).length≤ts.length+1:=by
    exact Ca _ _ _
   rw[GaH]
   omega
 have l2:=ln gv []
 simp only[Gcn,GcQ] at l2
 obtain⟨y3,y4,e⟩:=Cb W (A:=w.bT.map cw) (B:=w.aG.map aV) (C:=w.cX.map trD) (G:=gv.map trD) gv [] none none hg (by simp;omega)
 have hz:(bO (kvT (gv.foldl (cx w.orders) []))).length≤16777216:=by rw[kb,Gae];omega
 exact⟨KA e hz (Ih _) (gB _),by omega⟩
noncomputable def bI(ts:List Tr)(b:Tr):List Tr:=si (si ts b.1 b.2.1 b.2.2) b.2.1 b.1 b.2.2
theorem KC{ts:List Tr}{b:Tr}{B:List D}(hz:ts.length<1000):dh [some (.sh (.tup B)),some (.own (.dT (kvT ts))),some (.sh (trD b))]=some (.nx [some (.sh (.tup B)),some (.own (.dT (kvT (bI ts b)))),some (.sh (trD b))]):=by
 obtain⟨x,y,v⟩:=b
 have p1:=nM ts x y v
 have p2:=nM (si ts x y v) y x v
 have l1:=oz ts x y v
 have z1:(kvT ts).length<16777216:=by unfold kvT;rw[Gae];omega
 have z2:(kvT (si ts x y v)).length<16777216:=by unfold kvT;rw[Gae];omega
 unfold dh bI trD
 dsimp only
 rw[←p2]
 generalize hk:kvT (si ts x y v)=k1 at*
 generalize kvT ts=k0 at*
 refine(ar (e:=[some (.sh (.tup B)),some (.own (.dT k1)),some (.sh (.tup [.int x,.int y,.int v]))]) (by simp[putD,keyOf,z1,ai,p1])).trans ?_
 simp[putD,keyOf,z2,ai]
theorem A5{B:List D}:∀(bs ts:List Tr) (x2:Option Slot),ts.length+2*bs.length<1000→∃y2,forL (gN 2) dh (bs.map trD) [some (.sh (.tup B)),some (.own (.dT (kvT ts))),x2]=some (.nx [some (.sh (.tup B)),some (.own (.dT (kvT (bs.foldl bI ts)))),y2])
 |[],ts,x2,_=> ⟨x2,by simp⟩
 |b::bs,ts,x2,hl=>by
  rw[GaH] at hl
  have ev:=KC (ts:=ts) (b:=b) (B:=B) (by omega)
  have l1:(bI ts b).length≤ts.length+2:=by
   unfold bI
   have:=oz ts b.1 b.2.1 b.2.2
   have:=oz (si ts b.1 b.2.1 b.2.2) b.2.1 b.1 b.2.2
   omega
  obtain⟨y2,e⟩:=A5 (B:=B) bs (bI ts b) (some (.sh (trD b))) (by omega)
  refine⟨y2, ?_⟩
  rw[Gau,GbV]
  generalize trD b=d at*
  simp only[forL,gN,GaU,GaV,Option.bind_some,ev]
  exact e
theorem Ik(ts:List Tr):aP ((kvT ts).map λx=>x.snd)=true:=by
 unfold kvT
 rw[GaT]
 exact gh (λ_=>rfl) ts
theorem KD{bs:List Tr}(hl:bs.length≤12):fb [.tup (bs.map trD)]=some (.dT (kvT (bs.foldl bI []))):=by
 obtain⟨y2,e⟩:=A5 (B:=bs.map trD) bs [] none (by simp;omega)
 refine bf rfl ?_
 unfold f9
 refine(ar (e:=[some (.sh (.tup (bs.map trD))),some (.own (.dT (kvT []))),none]) (by simp[bq,kvT])).trans ?_
 have im:=Ik (bs.foldl bI [])
 generalize bs.map trD=B at*
 generalize kvT (bs.foldl bI [])=kv at*
 refine(ar (e:=[some (.sh (.tup B)),some (.own (.dT kv)),y2]) (by simp[-forL,e])).trans ?_
 simp[im]
noncomputable def Il(gs:List Tr)(a b:Order):Int:=if a.bN=b.bN then Bf gs a.fj b.fj else 0
theorem pJ{gs:List Tr}{a b:Order}:gF [.dT (kvT gs),aF a,aF b]=some (.int (Il gs a b)):=by
 have l:=A4 gs a.fj b.fj
 refine bf rfl ?_
 unfold gE Il Bf
 have a1:ixD (aF a) (.int 1)=some (.int a.bN):=rfl
 have a2:ixD (aF a) (.int 2)=some (.int a.fj):=rfl
 have b1:ixD (aF b) (.int 1)=some (.int b.bN):=rfl
 have b2:ixD (aF b) (.int 2)=some (.int b.fj):=rfl
 generalize aF a=A at*
 generalize aF b=B at*
 generalize kvT gs=kv at*
 by_cases c:a.bN=b.bN
 ·rw[Gaf c]
  refine(ar (e:=[some (.sh (.dT kv)),some (.sh A),some (.sh B)]) (by simp[bq,a1,b1,c,neB])).trans ?_
  cases hf:gs.find? (atT a.fj b.fj) with
  |none=>rw[hf] at l;simp at l;simp[a2,b2,l,keyOf,ai]
  |some t=>rw[hf] at l;simp at l;simp[a2,b2,l,keyOf,ai]
 ·rw[Gah c]
  refine vk ?_
  simp[bq,a1,b1,c,neB]
noncomputable def mk2(p:Int×Int):D:= .tup [.int p.1,.int p.2]
noncomputable def un2:D→Int×Int
 | .tup [.int a,.int b]=>(a,b)
 |_=>(0,0)
theorem MY(p:Int×Int):un2 (mk2 p)=p:=rfl
theorem Cc(l:List (Int×Int)):aP (l.map mk2)=true:=by
 induction l with
 |nil=>rfl
 |cons a l ih=>simp[mk2] at ih⊢;exact ih
theorem FK(l:List (Int×Int)):keysOk (l.map mk2)=true:=by
 have h1:(l.map mk2).all (mN 1)=true:=by
  rw[Gbx,Gat]
  intro p _
  simp[mk2,mN,tyD,mM]
 have h2:((l.map mk2).all λx=>(l.map mk2).all λy=>w9 x y)=true:=by
  rw[Gbx,Gat]
  intro p _
  simp only[GcJ]
  rw[Gbx,Gat]
  intro q _
  simp[mk2,w9,mS,tyD,b9]
 unfold keysOk
 rw[h1,h2];simp
theorem KG{p q:Int×Int}(h:p.1<q.1):ltC (DL.code (mk2 p)) (DL.code (mk2 q))=true:=by
 have e:¬p.1=q.1:=by omega
 simp[mk2,DL.code,b9,ltC,fR,ltI,e,h]
theorem A6(ms:List (Int×Int)):∃rows:List (Int×Int),df (ms.map mk2)=rows.map mk2∧rows.Perm ms∧rows.Pairwise λa b=>a.1≤b.1:=by
 have hp:=fH (ms.map mk2)
 have hs:=fS (ms.map mk2)
 have all:∀x∈df (ms.map mk2),∃p,x=mk2 p:=λx hx=>by
  obtain⟨p,_,e⟩:=GaM.mp (hp.mem_iff.mp hx)
  exact⟨p,e.symm⟩
 have e:df (ms.map mk2)=((df (ms.map mk2)).map un2).map mk2:=by
  rw[GaT]
  conv=>lhs;rw[←Gcb (df (ms.map mk2))]
  apply GaQ
  intro x hx
  obtain⟨p,rfl⟩:=all x hx
  rfl
 refine⟨(df (ms.map mk2)).map un2,e, ?_, ?_⟩
 ·have:=Gdd un2 hp
  rw[GaT] at this
  have e2:ms.map (un2∘mk2)=ms:=by
   conv=>rhs;rw[←Gcb ms]
   exact GaQ λp _=>MY p
  rw[e2] at this
  exact this
 ·rw[e] at hs
  unfold fF at hs
  rw[Gda] at hs
  refine hs.imp λ{a b} h=> ?_
  by_cases c:b.1<a.1
  ·rw[KG c] at h;cases h
  ·omega
noncomputable def sm(f:Nat→Int):Nat→Int
 |0=>0
 |n+1=>sm f n+f n
theorem Cd{α:Type}(w:α→Int)(d:α)(l:List α):∀k,k≤l.length→sm (λi=>w (l[i]?.getD d)) k=((l.take k).map w).sum
 |0,_=>by simp[sm]
 |k+1,h=>by
  rw[sm,Cd w d l k (by omega),Gdf (by omega),GaI,List.sum_append]
  simp[show k<l.length by omega]
theorem FL{f a:Nat→Int}{g k:Nat}(hgk:g≤k+1)(h1:∀i,i<g→f i=0)(h2:∀i,g≤i→i≤k→f i=a i)(h3:∀i,k<i→f i=0):∀n,sm f n=if n≤g then 0 else if n≤k+1 then sm a n -sm a g else sm a (k+1)-sm a g
 |0=>by simp[sm]
 |n+1=>by
  rw[sm,FL hgk h1 h2 h3 n]
  by_cases c1:n+1≤g
  ·rw[Gaf (by omega),Gaf c1,h1 n (by omega)];rfl
  ·rw[Gah c1]
   by_cases c2:n+1≤k+1
   ·rw[Gaf c2,h2 n (by omega) (by omega)]
    by_cases c3:n≤g
    ·have e:n=g:=by omega
     subst e
     rw[Gaf c3,sm];omega
    ·rw[Gah c3,Gaf (by omega),sm];omega
   ·rw[Gah c2,h3 n (by omega)]
    by_cases c3:n≤g
    ·have e:n=k+1:=by omega
     have e2:g=k+1:=by omega
     rw[Gaf c3,e2];omega
    ·rw[Gah c3]
     by_cases c4:n≤k+1
     ·have e:n=k+1:=by omega
      rw[Gaf c4,e];omega
     ·rw[Gah c4];omega
section
variable(rows:List (Int×Int))(H:Int)
noncomputable def hr(i:Nat):Int:=(rows[i]?.getD (0,0)).1
noncomputable def am(i:Nat):Int:=(rows[i]?.getD (0,0)).2
noncomputable def wt(H h:Int)(p:Int×Int):Int:=if h -H<p.1∧p.1≤h then p.2 else 0
noncomputable def W(h:Int):Int:=(rows.map (wt H h)).sum
end
variable{rows:List (Int×Int)}{H:Int}
theorem ur(hs:rows.Pairwise λa b=>a.1≤b.1){i j:Nat}(h:i≤j)(hj:j<rows.length):hr rows i≤hr rows j:=by
 unfold hr
 have hi:i<rows.length:=by omega
 simp only[Gaa hi,Gaa hj,Option.getD_some]
 rcases Gds h with e|e
 ·subst e;exact GbF _
 ·exact GbY.mp hs i j hi hj e
theorem MZ(hs:rows.Pairwise λa b=>a.1≤b.1){g k:Nat}(hk:k<rows.length)(hgk:g≤k)(h1:∀i,i<g→hr rows i≤hr rows k -H)(h2:hr rows k -H<hr rows g)(h3:k+1=rows.length∨hr rows k<hr rows (k+1)):
  W rows H (hr rows k)=sm (am rows) (k+1)-sm (am rows) g:=by
 have e:=Cd (wt H (hr rows k)) (0,0) rows rows.length (Gap _)
 rw[List.take_length] at e
 unfold W
 rw[←e]
 have cut:=FL (f:=λi=>if i<rows.length then wt H (hr rows k) (rows[i]?.getD (0,0)) else 0) (a:=am rows) (g:=g) (k:=k) (by omega)
  (λi hi=>by
   show(if i<rows.length then wt H (hr rows k) (rows[i]?.getD (0,0)) else 0)=_
   rw[Gaf (by omega)]
   unfold wt
   have:=h1 i hi
   unfold hr at this⊢
   rw[Gah (by omega)])
  (λi i1 i2=>by
   show(if i<rows.length then wt H (hr rows k) (rows[i]?.getD (0,0)) else 0)=_
   rw[Gaf (by omega)]
   unfold wt
   have a1:=ur hs i1 (by omega)
   have a2:=ur hs i2 hk
   unfold hr at a1 a2 h2⊢
   rw[Gaf ⟨by omega,a2⟩];rfl)
  (λi hi=>by
   show(if i<rows.length then wt H (hr rows k) (rows[i]?.getD (0,0)) else 0)=_
   split
   ·rename_i hl
    have a1:hr rows (k+1)≤hr rows i:=ur hs (by omega) hl
    rcases h3 with h3|h3
    ·omega
    ·unfold wt
     unfold hr at a1 h3⊢
     rw[Gah (by omega)]
   ·rfl) rows.length
 rw[Gah (by omega)] at cut
 have same:∀n,n≤rows.length→sm (λi=>if i<rows.length then wt H (hr rows k) (rows[i]?.getD (0,0)) else 0) n=sm (λi=>wt H (hr rows k) (rows[i]?.getD (0,0))) n:=by
  intro n
  induction n with
  |zero=>intro _;rfl
  |succ n ih=>intro hn;rw[sm,sm,ih (by omega),Gaf (by omega)]
 rw[←same _ (Gap _),cut]
 split
 ·have e2:rows.length=k+1:=by omega
  rw[e2]
 ·rfl
noncomputable def pK(ms:D)(H:Int)(R:List D)(F:List D)(total gone k:Int)(row:D):DL.Env:=[some (.sh ms),some (.sh (.int H)),some (.lok (.lst R)),some (.own (.lst F)),some (.sh (.int total)),some (.sh (.int gone)),some (.sh (.int k)),some (.sh row)]
theorem sk{g:Nat}(hg:g<rows.length):atD (rows.map mk2) (g:Int)=some (.tup [.int (hr rows g),.int (am rows g)]):=by
 rw[dA,Gal,Gaa hg]
 unfold hr am
 simp[mk2,hg]
theorem Ce{ms:D}{R F:List D}{total gone k h a h' a' :Int}(e:atD R gone=some (.tup [.int h',.int a'])):fN (pK ms H R F total gone k (.tup [.int h,.int a]))=some (decide (h' ≤h -H)):=by
 unfold fN pK
 simp[e]
theorem Im{ms:D}{R F:List D}{total gone k h a h' a' :Int}(e:atD R gone=some (.tup [.int h',.int a'])):iW (pK ms H R F total gone k (.tup [.int h,.int a]))=some (.nx (pK ms H R F (total -a') (gone+1) k (.tup [.int h,.int a]))):=by
 unfold iW pK
 simp[e]
theorem FN{ms:D}{F:List D}{k:Nat}{kk a:Int}(hH:1≤H)(hk:k<rows.length):∀(m gone fuel:Nat) (total:Int),k -gone=m→gone≤k→m<fuel→∃g,gone≤g∧g≤k∧(∀i,gone≤i→i<g→hr rows i≤hr rows k -H)∧hr rows k -H<hr rows g∧
  gW fN iW fuel (pK ms H (rows.map mk2) F total gone kk (.tup [.int (hr rows k),.int a]))=some (.nx (pK ms H (rows.map mk2) F (total -(sm (am rows) g -sm (am rows) gone)) g kk (.tup [.int (hr rows k),.int a]))):=by
 intro m
 induction m with
 |zero=>
  intro gone fuel total hm hg hf
  have e:gone=k:=by omega
  subst e
  obtain⟨f,rfl⟩:∃f,fuel=f+1:=⟨fuel -1,by omega⟩
  refine⟨gone,Gap _,Gap _,λi h1 h2=>by omega,by omega, ?_⟩
  unfold gW
  rw[Ce (sk hk)]
  have c:¬hr rows gone≤hr rows gone -H:=by omega
  simp[c]
 |succ m ih=>
  intro gone fuel total hm hg hf
  obtain⟨f,rfl⟩:∃f,fuel=f+1:=⟨fuel -1,by omega⟩
  have hgl:gone<rows.length:=by omega
  unfold gW
  rw[Ce (sk hgl)]
  by_cases c:hr rows gone≤hr rows k -H
  ·obtain⟨g,q1,q2,q3,q4,q5⟩:=ih (gone+1) f (total -am rows gone) (by omega) (by omega) (by omega)
   refine⟨g,by omega,q2,λi h1 h2=> ?_,q4, ?_⟩
   ·rcases Gds h1 with e|e
    ·subst e;exact c
    ·exact q3 i e h2
   ·simp only[c,decide_true,Option.bind_some,Gbs]
    rw[Im (sk hgl)]
    simp only[Option.bind_some]
    have e1:((gone:Int)+1)=((gone+1:Nat):Int):=by omega
    rw[e1,q5,sm]
    have e2:total -am rows gone -(sm (am rows) g -(sm (am rows) gone+am rows gone))=total -(sm (am rows) g -sm (am rows) gone):=by omega
    rw[e2]
  ·refine⟨gone,Gap _,hg,λi h1 h2=>by omega,by omega, ?_⟩
   simp[c]
noncomputable def gm(rows:List (Int×Int))(j:Nat):Bool:=decide (j+1=rows.length)||decide (hr rows j<hr rows (j+1))
noncomputable def fnd(rows:List (Int×Int))(H:Int)(m:Nat):List (Int×Int):=((List.range m).filter (gm rows)).map λj=>(hr rows j,W rows H (hr rows j))
theorem A7{m:Nat}:fnd rows H (m+1)=fnd rows H m++(if gm rows m then[(hr rows m,W rows H (hr rows m))] else[]):=by
 unfold fnd
 rw[List.range_succ,Gct,GaI]
 congr 1
 cases h:gm rows m<;>simp[h]
theorem Cf{m:Nat}:(fnd rows H m).length≤m:=by
 unfold fnd
 rw[Gae]
 exact Gbp (Gdj _ _) (by simp)
theorem Io{ms:D}{R F:List D}{total gone kk h a total' g' n:Int}{last:Bool}(hw:gW fN iW 100000 (pK ms H R F (total+a) gone kk (.tup [.int h,.int a]))=some (.nx (pK ms H R F total' g' kk (.tup [.int h,.int a]))))(hz:F.length<1000)(hn:(R.length:Int)=n)
  (hc:(kk+1=n∧last=true)∨(kk+1≠n∧∃h2 a2,atD R (kk+1)=some (.tup [.int h2,.int a2])∧last=decide (h<h2))):
  dw (pK ms H R F total gone kk (.tup [.int h,.int a]))=some (.nx (pK ms H R (if last then F++[.tup [.int h,.int total']] else F) total' g' kk (.tup [.int h,.int a]))):=by
 have z:F.length<16777216:=by omega
 unfold pK at*
 unfold dw uP
 rcases hc with⟨c,rfl⟩| ⟨c,h2,a2,e,rfl⟩
 ·simp[hw,hn,c,ai,z]
 ·by_cases c2:h<h2
  ·simp[hw,hn,c,e,c2,ai,z]
  ·simp[hw,hn,c,e,c2]
theorem FP{ms:D}(hH:1≤H)(hs:rows.Pairwise λa b=>a.1≤b.1)(hl:rows.length<64):∃(y4 y5 y6 y7:Option Slot),forL (gT [6,7]) dw (fq 0 (rows.map mk2)) [some (.sh ms),some (.sh (.int H)),some (.lok (.lst (rows.map mk2))),some (.own (.lst [])),some (.sh (.int 0)),some (.sh (.int 0)),none,none]=
  some (.nx [some (.sh ms),some (.sh (.int H)),some (.lok (.lst (rows.map mk2))),some (.own (.lst ((fnd rows H rows.length).map mk2))),y4,y5,y6,y7]):=by
 obtain⟨e,h1,gone,total,y6,y7,h2,h3,h4,rfl⟩:=gf (g:=gT [6,7]) (body:=dw) (λm env=>∃(gone:Nat) (total:Int) (y6 y7:Option Slot),gone≤m∧total=sm (am rows) m -sm (am rows) gone∧(∀i,i<gone→∀j,m≤j+1→j<rows.length→hr rows i≤hr rows j -H)∧
   env=[some (.sh ms),some (.sh (.int H)),some (.lok (.lst (rows.map mk2))),some (.own (.lst ((fnd rows H m).map mk2))),some (.sh (.int total)),some (.sh (.int gone)),y6,y7]) (fq 0 (rows.map mk2)) 0
  [some (.sh ms),some (.sh (.int H)),some (.lok (.lst (rows.map mk2))),some (.own (.lst [])),some (.sh (.int 0)),some (.sh (.int 0)),none,none] ⟨0,0,none,none,Gap _,by simp[sm],λi hi=>by omega,rfl⟩ (by
   rintro k d e hd ⟨gone,total,y6,y7,h2,h3,h4,rfl⟩
   rw[jV,Gal] at hd
   cases hk:rows[k]? with
   |none=>rw[hk] at hd;cases hd
   |some p=>
    rw[hk] at hd
    have hkl:k<rows.length:=(Gac.mp hk).1
    simp only[Gcp,Gcx] at hd
    subst hd
    rw[GcQ] at h2 h3 h4⊢
    have ep:mk2 p= .tup [.int (hr rows k),.int (am rows k)]:=by
     unfold mk2 hr am;rw[hk];rfl
    obtain⟨g,q1,q2,q3,q4,q5⟩:=FN (rows:=rows) (ms:=ms) (F:=(fnd rows H k).map mk2) (kk:=(k:Int)) (a:=am rows k) hH hkl (k -gone) gone 100000 (total+am rows k) rfl h2 (by omega)
    have allg:∀i,i<g→hr rows i≤hr rows k -H:=λi hi=>by
     by_cases c:i<gone
     ·exact h4 i c k (by omega) hkl
     ·exact q3 i (by omega) hi
    have tot:total+am rows k -(sm (am rows) g -sm (am rows) gone)=sm (am rows) (k+1)-sm (am rows) g:=by
     rw[h3,sm];omega
    rw[tot] at q5
    have hlen:((rows.map mk2).length:Int)=(rows.length:Int):=by simp
    have ev:=Io (last:=gm rows k) q5 (GcN (by rw[Gae];exact Cf) (by omega)) hlen (by
     by_cases c:k+1=rows.length
     ·exact .inl ⟨by omega,by unfold gm;simp[c]⟩
     ·refine .inr ⟨by omega,hr rows (k+1),am rows (k+1), ?_,by unfold gm;simp[c]⟩
      have:=sk (rows:=rows) (g:=k+1) (by omega)
      rw[show((k:Int)+1)=((k+1:Nat):Int) by omega]
      exact this)
    refine⟨_,_, ?_,ev,g,_,some (.sh (.int (k:Int))),some (.sh (.tup [.int (hr rows k),.int (am rows k)])),by omega,rfl,λi hi j hj hjl=> ?_, ?_⟩
    ·rw[ep];rfl
    ·have:=allg i hi
     have:=ur hs (i:=k) (j:=j) (by omega) hjl
     omega
    ·rw[A7]
     unfold pK
     cases hL:gm rows k with
     |false=>simp
     |true=>
      have hw:=MZ (H:=H) hs hkl q2 allg q4 (by
       unfold gm at hL
       rw[GaW] at hL
       exact hL.imp GaB GaB)
      simp[mk2,hw])
 rw[jU,Gae,GcQ] at h1
 exact⟨_,_,_,_,h1⟩
theorem sr{ms:List (Int×Int)}(hl:ms.length<64):sortedS [.lst (ms.map mk2)]=some ⟨.tn,.lst (df (ms.map mk2))⟩:=by
 have h1:((ms.map mk2).length<64):=by simpa using hl
 unfold sortedS one mQ
 simp only[Option.bind_some]
 rw[FK,GaK h1];rfl
theorem FQ{M R F:List D}{y4 y5 y6 y7:Option Slot}(es:sortedS [.lst M]=some ⟨.tn,.lst R⟩)(h1:forL (gT [6,7]) dw (fq 0 R) [some (.sh (.lst M)),some (.sh (.int H)),some (.lok (.lst R)),some (.own (.lst [])),some (.sh (.int 0)),some (.sh (.int 0)),none,none]=
  some (.nx [some (.sh (.lst M)),some (.sh (.int H)),some (.lok (.lst R)),some (.own (.lst F)),y4,y5,y6,y7]))(im:aP F=true):jQ [.lst M,.int H]=some (.lst F):=by
 unfold jQ rX
 simp[-forL,-fq,es,h1,ai,im]
theorem mV:∀(a b:List Int),a.Pairwise (λx y=>x<y)→b.Pairwise (λx y=>x<y)→(∀x,x∈a↔x∈b)→a=b
 |[],[],_,_,_=>rfl
 |[],y::b,_,_,h=>absurd ((h y).mpr Gan) (by simp)
 |x::a,[],_,_,h=>absurd ((h x).mp Gan) (by simp)
 |x::a,y::b,ha,hb,h=>by
  have ha' :=GbK.mp ha
  have hb' :=GbK.mp hb
  have exy:x=y:=by
   rcases Gay.mp ((h x).mp Gan) with e|e
   ·exact e
   ·rcases Gay.mp ((h y).mpr Gan) with e2|e2
    ·exact e2.symm
    ·have h3:=hb'.1 x e
     have h4:=ha'.1 y e2
     omega
  subst exy
  congr 1
  refine mV a b ha'.2 hb'.2 λz=> ⟨λhz=> ?_,λhz=> ?_⟩
  ·rcases Gay.mp ((h z).mp (Gag _ hz)) with e|e
   ·have:=ha'.1 z hz;omega
   ·exact e
  ·rcases Gay.mp ((h z).mpr (Gag _ hz)) with e|e
   ·have:=hb'.1 z hz;omega
   ·exact e
theorem FR:∀(ns ks:List Int) (x:Int),x∈ns.foldl dd1 ks↔x∈ks∨x∈ns
 |[],ks,x=>by simp
 |n::ns,ks,x=>by
  rw[GbV,FR ns (dd1 ks n) x]
  unfold dd1
  split
  ·rename_i c
   constructor
   ·rintro(h|h)
    ·exact .inl h
    ·exact .inr (Gag _ h)
   ·rintro(h|h)
    ·exact .inl h
    ·rcases Gay.mp h with rfl|h
     ·exact .inl c
     ·exact .inr h
  ·simp only[Gaw,Gay,Gcf,or_false]
   constructor
   ·rintro((h|h)|h)
    ·exact .inl h
    ·exact .inr (.inl h)
    ·exact .inr (.inr h)
   ·rintro(h|h|h)
    ·exact .inl (.inl h)
    ·exact .inl (.inr h)
    ·exact .inr h
theorem A8:∀(ns ks:List Int),ks.Nodup→(ns.foldl dd1 ks).Nodup
 |[],ks,h=>h
 |n::ns,ks,h=>by
  rw[GbV]
  refine A8 ns _ ?_
  unfold dd1
  split
  ·exact h
  ·rename_i c
   rw[GcZ]
   refine⟨h,by simp,λa ha b hb=> ?_⟩
   rw[Gcq] at hb
   subst hb
   exactλe=>c (e▸ha)
theorem FT:∀(ns ks:List Int),(ns.foldl dd1 ks).length≤ks.length+ns.length
 |[],ks=>by simp
 |n::ns,ks=>by
  rw[GbV]
  have h:=FT ns (dd1 ks n)
  have h2:(dd1 ks n).length≤ks.length+1:=by unfold dd1;split<;>simp
  rw[GaH]
  omega
theorem A9{a b:Int}(h:a<b):ltC (DL.code (.int a)) (DL.code (.int b))=true:=by
 have e:¬a=b:=by omega
 simp[DL.code,b9,ltC,fR,ltI,e,h]
theorem Dx(l:List Int):∃s:List Int,s.Perm l∧s.Pairwise (λa b=>a≤b)∧df (l.map D.int)=s.map D.int:=by
 have hp:=fH (l.map D.int)
 have hs:=fS (l.map D.int)
 have all:∀{ds:List D},(∀d∈ds,∃i:Int,d= .int i)→∃s:List Int,ds=s.map D.int:=by
  intro ds
  induction ds with
  |nil=>exactλ_=> ⟨[],rfl⟩
  |cons d ds ih=>
   intro h
   obtain⟨i,rfl⟩:=h d Gan
   obtain⟨s,rfl⟩:=ih λx hx=>h x (Gag _ hx)
   exact⟨i::s,rfl⟩
 obtain⟨s,e⟩:=all (ds:=df (l.map D.int)) λd hd=>by
  obtain⟨i,_,rfl⟩:=GaM.mp (hp.mem_iff.mp hd)
  exact⟨i,rfl⟩
 rw[e] at hp hs
 refine⟨s, ?_, ?_,e⟩
 ·have un:∀x:List Int,(x.map D.int).map (λd=>match d with| .int i=>i|_=>0)=x:=by
   intro x
   rw[GaT]
   exact(GaQ λ_ _=>rfl).trans (Gcb x)
  have:=Gdd (λd=>match d with|D.int i=>i|_=>0) hp
  rw[un,un] at this
  exact this
 ·unfold fF at hs
  rw[Gda] at hs
  refine hs.imp λ{a b} h=> ?_
  by_cases c:b<a
  ·rw[A9 c] at h;cases h
  ·omega
theorem FU(ns:List Int):∃S:List Int,df ((ddF ns).map D.int)=S.map D.int∧S.Pairwise (λa b=>a<b)∧(∀x,x∈S↔x∈ns)∧S.length≤ns.length:=by
 obtain⟨s,h1,h2,h3⟩:=Dx (ddF ns)
 have nd:s.Nodup:=h1.nodup_iff.mpr (A8 ns [] List.nodup_nil)
 have mem:∀x,x∈s↔x∈ns:=λx=>by rw[h1.mem_iff];unfold ddF;rw[FR];simp
 refine⟨s,h3, ?_,mem, ?_⟩
 ·have:=h2.and nd
  exact this.imp λ{a b} h=>by
   have h1:=h.1
   have h2:a≠b:=h.2
   omega
 ·rw[h1.length_eq]
  have:=FT ns []
  simpa[ddF] using this
noncomputable def FV(ms:List (Int×Int))(H:Int)(S:List Int):List (Int×Int):=S.map λh=>(h,W ms H h)
theorem FW{l l' :List Int}(h:l.Perm l'):l.sum=l'.sum:=by
 induction h with
 |nil=>rfl
 |cons x _ ih=>simp[ih]
 |swap x y l=>simp;omega
 |trans _ _ h1 h2=>exact h1.trans h2
theorem KH{ms:List (Int×Int)}(hp:rows.Perm ms)(h:Int):W rows H h=W ms H h:=by
 unfold W
 exact FW (Gdd _ hp)
theorem su(hs:rows.Pairwise λa b=>a.1≤b.1):∀(m i:Nat),rows.length -i=m→i<rows.length→∃j,j<rows.length∧hr rows j=hr rows i∧gm rows j=true
 |0,i,hm,hi=>by omega
 |m+1,i,hm,hi=>by
  by_cases c:i+1=rows.length
  ·exact⟨i,hi,rfl,by unfold gm;simp[c]⟩
  ·by_cases c2:hr rows i<hr rows (i+1)
   ·exact⟨i,hi,rfl,by unfold gm;simp[c2]⟩
   ·obtain⟨j,h1,h2,h3⟩:=su hs m (i+1) (by omega) (by omega)
    have:=ur hs (i:=i) (j:=i+1) (by omega) (by omega)
    exact⟨j,h1,by rw[h2];omega,h3⟩
theorem Ip{ms:List (Int×Int)}{S:List Int}(hs:rows.Pairwise λa b=>a.1≤b.1)(hp:rows.Perm ms)(hS:S.Pairwise λa b=>a<b)(hm:∀x,x∈S↔x∈ms.map (·.1)):fnd rows H rows.length=FV ms H S:=by
 have eT:((List.range rows.length).filter (gm rows)).map (hr rows)=S:=by
  refine mV _ _ ?_ hS λx=> ?_
  ·rw[Gda]
   have pr:((List.range rows.length).filter (gm rows)).Pairwise λi j=>i<j:=List.Pairwise.filter _ List.pairwise_lt_range
   refine(List.Pairwise.and_mem.mp pr).imp λ{i j} h=> ?_
   obtain⟨hi,hj,hij⟩:=h
   obtain⟨i1,i2⟩:=Gck.mp hi
   obtain⟨j1,_⟩:=Gck.mp hj
   have jl:=Gbr.mp j1
   unfold gm at i2
   rw[GaW] at i2
   rcases i2 with i2|i2
   ·have:=GaB i2;omega
   ·have a1:=GaB i2
    have a2:=ur hs (i:=i+1) (j:=j) (by omega) jl
    omega
  ·rw[hm,GaM,GaM]
   constructor
   ·rintro⟨j,hj,rfl⟩
    have jl:=Gbr.mp (Gck.mp hj).1
    exact⟨rows[j],hp.mem_iff.mp (GaA _),by unfold hr;simp[jl]⟩
   ·rintro⟨p,hp',rfl⟩
    obtain⟨i,hi,rfl⟩:=Gdq (hp.mem_iff.mpr hp')
    obtain⟨j,h1,h2,h3⟩:=su hs (rows.length -i) i rfl hi
    refine⟨j,Gck.mpr ⟨Gbr.mpr h1,h3⟩, ?_⟩
    rw[h2]
    unfold hr
    simp[hi]
 unfold fnd FV
 rw[←eT,GaT]
 exact GaQ λj _=>by simp only[Function.comp];rw[KH hp]
theorem FX{ms:D}{R F:List D}{total kk h a n:Int}{last:Bool}(hz:F.length<1000)(hn:(R.length:Int)=n)
  (hc:(kk+1=n∧last=true)∨(kk+1≠n∧∃h2 a2,atD R (kk+1)=some (.tup [.int h2,.int a2])∧last=decide (h<h2))):
  dw [some (.sh ms),some (.sh .non),some (.lok (.lst R)),some (.own (.lst F)),some (.sh (.int total)),some (.sh (.int 0)),some (.sh (.int kk)),some (.sh (.tup [.int h,.int a]))]=
   some (.nx [some (.sh ms),some (.sh .non),some (.lok (.lst R)),some (.own (.lst (if last then F++[.tup [.int h,.int (total+a)]] else F))),some (.sh (.int (total+a))),some (.sh (.int 0)),some (.sh (.int kk)),some (.sh (.tup [.int h,.int a]))]):=by
 have z:F.length<16777216:=by omega
 have hw:gW fN iW 100000 [some (.sh ms),some (.sh .non),some (.lok (.lst R)),some (.own (.lst F)),some (.sh (.int (total+a))),some (.sh (.int 0)),some (.sh (.int kk)),some (.sh (.tup [.int h,.int a]))]=some (.nx [some (.sh ms),some (.sh .non),some (.lok (.lst R)),some (.own (.lst F)),some (.sh (.int (total+a))),some (.sh (.int 0)),some (.sh (.int kk)),some (.sh (.tup [.int h,.int a]))]):=by
  have t:fN [some (.sh ms),some (.sh .non),some (.lok (.lst R)),some (.own (.lst F)),some (.sh (.int (total+a))),some (.sh (.int 0)),some (.sh (.int kk)),some (.sh (.tup [.int h,.int a]))]=some false:=by
   unfold fN
   simp
  unfold gW
  rw[t]
  simp
 unfold dw uP
 rcases hc with⟨c,rfl⟩| ⟨c,h2,a2,e,rfl⟩
 ·simp[hw,hn,c,ai,z]
 ·by_cases c2:h<h2
  ·simp[hw,hn,c,e,c2,ai,z]
  ·simp[hw,hn,c,e,c2]
theorem Dy{ms:D}(hH:∀p∈rows,∀q∈rows,q.1 -H<p.1)(hs:rows.Pairwise λa b=>a.1≤b.1)(hl:rows.length<64):∃(y4 y5 y6 y7:Option Slot),forL (gT [6,7]) dw (fq 0 (rows.map mk2)) [some (.sh ms),some (.sh .non),some (.lok (.lst (rows.map mk2))),some (.own (.lst [])),some (.sh (.int 0)),some (.sh (.int 0)),none,none]=
  some (.nx [some (.sh ms),some (.sh .non),some (.lok (.lst (rows.map mk2))),some (.own (.lst ((fnd rows H rows.length).map mk2))),y4,y5,y6,y7]):=by
 obtain⟨e,h1,total,y6,y7,h3,rfl⟩:=gf (g:=gT [6,7]) (body:=dw) (λm env=>∃(total:Int) (y6 y7:Option Slot),total=sm (am rows) m∧
   env=[some (.sh ms),some (.sh .non),some (.lok (.lst (rows.map mk2))),some (.own (.lst ((fnd rows H m).map mk2))),some (.sh (.int total)),some (.sh (.int 0)),y6,y7]) (fq 0 (rows.map mk2)) 0
  [some (.sh ms),some (.sh .non),some (.lok (.lst (rows.map mk2))),some (.own (.lst [])),some (.sh (.int 0)),some (.sh (.int 0)),none,none] ⟨0,none,none,by simp[sm],rfl⟩ (by
   rintro k d e hd ⟨total,y6,y7,h3,rfl⟩
   rw[jV,Gal] at hd
   cases hk:rows[k]? with
   |none=>rw[hk] at hd;cases hd
   |some p=>
    rw[hk] at hd
    have hkl:k<rows.length:=(Gac.mp hk).1
    simp only[Gcp,Gcx] at hd
    subst hd
    rw[GcQ] at h3⊢
    have ep:mk2 p= .tup [.int (hr rows k),.int (am rows k)]:=by
     unfold mk2 hr am;rw[hk];rfl
    have hlen:((rows.map mk2).length:Int)=(rows.length:Int):=by simp
    have ev:=FX (ms:=ms) (R:=rows.map mk2) (F:=(fnd rows H k).map mk2) (total:=total) (kk:=(k:Int)) (h:=hr rows k) (a:=am rows k) (last:=gm rows k) (GcN (by rw[Gae];exact Cf) (by omega)) hlen (by
     by_cases c:k+1=rows.length
     ·exact .inl ⟨by omega,by unfold gm;simp[c]⟩
     ·refine .inr ⟨by omega,hr rows (k+1),am rows (k+1), ?_,by unfold gm;simp[c]⟩
      have:=sk (rows:=rows) (g:=k+1) (by omega)
      rw[show((k:Int)+1)=((k+1:Nat):Int) by omega]
      exact this)
    refine⟨_,_, ?_,ev,total+am rows k,some (.sh (.int (k:Int))),some (.sh (.tup [.int (hr rows k),.int (am rows k)])),by rw[h3];rfl, ?_⟩
    ·rw[ep];rfl
    ·rw[A7]
     cases hL:gm rows k with
     |false=>simp
     |true=>
      have hr_in:∀i,i<rows.length→∃p∈rows,p.1=hr rows i:=λi hi=> ⟨rows[i],GaA _,by unfold hr;simp[hi]⟩
      have hw:=MZ (H:=H) hs hkl (GbE k) (λi hi=>by omega) (by
       obtain⟨p,hp,e1⟩:=hr_in 0 (by omega)
       obtain⟨q,hq,e2⟩:=hr_in k hkl
       have:=hH p hp q hq
       omega) (by
       unfold gm at hL
       rw[GaW] at hL
       exact hL.imp GaB GaB)
      have tot:total+am rows k=W rows H (hr rows k):=by
       rw[hw,h3]
       show sm (am rows) k+am rows k=sm (am rows) (k+1)-sm (am rows) 0
       simp[sm]
      simp[mk2,tot])
 rw[jU,Gae,GcQ] at h1
 exact⟨_,_,_,_,h1⟩
theorem Dz{M R F:List D}{y4 y5 y6 y7:Option Slot}(es:sortedS [.lst M]=some ⟨.tn,.lst R⟩)(h1:forL (gT [6,7]) dw (fq 0 R) [some (.sh (.lst M)),some (.sh .non),some (.lok (.lst R)),some (.own (.lst [])),some (.sh (.int 0)),some (.sh (.int 0)),none,none]=
  some (.nx [some (.sh (.lst M)),some (.sh .non),some (.lok (.lst R)),some (.own (.lst F)),y4,y5,y6,y7]))(im:aP F=true):jQ [.lst M,.non]=some (.lst F):=by
 unfold jQ rX
 simp[-forL,-fq,es,h1,ai,im]
def HD(hd:D)(H:Int)(ms:List (Int×Int)):Prop:=(hd= .int H∧1≤H)∨(hd= .non∧∀p∈ms,∀q∈ms,q.1 -H<p.1)
theorem HD.perm{hd:D}{ms ms' :List (Int×Int)}(h:HD hd H ms)(hp:ms.Perm ms'):HD hd H ms' :=by
 rcases h with h| ⟨h1,h2⟩
 ·exact .inl h
 ·exact .inr ⟨h1,λp hp' q hq=>h2 p (hp.mem_iff.mpr hp') q (hp.mem_iff.mpr hq)⟩
theorem sv{hd:D}{ms ms' :List (Int×Int)}{S:List Int}(h:HD hd H ms)(hp:ms'.Perm ms)(hl:ms.length<64)(hS:S.Pairwise λa b=>a<b)(hm:∀x,x∈S↔x∈ms.map (·.1)):jQ [.lst (ms'.map mk2),hd]=some (.lst ((FV ms H S).map mk2)):=by
 obtain⟨rows,e,hp2,hs⟩:=A6 ms'
 have hp3:rows.Perm ms:=hp2.trans hp
 have hl2:rows.length<64:=by rw[hp3.length_eq];exact hl
 have es:=sr (ms:=ms') (by rw[hp.length_eq];exact hl)
 rw[e] at es
 rw[←Ip hs hp3 hS hm]
 rcases h.perm hp3.symm with⟨rfl,hH⟩| ⟨rfl,hH⟩
 ·obtain⟨y4,y5,y6,y7,h⟩:=FP (rows:=rows) (ms:= .lst (ms'.map mk2)) hH hs hl2
  exact FQ es h (Cc _)
 ·obtain⟨y4,y5,y6,y7,h⟩:=Dy (rows:=rows) (ms:= .lst (ms'.map mk2)) hH hs hl2
  exact Dz es h (Cc _)
noncomputable def gpF(os:List Order)(gs:List Tr)(r l:Int×Int):List Flt:=match os[r.2.toNat]?,os[l.2.toNat]? with
 |some a,some b=>if l.1 -r.1<Il gs a b then[("gap",[r.2,r.1,l.2,l.1])] else[]
 |_,_=>[]
noncomputable def kf(os:List Order)(gs:List Tr)(w:Int)(r:Int×Int):List (Int×Int)→List Flt
 |[]=>[]
 |l::ls=>if l.1 -r.1≥w then[] else gpF os gs r l++kf os gs w r ls
noncomputable def cL(os:List Order)(gs:List Tr)(w:Int):List (Int×Int)→List Flt
 |[]=>[]
 |r::rs=>kf os gs w r rs++cL os gs w rs
theorem Cg(os:List Order)(gs:List Tr)(r l:Int×Int):(gpF os gs r l).length≤1:=by
 unfold gpF
 split
 ·split<;>simp
 ·simp
theorem pL(os:List Order)(gs:List Tr)(w:Int)(r:Int×Int):∀ls,(kf os gs w r ls).length≤ls.length
 |[]=>by simp[kf]
 |l::ls=>by
  unfold kf
  have h1:=pL os gs w r ls
  have h2:=Cg os gs r l
  split
  ·simp
  ·simp;omega
theorem KI{wd:D}{G R F:List D}{kv:List (List Key×D)}{w k r1 r2 l1 l2:Int}{x9:Option Slot}(c:l1 -r1≥w):
  bJ [some (.sh wd),some (.sh (.tup G)),some (.own (.dT kv)),some (.sh (.int w)),some (.lok (.lst R)),some (.own (.lst F)),some (.sh (.int k)),some (.sh (.tup [.int r1,.int r2])),some (.sh (.tup [.int l1,.int l2])),x9]=
   some (.bk [some (.sh wd),some (.sh (.tup G)),some (.own (.dT kv)),some (.sh (.int w)),some (.lok (.lst R)),some (.own (.lst F)),some (.sh (.int k)),some (.sh (.tup [.int r1,.int r2])),some (.sh (.tup [.int l1,.int l2])),some (.sh (.int (l1 -r1)))]):=by
 unfold bJ
 simp[c]
theorem KJ{A B C O G R F:List D}{kv:List (List Key×D)}{w k r1 r2 l1 l2 gb:Int}{o1 o2:D}{x9:Option Slot}(c:¬l1 -r1≥w)(h1:atD O r2=some o1)(h2:atD O l2=some o2)(eb:gF [.dT kv,o1,o2]=some (.int gb))(hz:F.length<100000):
  bJ [some (.sh (.tup [.tup A,.tup B,.tup C,.tup O])),some (.sh (.tup G)),some (.own (.dT kv)),some (.sh (.int w)),some (.lok (.lst R)),some (.own (.lst F)),some (.sh (.int k)),some (.sh (.tup [.int r1,.int r2])),some (.sh (.tup [.int l1,.int l2])),x9]=
   some (.nx [some (.sh (.tup [.tup A,.tup B,.tup C,.tup O])),some (.sh (.tup G)),some (.own (.dT kv)),some (.sh (.int w)),some (.lok (.lst R)),some (.own (.lst (F++(if l1 -r1<gb then[D.tup [.str "gap",.int r2,.int r1,.int l2,.int l1]] else[])))),some (.sh (.int k)),some (.sh (.tup [.int r1,.int r2])),some (.sh (.tup [.int l1,.int l2])),some (.sh (.int (l1 -r1)))]):=by
 have z:F.length<16777216:=by omega
 unfold bJ
 refine(ar (e:=[some (.sh (.tup [.tup A,.tup B,.tup C,.tup O])),some (.sh (.tup G)),some (.own (.dT kv)),some (.sh (.int w)),some (.lok (.lst R)),some (.own (.lst F)),some (.sh (.int k)),some (.sh (.tup [.int r1,.int r2])),some (.sh (.tup [.int l1,.int l2])),some (.sh (.int (l1 -r1)))]) (by simp)).trans ?_
 have c' :l1 -r1<w:=by omega
 refine(ar (e:=[some (.sh (.tup [.tup A,.tup B,.tup C,.tup O])),some (.sh (.tup G)),some (.own (.dT kv)),some (.sh (.int w)),some (.lok (.lst R)),some (.own (.lst F)),some (.sh (.int k)),some (.sh (.tup [.int r1,.int r2])),some (.sh (.tup [.int l1,.int l2])),some (.sh (.int (l1 -r1)))]) (by simp[c'])).trans ?_
 by_cases q:l1 -r1<gb
 ·simp[q,h1,h2,eb,z,ai]
 ·simp[q,h1,h2,eb]
theorem sC{w:World}{gs:List Tr}{wid k:Int}{A B C G R:List D}{r:Int×Int}(hr0:0≤r.2)(hr1:r.2<w.orders.length):∀(ls:List (Int×Int)) (fs:List Flt) (x8 x9:Option Slot),(∀l∈ls,0≤l.2∧l.2<w.orders.length)→fs.length+ls.length<100000→∃y8 y9,
  forL (gN 8) bJ (ls.map mk2) [some (.sh (.tup [.tup A,.tup B,.tup C,.tup (w.orders.map aF)])),some (.sh (.tup G)),some (.own (.dT (kvT gs))),some (.sh (.int wid)),some (.lok (.lst R)),some (.own (.lst (fs.map aw))),some (.sh (.int k)),some (.sh (mk2 r)),x8,x9]=
   some (.nx [some (.sh (.tup [.tup A,.tup B,.tup C,.tup (w.orders.map aF)])),some (.sh (.tup G)),some (.own (.dT (kvT gs))),some (.sh (.int wid)),some (.lok (.lst R)),some (.own (.lst ((fs++kf w.orders gs wid r ls).map aw))),some (.sh (.int k)),some (.sh (mk2 r)),y8,y9])
 |[],fs,x8,x9,_,_=> ⟨x8,x9,by simp[kf]⟩
 |l::ls,fs,x8,x9,hl,hz=>by
  rw[GaH] at hz
  by_cases c:l.1 -r.1≥wid
  ·have ev:=KI (wd:= .tup [.tup A,.tup B,.tup C,.tup (w.orders.map aF)]) (G:=G) (R:=R) (F:=fs.map aw) (kv:=kvT gs) (w:=wid) (k:=k) (r1:=r.1) (r2:=r.2) (l1:=l.1) (l2:=l.2) (x9:=x9) c
   refine⟨some (.sh (mk2 l)),some (.sh (.int (l.1 -r.1))), ?_⟩
   unfold kf
   rw[Gaf c,Gbh,Gau]
   have e1:D.tup [.int r.1,.int r.2]=mk2 r:=rfl
   have e2:D.tup [.int l.1,.int l.2]=mk2 l:=rfl
   rw[e1,e2] at ev
   generalize mk2 l=ld at*
   simp only[forL,gN,GaU,GaV,Option.bind_some,ev]
  ·have l0:=hl l Gan
   obtain⟨n,hn⟩:=GaE hr0
   obtain⟨m,hm⟩:=GaE l0.1
   have hn' :n<w.orders.length:=by omega
   have hm' :m<w.orders.length:=by omega
   have h1:atD (w.orders.map aF) r.2=some (aF w.orders[n]):=by rw[hn,dA,Gal,Gaa hn'];rfl
   have h2:atD (w.orders.map aF) l.2=some (aF w.orders[m]):=by rw[hm,dA,Gal,Gaa hm'];rfl
   have eb:=pJ (gs:=gs) (a:=w.orders[n]) (b:=w.orders[m])
   have ev:=KJ (A:=A) (B:=B) (C:=C) (G:=G) (R:=R) (F:=fs.map aw) (k:=k) (x9:=x9) c h1 h2 eb (by rw[Gae];omega)
   have eg:(if l.1 -r.1<Il gs w.orders[n] w.orders[m] then[D.tup [.str "gap",.int r.2,.int r.1,.int l.2,.int l.1]] else[])=(gpF w.orders gs r l).map aw:=by
    unfold gpF
    rw[hn,hm,Gbe,Gbe,Gaa hn',Gaa hm']
    dsimp only
    split<;>rfl
   rw[eg,←GaI] at ev
   have g1:=Cg w.orders gs r l
   obtain⟨y8,y9,e⟩:=sC (A:=A) (B:=B) (C:=C) (G:=G) (R:=R) (gs:=gs) (wid:=wid) (k:=k) hr0 hr1 ls (fs++gpF w.orders gs r l) (some (.sh (mk2 l))) (some (.sh (.int (l.1 -r.1)))) (λx hx=>hl x (Gag _ hx)) (by rw[Gar];omega)
   refine⟨y8,y9, ?_⟩
   conv=>rhs;unfold kf
   rw[Gah c,Gau,←Gav]
   have e1:D.tup [.int r.1,.int r.2]=mk2 r:=rfl
   have e2:D.tup [.int l.1,.int l.2]=mk2 l:=rfl
   rw[e1,e2] at ev
   generalize mk2 l=ld at*
   simp only[forL,gN,GaU,GaV,Option.bind_some,ev]
   exact e
theorem Iq{e0 e1 e2 e3 e5 e7 x8 x9:Option Slot}{R L:List D}{k:Int}{e' :DL.Env}(hs:slD (some (k+1)) none (.lst R)=some ⟨.tn,.lst L⟩)(h:forL (gN 8) bJ L [e0,e1,e2,e3,some (.lok (.lst R)),e5,some (.sh (.int k)),e7,x8,x9]=some (.nx e')):
  cP [e0,e1,e2,e3,some (.lok (.lst R)),e5,some (.sh (.int k)),e7,x8,x9]=some (.nx e'):=by
 unfold cP
 simp[-forL,hs,h,freed]
theorem FY(R:List D)(j:Nat):slD (some ((j:Int)+1)) none (.lst R)=some ⟨.tn,.lst (R.drop (j+1))⟩:=by
 show some (⟨.tn,.lst (cutD R (some ((j:Int)+1)) none)⟩:RV)=_
 have e:sIx R.length 0 (some ((j:Int)+1))=min (j+1) R.length:=by
  show(if(j:Int)+1<0 then((j:Int)+1+(R.length:Int)).toNat else min ((j:Int)+1).toNat R.length)=_
  rw[Gah (by omega)]
  congr 1
 unfold cutD
 have e2:sIx R.length R.length none=R.length:=rfl
 rw[e,e2]
 congr 3
 rw[Gbt (by rw[GbP];omega)]
 by_cases c:j+1≤R.length
 ·rw[Gcs c]
 ·rw[Nat.min_eq_right (by omega),GbH,List.drop_of_length_le (by omega)]
theorem qh{w:World}{gs:List Tr}{wid:Int}{A B C G:List D}{rows:List (Int×Int)}(hr:∀l∈rows,0≤l.2∧l.2<w.orders.length)(hn:rows.length<64):∀(m j:Nat) (fs:List Flt) (x6 x7 x8 x9:Option Slot),rows.length -j=m→fs.length≤64*j→∃y6 y7 y8 y9,
  forL (gT [6,7]) cP (fq j ((rows.drop j).map mk2)) [some (.sh (.tup [.tup A,.tup B,.tup C,.tup (w.orders.map aF)])),some (.sh (.tup G)),some (.own (.dT (kvT gs))),some (.sh (.int wid)),some (.lok (.lst (rows.map mk2))),some (.own (.lst (fs.map aw))),x6,x7,x8,x9]=
   some (.nx [some (.sh (.tup [.tup A,.tup B,.tup C,.tup (w.orders.map aF)])),some (.sh (.tup G)),some (.own (.dT (kvT gs))),some (.sh (.int wid)),some (.lok (.lst (rows.map mk2))),some (.own (.lst ((fs++cL w.orders gs wid (rows.drop j)).map aw))),y6,y7,y8,y9])
 |0,j,fs,x6,x7,x8,x9,hm,hf=>by
  rw[List.drop_of_length_le (by omega)]
  exact⟨x6,x7,x8,x9,by simp[cL]⟩
 |m+1,j,fs,x6,x7,x8,x9,hm,hf=>by
  have hj:j<rows.length:=by omega
  have ed:rows.drop j=rows[j]::rows.drop (j+1):=Gbv hj
  have r0:=hr rows[j] (GaA hj)
  obtain⟨y8,y9,e⟩:=sC (w:=w) (gs:=gs) (wid:=wid) (k:=(j:Int)) (A:=A) (B:=B) (C:=C) (G:=G) (R:=rows.map mk2) (r:=rows[j]) r0.1 r0.2 (rows.drop (j+1)) fs x8 x9 (λl hl=>hr l (Gbo hl)) (by rw[GbP];omega)
  have lz:=pL w.orders gs wid rows[j] (rows.drop (j+1))
  rw[GbP] at lz
  obtain⟨z6,z7,z8,z9,e2⟩:=qh (w:=w) (gs:=gs) (wid:=wid) (A:=A) (B:=B) (C:=C) (G:=G) (rows:=rows) hr hn m (j+1) (fs++kf w.orders gs wid rows[j] (rows.drop (j+1))) (some (.sh (.int (j:Int)))) (some (.sh (mk2 rows[j]))) y8 y9 (by omega) (by rw[Gar];omega)
  refine⟨z6,z7,z8,z9, ?_⟩
  have ev:=Iq (FY (rows.map mk2) j) ((by rw[←Gdu];exact e):forL (gN 8) bJ ((rows.map mk2).drop (j+1)) _=_)
  rw[ed,Gau]
  conv=>rhs;unfold cL
  rw[←Gav]
  show forL (gT [6,7]) cP (D.tup [.int (j:Int),mk2 rows[j]]::fq (j+1) ((rows.drop (j+1)).map mk2)) _=_
  generalize rows[j]=rj at*
  generalize (j:Int)=ji at*
  generalize mk2 rj=rd at*
  simp only[forL,gT,gNs,GaU,GaV,Option.bind_some,ev]
  exact e2
noncomputable def wide(bs:List Tr):Int:=match bs.map (·.2.2) with
 |[]=>0
 |n::ns=>AI n ns
theorem Ir{A B C O G B' R R' F:List D}{kv:List (List Key×D)}{wid:Int}{y6 y7 y8 y9:Option Slot}(hg:fb [.tup C]=some (.dT kv))(zc:C.length<1000)(hw:cy (gN 0) j0 (ixE (vE 0) (kE (.int 2))) C [none]=some B')(hm:mmD AI (.int 0) (.lst B')=some ⟨.c,.int wid⟩)(zg:G.length<1000)(hc:cy (gN 0) j0 (bD (a5 (ixE (vE 0) (kE (.int 1))) (a5 (ixE (vE 0) (kE (.int 0))) ao))) G [none]=some R)(hs:sortedS [.lst R]=some ⟨.tn,.lst R'⟩)
  (hl:forL (gT [6,7]) cP (fq 0 R') [some (.sh (.tup [.tup A,.tup B,.tup C,.tup O])),some (.sh (.tup G)),some (.own (.dT kv)),some (.sh (.int wid)),some (.lok (.lst R')),some (.own (.lst [])),none,none,none,none]=some (.nx [some (.sh (.tup [.tup A,.tup B,.tup C,.tup O])),some (.sh (.tup G)),some (.own (.dT kv)),some (.sh (.int wid)),some (.lok (.lst R')),some (.own (.lst F)),y6,y7,y8,y9]))(im:aP F=true):
  fY [.tup [.tup A,.tup B,.tup C,.tup O],.tup G]=some (.lst F):=by
 have z1:C.length≤16777216:=by omega
 have z2:G.length≤16777216:=by omega
 have rk:ku (.dT kv)=⟨.tn,.dT kv⟩:=rfl
 refine bf rfl ?_
 unfold iz
 refine(ar (e:=[some (.sh (.tup [.tup A,.tup B,.tup C,.tup O])),some (.sh (.tup G)),some (.own (.dT kv)),none,none,none,none,none,none,none]) (by simp[bq,hg,rk])).trans ?_
 refine(ar (e:=[some (.sh (.tup [.tup A,.tup B,.tup C,.tup O])),some (.sh (.tup G)),some (.own (.dT kv)),some (.sh (.int wid)),none,none,none,none,none,none]) (by simp[-cy,ai,DL.compEnv,fE,hw,hm,z1])).trans ?_
 refine(ar (e:=[some (.sh (.tup [.tup A,.tup B,.tup C,.tup O])),some (.sh (.tup G)),some (.own (.dT kv)),some (.sh (.int wid)),some (.own (.lst R')),none,none,none,none,none]) (by simp[-cy,ai,DL.compEnv,fE,hc,hs,z2])).trans ?_
 refine(ar (e:=[some (.sh (.tup [.tup A,.tup B,.tup C,.tup O])),some (.sh (.tup G)),some (.own (.dT kv)),some (.sh (.int wid)),some (.own (.lst R')),some (.own (.lst [])),none,none,none,none]) (by simp[ai])).trans ?_
 refine(ar (e:=[some (.sh (.tup [.tup A,.tup B,.tup C,.tup O])),some (.sh (.tup G)),some (.own (.dT kv)),some (.sh (.int wid)),some (.own (.lst R')),some (.own (.lst F)),y6,y7,y8,y9]) (by simp[-forL,hl,freed])).trans ?_
 simp[im]
noncomputable def gvR(gv:List Tr):List (Int×Int):=gv.map λt=>(t.2.1,t.1)
theorem N0{w:World}{gv:List Tr}(W:c0 w)(hg:ie w.orders.length gv)(hl:gv.length<64):∃rows:List (Int×Int),df ((gvR gv).map mk2)=rows.map mk2∧rows.Perm (gvR gv)∧(rows.Pairwise λa b=>a.1≤b.1)∧fY [bK w,.tup (gv.map trD)]=some (.lst ((cL w.orders (w.cX.foldl bI []) (wide w.cX) rows).map aw)):=by
 obtain⟨rows,r1,r2,r3⟩:=A6 (gvR gv)
 refine⟨rows,r1,r2,r3, ?_⟩
 have lr:rows.length=gv.length:=by rw[r2.length_eq];simp[gvR]
 have hr:∀l∈rows,0≤l.2∧l.2<w.orders.length:=λl hl=>by
  obtain⟨t,ht,rfl⟩:=GaM.mp (r2.mem_iff.mp hl)
  exact hg t ht
 have b12:=W.b12
 have hw:=ka (g:=gN 0) (f:=ixE (vE 0) (kE (.int 2))) trD (λenv=>∃y,env=[y]) (λt=>D.int t.2.2) w.cX [none] ⟨none,rfl⟩ (by
  rintro t ht env ⟨y,rfl⟩
  exact⟨_,rfl,⟨_,rfl⟩,.c,by simp[trD],rfl⟩)
 have hc:=ka (g:=gN 0) (f:=bD (a5 (ixE (vE 0) (kE (.int 1))) (a5 (ixE (vE 0) (kE (.int 0))) ao))) trD (λenv=>∃y,env=[y]) (λt=>mk2 (t.2.1,t.1)) gv [none] ⟨none,rfl⟩ (by
  rintro t ht env ⟨y,rfl⟩
  exact⟨_,rfl,⟨_,rfl⟩,.c,by simp[trD,mk2,ai],rfl⟩)
 have e1:gv.map (λt=>mk2 (t.2.1,t.1))=(gvR gv).map mk2:=by unfold gvR;rw[GaT];rfl
 have e2:w.cX.map (λt=>D.int t.2.2)=(w.cX.map (·.2.2)).map D.int:=by rw[GaT];rfl
 rw[e1] at hc
 rw[e2] at hw
 have hm:mmD AI (.int 0) (.lst ((w.cX.map (·.2.2)).map D.int))=some ⟨.c,.int (wide w.cX)⟩:=by
  unfold mmD mQ wide
  simp only[Option.bind_some,Dj]
  cases w.cX.map (·.2.2)<;>rfl
 have hs:=sr (ms:=gvR gv) (by simp[gvR];exact hl)
 rw[r1] at hs
 obtain⟨y6,y7,y8,y9,e⟩:=qh (w:=w) (gs:=w.cX.foldl bI []) (wid:=wide w.cX) (A:=w.bT.map cw) (B:=w.aG.map aV) (C:=w.cX.map trD) (G:=gv.map trD) (rows:=rows) hr (by omega) _ 0 [] none none none none rfl (by simp)
 rw[GbB,List.nil_append] at e
 exact Ir (KD b12) (by rw[Gae];omega) hw hm (by rw[Gae];omega) hc hs e (gB _)
noncomputable abbrev Tg:=(Int×Int)×List (Int×Int)
noncomputable def lX(st:List Tg):Rws:=st.map λe=>([Sum.inl e.1.1,Sum.inl e.1.2],D.lst (e.2.map mk2))
noncomputable def tk(os:List Order)(t:Tr):Int×Int:=match os[t.1.toNat]? with
 |some o=>(o.bN,o.fj)
 |none=>(0,0)
noncomputable def Ci(st:List Tg)(k m:Int×Int):List Tg:=match st.findIdx? (λe=>decide (e.1=k)) with
 |some j=>st.set j (k,((st[j]?.map (·.2)).getD [])++[m])
 |none=>st++[(k,[m])]
theorem FZ(k:Int×Int)(e:Tg):decide (([Sum.inl e.1.1,Sum.inl e.1.2]:List Key)=[Sum.inl k.1,Sum.inl k.2])=decide (e.1=k):=by
 rw[decide_eq_decide]
 obtain⟨⟨a,b⟩,l⟩:=e
 obtain⟨c,d⟩:=k
 simp
theorem G0{st:List Tg}{k m:Int×Int}(hz:st.length<1000)(hm:∀e∈st,e.2.length<1000):Er (lX st) [Sum.inl k.1,Sum.inl k.2] (mk2 m)=some (lX (Ci st k m)):=by
 unfold Er Ci
 have z:(lX st).length<ai:=by unfold lX ai;rw[Gae];omega
 rw[Gaf z]
 have ef:(lX st).findIdx? (λp=>decide (p.1=[Sum.inl k.1,Sum.inl k.2]))=st.findIdx? (λe=>decide (e.1=k)):=by
  unfold lX
  rw[Gdx]
  congr 1
  funext e
  exact FZ k e
 rw[ef]
 cases h:st.findIdx? (λe=>decide (e.1=k)) with
 |none=>
  dsimp only
  unfold lX
  rw[GaI]
  rfl
 |some j=>
  obtain⟨hj,_⟩:=Gdc.mp h
  have e1:(lX st)[j]? =some ([Sum.inl st[j].1.1,Sum.inl st[j].1.2],D.lst (st[j].2.map mk2)):=by
   unfold lX
   rw[Gal,Gaa hj]
   rfl
  have z2:(st[j].2.map mk2).length<ai:=by
   have:=hm st[j] (GaA hj)
   rw[Gae]
   unfold ai
   omega
  simp only[e1]
  rw[Gaf z2]
  rw[Gaa hj]
  unfold lX
  rw[List.map_set]
  simp
structure t8(os:List Order)(pre:List Tr)(st:List Tg):Prop where
 nd:(st.map (·.1)).Nodup
 ms:∀e∈st,e.2=(pre.filter λt=>decide (tk os t=e.1)).map λt=>(t.2.1,t.2.2)
 cov:∀t∈pre,tk os t∈st.map (·.1)
 back:∀e∈st,∃t∈pre,tk os t=e.1
 ln:st.length≤pre.length
theorem t8.step{os:List Order}{pre:List Tr}{st:List Tg}(I:t8 os pre st)(t:Tr):t8 os (pre++[t]) (Ci st (tk os t) (t.2.1,t.2.2)):=by
 obtain⟨nd,ms,cov,back,ln⟩:=I
 generalize hk:tk os t=k
 have flt:∀q:Int×Int,((pre++[t]).filter λt=>decide (tk os t=q))=(pre.filter λt=>decide (tk os t=q))++(if k=q then[t] else[]):=λq=>by
  rw[Gct]
  congr 1
  by_cases c:k=q
  ·rw[Gaf c]
   simp[hk,c]
  ·rw[Gah c]
   simp[hk,c]
 unfold Ci
 cases h:st.findIdx? (λe=>decide (e.1=k)) with
 |none=>
  have no:=List.findIdx?_eq_none_iff.mp h
  have nk:k∉st.map (·.1):=λhm=>by
   obtain⟨e,he,ek⟩:=GaM.mp hm
   have:=no e he
   simp[ek] at this
  have pre0:(pre.filter λt=>decide (tk os t=k))=[]:=by
   rw[List.filter_eq_nil_iff]
   intro x hx
   have:=cov x hx
   simp
   intro q
   rw[q] at this
   exact nk this
  dsimp only
  refine⟨?_, ?_, ?_, ?_,by simp;omega⟩
  ·rw[GaI,GcZ]
   refine⟨nd,by simp, ?_⟩
   intro a ha b hb
   simp at hb
   rw[hb]
   exactλq=>nk (q▸ha)
  ·intro e he
   rcases Gaw.mp he with he|he
   ·rw[flt,Gah (λq=>nk (GaM.mpr ⟨e,he,q.symm⟩)),Gbh]
    exact ms e he
   ·simp at he
    rw[he,flt,pre0]
    simp
  ·intro x hx
   rw[GaI]
   rcases Gaw.mp hx with hx|hx
   ·exact GbW _ (cov x hx)
   ·simp at hx
    rw[hx,hk]
    simp
  ·intro e he
   rcases Gaw.mp he with he|he
   ·obtain⟨x,hx,q⟩:=back e he
    exact⟨x,GbW _ hx,q⟩
   ·simp at he
    rw[he]
    exact⟨t,by simp,hk⟩
 |some j=>
  obtain⟨hj,hp,_⟩:=Gdc.mp h
  have ek:st[j].1=k:=GaB hp
  dsimp only
  rw[Gaa hj]
  have keys:(st.set j (k,(((some st[j]).map (·.2)).getD [])++[(t.2.1,t.2.2)])).map (·.1)=st.map (·.1):=by
   rw[List.map_set]
   have:k=(st.map (·.1))[j]'(by simpa using hj):=by rw[GbR,ek]
   simp only
   conv=>lhs;arg 3;rw[this]
   exact List.set_getElem_self _
  have mem:∀e∈st.set j (k,(((some st[j]).map (·.2)).getD [])++[(t.2.1,t.2.2)]),e=(k,st[j].2++[(t.2.1,t.2.2)])∨(e∈st∧e.1≠k):=by
   intro e he
   obtain⟨i,hi,rfl⟩:=Gdq he
   have hi' :i<st.length:=by simpa using hi
   by_cases c:j=i
   ·subst c
    left
    simp
   ·right
    rw[List.getElem_set_ne c]
    refine⟨GaA hi',λq=>c ?_⟩
    have e1:(st.map (·.1))[j]'(by simpa using hj)=(st.map (·.1))[i]'(by simpa using hi'):=by rw[GbR,GbR,ek,q]
    exact(List.getElem_inj nd).mp e1
  refine⟨by rw[keys];exact nd, ?_, ?_, ?_,by simp;omega⟩
  ·intro e he
   rcases mem e he with q| ⟨q1,q2⟩
   ·rw[q]
    have:=ms st[j] (GaA hj)
    rw[ek] at this
    rw[flt,Gaf rfl,GaI,←this]
    rfl
   ·rw[flt,Gah (λz=>q2 z.symm),Gbh]
    exact ms e q1
  ·intro x hx
   rw[keys]
   rcases Gaw.mp hx with hx|hx
   ·exact cov x hx
   ·simp at hx
    rw[hx,hk,←ek]
    exact GaM.mpr ⟨_,GaA hj,rfl⟩
  ·intro e he
   rcases mem e he with q| ⟨q1,q2⟩
   ·rw[q]
    exact⟨t,by simp,hk⟩
   ·obtain⟨x,hx,q⟩:=back e q1
    exact⟨x,GbW _ hx,q⟩
theorem t8.N5{os:List Order}{pre:List Tr}{st:List Tg}(I:t8 os pre st){e:Tg}(he:e∈st):e.2.length≤pre.length:=by
 rw[I.ms e he,Gae]
 exact Gdj _ _
theorem Iu{A B C O G:List D}{rows rows' :Rws}{OD:D}{n h a g s:Int}{x4:Option Slot}(hO:atD O n=some OD)(im:OD.imm=true)(h1:ixD OD (.int 1)=some (.int g))(h2:ixD OD (.int 2)=some (.int s))(hs:Er rows [Sum.inl g,Sum.inl s] (.tup [.int h,.int a])=some rows'):
  bS [some (.sh (.tup [.tup A,.tup B,.tup C,.tup O])),some (.sh (.tup G)),none,some (.sh (.tup [.int n,.int h,.int a])),x4] rows=some ([some (.sh (.tup [.tup A,.tup B,.tup C,.tup O])),some (.sh (.tup G)),none,some (.sh (.tup [.int n,.int h,.int a])),some (.sh OD)],rows'):=by
 unfold bS
 simp[hO,im,h1,h2,hs,ai,keysOf,keyOf,BF]
theorem uu{w:World}(W:c0 w){A B C G:List D}:∀(gv pre:List Tr) (st:List Tg) (x3 x4:Option Slot),ie w.orders.length gv→t8 w.orders pre st→pre.length+gv.length<64→∃y3 y4 st',t8 w.orders (pre++gv) st' ∧
  nV 3 bS (gv.map trD) [some (.sh (.tup [.tup A,.tup B,.tup C,.tup (w.orders.map aF)])),some (.sh (.tup G)),none,x3,x4] (lX st)=some ([some (.sh (.tup [.tup A,.tup B,.tup C,.tup (w.orders.map aF)])),some (.sh (.tup G)),none,y3,y4],lX st')
 |[],pre,st,x3,x4,_,I,_=> ⟨x3,x4,st,by rw[Gbh];exact I,by simp⟩
 |t::gv,pre,st,x3,x4,hg,I,hl=>by
  rw[GaH] at hl
  have g0:=hg t Gan
  obtain⟨n,hn⟩:=GaE g0.1
  have hn' :n<w.orders.length:=by omega
  have hO:atD (w.orders.map aF) t.1=some (aF w.orders[n]):=by
   rw[hn,dA,Gal,Gaa hn'];rfl
  have ok:=W.oo w.orders[n] (GaA hn')
  have ek:tk w.orders t=(w.orders[n].bN,w.orders[n].fj):=by
   unfold tk
   rw[hn,Gbe,Gaa hn']
  have ln:=I.ln
  have sd:=G0 (st:=st) (k:=tk w.orders t) (m:=(t.2.1,t.2.2)) (by omega) (λe he=>by have:=I.N5 he;omega)
  have ev:=Iu (A:=A) (B:=B) (C:=C) (G:=G) (n:=t.1) (h:=t.2.1) (a:=t.2.2) (g:=w.orders[n].bN) (s:=w.orders[n].fj) (x4:=x4) hO (fO _ ok.ti) rfl rfl (by rw[ek] at sd;exact sd)
  obtain⟨y3,y4,st',I',e⟩:=uu W (A:=A) (B:=B) (C:=C) (G:=G) gv (pre++[t]) _ (some (.sh (trD t))) (some (.sh (aF w.orders[n]))) (λx hx=>hg x (Gag _ hx)) (I.step t) (by simp;omega)
  refine⟨y3,y4,st',by rw[Gav] at I';exact I', ?_⟩
  rw[Gau]
  have td:D.tup [.int t.1,.int t.2.1,.int t.2.2]=trD t:=rfl
  rw[td] at ev
  rw[ek] at e
  generalize trD t=d at*
  simp only[nV,GaU,GaV,ev,Option.bind_some]
  exact e
theorem DB{A B C O G:List D}{kv:Rws}{y3 y4:Option Slot}(ig:aP G=true)(h:nV 3 bS G [some (.sh (.tup [.tup A,.tup B,.tup C,.tup O])),some (.sh (.tup G)),none,none,none] []=some ([some (.sh (.tup [.tup A,.tup B,.tup C,.tup O])),some (.sh (.tup G)),none,y3,y4],kv)):cW [.tup [.tup A,.tup B,.tup C,.tup O],.tup G]=some (.dT kv):=by
 refine bf rfl ?_
 unfold dI
 simp[-nV,bq,ig,h]
theorem Iv{w:World}{gv:List Tr}(W:c0 w)(hg:ie w.orders.length gv)(hl:gv.length<64):∃st,t8 w.orders gv st∧cW [bK w,.tup (gv.map trD)]=some (.dT (lX st)):=by
 obtain⟨y3,y4,st,I,e⟩:=uu W (A:=w.bT.map cw) (B:=w.aG.map aV) (C:=w.cX.map trD) (G:=gv.map trD) gv [] [] none none hg ⟨by simp,by simp,by simp,by simp,by simp⟩ (by simpa using hl)
 exact⟨st,by simpa using I,DB (iH gv) e⟩
noncomputable def lY(ns:List Int):List Int:=(df ((ddF ns).map D.int)).map unI
theorem sD(ns:List Int):(lY ns).Pairwise (λa b=>a<b)∧(∀x,x∈lY ns↔x∈ns)∧(lY ns).length≤ns.length:=by
 obtain⟨S,h1,h2,h3,h4⟩:=FU ns
 have e:lY ns=S:=by
  unfold lY
  rw[h1,GaT]
  conv=>rhs;rw[←Gcb S]
  exact GaQ λ_ _=>rfl
 rw[e]
 exact⟨h2,h3,h4⟩
noncomputable def G1:Cap→Int→Int→Bool
 | .flat H _,h,a=>decide (h -H<a)&&decide (a≤h)
 | .kilo H _ _,h,a=>decide (h -H<a)&&decide (a≤h)
 | .ever _,h,a=>decide (a≤h)
noncomputable def pM(c:Cap)(ms:List (Int×Int))(h:Int):Int:=(ms.map λp=>if G1 c h p.1 then p.2 else 0).sum
noncomputable def lZ:Cap→D
 | .flat H _=> .int H
 | .kilo H _ _=> .int H
 | .ever _=> .non
theorem N6(ms:List (Int×Int)):∃H:Int,∀p∈ms,∀q∈ms,q.1 -H<p.1:=by
 have:∃B:Int,∀p∈ms,-B<p.1∧p.1<B:=by
  induction ms with
  |nil=>exact⟨0,by simp⟩
  |cons p ms ih=>
   obtain⟨B,hB⟩:=ih
   refine⟨(if B<0 then -B else B)+(if p.1<0 then -p.1 else p.1)+1, ?_⟩
   intro q hq
   rcases Gay.mp hq with rfl|hq
   ·split<;>split<;>omega
   ·have:=hB q hq
    split<;>split<;>omega
 obtain⟨B,hB⟩:=this
 refine⟨2*B,λp hp q hq=> ?_⟩
 have:=hB p hp
 have:=hB q hq
 omega
theorem G2{c:Cap}{ms:List (Int×Int)}(ok:q9 c)(hl:ms.length<64):jQ [.lst (ms.map mk2),lZ c]=some (.lst (((lY (ms.map (·.1))).map λh=>(h,pM c ms h)).map mk2)):=by
 obtain⟨h1,h2,h3⟩:=sD (ms.map (·.1))
 have fin:∀(H:Int),(∀h,h∈ms.map (·.1)→∀p∈ms,wt H h p=if G1 c h p.1 then p.2 else 0)→FV ms H (lY (ms.map (·.1)))=(lY (ms.map (·.1))).map λh=>(h,pM c ms h):=λH e=>by
  unfold FV
  refine GaQ λh hh=> ?_
  unfold W pM
  rw[GaQ λp hp=>e h ((h2 h).mp hh) p hp]
 have lim:∀(H h:Int) (p:Int×Int),wt H h p=if(decide (h -H<p.1)&&decide (p.1≤h)) then p.2 else 0:=λH h p=>by
  unfold wt
  by_cases c1:h -H<p.1<;>by_cases c2:p.1≤h<;>simp[c1,c2]
 cases c with
 |flat H t=>
  rw[←fin H (λh _ p _=>lim H h p)]
  exact sv (.inl ⟨rfl,ok.1⟩) (List.Perm.refl _) hl h1 h2
 |kilo H t p=>
  rw[←fin H (λh _ p _=>lim H h p)]
  exact sv (.inl ⟨rfl,ok.1⟩) (List.Perm.refl _) hl h1 h2
 |ever t=>
  obtain⟨H,hH⟩:=N6 ms
  rw[←fin H (λh hh p hp=>by
   obtain⟨q,hq,rfl⟩:=GaM.mp hh
   rw[lim]
   have:=hH p hp q hq
   simp[G1,this])]
  exact sv (.inr ⟨rfl,hH⟩) (List.Perm.refl _) hl h1 h2
noncomputable def kN(ws:List Tr)(c:Cap)(g s k:Int)(r:Int×Int):List Flt:=match iI c (wgt g r.1 ws none) with
 |some top=>if r.2>top then[("cap",[g,s,k,r.1,r.2,top])] else[]
 |none=>[]
noncomputable def pO(ws:List Tr)(g s k:Int)(c:Cap)(ms:List (Int×Int)):List Flt:=((lY (ms.map (·.1))).map λh=>(h,pM c ms h)).flatMap (kN ws c g s k)
noncomputable def kY(ws:List Tr)(g s:Int)(ms:List (Int×Int)):Nat→List Cap→List Flt
 |_,[]=>[]
 |k,c::cs=>pO ws g s (k:Int) c ms++kY ws g s ms (k+1) cs
theorem sE(ws:List Tr)(c:Cap)(g s k:Int)(r:Int×Int):(kN ws c g s k r).length≤1:=by
 unfold kN
 split
 ·split<;>simp
 ·simp
theorem Aa{α β:Type}(f:α→List β)(h:∀a,(f a).length≤1):∀l:List α,(l.flatMap f).length≤l.length
 |[]=>by simp
 |a::l=>by
  have h1:=h a
  have h2:=Aa f h l
  simp
  simp at h2
  omega
theorem sF(ws:List Tr)(g s k:Int)(c:Cap)(ms:List (Int×Int)):(pO ws g s k c ms).length≤ms.length:=by
 unfold pO
 have h1:=Aa _ (sE ws c g s k) ((lY (ms.map (·.1))).map λh=>(h,pM c ms h))
 have h2:=(sD (ms.map (·.1))).2.2
 rw[Gae] at h1 h2
 omega
theorem pP(ws:List Tr)(g s:Int)(ms:List (Int×Int)):∀(k:Nat) (cs:List Cap),(kY ws g s ms k cs).length≤cs.length*ms.length
 |_,[]=>by simp[kY]
 |k,c::cs=>by
  have h1:=sF ws g s (k:Int) c ms
  have h2:=pP ws g s ms (k+1) cs
  unfold kY
  rw[Gar,GaH,GdA]
  omega
noncomputable def DC(to:Option Int)(g s k r1 r2:Int):List D:=match to with
 |some top=>if r2>top then[D.tup [.str "cap",.int g,.int s,.int k,.int r1,.int r2,.int top]] else[]
 |none=>[]
theorem KN{e0 e2 e5 e9 x11:Option Slot}{W F:List D}{T0:D}{g s k r1 r2:Int}{cd:D}{wo to:Option Int}(ew:gQ [.tup W,.int g,.int r1]=some (i4 wo))(eb:jv [cd,i4 wo]=some (i4 to))(hz:F.length<100000):
  cN [e0,some (.sh (.tup W)),e2,some (.own (.lst F)),some (.sh (.tup [.int g,.int s])),e5,some (.sh (.int g)),some (.sh (.int k)),some (.sh cd),e9,some (.sh (.tup [.int r1,.int r2])),x11]=
   some (.nx [e0,some (.sh (.tup W)),e2,some (.own (.lst (F++DC to g s k r1 r2))),some (.sh (.tup [.int g,.int s])),e5,some (.sh (.int g)),some (.sh (.int k)),some (.sh cd),e9,some (.sh (.tup [.int r1,.int r2])),some (.sh (i4 to))]):=by
 have z:F.length<16777216:=by omega
 have rw' :=bZ (gk wo)
 have rt:=bZ (gk to)
 unfold cN
 refine(ar (e:=[e0,some (.sh (.tup W)),e2,some (.own (.lst F)),some (.sh (.tup [.int g,.int s])),e5,some (.sh (.int g)),some (.sh (.int k)),some (.sh cd),e9,some (.sh (.tup [.int r1,.int r2])),some (.sh (i4 to))]) (by simp[ew,rw',eb,rt])).trans ?_
 cases to with
 |none=>simp[kW,dm,DC]
 |some top=>
  by_cases c:r2>top
  ·have c' :top<r2:=c
   simp[kW,dm,c',z,ai,DC]
  ·have c' :¬top<r2:=c
   simp[kW,dm,c',DC]
theorem Ab{ws:List Tr}{c:Cap}{g s k:Int}{e0 e2 e5 e9:Option Slot}(ok:q9 c):∀(rs:List (Int×Int)) (fs:List Flt) (x10 x11:Option Slot),fs.length+rs.length<100000→∃y10 y11,
  forL (gN 10) cN (rs.map mk2) [e0,some (.sh (.tup (ws.map trD))),e2,some (.own (.lst (fs.map aw))),some (.sh (.tup [.int g,.int s])),e5,some (.sh (.int g)),some (.sh (.int k)),some (.sh (bM c)),e9,x10,x11]=
   some (.nx [e0,some (.sh (.tup (ws.map trD))),e2,some (.own (.lst ((fs++rs.flatMap (kN ws c g s k)).map aw))),some (.sh (.tup [.int g,.int s])),e5,some (.sh (.int g)),some (.sh (.int k)),some (.sh (bM c)),e9,y10,y11])
 |[],fs,x10,x11,_=> ⟨x10,x11,by simp⟩
 |r::rs,fs,x10,x11,hz=>by
  rw[GaH] at hz
  have ew:=lW (ws:=ws) (g:=g) (h:=r.1)
  have eb:=Be (c:=c) (w:=wgt g r.1 ws none) ok
  have ev:=KN (e0:=e0) (e2:=e2) (e5:=e5) (e9:=e9) (x11:=x11) (F:=fs.map aw) (T0:= .non) (s:=s) (k:=k) (r2:=r.2) ew eb (by rw[Gae];omega)
  have eg:DC (iI c (wgt g r.1 ws none)) g s k r.1 r.2=(kN ws c g s k r).map aw:=by
   unfold kN DC
   cases iI c (wgt g r.1 ws none) with
   |none=>rfl
   |some top=>
    dsimp only
    split<;>rfl
  rw[eg,←GaI] at ev
  have l1:=sE ws c g s k r
  obtain⟨y10,y11,e⟩:=Ab (ws:=ws) (c:=c) (g:=g) (s:=s) (k:=k) (e0:=e0) (e2:=e2) (e5:=e5) (e9:=e9) ok rs (fs++kN ws c g s k r) (some (.sh (mk2 r))) (some (.sh (i4 (iI c (wgt g r.1 ws none))))) (by rw[Gar];omega)
  refine⟨y10,y11, ?_⟩
  rw[Gau,Gcz,←Gav]
  have e2:D.tup [.int r.1,.int r.2]=mk2 r:=rfl
  rw[e2] at ev
  generalize mk2 r=rd at*
  generalize bM c=cd at*
  simp only[forL,gN,GaU,GaV,Option.bind_some,ev]
  exact e
theorem KO{e0 e1 e2 e3 e4 e6 e7 x9 x10 x11:Option Slot}{M R:List D}{c:Cap}{e' :DL.Env}(hs:jQ [.lst M,lZ c]=some (.lst R))(h:forL (gN 10) cN R [e0,e1,e2,e3,e4,some (.sh (.lst M)),e6,e7,some (.sh (bM c)),some (.sh (lZ c)),x10,x11]=some (.nx e')):
  cO [e0,e1,e2,e3,e4,some (.sh (.lst M)),e6,e7,some (.sh (bM c)),x9,x10,x11]=some (.nx e'):=by
 have rl:ku (.lst R)=⟨.tn,.lst R⟩:=rfl
 unfold cO
 refine(ar (e:=[e0,e1,e2,e3,e4,some (.sh (.lst M)),e6,e7,some (.sh (bM c)),some (.sh (lZ c)),x10,x11]) ?_).trans ?_
 ·cases c<;>simp[bM,lZ,eqB]
 ·have e1' :∀d:D,d=lZ c→gV none (ll (aH jQ (a5 (vE 5) (a5 (vE 9) ao)))) (gN 10) cN [e0,e1,e2,e3,e4,some (.sh (.lst M)),e6,e7,some (.sh (bM c)),some (.sh d),x10,x11]=some (.nx e'):=λd hd=>by
   rw[←hd] at hs h
   generalize bM c=cd at*
   simp[-forL,hs,h,freed]
  exact e1' _ rfl
theorem uw{ws:List Tr}{g s:Int}{ms:List (Int×Int)}{e0 e2:Option Slot}(hm:ms.length<64):∀(cs:List Cap) (k:Nat) (fs:List Flt) (x7 x8 x9 x10 x11:Option Slot),(∀c∈cs,q9 c)→fs.length+cs.length*ms.length<50000→∃y7 y8 y9 y10 y11,
  forL (gT [7,8]) cO (fq k (cs.map bM)) [e0,some (.sh (.tup (ws.map trD))),e2,some (.own (.lst (fs.map aw))),some (.sh (.tup [.int g,.int s])),some (.sh (.lst (ms.map mk2))),some (.sh (.int g)),x7,x8,x9,x10,x11]=
   some (.nx [e0,some (.sh (.tup (ws.map trD))),e2,some (.own (.lst ((fs++kY ws g s ms k cs).map aw))),some (.sh (.tup [.int g,.int s])),some (.sh (.lst (ms.map mk2))),some (.sh (.int g)),y7,y8,y9,y10,y11])
 |[],k,fs,x7,x8,x9,x10,x11,_,_=> ⟨x7,x8,x9,x10,x11,by simp[kY]⟩
 |c::cs,k,fs,x7,x8,x9,x10,x11,ok,hz=>by
  have ok0:=ok c Gan
  rw[GaH,GdA] at hz
  have es:=G2 (ms:=ms) ok0 hm
  have hl:=(sD (ms.map (·.1))).2.2
  rw[Gae] at hl
  obtain⟨y10,y11,e⟩:=Ab (ws:=ws) (c:=c) (g:=g) (s:=s) (k:=(k:Int)) (e0:=e0) (e2:=e2) (e5:=some (.sh (.lst (ms.map mk2)))) (e9:=some (.sh (lZ c))) ok0 ((lY (ms.map (·.1))).map λh=>(h,pM c ms h)) fs x10 x11 (by rw[Gae];omega)
  have ev:=KO (x9:=x9) es e
  have lz:=sF ws g s (k:Int) c ms
  obtain⟨z7,z8,z9,z10,z11,e'⟩:=uw (ws:=ws) (g:=g) (s:=s) (ms:=ms) (e0:=e0) (e2:=e2) hm cs (k+1) (fs++pO ws g s (k:Int) c ms) (some (.sh (.int (k:Int)))) (some (.sh (bM c))) (some (.sh (lZ c))) y10 y11 (λx hx=>ok x (Gag _ hx)) (by rw[Gar];omega)
  refine⟨z7,z8,z9,z10,z11, ?_⟩
  rw[Gau]
  conv=>rhs;unfold kY
  rw[←Gav]
  show forL (gT [7,8]) cO (D.tup [.int (k:Int),bM c]::fq (k+1) (cs.map bM)) _=_
  unfold pO at e' ⊢
  generalize (k:Int)=ki at*
  generalize bM c=cd at*
  simp only[forL,gT,gNs,GaU,GaV,Option.bind_some,ev]
  exact e'
noncomputable def tgF(ss:List i9)(ws:List Tr)(e:Tg):List Flt:=kY ws e.1.1 e.1.2 e.2 0 ((ss[e.1.2.toNat]?.map (·.aO)).getD [])
theorem N7{A B C O W M Cs F F' :List D}{e2 x6 x7 x8 x9 x10 x11 y7 y8 y9 y10 y11:Option Slot}{g s:Int}{nm sz yg:D}(hS:atD B s=some (.tup [nm,sz,.tup Cs,yg]))
  (h:forL (gT [7,8]) cO (fq 0 Cs) [some (.sh (.tup [.tup A,.tup B,.tup C,.tup O])),some (.sh (.tup W)),e2,some (.own (.lst F)),some (.sh (.tup [.int g,.int s])),some (.sh (.lst M)),some (.sh (.int g)),x7,x8,x9,x10,x11]=some (.nx [some (.sh (.tup [.tup A,.tup B,.tup C,.tup O])),some (.sh (.tup W)),e2,some (.own (.lst F')),some (.sh (.tup [.int g,.int s])),some (.sh (.lst M)),some (.sh (.int g)),y7,y8,y9,y10,y11])):
  dD [some (.sh (.tup [.tup A,.tup B,.tup C,.tup O])),some (.sh (.tup W)),e2,some (.own (.lst F)),some (.sh (.tup [.int g,.int s])),some (.sh (.lst M)),x6,x7,x8,x9,x10,x11]=some (.nx [some (.sh (.tup [.tup A,.tup B,.tup C,.tup O])),some (.sh (.tup W)),e2,some (.own (.lst F')),some (.sh (.tup [.int g,.int s])),some (.sh (.lst M)),some (.sh (.int g)),y7,y8,y9,y10,y11]):=by
 unfold dD
 refine(ar (e:=[some (.sh (.tup [.tup A,.tup B,.tup C,.tup O])),some (.sh (.tup W)),e2,some (.own (.lst F)),some (.sh (.tup [.int g,.int s])),some (.sh (.lst M)),some (.sh (.int g)),x7,x8,x9,x10,x11]) (by simp)).trans ?_
 simp[-forL,-fq,hS,h,freed]
theorem Cj{w:World}(W:c0 w){ws:List Tr}{A C O:List D}{e2:Option Slot}:∀(st:List Tg) (fs:List Flt) (x4 x5 x6 x7 x8 x9 x10 x11:Option Slot),(∀e∈st,0≤e.1.2∧e.1.2<w.aG.length∧e.2.length<64)→fs.length+st.length*256<40000→∃y4 y5 y6 y7 y8 y9 y10 y11,
  forL (gT [4,5]) dD (bO (lX st)) [some (.sh (.tup [.tup A,.tup (w.aG.map aV),.tup C,.tup O])),some (.sh (.tup (ws.map trD))),e2,some (.own (.lst (fs.map aw))),x4,x5,x6,x7,x8,x9,x10,x11]=
   some (.nx [some (.sh (.tup [.tup A,.tup (w.aG.map aV),.tup C,.tup O])),some (.sh (.tup (ws.map trD))),e2,some (.own (.lst ((fs++st.flatMap (tgF w.aG ws)).map aw))),y4,y5,y6,y7,y8,y9,y10,y11])
 |[],fs,x4,x5,x6,x7,x8,x9,x10,x11,_,_=> ⟨x4,x5,x6,x7,x8,x9,x10,x11,by simp[lX,bO]⟩
 |e::st,fs,x4,x5,x6,x7,x8,x9,x10,x11,he,hz=>by
  rw[GaH,GdA] at hz
  obtain⟨s0,s1,ml⟩:=he e Gan
  obtain⟨n,hn⟩:=GaE s0
  have hn' :n<w.aG.length:=by omega
  have hS:atD (w.aG.map aV) e.1.2=some (.tup [.str w.aG[n].name,.tup ((w.aG[n].part::w.aG[n].more).map .int),.tup (w.aG[n].aO.map bM),.int w.aG[n].young]):=by
   rw[hn,dA,Gal,Gaa hn'];rfl
  have so:=W.so w.aG[n] (GaA hn')
  have et:tgF w.aG ws e=kY ws e.1.1 e.1.2 e.2 0 w.aG[n].aO:=by
   unfold tgF
   rw[hn,Gbe,Gaa hn']
   rfl
  have cl:=so.cl
  have lz:=pP ws e.1.1 e.1.2 e.2 0 w.aG[n].aO
  have lz2:w.aG[n].aO.length*e.2.length≤4*64:=Nat.mul_le_mul cl (by omega)
  obtain⟨y7,y8,y9,y10,y11,ec⟩:=uw (ws:=ws) (g:=e.1.1) (s:=e.1.2) (ms:=e.2) (e0:=some (.sh (.tup [.tup A,.tup (w.aG.map aV),.tup C,.tup O]))) (e2:=e2) ml w.aG[n].aO 0 fs x7 x8 x9 x10 x11 so.ok (by omega)
  have ev:=N7 (x6:=x6) hS ec
  rw[←et] at ev lz
  obtain⟨z4,z5,z6,z7,z8,z9,z10,z11,e'⟩:=Cj W (ws:=ws) (A:=A) (C:=C) (O:=O) (e2:=e2) st (fs++tgF w.aG ws e) (some (.sh (.tup [.int e.1.1,.int e.1.2]))) (some (.sh (.lst (e.2.map mk2)))) (some (.sh (.int e.1.1))) y7 y8 y9 y10 y11 (λx hx=>he x (Gag _ hx)) (by rw[Gar];omega)
  refine⟨z4,z5,z6,z7,z8,z9,z10,z11, ?_⟩
  rw[Gcz,←Gav]
  have ei:bO (lX (e::st))=D.tup [.tup [.int e.1.1,.int e.1.2],.lst (e.2.map mk2)]::bO (lX st):=rfl
  rw[ei]
  generalize e.2.map mk2=M at*
  generalize w.aG.map aV=SS at*
  simp only[forL,gT,gNs,GaU,GaV,Option.bind_some,ev]
  exact e'
theorem Iw{A B C O W G F:List D}{kv:Rws}{y4 y5 y6 y7 y8 y9 y10 y11:Option Slot}(hm:cW [.tup [.tup A,.tup B,.tup C,.tup O],.tup G]=some (.dT kv))
  (h:forL (gT [4,5]) dD (bO kv) [some (.sh (.tup [.tup A,.tup B,.tup C,.tup O])),some (.sh (.tup W)),some (.sh (.tup G)),some (.own (.lst [])),none,none,none,none,none,none,none,none]=some (.nx [some (.sh (.tup [.tup A,.tup B,.tup C,.tup O])),some (.sh (.tup W)),some (.sh (.tup G)),some (.own (.lst F)),y4,y5,y6,y7,y8,y9,y10,y11]))(im:aP F=true):
  fX [.tup [.tup A,.tup B,.tup C,.tup O],.tup W,.tup G]=some (.lst F):=by
 have rk:ku (.dT kv)=⟨.tn,.dT kv⟩:=rfl
 refine bf rfl ?_
 unfold iq
 refine(ar (e:=[some (.sh (.tup [.tup A,.tup B,.tup C,.tup O])),some (.sh (.tup W)),some (.sh (.tup G)),some (.own (.lst [])),none,none,none,none,none,none,none,none]) (by simp[bq,ai])).trans ?_
 refine(ar (e:=[some (.sh (.tup [.tup A,.tup B,.tup C,.tup O])),some (.sh (.tup W)),some (.sh (.tup G)),some (.own (.lst F)),y4,y5,y6,y7,y8,y9,y10,y11]) (by simp[-forL,hm,rk,h,freed])).trans ?_
 simp[im]
theorem pQ{α β:Type}(f:α→List β)(N:Nat):∀l:List α,(∀a∈l,(f a).length≤N)→(l.flatMap f).length≤l.length*N
 |[],_=>by simp
 |a::l,h=>by
  have h1:=h a Gan
  have h2:=pQ f N l λx hx=>h x (Gag _ hx)
  rw[Gcz,Gar,GaH,GdA]
  omega
theorem N8{w:World}{ws gv:List Tr}(W:c0 w)(hg:ie w.orders.length gv)(hl:gv.length<64):∃st,t8 w.orders gv st∧fX [bK w,.tup (ws.map trD),.tup (gv.map trD)]=some (.lst ((st.flatMap (tgF w.aG ws)).map aw))∧(st.flatMap (tgF w.aG ws)).length≤20000:=by
 obtain⟨st,I,em⟩:=Iv W hg hl
 have ln:=I.ln
 have he:∀e∈st,0≤e.1.2∧e.1.2<w.aG.length∧e.2.length<64:=λe hes=>by
  obtain⟨t,ht,ek⟩:=I.back e hes
  have g0:=hg t ht
  obtain⟨n,hn⟩:=GaE g0.1
  have hn' :n<w.orders.length:=by omega
  have ok:=W.oo w.orders[n] (GaA hn')
  have:tk w.orders t=(w.orders[n].bN,w.orders[n].fj):=by
   unfold tk
   rw[hn,Gbe,Gaa hn']
  rw[this] at ek
  rw[←ek]
  have:=I.N5 hes
  exact⟨ok.s0,ok.s1,by omega⟩
 obtain⟨y4,y5,y6,y7,y8,y9,y10,y11,e⟩:=Cj W (ws:=ws) (A:=w.bT.map cw) (C:=w.cX.map trD) (O:=w.orders.map aF) (e2:=some (.sh (.tup (gv.map trD)))) st [] none none none none none none none none he (by simp;omega)
 refine⟨st,I,Iw em e (gB _), ?_⟩
 have h1:=pQ (tgF w.aG ws) 256 st (λe hes=>by
  have h2:=pP ws e.1.1 e.1.2 e.2 0 ((w.aG[e.1.2.toNat]?.map (·.aO)).getD [])
  have h3:((w.aG[e.1.2.toNat]?.map (·.aO)).getD []).length≤4:=by
   cases h:w.aG[e.1.2.toNat]? with
   |none=>simp
   |some s=>exact(W.so s (GaF h)).cl
  have h4:=(he e hes).2.2
  have h5:=Nat.mul_le_mul h3 (Gdk h4)
  unfold tgF
  omega)
 omega
noncomputable def dJ(w:World)(ws:List Tr)(t:Tr):List Flt:=match w.orders[t.1.toNat]? with
 |some o=>match w.aG[o.fj.toNat]?,w.bT[o.bN.toNat]? with
  |some s,some g=>(jm o s g.2 ws t).map λk=>(k,[t.1,t.2.1])
  |_,_=>[]
 |none=>[]
theorem sG{w:World}(W:c0 w){ws:List Tr}{t:Tr}(h0:0≤t.1)(h1:t.1<w.orders.length):fu [bK w,.tup (ws.map trD),trD t]=some (.lst ((dJ w ws t).map aw))∧(dJ w ws t).length≤5:=by
 obtain⟨n,hn⟩:=GaE h0
 have hn' :n<w.orders.length:=by omega
 have ok:=W.oo w.orders[n] (GaA hn')
 obtain⟨m,hm⟩:=GaE ok.s0
 have sl:=ok.s1
 have hm' :m<w.aG.length:=by omega
 obtain⟨g,hg⟩:=GaE ok.g0
 have gl:=ok.g1
 have hg' :g<w.bT.length:=by omega
 have hO:atD (w.orders.map aF) t.1=some (aF w.orders[n]):=by rw[hn,dA,Gal,Gaa hn'];rfl
 have hS:atD (w.aG.map aV) w.orders[n].fj=some (aV w.aG[m]):=by rw[hm,dA,Gal,Gaa hm'];rfl
 have hG:atD (w.bT.map cw) w.orders[n].bN=some (cw w.bT[g]):=by rw[hg,dA,Gal,Gaa hg'];rfl
 have e:=Ky (C:=w.cX.map trD) (ws:=ws) (t:=t) hO ok.du hS (W.so _ (GaA hm')) hG (fO _ ok.ti)
 have el:dJ w ws t=(jm w.orders[n] w.aG[m] w.bT[g].2 ws t).map λk=>(k,[t.1,t.2.1]):=by
  unfold dJ
  rw[hn,Gbe,Gaa hn']
  dsimp only
  rw[hm,hg,Gbe,Gbe,Gaa hm',Gaa hg']
 constructor
 ·rw[el,GaT]
  exact e
 ·rw[el,Gae]
  unfold jm
  have h1:=cZ (c9 w.orders[n].gq t.2.1) "astray"
  have h2:=cZ (decide (w.orders[n].most<t.2.2)) "most"
  have h3:=cZ (decide (t.2.2<1)||decide (¬t.2.2%w.aG[m].part=0)) "part"
  have h4:=cZ (w.aG[m].aO.any bC&&(wgt w.orders[n].bN t.2.1 ws none).isNone) "weight"
  have h5:=cZ (decide (t.2.1<w.bT[g].2+w.aG[m].young)) "young"
  simp only[Gar]
  omega
theorem KP{e0 e1 e2 e3:Option Slot}{wd wsd gd:D}{F R:List D}(h:fu [wd,wsd,gd]=some (.lst R))(hz:F.length+R.length<100000):
  gR [some (.sh wd),e1,some (.sh wsd),e3,some (.own (.lst F)),some (.sh gd)]=some (.nx [some (.sh wd),e1,some (.sh wsd),e3,some (.own (.lst (F++R))),some (.sh gd)]):=by
 have z:F.length+R.length≤16777216:=by omega
 have rl:ku (.lst R)=⟨.tn,.lst R⟩:=rfl
 unfold gR
 simp[h,rl,z,ai]
theorem ux{w:World}(W:c0 w){ws:List Tr}{e1 e3:Option Slot}:∀(gv:List Tr) (fs:List Flt) (x5:Option Slot),ie w.orders.length gv→fs.length+5*gv.length<100000→∃y5,
  forL (gN 5) gR (gv.map trD) [some (.sh (bK w)),e1,some (.sh (.tup (ws.map trD))),e3,some (.own (.lst (fs.map aw))),x5]=some (.nx [some (.sh (bK w)),e1,some (.sh (.tup (ws.map trD))),e3,some (.own (.lst ((fs++gv.flatMap (dJ w ws)).map aw))),y5])
 |[],fs,x5,_,_=> ⟨x5,by simp⟩
 |t::gv,fs,x5,hg,hz=>by
  rw[GaH] at hz
  have g0:=hg t Gan
  obtain⟨e,l5⟩:=sG W (ws:=ws) g0.1 g0.2
  have ev:=KP (e0:=none) (e1:=e1) (e2:=none) (e3:=e3) (F:=fs.map aw) e (by rw[Gae,Gae];omega)
  rw[←GaI] at ev
  obtain⟨y5,e'⟩:=ux W (ws:=ws) (e1:=e1) (e3:=e3) gv (fs++dJ w ws t) (some (.sh (trD t))) (λx hx=>hg x (Gag _ hx)) (by rw[Gar];omega)
  refine⟨y5, ?_⟩
  rw[Gau,Gcz,←Gav]
  generalize trD t=td at*
  generalize bK w=wd at*
  simp only[forL,gN,GaU,GaV,Option.bind_some,ev]
  exact e'
theorem Ac:∀(a b:List Int),mS (a.map D.int) (b.map D.int)=true
 |[],b=>by cases b<;>rfl
 |x::a,[]=>rfl
 |x::a,y::b=>by
  rw[Gau,Gau]
  unfold mS
  split
  ·exact Ac a b
  ·rfl
theorem G3(fs:List Flt):keysOk (fs.map aw)=true:=by
 have h1:(fs.map aw).all (mN 2)=true:=by
  rw[Gbx,Gat]
  intro p _
  show((tyD (.str p.1)==2)&&(p.2.map D.int).all mM)=true
  rw[Gbx,Gas]
  exact⟨rfl,Gat.mpr λ_ _=>rfl⟩
 have h2:((fs.map aw).all λx=>(fs.map aw).all λy=>w9 x y)=true:=by
  rw[Gbx,Gat]
  intro p _
  simp only[GcJ]
  rw[Gbx,Gat]
  intro q _
  show mS (.str p.1::p.2.map .int) (.str q.1::q.2.map .int)=true
  unfold mS
  split
  ·exact Ac _ _
  ·rfl
 unfold keysOk
 rw[h1,h2];simp
theorem mW:∀(a b:List Int),(a.map D.int).map b9=(b.map D.int).map b9→a=b
 |[],[],_=>rfl
 |[],_::_,h=>by simp at h
 |_::_,[],h=>by simp at h
 |x::a,y::b,h=>by
  rw[Gau,Gau,Gau,Gau] at h
  injection h with h1 h2
  have h3:[1,x]=[1,y]:=h1
  simp at h3
  rw[h3,mW a b h2]
theorem Ck:∀(a b:List Nat),a.map Int.ofNat=b.map Int.ofNat→a=b
 |[],[],_=>rfl
 |[],_::_,h=>by simp at h
 |_::_,[],h=>by simp at h
 |x::a,y::b,h=>by
  rw[Gau,Gau] at h
  injection h with h1 h2
  rw[Int.ofNat.inj h1,Ck a b h2]
theorem str_inj{a b:Str}(h:a.cps.toList.map Int.ofNat=b.cps.toList.map Int.ofNat):a=b:=by
 have h2:a.cps.toList=b.cps.toList:=Ck _ _ h
 obtain⟨a⟩:=a
 obtain⟨b⟩:=b
 congr 1
 exact Array.ext' h2
theorem vq{f g:Flt}(h:DL.code (aw f)=DL.code (aw g)):f=g:=by
 have h' :b9 (.str f.1)::(f.2.map D.int).map b9=b9 (.str g.1)::(g.2.map D.int).map b9:=h
 injection h' with h1 h2
 have h3:(2:Int)::f.1.cps.toList.map Int.ofNat=2::g.1.cps.toList.map Int.ofNat:=h1
 injection h3 with _ h4
 exact Prod.ext (str_inj h4) (mW _ _ h2)
noncomputable def unF:D→Flt
 | .tup (.str k::ds)=>(k,ds.map unI)
 |_=>("",[])
theorem G4(f:Flt):unF (aw f)=f:=by
 show(f.1,(f.2.map D.int).map unI)=f
 rw[GaT]
 have:f.2.map (unI∘D.int)=f.2:=by
  conv=>rhs;rw[←Gcb f.2]
  exact GaQ λ_ _=>rfl
 rw[this]
noncomputable def m6(fs:List Flt):List Flt:=(df (fs.map aw)).map unF
theorem nN(fs:List Flt):(fs.map aw).map unF=fs:=by
 rw[GaT]
 conv=>rhs;rw[←Gcb fs]
 exact GaQ λf _=>G4 f
theorem Ad(fs:List Flt):df (fs.map aw)=(m6 fs).map aw:=by
 unfold m6
 rw[GaT]
 conv=>lhs;rw[←Gcb (df (fs.map aw))]
 refine GaQ λx hx=> ?_
 obtain⟨f,_,rfl⟩:=GaM.mp ((fH _).mem_iff.mp hx)
 simp only[GcJ,G4,id]
theorem kO(fs:List Flt):(m6 fs).Perm fs:=by
 have:=(fH (fs.map aw)).map unF
 rw[nN] at this
 exact this
theorem oA(fs:List Flt):fF ((m6 fs).map aw):=by
 rw[←Ad]
 exact fS _
theorem Bg{a b:List Flt}(hp:a.Perm b)(h1:fF (a.map aw))(h2:fF (b.map aw)):a=b:=by
 have e:=jJ (hp.map aw) h1 h2 (λx hx y hy hc=>by
  obtain⟨f,_,rfl⟩:=GaM.mp hx
  obtain⟨g,_,rfl⟩:=GaM.mp hy
  rw[vq hc])
 have:=congrArg (List.map unF) e
 rw[nN,nN] at this
 exact this
theorem vt{fs gs:List Flt}(p:Flt→Bool)(hp:(fs.filter p).Perm gs):(m6 fs).filter p=m6 gs:=by
 refine Bg (((kO fs).filter p).trans (hp.trans (kO gs).symm)) ?_ (oA gs)
 have h:=oA fs
 unfold fF at h⊢
 rw[Gda] at h⊢
 exact h.filter p
theorem sI(fs:List Flt)(hz:fs.length<1000000):fT [.lst (fs.map aw)]=some ⟨.tn,.lst ((m6 fs).map aw)⟩:=by
 have z:(fs.map aw).length<1000000:=by rw[Gae];exact hz
 unfold fT one mQ
 simp only[Option.bind_some]
 rw[G3,GaK z,Ad]
 rfl
theorem Bh{wd:D}{W G F0 F1 F2 F3 F R:List D}{y5:Option Slot}(h0:F1++F2++F3=F0)(h1:fX [wd,.tup W,.tup G]=some (.lst F1))(h2:fY [wd,.tup G]=some (.lst F2))(h3:dS [wd,.tup G]=some (.lst F3))(z:F1.length+F2.length+F3.length<100000)
  (hl:forL (gN 5) gR G [some (.sh wd),some (.sh (.tup [.tup W,.tup G])),some (.sh (.tup W)),some (.sh (.tup G)),some (.own (.lst F0)),none]=some (.nx [some (.sh wd),some (.sh (.tup [.tup W,.tup G])),some (.sh (.tup W)),some (.sh (.tup G)),some (.own (.lst F)),y5]))(hs:fT [.lst F]=some ⟨.tn,.lst R⟩)(iw:aP W=true)(ig:aP G=true)(ir:aP R=true):
  lS [wd,.tup [.tup W,.tup G]]=some (.lst R):=by
 have r1:∀L:List D,ku (.lst L)=⟨.tn,.lst L⟩:=λ_=>rfl
 have z1:F1.length+F2.length≤16777216:=by omega
 have z2:F1.length+F2.length+F3.length≤16777216:=by omega
 refine bf rfl ?_
 unfold oq
 refine(ar (e:=[some (.sh wd),some (.sh (.tup [.tup W,.tup G])),some (.sh (.tup W)),none,none,none]) (by simp[bq,iw])).trans ?_
 refine(ar (e:=[some (.sh wd),some (.sh (.tup [.tup W,.tup G])),some (.sh (.tup W)),some (.sh (.tup G)),none,none]) (by simp[ig])).trans ?_
 refine(ar (e:=[some (.sh wd),some (.sh (.tup [.tup W,.tup G])),some (.sh (.tup W)),some (.sh (.tup G)),some (.own (.lst F0)),none]) (by rw[←h0];simp[h1,h2,h3,r1,z1,z2,ai])).trans ?_
 refine(ar (e:=[some (.sh wd),some (.sh (.tup [.tup W,.tup G])),some (.sh (.tup W)),some (.sh (.tup G)),some (.own (.lst F)),y5]) (by simp[-forL,hl,freed])).trans ?_
 simp[hs,ir]
theorem sJ(os:List Order)(gs:List Tr)(w:Int):∀rows:List (Int×Int),rows.length<64→(cL os gs w rows).length≤64*rows.length
 |[],_=>by simp[cL]
 |r::rs,h=>by
  rw[GaH] at h
  have h1:=pL os gs w r rs
  have h2:=sJ os gs w rs (by omega)
  unfold cL
  rw[Gar,GaH]
  omega
theorem Ae{w:World}{ws gv:List Tr}(W:c0 w)(hg:ie w.orders.length gv)(hl:gv.length<64):∃(st:List Tg) (rows:List (Int×Int)),t8 w.orders gv st∧rows.Perm (gvR gv)∧df ((gvR gv).map mk2)=rows.map mk2∧(rows.Pairwise λa b=>a.1≤b.1)∧
  lS [bK w,.tup [.tup (ws.map trD),.tup (gv.map trD)]]=some (.lst ((m6 (st.flatMap (tgF w.aG ws)++cL w.orders (w.cX.foldl bI []) (wide w.cX) rows++twF (gv.foldl (cx w.orders) [])++gv.flatMap (dJ w ws))).map aw))∧
  (st.flatMap (tgF w.aG ws)++cL w.orders (w.cX.foldl bI []) (wide w.cX) rows++twF (gv.foldl (cx w.orders) [])++gv.flatMap (dJ w ws)).length<100000:=by
 obtain⟨st,I,h1,z1⟩:=N8 (ws:=ws) W hg hl
 obtain⟨rows,r1,r2,r3,h2⟩:=N0 W hg hl
 obtain⟨h3,z3⟩:=Ij W hg hl
 have lr:rows.length=gv.length:=by rw[r2.length_eq];simp[gvR]
 have z2:=sJ w.orders (w.cX.foldl bI []) (wide w.cX) rows (by omega)
 have z3' :(twF (gv.foldl (cx w.orders) [])).length≤64:=by
  unfold twF
  rw[Gae]
  have:=Gdj (λt:Tr=>decide (1<t.2.2)) (gv.foldl (cx w.orders) [])
  omega
 have z4:(gv.flatMap (dJ w ws)).length≤gv.length*5:=pQ _ 5 gv λt ht=>(sG W (ws:=ws) (hg t ht).1 (hg t ht).2).2
 obtain⟨y5,e⟩:=ux W (ws:=ws) (e1:=some (.sh (.tup [.tup (ws.map trD),.tup (gv.map trD)]))) (e3:=some (.sh (.tup (gv.map trD)))) gv (st.flatMap (tgF w.aG ws)++cL w.orders (w.cX.foldl bI []) (wide w.cX) rows++twF (gv.foldl (cx w.orders) [])) none hg (by simp only[Gar];omega)
 have zz:(st.flatMap (tgF w.aG ws)++cL w.orders (w.cX.foldl bI []) (wide w.cX) rows++twF (gv.foldl (cx w.orders) [])++gv.flatMap (dJ w ws)).length<100000:=by
  simp only[Gar]
  omega
 refine⟨st,rows,I,r2,r1,r3, ?_,zz⟩
 generalize st.flatMap (tgF w.aG ws)=F1 at*
 generalize cL w.orders (w.cX.foldl bI []) (wide w.cX) rows=F2 at*
 generalize twF (gv.foldl (cx w.orders) [])=F3 at*
 rw[GaI,GaI] at e
 exact Bh rfl h1 h2 h3 (by simp only[Gae];omega) e (sI _ (by omega)) (iH ws) (iH gv) (gB _)
theorem G5(i:Int):jy [.int i]=some (.bl true):=by
 unfold jy jx
 simp[jS]
theorem uy{fd:D}{e0:Option Slot}:∀(ns:List Int) (x2:Option Slot),∃y2,forL (gN 2) dE (ns.map D.int) [e0,some (.sh fd),x2]=some (.nx [e0,some (.sh fd),y2])
 |[],x2=> ⟨x2,by simp⟩
 |n::ns,x2=>by
  have ev:dE [e0,some (.sh fd),some (.sh (.int n))]=some (.nx [e0,some (.sh fd),some (.sh (.int n))]):=by
   unfold dE
   simp[G5]
  obtain⟨y2,e⟩:=uy ns (some (.sh (.int n)))
  refine⟨y2, ?_⟩
  rw[Gau]
  simp only[forL,gN,GaU,GaV,Option.bind_some,ev]
  exact e
theorem DD{k:Str}{L:List D}{n:Int}{e0 x2 y2:Option Slot}(hn:cV [.tup (.str k::L)]=some ⟨.c,.int n⟩)(hn3:¬n<3)(hs:slD (some 1) none (.tup (.str k::L))=some ⟨.c,.tup L⟩)(h:forL (gN 2) dE L [e0,some (.sh (.tup (.str k::L))),x2]=some (.nx [e0,some (.sh (.tup (.str k::L))),y2])):
  fG [e0,some (.sh (.tup (.str k::L))),x2]=some (.nx [e0,some (.sh (.tup (.str k::L))),y2]):=by
 have hx:ixD (.tup (.str k::L)) (.int 0)=some (.str k):=rfl
 have hi:jS "tuple" (.tup (.str k::L))=true:=rfl
 have hc:lG (.tup (.str k::L))=false:=rfl
 have hi2:jS "str" (.str k)=true:=rfl
 have hc2:lG (.str k)=false:=rfl
 generalize D.tup (.str k::L)=fd at*
 unfold fG
 refine(ar (e:=[e0,some (.sh fd),x2]) (by simp[hi,hc,hn,hn3,hx,hi2,hc2])).trans ?_
 simp[-forL,hs,h,freed]
theorem qi{e0:Option Slot}:∀(fs:List Flt) (x1 x2:Option Slot),(∀f∈fs,2≤f.2.length)→∃y1 y2,forL (gN 1) fG (fs.map aw) [e0,x1,x2]=some (.nx [e0,y1,y2])
 |[],x1,x2,_=> ⟨x1,x2,by simp⟩
 |f::fs,x1,x2,h=>by
  have h0:=h f Gan
  obtain⟨y2,e⟩:=uy (fd:=aw f) (e0:=e0) f.2 x2
  have hs:slD (some 1) none (.tup (.str f.1::f.2.map .int))=some ⟨.c,.tup (f.2.map .int)⟩:=by
   have e1:sIx (D.str f.1::f.2.map .int).length 0 (some 1)=1:=by
    show min 1 (D.str f.1::f.2.map .int).length=1
    simp
   have e2:sIx (D.str f.1::f.2.map .int).length (D.str f.1::f.2.map .int).length none=(D.str f.1::f.2.map .int).length:=rfl
   unfold slD
   dsimp only
   rw[e1,e2,Gah (by simp)]
   unfold cutD
   rw[e1,e2]
   simp only[List.drop_succ_cons,GbB]
   rw[Gbt (by simp)]
  have ev:=DD (k:=f.1) (L:=f.2.map .int) (n:=((f.2.length+1:Nat):Int)) (by simp[cV]) (by omega) hs e
  obtain⟨z1,z2,e'⟩:=qi (e0:=e0) fs (some (.sh (aw f))) y2 λx hx=>h x (Gag _ hx)
  refine⟨z1,z2, ?_⟩
  rw[Gau]
  have fe:D.tup (.str f.1::f.2.map .int)=aw f:=rfl
  rw[fe] at ev
  generalize aw f=fd at*
  simp only[forL,gN,GaU,GaV,Option.bind_some,ev]
  exact e'
theorem G6{fs:List Flt}(h:∀f∈fs,2≤f.2.length):gc [.lst (fs.map aw)]=some (.bl true):=by
 obtain⟨y1,y2,e⟩:=qi (e0:=some (.sh (.lst (fs.map aw)))) fs none none h
 refine bf rfl ?_
 unfold iF
 generalize fs.map aw=F at*
 refine(ar (e:=[some (.sh (.lst F)),none,none]) (by simp[bq,jS,lG])).trans ?_
 refine(ar (e:=[some (.sh (.lst F)),y1,y2]) (by simp[-forL,e,freed])).trans ?_
 simp
theorem str_beq(a:Str):(a==a)=true:=by simp
theorem KQ(f:Flt):eqD (aw f) (aw f)=true:=by
 have h:=Fy f.2
 unfold aw
 simp[h]
theorem Iy(fs:List Flt):eqB (.lst (fs.map aw)) (.lst (fs.map aw))=some true:=by
 have h1:D.plain (.lst (fs.map aw))=true:=by
  show(fs.map aw).all (av 19)=true
  rw[Gbx,Gat]
  intro f _
  show((D.str f.1::f.2.map .int).all (av 18))=true
  have:=B9 18 f.2
  simp only[Gbq,this,Bool.and_true]
  rfl
 have h2:eqD (.lst (fs.map aw)) (.lst (fs.map aw))=true:=by
  show lF _ _=true
  induction fs with
  |nil=>rfl
  |cons f fs ih=>
   have h1:D.plain (.lst (fs.map aw))=true:=by
    rename D.plain _=true=>hp
    have hp' :((f::fs).map aw).all (av 19)=true:=hp
    simp only[Gau,Gbq,Gas] at hp'
    exact hp'.2
   have:=ih h1
   rw[Gau]
   show(eqD (aw f) (aw f)&&lF _ _)=true
   rw[KQ,this];rfl
 unfold eqB
 rw[h1,h2];rfl
theorem DF{ws:List Tr}{c:Cap}{g s k:Int}{r:Int×Int}{f:Flt}(h:f∈kN ws c g s k r):f.1="cap"∧2≤f.2.length:=by
 unfold kN at h
 split at h
 ·split at h
  ·simp at h;rw[h];exact⟨rfl,by simp⟩
  ·simp at h
 ·simp at h
theorem sL{ws:List Tr}{g s:Int}{ms:List (Int×Int)}{f:Flt}:∀(cs:List Cap) (k:Nat),f∈kY ws g s ms k cs→f.1="cap"∧2≤f.2.length
 |[],k,h=>by simp[kY] at h
 |c::cs,k,h=>by
  unfold kY at h
  rcases Gaw.mp h with h|h
  ·unfold pO at h
   obtain⟨r,_,hr⟩:=Gdg.mp h
   exact DF hr
  ·exact sL cs (k+1) h
theorem Af{ss:List i9}{ws:List Tr}{st:List Tg}{f:Flt}(h:f∈st.flatMap (tgF ss ws)):f.1="cap"∧2≤f.2.length:=by
 obtain⟨e,_,h⟩:=Gdg.mp h
 exact sL _ _ h
theorem G7{os:List Order}{gs:List Tr}{r l:Int×Int}{f:Flt}(h:f∈gpF os gs r l):f.1="gap"∧2≤f.2.length:=by
 unfold gpF at h
 split at h
 ·split at h
  ·simp at h;rw[h];exact⟨rfl,by simp⟩
  ·simp at h
 ·simp at h
theorem qj{os:List Order}{gs:List Tr}{w:Int}{r:Int×Int}{f:Flt}:∀ls:List (Int×Int),f∈kf os gs w r ls→f.1="gap"∧2≤f.2.length
 |[],h=>by simp[kf] at h
 |l::ls,h=>by
  unfold kf at h
  split at h
  ·simp at h
  ·rcases Gaw.mp h with h|h
   ·exact G7 h
   ·exact qj ls h
theorem kP{os:List Order}{gs:List Tr}{w:Int}{f:Flt}:∀ls:List (Int×Int),f∈cL os gs w ls→f.1="gap"∧2≤f.2.length
 |[],h=>by simp[cL] at h
 |l::ls,h=>by
  unfold cL at h
  rcases Gaw.mp h with h|h
  ·exact qj _ h
  ·exact kP ls h
theorem Ah{ts:List Tr}{f:Flt}(h:f∈twF ts):f.1="twice"∧2≤f.2.length:=by
 unfold twF at h
 obtain⟨t,_,rfl⟩:=GaM.mp h
 exact⟨rfl,by simp⟩
noncomputable def kg:List Str:=["astray","most","part","weight","young"]
theorem KR{b:Bool}{x k:Str}(h:k∈kk b x):k=x:=by
 cases b<;>simp[kk] at h
 exact h
theorem Ai{o:Order}{s:i9}{b:Int}{ws:List Tr}{t:Tr}{k:Str}(h:k∈jm o s b ws t):k∈kg:=by
 unfold jm at h
 unfold kg
 simp only[Gaw] at h
 rcases h with(((h|h)|h)|h)|h<;>rw[KR h]<;>simp
theorem sM{w:World}{ws:List Tr}{t:Tr}{f:Flt}(h:f∈dJ w ws t):f.1∈kg∧2≤f.2.length:=by
 unfold dJ at h
 split at h
 ·split at h
  ·obtain⟨k,hk,rfl⟩:=GaM.mp h
   exact⟨Ai hk,by simp⟩
  ·simp at h
 ·simp at h
theorem filter_all{α:Type}{p:α→Bool}{l:List α}(h:∀x∈l,p x=true):l.filter p=l:=List.filter_eq_self.mpr h
theorem pR{α:Type}{p:α→Bool}{l:List α}(h:∀x∈l,p x=false):l.filter p=[]:=List.filter_eq_nil_iff.mpr λx hx=>by rw[h x hx];simp
theorem Iz{b e ea la h k:Int}(e1:1≤e)(a0:0≤ea)(l0:0≤la)(al:ea+la<e):(b+k*e -ea≤h∧h≤b+k*e+la)↔((h -(b -ea))/e=k∧h -(b -ea)-k*e≤ea+la):=by
 constructor
 ·rintro⟨h1,h2⟩
  refine⟨?_,by omega⟩
  have h3:k≤(h -(b -ea))/e:=(Int.le_ediv_iff_mul_le (by omega)).mpr (by omega)
  have h4:(h -(b -ea))/e<k+1:=(Int.ediv_lt_iff_lt_mul (by omega)).mpr (by rw[Int.add_mul];omega)
  omega
 ·rintro⟨h1,h2⟩
  have h3:(h -(b -ea))/e*e≤h -(b -ea):=Int.ediv_mul_le _ (by omega)
  rw[h1] at h3
  omega
noncomputable def G8(b e ea la h:Int):D→Option D
 | .int k=>if b+k*e -ea≤h∧h≤b+k*e+la then some (.int k) else none
 |_=>none
theorem oB{b e ea la h k:Int}:G8 b e ea la h (.int k)=if b+k*e -ea≤h∧h≤b+k*e+la then some (.int k) else none:=rfl
theorem G9{b e m ea la h:Int}(e1:1≤e)(m0:0≤m)(a0:0≤ea)(l0:0≤la)(al:ea+la<e):(bB 0 m.toNat).findSome? (G8 b e ea la h)=(qI b e m ea la h).map D.int:=by
 have iff:=λk=>Iz (b:=b) (e:=e) (ea:=ea) (la:=la) (h:=h) (k:=k) e1 a0 l0 al
 unfold qI
 generalize hq:(h -(b -ea))/e=q at*
 by_cases c:(0≤q∧q<m)∧h -(b -ea)-q*e≤ea+la
 ·rw[Gaf c]
  obtain⟨n,hn⟩:=GaE c.1.1
  have hm:D.int q∈bB 0 m.toNat:=by
   unfold bB
   exact GaM.mpr ⟨n,Gbr.mpr (by omega),by rw[hn];simp⟩
  have hr:G8 b e ea la h (.int q)=some (.int q):=by
   rw[oB,Gaf ((iff q).mpr ⟨rfl,c.2⟩)]
  cases hf:(bB 0 m.toNat).findSome? (G8 b e ea la h) with
  |none=>rw[List.findSome?_eq_none_iff.mp hf _ hm] at hr;cases hr
  |some v=>
   obtain⟨d,hd,hv⟩:=List.exists_of_findSome?_eq_some hf
   obtain⟨i,hi⟩:=GbZ hd
   obtain⟨hi',rfl⟩:=cG hi
   rw[oB] at hv
   split at hv
   ·rename_i cc
    rw[←((iff _).mp cc).1] at hv
    injection hv with hv
    rw[←hv];rfl
   ·cases hv
 ·rw[Gah c]
  rw[Option.map_none,List.findSome?_eq_none_iff]
  intro d hd
  obtain⟨i,hi⟩:=GbZ hd
  obtain⟨hi',rfl⟩:=cG hi
  rw[oB,Gah]
  intro cc
  have:=(iff _).mp cc
  exact c ⟨by omega,by rw[this.1];exact this.2⟩
theorem vA{b e m ea la h:Int}(ok:lU (.due b e m ea la)):pG [cz (.due b e m ea la),.int h]=some (i4 (qI b e m ea la h)):=by
 obtain⟨e1,e2,hm,a0,l0,al,ab,b3⟩:=ok
 have me:∀j,ck j e=true:=λj=>ot (by omega) (by omega)
 have sm:cn m=true:=cF (by omega) (by omega)
 unfold cz
 obtain⟨y,hf⟩:=um (g:=gN 2) (body:=kL) (λx=>[some (.sh (.tup [.str "due",.int b,.int e,.int m,.int ea,.int la])),some (.sh (.int h)),x]) (G8 b e ea la h) (λd x=>rfl) (bB 0 m.toNat) none (by
  intro d hd
  obtain⟨i,hi⟩:=GbZ hd
  obtain⟨hi',rfl⟩:=cG hi
  generalize (0:Int)+(i:Int)=k
  rw[oB]
  unfold kL
  by_cases c1:b+k*e -ea≤h
  ·by_cases c2:h≤b+k*e+la
   ·simp[c1,c2,me]
   ·simp[c1,c2,me]
  ·simp[c1,me])
 rw[G9 e1 (by omega) a0 l0 al] at hf
 cases hk:qI b e m ea la h with
 |none=>
  rw[hk] at hf
  simp only[Option.map_none] at hf
  refine bf rfl ?_
  unfold k8
  refine(ar (e:=[some (.sh (.tup [.str "due",.int b,.int e,.int m,.int ea,.int la])),some (.sh (.int h)),y]) (by simp[-forL,bq,sm,hf,freed])).trans ?_
  simp
 |some k=>
  rw[hk] at hf
  simp only[Gcp] at hf
  refine bf rfl ?_
  unfold k8
  refine vk ?_
  simp[-forL,bq,sm,hf,freed]
noncomputable def kF(b:Bool)(x:Str)(n h:Int):List Flt:=(kk b x).map λk=>(k,[n,h])
theorem vB(b:Bool)(x:Str)(n h:Int):(kF b x n h).length≤1:=by
 unfold kF
 rw[Gae]
 exact cZ b x
theorem oC{L:List Flt}{b:Bool}{x:Str}{t:DT}{n h:Int}{e0 e1 e5 e6 e7 e8:Option Slot}(ht:t [e0,e1,some (.own (.lst (L.map aw))),some (.sh (.int n)),some (.sh (.int h)),e5,e6,e7,e8]=some b)(hl:L.length<100000):
  ifS t (jq 2 (bD (a5 (kE (.str x)) (a5 (vE 3) (a5 (vE 4) ao))))) bc [e0,e1,some (.own (.lst (L.map aw))),some (.sh (.int n)),some (.sh (.int h)),e5,e6,e7,e8]=some (.nx [e0,e1,some (.own (.lst ((L++kF b x n h).map aw))),some (.sh (.int n)),some (.sh (.int h)),e5,e6,e7,e8]):=by
 have z:(L.map aw).length<16777216:=by rw[Gae];omega
 have e:(L++kF b x n h).map aw=L.map aw++(kF b x n h).map aw:=by rw[GaI]
 rw[e]
 cases b with
 |true=>
  generalize L.map aw=M at*
  simp[ht,kF,kk,ai,z,aw]
 |false=>
  generalize L.map aw=M at*
  simp[ht,kF,kk]
theorem IA{o:Order}{s:i9}{b:Int}{ws:List Tr}{n h a:Int}:((jm o s b ws (n,h,a)).map λk=>(k,[n,h]))=kF (c9 o.gq h) "astray" n h++kF (decide (o.most<a)) "most" n h++kF (decide (a<1)||decide (¬a%s.part=0)) "part" n h++kF (s.aO.any bC&&(wgt o.bN h ws none).isNone) "weight" n h++kF (decide (h<b+s.young)) "young" n h:=by
 unfold jm kF
 simp only[GaI]
theorem DH(cs:List Cap):cy (gN 0) (b8 eqB (ixE (vE 0) (kE (.int 0))) (kE (.str "kilo"))) (vE 0) (cs.map bM) [none]=some ((cs.filter bC).map bM):=by
 refine k9 (g:=gN 0) bM (λenv=>∃y,env=[y]) bC bM cs [none] ⟨none,rfl⟩ ?_
 rintro c hc env ⟨y,rfl⟩
 have im:=wW c
 refine⟨[some (.sh (bM c))],rfl,⟨_,rfl⟩, ?_,λ_=> ⟨.c, ?_, ?_⟩⟩
 ·cases c<;>simp[bM,bC,eqB]
 ·generalize bM c=cd at*
  simp[im]
 ·generalize bM c=cd at*
  simp[RV.free]
theorem IB(cs:List Cap):decide (((cs.filter bC).length:Int)>0)=cs.any bC:=by
 induction cs with
 |nil=>rfl
 |cons c cs ih=>
  cases h:bC c with
  |true=>
   simp[h]
  |false=>
   simp only[Gba,h,GcH]
   exact ih
theorem DJ{A B C O W G:List D}{o:Order}{s:i9}{gu:Str×Int}{ws:List Tr}{n h a kn:Int}{L:List Flt}{x6 x7 x8:Option Slot}(hW:ws.map trD=W)(hO:atD O n=some (aF o))(du:lU o.gq)(hS:atD B o.fj=some (aV s))(so:kM s)(hG:atD A o.bN=some (cw gu))(im:(aF o).imm=true)(iw:aP W=true)(hl:L.length<50000)(hk:cV [.lst ((s.aO.filter bC).map bM)]=some ⟨.c,.int kn⟩)(hkn:decide (kn>0)=s.aO.any bC):
  cR [some (.sh (.tup [.tup A,.tup B,.tup C,.tup O])),some (.sh (.tup [.tup W,.tup G])),some (.own (.lst (L.map aw))),some (.sh (.int n)),some (.sh (.int h)),some (.sh (.int a)),x6,x7,x8]=
   some (.nx [some (.sh (.tup [.tup A,.tup B,.tup C,.tup O])),some (.sh (.tup [.tup W,.tup G])),some (.own (.lst ((L++(jm o s gu.2 ws (n,h,a)).map λk=>(k,[n,h])).map aw))),some (.sh (.int n)),some (.sh (.int h)),some (.sh (.int a)),some (.sh (aF o)),some (.sh (aV s)),some (.own (.lst ((s.aO.filter bC).map bM)))]):=by
 have ew:=qJ (ws:=ws) (g:=o.bN) (h:=h)
 rw[hW] at ew
 have sp:=so.p1
 have sp' :0<s.part:=by omega
 have cl:=so.cl
 have is:=jk s
 have rw' :=bZ (gk (wgt o.bN h ws none))
 have kc:=DH s.aO
 have zc:(s.aO.map bM).length≤16777216:=by rw[Gae];omega
 have p1:ixD (aF o) (.int 3)=some (.tup [.str o.way,.int o.top,.int o.per,.int o.most]):=rfl
 have p2:ixD (aF o) (.int 1)=some (.int o.bN):=rfl
 have p3:ixD (aF o) (.int 2)=some (.int o.fj):=rfl
 have p3' :ixD (aF o) (.int 4)=some (cz o.gq):=rfl
 have p4:ixD (aV s) (.int 1)=some (.tup (.int s.part::s.more.map .int)):=rfl
 have p5:ixD (aV s) (.int 3)=some (.int s.young):=rfl
 have p7:ixD (aV s) (.int 2)=some (.tup (s.aO.map bM)):=rfl
 have p6:ixD (cw gu) (.int 1)=some (.int gu.2):=rfl
 rw[IA]
 generalize aF o=OD at*
 generalize aV s=SD at*
 generalize cw gu=GD at*
 unfold cR
 refine(ar (e:=[some (.sh (.tup [.tup A,.tup B,.tup C,.tup O])),some (.sh (.tup [.tup W,.tup G])),some (.own (.lst (L.map aw))),some (.sh (.int n)),some (.sh (.int h)),some (.sh (.int a)),some (.sh OD),x7,x8]) (by simp[hO,im])).trans ?_
 refine(ar (e:=[some (.sh (.tup [.tup A,.tup B,.tup C,.tup O])),some (.sh (.tup [.tup W,.tup G])),some (.own (.lst (L.map aw))),some (.sh (.int n)),some (.sh (.int h)),some (.sh (.int a)),some (.sh OD),some (.sh SD),x8]) (by simp[p3,hS,is])).trans ?_
 refine(ar (oC (b:=c9 o.gq h) ?_ (by omega))).trans ?_
 ·cases hu:o.gq with
  |asked b=>
   rw[hu] at p3'
   unfold cz at p3'
   by_cases c:h<b<;>simp[p3',eqB,c9,c]
  |due b e m ea la=>
   rw[hu] at p3' du
   have ed:=vA (h:=h) du
   have rd:=bZ (gk (qI b e m ea la h))
   unfold cz at p3' ed
   have ea' :c9 (.due b e m ea la) h=(qI b e m ea la h).isNone:=rfl
   rw[ea']
   generalize qI b e m ea la h=dk at*
   simp[p3',eqB,ed,rd]
   cases dk<;>simp[nF,dm]
 have k1:=vB (c9 o.gq h) "astray" n h
 refine(ar (oC (b:=decide (o.most<a)) (by simp[p1]) (by simp only[Gar];omega))).trans ?_
 have k2:=vB (decide (o.most<a)) "most" n h
 refine(ar (oC (b:=decide (a<1)||decide (¬a%s.part=0)) ?_ (by simp only[Gar];omega))).trans ?_
 ·by_cases c:a<1
  ·simp[c]
  ·by_cases c2:a%s.part=0
   ·simp[c,p4,sp',neB,c2]
   ·simp[c,p4,sp',neB,c2]
 have k3:=vB (decide (a<1)||decide (¬a%s.part=0)) "part" n h
 generalize hK:(s.aO.filter bC).map bM=K at*
 generalize s.aO.map bM=CC at*
 refine(ar (e:=[some (.sh (.tup [.tup A,.tup B,.tup C,.tup O])),some (.sh (.tup [.tup W,.tup G])),some (.own (.lst ((L++kF (c9 o.gq h) "astray" n h++kF (decide (o.most<a)) "most" n h++kF (decide (a<1)||decide (¬a%s.part=0)) "part" n h).map aw))),some (.sh (.int n)),some (.sh (.int h)),some (.sh (.int a)),some (.sh OD),some (.sh SD),some (.own (.lst K))]) (by simp[-cy,p7,ai,DL.compEnv,fE,kc,zc])).trans ?_
 refine(ar (oC (b:=s.aO.any bC&&(wgt o.bN h ws none).isNone) ?_ (by simp only[Gar];omega))).trans ?_
 ·rw[←hkn]
  by_cases c:kn>0
  ·simp[-jT,hk,c,p2,ew,rw',iw]
   cases wgt o.bN h ws none<;>simp[nF,dm]
  ·simp[-jT,hk,c]
 have k4:=vB (s.aO.any bC&&(wgt o.bN h ws none).isNone) "weight" n h
 refine(oC (b:=decide (h<gu.2+s.young)) (by simp[p2,hG,p6,p5]) (by simp only[Gar];omega)).trans ?_
 simp only[Gav]
theorem Bi{w:World}(W:c0 w):(bK w).imm=true:=by
 have h1:=gh se w.bT
 have h2:=gh jk w.aG
 have h3:=iH w.cX
 have h4:aP (w.orders.map aF)=true:=by
  have:∀l:List Order,(∀o∈l,ox w.bT.length w.aG.length o)→aP (l.map aF)=true:=by
   intro l
   induction l with
   |nil=>intro _;rfl
   |cons o l ih=>
    intro h
    have h1:=fO o (h o Gan).ti
    have h2:=ih λx hx=>h x (Gag _ hx)
    rw[Gau]
    simp[h1,h2]
  exact this w.orders W.oo
 unfold bK
 simp[h1,h2,h3,h4]
theorem Ga{ns:List Int}(hl:ns.length≤63):∃(n:Nat) (len mn:Int),n<64∧cV [.scr ns]=some ⟨.c,.int len⟩∧nU [.int len,.int 30]=some ⟨.c,.int mn⟩∧mn+draw ns 12 4=(n:Int):=by
 have l:=b5 ns 12 4 (by omega)
 refine⟨((if(30:Int)<ns.length then 30 else ns.length)+draw ns 12 4).toNat,ns.length,if(30:Int)<ns.length then 30 else ns.length, ?_,by simp[cV],rfl, ?_⟩
 ·split<;>omega
 ·split<;>omega
theorem qk{w:World}(W:c0 w){ws:List Tr}{G:List D}:∀(gv:List Tr) (L:List Flt) (x3 x4 x5 x6 x7 x8:Option Slot),ie w.orders.length gv→L.length+5*gv.length<40000→∃y3 y4 y5 y6 y7 y8,
  forL (gT [3,4,5]) cR (gv.map trD) [some (.sh (bK w)),some (.sh (.tup [.tup (ws.map trD),.tup G])),some (.own (.lst (L.map aw))),x3,x4,x5,x6,x7,x8]=
   some (.nx [some (.sh (bK w)),some (.sh (.tup [.tup (ws.map trD),.tup G])),some (.own (.lst ((L++gv.flatMap (dJ w ws)).map aw))),y3,y4,y5,y6,y7,y8])
 |[],L,x3,x4,x5,x6,x7,x8,_,_=> ⟨x3,x4,x5,x6,x7,x8,by simp⟩
 |t::gv,L,x3,x4,x5,x6,x7,x8,hg,hz=>by
  rw[GaH] at hz
  have g0:=hg t Gan
  have l5:=(sG W (ws:=ws) g0.1 g0.2).2
  obtain⟨n,hn⟩:=GaE g0.1
  have hn' :n<w.orders.length:=by omega
  have ok:=W.oo w.orders[n] (GaA hn')
  obtain⟨m,hm⟩:=GaE ok.s0
  have sl:=ok.s1
  have hm' :m<w.aG.length:=by omega
  obtain⟨g,hg2⟩:=GaE ok.g0
  have gl:=ok.g1
  have hg' :g<w.bT.length:=by omega
  have hO:atD (w.orders.map aF) t.1=some (aF w.orders[n]):=by rw[hn,dA,Gal,Gaa hn'];rfl
  have hS:atD (w.aG.map aV) w.orders[n].fj=some (aV w.aG[m]):=by rw[hm,dA,Gal,Gaa hm'];rfl
  have hG:atD (w.bT.map cw) w.orders[n].bN=some (cw w.bT[g]):=by rw[hg2,dA,Gal,Gaa hg'];rfl
  have el:dJ w ws t=(jm w.orders[n] w.aG[m] w.bT[g].2 ws t).map λk=>(k,[t.1,t.2.1]):=by
   unfold dJ
   rw[hn,Gbe,Gaa hn']
   dsimp only
   rw[hm,hg2,Gbe,Gbe,Gaa hm',Gaa hg']
  have ev:=DJ (C:=w.cX.map trD) (G:=G) (ws:=ws) (n:=t.1) (h:=t.2.1) (a:=t.2.2) (L:=L) (x6:=x6) (x7:=x7) (x8:=x8) rfl hO ok.du hS (W.so _ (GaA hm')) hG (fO _ ok.ti) (iH ws) (by omega) (by simp[cV]) (IB w.aG[m].aO)
  have et:((t.1,t.2.1,t.2.2):Tr)=t:=rfl
  rw[et,←el] at ev
  obtain⟨y3,y4,y5,y6,y7,y8,e⟩:=qk W (ws:=ws) (G:=G) gv (L++dJ w ws t) (some (.sh (.int t.1))) (some (.sh (.int t.2.1))) (some (.sh (.int t.2.2))) (some (.sh (aF w.orders[n]))) (some (.sh (aV w.aG[m]))) (some (.own (.lst ((w.aG[m].aO.filter bC).map bM)))) (λx hx=>hg x (Gag _ hx)) (by rw[Gar];omega)
  refine⟨y3,y4,y5,y6,y7,y8, ?_⟩
  rw[Gau,Gcz,←Gav]
  unfold bK at e⊢
  generalize w.orders.map aF=OO at*
  generalize w.aG.map aV=SS at*
  generalize w.bT.map cw=GG at*
  show forL (gT [3,4,5]) cR (D.tup [.int t.1,.int t.2.1,.int t.2.2]::gv.map trD) _=_
  simp only[forL,gT,gNs,GaU,GaV,Option.bind_some,ev]
  exact e
theorem Bj{wd:D}{W G F:List D}{y3 y4 y5 y6 y7 y8:Option Slot}(h:forL (gT [3,4,5]) cR G [some (.sh wd),some (.sh (.tup [.tup W,.tup G])),some (.own (.lst [])),none,none,none,none,none,none]=some (.nx [some (.sh wd),some (.sh (.tup [.tup W,.tup G])),some (.own (.lst F)),y3,y4,y5,y6,y7,y8]))(im:aP F=true):g9 [wd,.tup [.tup W,.tup G]]=some (.lst F):=by
 refine bf rfl ?_
 unfold iE
 refine(ar (e:=[some (.sh wd),some (.sh (.tup [.tup W,.tup G])),some (.own (.lst [])),none,none,none,none,none,none]) (by simp[bq,ai])).trans ?_
 refine(ar (e:=[some (.sh wd),some (.sh (.tup [.tup W,.tup G])),some (.own (.lst F)),y3,y4,y5,y6,y7,y8]) (by simp[-forL,h,freed])).trans ?_
 simp[im]
theorem Gb{w:World}{ws gv:List Tr}(W:c0 w)(hg:ie w.orders.length gv)(hl:gv.length<64):g9 [bK w,.tup [.tup (ws.map trD),.tup (gv.map trD)]]=some (.lst ((gv.flatMap (dJ w ws)).map aw)):=by
 obtain⟨y3,y4,y5,y6,y7,y8,e⟩:=qk W (ws:=ws) (G:=gv.map trD) gv [] none none none none none none hg (by simp;omega)
 exact Bj e (gB _)
noncomputable def jR(f:Flt):Bool:=kg.any λk=>k==f.1
theorem IC(f:Flt):inB (.str f.1) (.lst (kg.map .str))=some (jR f):=by
 unfold inB wa jR kg
 simp
theorem Bk(fs:List Flt):cy (gN 0) (b8 inB (ixE (vE 0) (kE (.int 0))) (vE 1)) (vE 0) (fs.map aw) [none,some (.bor (.lst (kg.map .str)))]=some ((fs.filter jR).map aw):=by
 refine k9 (g:=gN 0) aw (λenv=>∃y,env=[y,some (.bor (.lst (kg.map .str)))]) jR aw fs _ ⟨none,rfl⟩ ?_
 rintro f hf env ⟨y,rfl⟩
 have im:(aw f).imm=true:=by
  have:=ou f.2
  simp[aw,this]
 have hx:ixD (aw f) (.int 0)=some (.str f.1):=rfl
 have i5:=IC f
 generalize D.lst (kg.map .str)=ww at*
 generalize aw f=fd at*
 refine⟨[some (.sh fd),some (.bor ww)],rfl,⟨_,rfl⟩, ?_,λ_=> ⟨.c, ?_, ?_⟩⟩
 ·simp[hx,i5]
 ·simp[im]
 ·simp[RV.free]
theorem ID{ns:List Int}{wd:D}{q11 q12 len mn nv:Int}{W G F Fl R:List D}(e1:gS [.scr ns]=some wd)(iwd:wd.imm=true)(d11:a9 [.scr ns,.int 11,.int 9]=some (.int q11))(e2:fC [.scr ns,wd,.int q11]=some (.tup W))(iw:aP W=true)(hl:cV [.scr ns]=some ⟨.c,.int len⟩)(hm:nU [.int len,.int 30]=some ⟨.c,.int mn⟩)(d12:a9 [.scr ns,.int 12,.int 4]=some (.int q12))(hn:mn+q12=nv)(e3:fD [.scr ns,wd,.int nv]=some (.tup G))(ig:aP G=true)(e4:lS [wd,.tup [.tup W,.tup G]]=some (.lst F))(e5:gc [.lst F]=some (.bl true))
  (zf:F.length≤16777216)(hc:cy (gN 0) (b8 inB (ixE (vE 0) (kE (.int 0))) (vE 1)) (vE 0) F [none,some (.bor (.lst (kg.map .str)))]=some R)(es:g9 [wd,.tup [.tup W,.tup G]]=some (.lst Fl))(eS:fT [.lst Fl]=some ⟨.tn,.lst R⟩)(eq:eqB (.lst R) (.lst R)=some true):rY [.scr ns]=some (.bl true):=by
 have rl:∀L:List D,ku (.lst L)=⟨.tn,.lst L⟩:=λ_=>rfl
 have rt:=bZ (d:= .tup W) (by simp[iw])
 have rg:=bZ (d:= .tup G) (by simp[ig])
 have rwd:=bZ iwd
 refine bf rfl ?_
 unfold Fx
 refine(ar (e:=[some (.sh (.scr ns)),some (.sh wd),none,none,none]) (by simp[bq,e1,rwd])).trans ?_
 refine(ar (e:=[some (.sh (.scr ns)),some (.sh wd),some (.sh (.tup [.tup W,.tup []])),none,none]) (by simp[d11,e2,rt,iw,ai])).trans ?_
 refine(ar (e:=[some (.sh (.scr ns)),some (.sh wd),some (.sh (.tup [.tup W,.tup G])),none,none]) (by simp[-Eo,hl,hm,d12,hn,e3,rg,iw,ig,ai])).trans ?_
 refine(ar (e:=[some (.sh (.scr ns)),some (.sh wd),some (.sh (.tup [.tup W,.tup G])),some (.own (.lst F)),none]) (by simp[e4,rl])).trans ?_
 refine(ar (e:=[some (.sh (.scr ns)),some (.sh wd),some (.sh (.tup [.tup W,.tup G])),some (.own (.lst F)),none]) (by simp[e5])).trans ?_
 refine(ar (e:=[some (.sh (.scr ns)),some (.sh wd),some (.sh (.tup [.tup W,.tup G])),some (.own (.lst F)),some (.own (.lst (kg.map .str)))]) (by simp[ai,kg])).trans ?_
 generalize D.lst (kg.map .str)=ww at*
 simp[-cy,ai,DL.compEnv,fE,zf,hc,es,rl,eS,eq]
theorem Gd(ns:List Int)(hl:ns.length≤63):rY [.scr ns]=some (.bl true):=by
 obtain⟨w,W,e1⟩:=Ib ns
 have d11:=aR (ns:=ns) (k:=11) (m:=9) (by omega) (by omega) (by omega)
 have l11:=b5 ns 11 9 (by omega)
 generalize draw ns 11 9=q11 at*
 obtain⟨q,rfl⟩:=GaE l11.1
 obtain⟨ws,_,e2⟩:=Dr (ns:=ns) (n:=q) W (by omega)
 have d12:=aR (ns:=ns) (k:=12) (m:=4) (by omega) (by omega) (by omega)
 obtain⟨n,len,mn,hn,hlen,hmn,hsum⟩:=Ga hl
 obtain⟨gv,g1,g2,e3⟩:=Dt (ns:=ns) (n:=n) W hn
 obtain⟨st,rows,I,r2,r1,r3,e4,z⟩:=Ae (ws:=ws) W g2 g1
 have words:∀f∈st.flatMap (tgF w.aG ws)++cL w.orders (w.cX.foldl bI []) (wide w.cX) rows++twF (gv.foldl (cx w.orders) [])++gv.flatMap (dJ w ws),2≤f.2.length:=by
  intro f hf
  rcases Gaw.mp hf with hf|hf
  ·rcases Gaw.mp hf with hf|hf
   ·rcases Gaw.mp hf with hf|hf
    ·exact(Af hf).2
    ·exact(kP _ hf).2
   ·exact(Ah hf).2
  ·obtain⟨t,_,h⟩:=Gdg.mp hf
   exact(sM h).2
 have flt:(st.flatMap (tgF w.aG ws)++cL w.orders (w.cX.foldl bI []) (wide w.cX) rows++twF (gv.foldl (cx w.orders) [])++gv.flatMap (dJ w ws)).filter jR=gv.flatMap (dJ w ws):=by
  rw[Gct,Gct,Gct]
  rw[pR (l:=st.flatMap (tgF w.aG ws)) λf hf=>by unfold jR;rw[(Af hf).1];rfl]
  rw[pR (l:=cL w.orders (w.cX.foldl bI []) (wide w.cX) rows) λf hf=>by unfold jR;rw[(kP _ hf).1];rfl]
  rw[pR (l:=twF (gv.foldl (cx w.orders) [])) λf hf=>by unfold jR;rw[(Ah hf).1];rfl]
  rw[filter_all λf hf=>by
   obtain⟨t,_,h⟩:=Gdg.mp hf
   have:=(sM h).1
   unfold jR
   exact GcF.mpr ⟨_,this,str_beq _⟩]
  rfl
 have z4:(gv.flatMap (dJ w ws)).length<1000000:=by
  simp only[Gar] at z
  omega
 have lst:gc [.lst ((m6 (st.flatMap (tgF w.aG ws)++cL w.orders (w.cX.foldl bI []) (wide w.cX) rows++twF (gv.foldl (cx w.orders) [])++gv.flatMap (dJ w ws))).map aw)]=some (.bl true):=G6 λf hf=>words f ((kO _).mem_iff.mp hf)
 have hc:=Bk (m6 (st.flatMap (tgF w.aG ws)++cL w.orders (w.cX.foldl bI []) (wide w.cX) rows++twF (gv.foldl (cx w.orders) [])++gv.flatMap (dJ w ws)))
 rw[vt jR (by rw[flt])] at hc
 have zf:((m6 (st.flatMap (tgF w.aG ws)++cL w.orders (w.cX.foldl bI []) (wide w.cX) rows++twF (gv.foldl (cx w.orders) [])++gv.flatMap (dJ w ws))).map aw).length≤16777216:=by
  rw[Gae,(kO _).length_eq]
  omega
 exact ID e1 (Bi W) d11 e2 (iH ws) hlen hmn d12 hsum e3 (iH gv) e4 lst zf hc (Gb W g2 g1) (sI _ z4) (Iy _)
end Maths
namespace Hd
open PySem PySem.W PyProof.Rows L2
noncomputable abbrev p0:=PySem.Challenge.pw_dosehouse_k41_faults_of_one_giving
noncomputable def top(i:Nat):Stmt:=p0.main.body.getD i (.Pass ⟨0,0,0,0⟩)
noncomputable def view:Program:={p0 with main:={p0.main with body:=[1,3,4,6,8,10,11,12,13,14,15,16,17,18,20,21,22,23,24,25,26,27,28,29,30,31,32,33,34,35].map top}}
noncomputable abbrev fd (n:Str) (i:Nat) (m:Str) (t c:Nat):FuncData:=fnOf n n (mD (top i)) (jr (top i)) (aJ (top i)) .none .none .none (.str m t) none (.ref c) .none
noncomputable def fo(d:FuncData):Obj:=⟨.type "function",none,.func d,#[]⟩
noncomputable def co(n:Str)(t l k a:Nat)(x y:Value)(b u:Nat):Obj:={cls:= .type "code",data:= .fields #[.str n t,.str n (t+1),.str "/claim/cut.py" (t+2),.int l 0,.int k 0,.int 0 0,.int 0 0,.int 3 0,.ref a,.bool true,.int 181 0,.ref (a+1),.none,x,y,.ref b,.int u 0,.int l 0,.str "/claim/cut.py" (u+1)]}
noncomputable def e(P:Params)(n:Str)(t:Nat)(v:Value):DictEntry:=⟨PyData.keyHash P n,.str n t,v⟩
noncomputable def r(P:Params)(n:Str)(t a:Nat):DictEntry:=e P n t (.ref a)
noncomputable abbrev m0:Str:="dosehouse.bounds"
noncomputable abbrev m1:Str:="dosehouse.dues"
noncomputable abbrev m2:Str:="dosehouse.faults"
noncomputable abbrev m3:Str:="dosehouse.weights"
noncomputable abbrev m4:Str:="dosehouse.windows"
noncomputable abbrev m5:Str:="law_dosehouse_k41_faults_of_one_giving"
noncomputable abbrev qT:=fd "bound" 1 m0 187 20
noncomputable abbrev oD:=fd "due_of" 3 m1 197 27
noncomputable abbrev oE:=fd "astray" 4 m1 197 34
noncomputable abbrev jz:=fd "weight_at" 6 m3 219 41
noncomputable abbrev vC:=fd "sums" 8 m4 232 48
noncomputable abbrev ff:=fd "goes_by_weight" 10 m2 248 53
noncomputable abbrev gI:=fd "lone_faults" 11 m2 248 58
noncomputable abbrev dM:=fd "marks_by_target" 12 m2 248 65
noncomputable abbrev iJ:=fd "cap_faults" 13 m2 248 72
noncomputable abbrev fg:=fd "gaps_by_stuffs" 14 m2 248 79
noncomputable abbrev gJ:=fd "gap_between" 15 m2 248 86
noncomputable abbrev iK:=fd "gap_faults" 16 m2 248 91
noncomputable abbrev gn:=fd "twice_faults" 17 m2 248 96
noncomputable abbrev oF:=fd "faults" 18 m2 248 103
noncomputable abbrev kQ:=fd "_law_draw" 20 m5 333 110
noncomputable abbrev kR:=fd "_law_caps" 21 m5 333 117
noncomputable abbrev iL:=fd "_law_stuffs" 22 m5 333 124
noncomputable abbrev kS:=fd "_law_bars" 23 m5 333 131
noncomputable abbrev kT:=fd "_law_dues" 24 m5 333 138
noncomputable abbrev jA:=fd "_law_world" 25 m5 333 145
noncomputable abbrev kU:=fd "_law_hour" 26 m5 333 152
noncomputable abbrev iM:=fd "_law_amount" 27 m5 333 159
noncomputable abbrev gK:=fd "_law_weights" 28 m5 333 164
noncomputable abbrev gL:=fd "_law_givings" 29 m5 333 169
noncomputable abbrev iN:=fd "_law_weight" 30 m5 333 176
noncomputable abbrev mL:=fd "_law_due" 31 m5 333 183
noncomputable abbrev iP:=fd "_law_single" 32 m5 333 188
noncomputable abbrev jB:=fd "_law_whole" 33 m5 333 195
noncomputable abbrev iQ:=fd "_law_listed" 34 m5 333 202
noncomputable abbrev Cm:=fd "law" 35 m5 333 207
noncomputable def K(P:Params):Frag:=[(3,{cls:= .type "dict",data:= .dict #[e P "__name__" 165 (.str "law_dosehouse_k41_faults_of_one_giving" 333),e P "__doc__" 166 (.none),e P "__package__" 167 (.none),e P "__loader__" 168 (.builtin "__main__.__loader__#opaque"),e P "__spec__" 169 (.none),r P "__annotations__" 170 6,r P "__builtins__" 171 4,e P "__file__" 173 (.str "/claim/cut.py" 172),e P "__cached__" 174 (.none),r P "bound" 196 21,r P "due_of" 209 28,r P "astray" 218 35,r P "weight_at" 231 42,r P "sums" 247 49,r P "goes_by_weight" 255 54,r P "lone_faults" 261 59,r P "marks_by_target" 272 66,r P "cap_faults" 290 73,r P "gaps_by_stuffs" 299 80,r P "gap_between" 308 87,r P "gap_faults" 314 92,r P "twice_faults" 320 97,r P "faults" 332 104,r P "_law_draw" 344 111,r P "_law_caps" 360 118,r P "_law_stuffs" 374 125,r P "_law_bars" 388 132,r P "_law_dues" 401 139,r P "_law_world" 420 146,r P "_law_hour" 435 153,r P "_law_amount" 448 160,r P "_law_weights" 454 165,r P "_law_givings" 460 170,r P "_law_weight" 471 177,r P "_law_due" 480 184,r P "_law_single" 486 189,r P "_law_whole" 493 196,r P "_law_listed" 502 203,r P "law" 508 208] 39}),
 (21,fo qT),(20,co "bound" 189 2 2 15 (.ref 17) (.ref 18) 19 194),
 (28,fo oD),(27,co "due_of" 199 11 2 22 (.ref 24) (.ref 25) 26 207),
 (35,fo oE),(34,co "astray" 210 20 2 29 (.ref 31) (.ref 32) 33 216),
 (42,fo jz),(41,co "weight_at" 221 26 3 36 (.ref 38) (.ref 39) 40 229),
 (49,fo vC),(48,co "sums" 234 33 2 43 (.ref 45) (.ref 46) 47 245),
 (54,fo ff),(53,co "goes_by_weight" 250 47 1 50 (.none) (.none) 52 253),
 (59,fo gI),(58,co "lone_faults" 256 49 3 55 (.none) (.none) 57 259),
 (66,fo dM),(65,co "marks_by_target" 262 67 2 60 (.ref 62) (.ref 63) 64 270),
 (73,fo iJ),(72,co "cap_faults" 273 73 3 67 (.ref 69) (.ref 70) 71 288),
 (80,fo fg),(79,co "gaps_by_stuffs" 291 84 1 74 (.ref 76) (.ref 77) 78 297),
 (87,fo gJ),(86,co "gap_between" 300 90 3 81 (.ref 83) (.ref 84) 85 306),
 (92,fo iK),(91,co "gap_faults" 309 94 2 88 (.none) (.none) 90 312),
 (97,fo gn),(96,co "twice_faults" 315 107 2 93 (.none) (.none) 95 318),
 (104,fo oF),(103,co "faults" 321 114 2 98 (.ref 100) (.ref 101) 102 330),
 (111,fo kQ),(110,co "_law_draw" 335 122 3 105 (.ref 107) (.ref 108) 109 342),
 (118,fo kR),(117,co "_law_caps" 345 127 4 112 (.ref 114) (.ref 115) 116 358),
 (125,fo iL),(124,co "_law_stuffs" 361 141 2 119 (.ref 121) (.ref 122) 123 372),
 (132,fo kS),(131,co "_law_bars" 375 150 3 126 (.ref 128) (.ref 129) 130 386),
 (139,fo kT),(138,co "_law_dues" 389 159 3 133 (.ref 135) (.ref 136) 137 399),
 (146,fo jA),(145,co "_law_world" 402 167 1 140 (.ref 142) (.ref 143) 144 418),
 (153,fo kU),(152,co "_law_hour" 421 185 4 147 (.ref 149) (.ref 150) 151 433),
 (160,fo iM),(159,co "_law_amount" 436 198 4 154 (.ref 156) (.ref 157) 158 446),
 (165,fo gK),(164,co "_law_weights" 449 205 3 161 (.none) (.none) 163 452),
 (170,fo gL),(169,co "_law_givings" 455 214 3 166 (.none) (.none) 168 458),
 (177,fo iN),(176,co "_law_weight" 461 223 3 171 (.ref 173) (.ref 174) 175 469),
 (184,fo mL),(183,co "_law_due" 472 229 2 178 (.ref 180) (.ref 181) 182 478),
 (189,fo iP),(188,co "_law_single" 481 234 2 185 (.none) (.none) 187 484),
 (196,fo jB),(195,co "_law_whole" 487 251 1 190 (.ref 192) (.ref 193) 194 491),
 (203,fo iQ),(202,co "_law_listed" 494 253 1 197 (.ref 199) (.ref 200) 201 500),
 (208,fo Cm),(207,co "law" 503 263 1 204 (.none) (.none) 206 506)]
noncomputable def as_:List Addr:=[3,21,20,28,27,35,34,42,41,49,48,54,53,59,58,66,65,73,72,80,79,87,86,92,91,97,96,104,103,111,110,118,117,125,124,132,131,139,138,146,145,153,152,160,159,165,164,170,169,177,176,184,183,189,188,196,195,203,202,208,207]
noncomputable def hook:Hook:=kHook K as_ (λ_=>rfl)
noncomputable def xt(s:Shared):Bool:=xlAt view [] s&&recOk (RowW.records (OpenRow.toRowW (OpenLaw.row PySem.Challenge.rw_dosehouse_k41_faults_of_one_giving))) s
theorem left:LeftO p0 view [] xt hook.obs hook.val 2142:=λw=>by kernel_rfl
end Hd
seal L2.PE L2.PT L2.PW L2.PA L2.PS L2.PSs L2.PG L2.PGs L2.PI
namespace Der
open PySem PySem.Spec PyProof.Rows L2 DL Den
noncomputable abbrev top:=Hd.top
noncomputable abbrev Aj:Stmt:=top 1
noncomputable abbrev uz:Stmt:=top 3
noncomputable abbrev uA:Stmt:=top 4
noncomputable abbrev oG:Stmt:=top 6
noncomputable abbrev Cn:Stmt:=top 8
noncomputable abbrev jC:Stmt:=top 10
noncomputable abbrev m8:Stmt:=top 11
noncomputable abbrev jn:Stmt:=top 12
noncomputable abbrev mX:Stmt:=top 13
noncomputable abbrev jD:Stmt:=top 14
noncomputable abbrev m9:Stmt:=top 15
noncomputable abbrev mY:Stmt:=top 16
noncomputable abbrev kZ:Stmt:=top 17
noncomputable abbrev uB:Stmt:=top 18
noncomputable abbrev ql:Stmt:=top 20
noncomputable abbrev qp:Stmt:=top 21
noncomputable abbrev mZ:Stmt:=top 22
noncomputable abbrev qq:Stmt:=top 23
noncomputable abbrev qr:Stmt:=top 24
noncomputable abbrev oH:Stmt:=top 25
noncomputable abbrev qt:Stmt:=top 26
noncomputable abbrev n4:Stmt:=top 27
noncomputable abbrev ma:Stmt:=top 28
noncomputable abbrev mf:Stmt:=top 29
noncomputable abbrev n5:Stmt:=top 30
noncomputable abbrev sN:Stmt:=top 31
noncomputable abbrev n6:Stmt:=top 32
noncomputable abbrev oI:Stmt:=top 33
noncomputable abbrev n8:Stmt:=top 34
noncomputable abbrev Ge:Stmt:=top 35
theorem all1{K:PySem.W.Frag}{fd:FuncData}{p0:Str}(h:∀v0:Value,bindArgs fd ⟨[v0],[]⟩=pure ([p0].zip [v0])):Binds K fd [p0] []:= .all λus hl=>match us,hl with|[v0],_=>h v0
theorem all2{K:PySem.W.Frag}{fd:FuncData}{p0 p1:Str}(h:∀v0 v1:Value,bindArgs fd ⟨[v0,v1],[]⟩=pure ([p0,p1].zip [v0,v1])):Binds K fd [p0,p1] []:= .all λus hl=>match us,hl with|[v0,v1],_=>h v0 v1
theorem t9{K:PySem.W.Frag}{fd:FuncData}{p0 p1 p2:Str}(h:∀v0 v1 v2:Value,bindArgs fd ⟨[v0,v1,v2],[]⟩=pure ([p0,p1,p2].zip [v0,v1,v2])):Binds K fd [p0,p1,p2] []:= .all λus hl=>match us,hl with|[v0,v1,v2],_=>h v0 v1 v2
theorem KS{K:PySem.W.Frag}{fd:FuncData}{p0 p1 p2 p3:Str}(h:∀v0 v1 v2 v3:Value,bindArgs fd ⟨[v0,v1,v2,v3],[]⟩=pure ([p0,p1,p2,p3].zip [v0,v1,v2,v3])):Binds K fd [p0,p1,p2,p3] []:= .all λus hl=>match us,hl with|[v0,v1,v2,v3],_=>h v0 v1 v2 v3
section
variable{Pm:Params}{mg:Str→Option Value}
def Txt(Pm:Params)(mg:Str→Option Value):Prop:=∃h:Heap,(Hd.K Pm).In h∧h.Ns mainGlobals mg
theorem Txt.at{n:Str}{v:Value}(T:Txt Pm mg)(e:PySem.W.nsIn (Hd.K Pm) mainGlobals n=some (some v):=by kernel_rfl):mg n=some v:=let⟨_,X,G⟩:=T;PySem.W.mg_of X G e
theorem Txt.no{n:Str}(T:Txt Pm mg)(e:PySem.W.nsIn (Hd.K Pm) mainGlobals n=some none:=by kernel_rfl):mg n=none:=let⟨_,X,G⟩:=T;PySem.W.mg_none_of X G e
theorem mkF{x:Str}{st:Stmt}{f:Addr}{pm cd:Value}(l:(Hd.K Pm).lookup f=some (Hd.fo (PySem.W.fnOf x x (mD st) (jr st) (aJ st) .none .none .none pm none cd .none)):=by kernel_rfl)(c:PySem.W.codeIn (Hd.K Pm) cd x=true:=by kernel_rfl)(k:PySem.W.keepIn (Hd.K Pm) (.ref f)=true:=by kernel_rfl):Fun (Hd.K Pm) x x st f (PySem.W.fnOf x x (mD st) (jr st) (aJ st) .none .none .none pm none cd .none):=JJ l c k
theorem Co:Fun (Hd.K Pm) "bound" "bound" Aj 21 Hd.qT:=mkF
theorem kD:Binds (Hd.K Pm) Hd.qT ["cap","weight"] []:=all2 λ_ _=>rfl
theorem sO:Fun (Hd.K Pm) "due_of" "due_of" uz 28 Hd.oD:=mkF
theorem k7:Binds (Hd.K Pm) Hd.oD ["order","hour"] []:=all2 λ_ _=>rfl
theorem Ak:Fun (Hd.K Pm) "astray" "astray" uA 35 Hd.oE:=mkF
theorem lQ:Binds (Hd.K Pm) Hd.oE ["order","hour"] []:=all2 λ_ _=>rfl
theorem mh:Fun (Hd.K Pm) "weight_at" "weight_at" oG 42 Hd.jz:=mkF
theorem gP:Binds (Hd.K Pm) Hd.jz ["weights","guest","hour"] []:=t9 λ_ _ _=>rfl
theorem Gf:Fun (Hd.K Pm) "sums" "sums" Cn 49 Hd.vC:=mkF
theorem rX:Binds (Hd.K Pm) Hd.vC ["marks","hours"] []:=all2 λ_ _=>rfl
theorem kh:Fun (Hd.K Pm) "goes_by_weight" "goes_by_weight" jC 54 Hd.ff:=mkF
theorem dZ:Binds (Hd.K Pm) Hd.ff ["stuff"] []:=all1 λ_=>rfl
theorem n9:Fun (Hd.K Pm) "lone_faults" "lone_faults" m8 59 Hd.gI:=mkF
theorem gD:Binds (Hd.K Pm) Hd.gI ["world","weights","giving"] []:=t9 λ_ _ _=>rfl
theorem jE:Fun (Hd.K Pm) "marks_by_target" "marks_by_target" jn 66 Hd.dM:=mkF
theorem dI:Binds (Hd.K Pm) Hd.dM ["world","givings"] []:=all2 λ_ _=>rfl
theorem oJ:Fun (Hd.K Pm) "cap_faults" "cap_faults" mX 73 Hd.iJ:=mkF
theorem iq:Binds (Hd.K Pm) Hd.iJ ["world","weights","givings"] []:=t9 λ_ _ _=>rfl
theorem kl:Fun (Hd.K Pm) "gaps_by_stuffs" "gaps_by_stuffs" jD 80 Hd.fg:=mkF
theorem f9:Binds (Hd.K Pm) Hd.fg ["bars"] []:=all1 λ_=>rfl
theorem nh:Fun (Hd.K Pm) "gap_between" "gap_between" m9 87 Hd.gJ:=mkF
theorem gE:Binds (Hd.K Pm) Hd.gJ ["gaps","order","other"] []:=t9 λ_ _ _=>rfl
theorem oK:Fun (Hd.K Pm) "gap_faults" "gap_faults" mY 92 Hd.iK:=mkF
theorem iz:Binds (Hd.K Pm) Hd.iK ["world","givings"] []:=all2 λ_ _=>rfl
theorem mj:Fun (Hd.K Pm) "twice_faults" "twice_faults" kZ 97 Hd.gn:=mkF
theorem fZ:Binds (Hd.K Pm) Hd.gn ["world","givings"] []:=all2 λ_ _=>rfl
theorem Al:Fun (Hd.K Pm) "faults" "faults" uB 104 Hd.oF:=mkF
theorem oq:Binds (Hd.K Pm) Hd.oF ["world","book"] []:=all2 λ_ _=>rfl
theorem au:Fun (Hd.K Pm) "_law_draw" "_law_draw" ql 111 Hd.kQ:=mkF
theorem aq:Binds (Hd.K Pm) Hd.kQ ["_law_script","_law_k","_law_many"] []:=t9 λ_ _ _=>rfl
theorem sP:Fun (Hd.K Pm) "_law_caps" "_law_caps" qp 118 Hd.kR:=mkF
theorem kH:Binds (Hd.K Pm) Hd.kR ["_law_script","_law_k","_law_part","_law_scale"] []:=KS λ_ _ _ _=>rfl
theorem oM:Fun (Hd.K Pm) "_law_stuffs" "_law_stuffs" mZ 125 Hd.iL:=mkF
theorem iA:Binds (Hd.K Pm) Hd.iL ["_law_script","_law_scale"] []:=all2 λ_ _=>rfl
theorem sQ:Fun (Hd.K Pm) "_law_bars" "_law_bars" qq 132 Hd.kS:=mkF
theorem kI:Binds (Hd.K Pm) Hd.kS ["_law_script","_law_many","_law_scale"] []:=t9 λ_ _ _=>rfl
theorem sR:Fun (Hd.K Pm) "_law_dues" "_law_dues" qr 139 Hd.kT:=mkF
theorem jf:Binds (Hd.K Pm) Hd.kT ["_law_script","_law_k","_law_scale"] []:=t9 λ_ _ _=>rfl
theorem qu:Fun (Hd.K Pm) "_law_world" "_law_world" oH 146 Hd.jA:=mkF
theorem jw:Binds (Hd.K Pm) Hd.jA ["_law_script"] []:=all1 λ_=>rfl
theorem sS:Fun (Hd.K Pm) "_law_hour" "_law_hour" qt 153 Hd.kU:=mkF
theorem kJ:Binds (Hd.K Pm) Hd.kU ["_law_script","_law_world_here","_law_order","_law_k"] []:=KS λ_ _ _ _=>rfl
theorem oN:Fun (Hd.K Pm) "_law_amount" "_law_amount" n4 160 Hd.iM:=mkF
theorem iC:Binds (Hd.K Pm) Hd.iM ["_law_script","_law_world_here","_law_order","_law_k"] []:=KS λ_ _ _ _=>rfl
theorem ni:Fun (Hd.K Pm) "_law_weights" "_law_weights" ma 165 Hd.gK:=mkF
theorem gG:Binds (Hd.K Pm) Hd.gK ["_law_script","_law_world_here","_law_many"] []:=t9 λ_ _ _=>rfl
theorem nj:Fun (Hd.K Pm) "_law_givings" "_law_givings" mf 170 Hd.gL:=mkF
theorem gH:Binds (Hd.K Pm) Hd.gL ["_law_script","_law_world_here","_law_many"] []:=t9 λ_ _ _=>rfl
theorem oO:Fun (Hd.K Pm) "_law_weight" "_law_weight" n5 177 Hd.iN:=mkF
theorem iD:Binds (Hd.K Pm) Hd.iN ["_law_weights_here","_law_guest","_law_hour_here"] []:=t9 λ_ _ _=>rfl
theorem uC:Fun (Hd.K Pm) "_law_due" "_law_due" sN 184 Hd.mL:=mkF
theorem k8:Binds (Hd.K Pm) Hd.mL ["_law_dues_here","_law_hour_here"] []:=all2 λ_ _=>rfl
theorem oP:Fun (Hd.K Pm) "_law_single" "_law_single" n6 189 Hd.iP:=mkF
theorem iE:Binds (Hd.K Pm) Hd.iP ["_law_world_here","_law_book"] []:=all2 λ_ _=>rfl
theorem qv:Fun (Hd.K Pm) "_law_whole" "_law_whole" oI 196 Hd.jB:=mkF
theorem jx:Binds (Hd.K Pm) Hd.jB ["_law_found"] []:=all1 λ_=>rfl
theorem oQ:Fun (Hd.K Pm) "_law_listed" "_law_listed" n8 203 Hd.iQ:=mkF
theorem iF:Binds (Hd.K Pm) Hd.iQ ["_law_found"] []:=all1 λ_=>rfl
theorem N9:Fun (Hd.K Pm) "law" "law" Ge 208 Hd.Cm:=mkF
theorem Txt.Na(T:Txt Pm mg):mg "law"=some (.ref 208):=T.at
theorem Fx:Binds (Hd.K Pm) Hd.Cm ["_law_script"] []:=all1 λ_=>rfl
theorem Txt.Nb(T:Txt Pm mg):mg "any"=none:=T.no
theorem Txt.KU(T:Txt Pm mg):mg "bool"=none:=T.no
theorem Txt.mq(T:Txt Pm mg):mg "enumerate"=none:=T.no
theorem Txt.Nc(T:Txt Pm mg):mg "int"=none:=T.no
theorem Txt.gp(T:Txt Pm mg):mg "isinstance"=none:=T.no
theorem Txt.jF(T:Txt Pm mg):mg "len"=none:=T.no
theorem Txt.KW(T:Txt Pm mg):mg "list"=none:=T.no
theorem Txt.IZ(T:Txt Pm mg):mg "max"=none:=T.no
theorem Txt.J1(T:Txt Pm mg):mg "min"=none:=T.no
theorem Txt.iR(T:Txt Pm mg):mg "range"=none:=T.no
theorem Txt.km(T:Txt Pm mg):mg "sorted"=none:=T.no
theorem Txt.Nd(T:Txt Pm mg):mg "str"=none:=T.no
theorem Txt.jG(T:Txt Pm mg):mg "tuple"=none:=T.no
end
theorem b7{X:Cx}{e:Expr}{pos p:Pos}{k m np:Nat}{fa:Addr}{fd:FuncData}{ps:List Str}{sp:List D→Option D}{x:Str}{st:Stmt}{es:List Expr}{r:DA}(F:cD X.prog X.w X.K X.mg X.base CX0 k fa fd ps (spD X.K np sp))(hr:gU m X.A)(hg:Gl X x)(hm:X.mg x=some (.ref fa))(hF:Fun X.K x x st fa fd)(hb:Binds X.K fd ps [])(ha:PAd X (e::es) r)(hl:∀env rs,r env=some rs→rs.length=np)(hk:k≤m:=by decide)(hdb:(x==("__debug__":Str))=false:=by decide)(he:starEach (e::es) X.env=(false,eval e X.env)::starEach es X.env:=by rfl)(hpl:(backTo pos (starEach es X.env)).any (·.1)=false:=by rfl):PEd X (.Call (.Name x p) (e::es) [] pos) (aH sp r):=He F (hr.mono hk) hg hm hF.kp hb LR ha hl hdb he hpl
seal Hd.K
section
variable{P:Program}{w:World}{Pm:Params}{mg:Str→Option Value}{base:Heap}
theorem Gg:aW ["cap","weight"] ["cap","weight"] (aJ Aj):=fP
theorem Gh(T:Txt Pm mg):cD P w (Hd.K Pm) mg base CX0 1 21 Hd.qT ["cap","weight"] (spD (Hd.K Pm) 2 jv):=by
 refine cJ Co Gg rfl λcdv A outer s H E hr=> ?_
 have hu:=d9 hr
 have hu20:=bX hr
 refine a8 0 _ λv0=>a8 1 _ λv1=> ?_
 exact(ae (bA (aM (cf hu20) cg (af hu (v0 _) a6) aZ (aK _))
  (ay (b4 (af hu (v0 _) a6)))
  b6)
 (ae (bA (aM (cf hu20) cg (af hu (v0 _) a6) aZ (aK _))
  (ay (b4 (af hu (v0 _) a6)))
  b6)
 (ae (bA (aM qV nX (v1 _) fI (aK _))
  (ay (b4 fI))
  b6)
 (ay (b4 (mE (bw (v1 _) (af hu (v0 _) a6)) (af hu (v0 _) a6)))))))
theorem uD:aW ["order","hour","dues","behind","k"] ["order","hour"] (aJ uz):=fP
theorem uE(T:Txt Pm mg):cD P w (Hd.K Pm) mg base CX0 1 28 Hd.oD ["order","hour"] (spD (Hd.K Pm) 2 jb):=by
 refine cJ sO uD rfl λcdv A outer s H E hr=> ?_
 have sc:=uD
 have hu:=d9 hr
 have hu20:=bX hr
 refine a8 0 _ λv0=>a8 1 _ λv1=>a8 2 _ λv2=>a8 3 _ λv3=>a8 4 _ λv4=>ah 2 "dues" λl2=>ah 3 "behind" λl3=>ah 4 "k" λl4=> ?_
 exact(ae (aA (i:=2) sc.nd rfl l2 (af hu (v0 _) a6))
 (ae (bA (aM (cf hu20) cg (af hu (v2 _) a6) aZ (aK _))
  (ay (b4 fI))
  b6)
 (ae (aA (i:=3) sc.nd rfl l3 (j6 (v1 _) (j6 (af hu (v2 _) a6) (af hu (v2 _) a6))))
 (ae (aA (i:=4) sc.nd rfl l4 (mE (v3 _) (af hu (v2 _) a6)))
 (ae (bA (rm (pk (Ex tP ph lB j7 a6 (v4 _) (af hu (v2 _) a6))) (pj (aM mO jL (j6 (v3 _) (bw (v4 _) (af hu (v2 _) a6))) (aB (af hu (v2 _) a6) (af hu (v2 _) a6)) (aK _)))).pt
  (ay (b4 fI))
  b6)
 (ay (b4 (v4 _))))))))
theorem uF:aW ["order","hour","dues"] ["order","hour"] (aJ uA):=fP
theorem DK(T:Txt Pm mg):cD P w (Hd.K Pm) mg base CX0 2 35 Hd.oE ["order","hour"] (spD (Hd.K Pm) 2 lR):=by
 refine cJ Ak uF rfl λcdv A outer s H E hr=> ?_
 have sc:=uF
 have hu:=d9 hr
 have hu20:=bX hr
 refine a8 0 _ λv0=>a8 1 _ λv1=>a8 2 _ λv2=>ah 2 "dues" λl2=>aC "due_of" λg_due_of=> ?_
 exact(ae (aA (i:=2) sc.nd rfl l2 (af hu (v0 _) a6))
 (ae (bA (aM (cf hu20) cg (af hu (v2 _) a6) aZ (aK _))
  (ay (b4 (uT lB j7 (v1 _) (af hu (v2 _) a6) (aK _))))
  b6)
 (ay (b4 (uT qV nX (b7 (uE T) hr g_due_of T.at sO k7 (a4 (v0 _) (a4 (v1 _) aa)) (a7 (a7 ax))) fI (aK _))))))
theorem oR:aW ["weights","guest","hour","found","row"] ["weights","guest","hour"] (aJ oG):=fP
theorem oS(T:Txt Pm mg):cD P w (Hd.K Pm) mg base CX0 1 42 Hd.jz ["weights","guest","hour"] (spD (Hd.K Pm) 3 gQ):=by
 refine cJ mh oR rfl λcdv A outer s H E hr=> ?_
 have sc:=oR
 have hu:=d9 hr
 have hu20:=bX hr
 refine a8 0 _ λv0=>a8 1 _ λv1=>a8 2 _ λv2=>a8 3 _ λv3=>a8 4 _ λv4=>ah 3 "found" λl3=>ah 4 "row" λl4=> ?_
 exact(ae (aA (i:=3) sc.nd rfl l3 fI)
 (ae (cE (l:=(some 0)) GaG rfl (fm (v0 _)) (aQ (i:=4) sc.nd rfl l4)
  (ay (bA (gx (aM (cf hu20) cg (af hu (v4 _) a6) (v1 _) (aK _)) (dX (aM tP ph (af hu (v4 _) a6) (v2 _) (aK _)))).pt
  (ay (aA (i:=3) sc.nd rfl l3 (af hu (v4 _) a6)))
  b6)))
 (ay (b4 (v3 _)))))
theorem Cp:aW ["marks","hours","rows","found","total","gone","k","row"] ["marks","hours"] (aJ Cn):=fP
theorem IE(T:Txt Pm mg):cD P w (Hd.K Pm) mg base CX0 1 49 Hd.vC ["marks","hours"] (spD (Hd.K Pm) 2 jQ):=by
 refine cJ Gf Cp rfl λcdv A outer s H E hr=> ?_
 have sc:=Cp
 have hu:=d9 hr
 have hu20:=bX hr
 refine a8 0 _ λv0=>a8 1 _ λv1=>a8 2 _ λv2=>a8 3 _ λv3=>a8 4 _ λv4=>a8 5 _ λv5=>a8 6 _ λv6=>a8 7 _ λv7=>ah 2 "rows" λl2=>ah 3 "found" λl3=>dF 3 "found" λw3=>ah 4 "total" λl4=>ah 5 "gone" λl5=>ah 6 "k" λl6=>ah 7 "row" λl7=>aC "enumerate" λg_enumerate=>aC "len" λg_len=>aC "sorted" λg_sorted=> ?_
 exact(ae (aA (i:=2) sc.nd rfl l2 (cq dY gC g_sorted T.km iU (a4 (v0 _) aa)))
 (ae (aA (i:=3) sc.nd rfl l3 (bP aa))
 (ae (aA (i:=4) sc.nd rfl l4 a6)
 (ae (aA (i:=5) sc.nd rfl l5 a6)
 (ae (cE (l:=(some 2)) GaG rfl (uZ g_enumerate T.mq (v2 _)) (lK rfl (bR (aQ (i:=6) sc.nd rfl l6) (bR (aQ (i:=7) sc.nd rfl l7) ju)))
  (ae (aA (i:=4) sc.nd rfl l4 (aB (v4 _) (af hu (v7 _) a6)))
 (ae (EB GaG (gx (aM uJ rh (v1 _) fI (aK _)) (dX (aM tP ph (af hu (af hu (v2 _) (v5 _)) a6) (j6 (af hu (v7 _) a6) (v1 _)) (aK _)))).pt
  (ae (aA (i:=4) sc.nd rfl l4 (j6 (v4 _) (af hu (af hu (v2 _) (v5 _)) a6)))
 (ay (aA (i:=5) sc.nd rfl l5 (aB (v5 _) a6)))))
 (ay (bA (rm (aM (cf hu20) cg (aB (v6 _) a6) (cq (cT.or bV) bW g_len T.jF fU (a4 (v2 _) aa)) (aK _)) (pj (aM mO jL (af hu (af hu (v2 _) (aB (v6 _) a6)) a6) (af hu (v7 _) a6) (aK _)))).pt
  (ay (br (i:=3) rfl w3 (aX (a4 (af hu (v7 _) a6) (a4 (v4 _) aa)))))
  b6)))))
 (ay (b4 (v3 _))))))))
theorem oT:aW ["stuff"] ["stuff"] (aJ jC):=fP
theorem oU(T:Txt Pm mg):cD P w (Hd.K Pm) mg base CX0 1 54 Hd.ff ["stuff"] (spD (Hd.K Pm) 1 f7):=by
 refine cJ kh oT rfl λcdv A outer s H E hr=> ?_
 have hu:=d9 hr
 have hu20:=bX hr
 refine a8 0 _ λv0=>aC "any" λg_any=> ?_
 exact(ay (b4 (cq (CW (by rfl)) CZ g_any T.Nb JT (a4 (o6 (N:=["cap"]) (l:=none) rfl (by exact⟨rfl,rfl,rfl,rfl,rfl,by decide,rfl,rfl⟩) (fm (af hu (v0 _) a6)) jX ⟨λ_ _ _ _ _=>(aQ (i:=0) (gX (by decide+kernel)) rfl (cM rfl) (gY rfl)),λ_ _ _ _ _=>iV,λ_ _ _ _ _=>(uT (cf (by exact hu20)) cg (af (by exact hu) (cK (i:=0) (hN:=rfl) (hv:=bz rfl)) a6) aZ (aK _))⟩) aa))))
theorem mv:aW ["world","weights","giving","number","hour","amount","order","stuff","kinds"] ["world","weights","giving"] (aJ m8):=fP
theorem sT(T:Txt Pm mg):cD P w (Hd.K Pm) mg base CX0 3 59 Hd.gI ["world","weights","giving"] (spD (Hd.K Pm) 3 fu):=by
 refine cJ n9 mv rfl λcdv A outer s H E hr=> ?_
 have sc:=mv
 have hu:=d9 hr
 have hu20:=bX hr
 refine a8 0 _ λv0=>a8 1 _ λv1=>a8 2 _ λv2=>a8 3 _ λv3=>a8 4 _ λv4=>a8 5 _ λv5=>a8 6 _ λv6=>a8 7 _ λv7=>a8 8 _ λv8=>ah 3 "number" λl3=>ah 4 "hour" λl4=>ah 5 "amount" λl5=>ah 6 "order" λl6=>ah 7 "stuff" λl7=>ah 8 "kinds" λl8=>dF 8 "kinds" λw8=>aC "astray" λg_astray=>aC "goes_by_weight" λg_goes_by_weight=>aC "weight_at" λg_weight_at=> ?_
 exact(ae (aA (i:=3) sc.nd rfl l3 (af hu (v2 _) a6))
 (ae (aA (i:=4) sc.nd rfl l4 (af hu (v2 _) a6))
 (ae (aA (i:=5) sc.nd rfl l5 (af hu (v2 _) a6))
 (ae (aA (i:=6) sc.nd rfl l6 (af hu (af hu (v0 _) a6) (v3 _)))
 (ae (aA (i:=7) sc.nd rfl l7 (af hu (af hu (v0 _) a6) (af hu (v6 _) a6)))
 (ae (aA (i:=8) sc.nd rfl l8 (bP aa))
 (ae (bA (nH (b7 (DK T) hr g_astray T.at Ak lQ (a4 (v6 _) (a4 (v4 _) aa)) (a7 (a7 ax))))
  (ay (br (i:=8) rfl w8 aZ))
  b6)
 (ae (bA (aM mO jL (v5 _) (af hu (af hu (v6 _) a6) a6) (aK _))
  (ay (br (i:=8) rfl w8 aZ))
  b6)
 (ae (bA (rm (aM lB j7 (v5 _) a6 (aK _)) (pj (aM (AN hu20) AO (lH (v5 _) (af hu (af hu (v7 _) a6) a6)) a6 (aK _)))).pt
  (ay (br (i:=8) rfl w8 aZ))
  b6)
 (ae (bA (gx (nH (b7 (oU T) hr g_goes_by_weight T.at kh dZ (a4 (v7 _) aa) (a7 ax))) (dX (aM qV nX (b7 (oS T) hr g_weight_at T.at mh gP (a4 (v1 _) (a4 (af hu (v6 _) a6) (a4 (v4 _) aa))) (a7 (a7 (a7 ax)))) fI (aK _)))).pt
  (ay (br (i:=8) rfl w8 aZ))
  b6)
 (ae (bA (aM lB j7 (v4 _) (aB (af hu (af hu (af hu (v0 _) a6) (af hu (v6 _) a6)) a6) (af hu (v7 _) a6)) (aK _))
  (ay (br (i:=8) rfl w8 aZ))
  b6)
 (ay (b4 (o6 (N:=["kind","number","hour"]) (l:=(some 8)) rfl (by exact⟨rfl,rfl,rfl,rfl,rfl,by decide,rfl,rfl⟩) (fm (v8 _)) jX ⟨λ_ _ _ _ _=>(aQ (i:=0) (gX (by decide+kernel)) rfl (cM rfl) (gY rfl)),λ_ _ _ _ _=>iV,λ_ _ _ _ _=>(aX (a4 (cK (i:=0) (hN:=rfl) (hv:=bz rfl)) (a4 (cK (i:=1) (hN:=rfl) (hv:=rD rfl)) (a4 (cK (i:=2) (hN:=rfl) (hv:=rD rfl)) aa))))⟩))))))))))))))
theorem jo:aW ["world","givings","found","giving","order"] ["world","givings"] (aJ jn):=fP
theorem nO(T:Txt Pm mg):cD P w (Hd.K Pm) mg base CX0 1 66 Hd.dM ["world","givings"] (spD (Hd.K Pm) 2 cW):=by
 refine cJ jE jo rfl λcdv A outer s H E hr=> ?_
 have sc:=jo
 have hu:=d9 hr
 refine a8 0 _ λv0=>a8 1 _ λv1=>a8 3 _ λv3=>a8 4 _ λv4=>ah 2 "found" λl2=> ?_
 exact(Dg (i:=2) sc.nd rfl l2 (by first|exact Or.inl rfl|exact Or.inr (Or.inl rfl)|exact Or.inr (Or.inr rfl)) (Kp (i:=2) (j:=3) GaG rfl (v1 _) sc.nd rfl (by first|exact Or.inl rfl|exact Or.inr rfl) (by decide) (Fw (Kn (i:=2) (j:=4) sc.nd rfl (by first|exact Or.inl rfl|exact Or.inr rfl) (by decide) (af hu (af hu (v0 _) a6) (af hu (v3 _) a6)))
 (HX (Ko (i:=2) hu rfl (by first|exact Or.inl rfl|exact Or.inr (Or.inl rfl)|exact Or.inr (Or.inr rfl)) (aX (a4 (af hu (v4 _) a6) (a4 (af hu (v4 _) a6) aa))) (aX (a4 (af hu (v3 _) a6) (a4 (af hu (v3 _) a6) aa))))))))
theorem nq:aW ["world","weights","givings","found","target","marks","guest","k","cap","hours","row","top"] ["world","weights","givings"] (aJ mX):=fP
theorem tf(T:Txt Pm mg):cD P w (Hd.K Pm) mg base CX0 2 73 Hd.iJ ["world","weights","givings"] (spD (Hd.K Pm) 3 fX):=by
 refine cJ oJ nq rfl λcdv A outer s H E hr=> ?_
 have sc:=nq
 have hu:=d9 hr
 have hu20:=bX hr
 refine a8 0 _ λv0=>a8 1 _ λv1=>a8 2 _ λv2=>a8 3 _ λv3=>a8 4 _ λv4=>a8 5 _ λv5=>a8 6 _ λv6=>a8 7 _ λv7=>a8 8 _ λv8=>a8 9 _ λv9=>a8 10 _ λv10=>a8 11 _ λv11=>ah 3 "found" λl3=>dF 3 "found" λw3=>ah 4 "target" λl4=>ah 5 "marks" λl5=>ah 6 "guest" λl6=>ah 7 "k" λl7=>ah 8 "cap" λl8=>ah 9 "hours" λl9=>ah 10 "row" λl10=>ah 11 "top" λl11=>aC "bound" λg_bound=>aC "enumerate" λg_enumerate=>aC "marks_by_target" λg_marks_by_target=>aC "sums" λg_sums=>aC "weight_at" λg_weight_at=> ?_
 exact(ae (aA (i:=3) sc.nd rfl l3 (bP aa))
 (ae (cE (l:=none) GaG rfl (Fb (b7 (nO T) hr g_marks_by_target T.at jE dI (a4 (v0 _) (a4 (v2 _) aa)) (a7 (a7 ax)))) (lK rfl (bR (aQ (i:=4) sc.nd rfl l4) (bR (aQ (i:=5) sc.nd rfl l5) ju)))
  (ae (aA (i:=6) sc.nd rfl l6 (af hu (v4 _) a6))
 (ay (cE (l:=none) GaG rfl (uZ g_enumerate T.mq (af hu (af hu (af hu (v0 _) a6) (af hu (v4 _) a6)) a6)) (lK rfl (bR (aQ (i:=7) sc.nd rfl l7) (bR (aQ (i:=8) sc.nd rfl l8) ju)))
  (ae (aA (i:=9) sc.nd rfl l9 (Ew (aM (cf hu20) cg (af hu (v8 _) a6) aZ (aK _)) fI (af hu (v8 _) a6)))
 (ay (cE (l:=none) GaG rfl (fm (b7 (IE T) hr g_sums T.at Gf rX (a4 (v5 _) (a4 (v9 _) aa)) (a7 (a7 ax)))) (aQ (i:=10) sc.nd rfl l10)
  (ae (aA (i:=11) sc.nd rfl l11 (b7 (Gh T) hr g_bound T.at Co kD (a4 (v8 _) (a4 (b7 (oS T) hr g_weight_at T.at mh gP (a4 (v1 _) (a4 (v6 _) (a4 (af hu (v10 _) a6) aa))) (a7 (a7 (a7 ax)))) aa)) (a7 (a7 ax))))
 (ay (bA (gx (aM uJ rh (v11 _) fI (aK _)) (dX (aM mO jL (af hu (v10 _) a6) (v11 _) (aK _)))).pt
  (ay (br (i:=3) rfl w3 (aX (a4 aZ (a4 (v6 _) (a4 (af hu (v4 _) a6) (a4 (v7 _) (a4 (af hu (v10 _) a6) (a4 (af hu (v10 _) a6) (a4 (v11 _) aa))))))))))
  b6))))))))))
 (ay (b4 (v3 _)))))
theorem jH:aW ["bars","gaps","bar"] ["bars"] (aJ jD):=fP
theorem oV(T:Txt Pm mg):cD P w (Hd.K Pm) mg base CX0 1 80 Hd.fg ["bars"] (spD (Hd.K Pm) 1 fb):=by
 refine cJ kl jH rfl λcdv A outer s H E hr=> ?_
 have sc:=jH
 have hu:=d9 hr
 refine a8 0 _ λv0=>a8 1 _ λv1=>a8 2 _ λv2=>ah 1 "gaps" λl1=>ah 2 "bar" λl2=> ?_
 exact(ae (aA (i:=1) sc.nd rfl l1 o8)
 (ae (cE (l:=(some 0)) GaG rfl (fm (v0 _)) (aQ (i:=2) sc.nd rfl l2)
  (ae (pA (i:=1) hu rfl (by first|exact Or.inl rfl|exact Or.inr (Or.inl rfl)|exact Or.inr (Or.inr rfl)) (aX (a4 (af hu (v2 _) a6) (a4 (af hu (v2 _) a6) aa))) (af hu (v2 _) a6))
 (ay (pA (i:=1) hu rfl (by first|exact Or.inl rfl|exact Or.inr (Or.inl rfl)|exact Or.inr (Or.inr rfl)) (aX (a4 (af hu (v2 _) a6) (a4 (af hu (v2 _) a6) aa))) (af hu (v2 _) a6)))))
 (ay (b4 (v1 _)))))
theorem sU:aW ["gaps","order","other"] ["gaps","order","other"] (aJ m9):=fP
theorem sV(T:Txt Pm mg):cD P w (Hd.K Pm) mg base CX0 1 87 Hd.gJ ["gaps","order","other"] (spD (Hd.K Pm) 3 gF):=by
 refine cJ nh sU rfl λcdv A outer s H E hr=> ?_
 have hu:=d9 hr
 have hu20:=bX hr
 refine a8 0 _ λv0=>a8 1 _ λv1=>a8 2 _ λv2=> ?_
 exact(ae (bA (aM (AN hu20) AO (af hu (v1 _) a6) (af hu (v2 _) a6) (aK _))
  (ay (b4 a6))
  b6)
 (ay (b4 (BY hu (v0 _) (aX (a4 (af hu (v1 _) a6) (a4 (af hu (v2 _) a6) aa))) a6 ⟨rfl,rfl,rfl,rfl⟩))))
theorem nr:aW ["world","givings","gaps","widest","rows","found","k","row","later","apart"] ["world","givings"] (aJ mY):=fP
theorem tm(T:Txt Pm mg):cD P w (Hd.K Pm) mg base CX0 2 92 Hd.iK ["world","givings"] (spD (Hd.K Pm) 2 fY):=by
 refine cJ oK nr rfl λcdv A outer s H E hr=> ?_
 have sc:=nr
 have hu:=d9 hr
 refine a8 0 _ λv0=>a8 1 _ λv1=>a8 2 _ λv2=>a8 3 _ λv3=>a8 4 _ λv4=>a8 5 _ λv5=>a8 6 _ λv6=>a8 7 _ λv7=>a8 8 _ λv8=>a8 9 _ λv9=>ah 2 "gaps" λl2=>ah 3 "widest" λl3=>ah 4 "rows" λl4=>ah 5 "found" λl5=>dF 5 "found" λw5=>ah 6 "k" λl6=>ah 7 "row" λl7=>ah 8 "later" λl8=>ah 9 "apart" λl9=>aC "enumerate" λg_enumerate=>aC "gap_between" λg_gap_between=>aC "gaps_by_stuffs" λg_gaps_by_stuffs=>aC "max" λg_max=>aC "sorted" λg_sorted=> ?_
 exact(ae (aA (i:=2) sc.nd rfl l2 (b7 (oV T) hr g_gaps_by_stuffs T.at kl f9 (a4 (af hu (v0 _) a6) aa) (a7 ax)))
 (ae (aA (i:=3) sc.nd rfl l3 (HF rfl g_max T.IZ (o6 (N:=["bar"]) (l:=none) rfl (by exact⟨rfl,rfl,rfl,rfl,rfl,by decide,rfl,rfl⟩) (fm (af hu (v0 _) a6)) jX ⟨λ_ _ _ _ _=>(aQ (i:=0) (gX (by decide+kernel)) rfl (cM rfl) (gY rfl)),λ_ _ _ _ _=>iV,λ_ _ _ _ _=>(af (by exact hu) (cK (i:=0) (hN:=rfl) (hv:=bz rfl)) a6)⟩) DU (λ_ _ _=> .int _) rfl))
 (ae (aA (i:=4) sc.nd rfl l4 (cq dY gC g_sorted T.km iU (a4 (o6 (N:=["giving"]) (l:=(some 1)) rfl (by exact⟨rfl,rfl,rfl,rfl,rfl,by decide,rfl,rfl⟩) (fm (v1 _)) jX ⟨λ_ _ _ _ _=>(aQ (i:=0) (gX (by decide+kernel)) rfl (cM rfl) (gY rfl)),λ_ _ _ _ _=>iV,λ_ _ _ _ _=>(aX (a4 (af (by exact hu) (cK (i:=0) (hN:=rfl) (hv:=bz rfl)) a6) (a4 (af (by exact hu) (cK (i:=0) (hN:=rfl) (hv:=bz rfl)) a6) aa)))⟩) aa)))
 (ae (aA (i:=5) sc.nd rfl l5 (bP aa))
 (ae (cE (l:=(some 4)) GaG rfl (uZ g_enumerate T.mq (v4 _)) (lK rfl (bR (aQ (i:=6) sc.nd rfl l6) (bR (aQ (i:=7) sc.nd rfl l7) ju)))
  (ay (cE (l:=none) GaG rfl (fm (wz (v4 _) (ug (aB (v6 _) a6)) uf)) (aQ (i:=8) sc.nd rfl l8)
  (ae (aA (i:=9) sc.nd rfl l9 (j6 (af hu (v8 _) a6) (af hu (v7 _) a6)))
 (ae (bA (aM LC JO (v9 _) (v3 _) (aK _))
  (ay EA)
  b6)
 (ay (bA (aM lB j7 (v9 _) (b7 (sV T) hr g_gap_between T.at nh gE (a4 (v2 _) (a4 (af hu (af hu (v0 _) a6) (af hu (v7 _) a6)) (a4 (af hu (af hu (v0 _) a6) (af hu (v8 _) a6)) aa))) (a7 (a7 (a7 ax)))) (aK _))
  (ay (br (i:=5) rfl w5 (aX (a4 aZ (a4 (af hu (v7 _) a6) (a4 (af hu (v7 _) a6) (a4 (af hu (v8 _) a6) (a4 (af hu (v8 _) a6) aa))))))))
  b6)))))))
 (ay (b4 (v5 _))))))))
theorem lh:aW ["world","givings","counts","giving","k"] ["world","givings"] (aJ kZ):=fP
theorem qK(T:Txt Pm mg):cD P w (Hd.K Pm) mg base CX0 2 97 Hd.gn ["world","givings"] (spD (Hd.K Pm) 2 dS):=by
 refine cJ mj lh rfl λcdv A outer s H E hr=> ?_
 have sc:=lh
 have hu:=d9 hr
 refine a8 0 _ λv0=>a8 1 _ λv1=>a8 2 _ λv2=>a8 3 _ λv3=>a8 4 _ λv4=>ah 2 "counts" λl2=>dF 2 "counts" λw2=>ah 3 "giving" λl3=>ah 4 "k" λl4=>aC "due_of" λg_due_of=> ?_
 exact(ae (aA (i:=2) sc.nd rfl l2 o8)
 (ae (cE (l:=(some 1)) GaG rfl (fm (v1 _)) (aQ (i:=3) sc.nd rfl l3)
  (ae (aA (i:=4) sc.nd rfl l4 (b7 (uE T) hr g_due_of T.at sO k7 (a4 (af hu (af hu (v0 _) a6) (af hu (v3 _) a6)) (a4 (af hu (v3 _) a6) aa)) (a7 (a7 ax))))
 (ay (bA (aM uJ rh (v4 _) fI (aK _))
  (ay (pA (i:=2) hu rfl (by first|exact Or.inl rfl|exact Or.inr (Or.inl rfl)|exact Or.inr (Or.inr rfl)) (aX (a4 (af hu (v3 _) a6) (a4 (v4 _) aa))) (aB (BY hu (v2 _) (aX (a4 (af hu (v3 _) a6) (a4 (v4 _) aa))) a6 ⟨rfl,rfl,rfl,rfl⟩) a6)))
  b6))))
 (ay (b4 (kC (N:=["due","many"]) (i:=2) rfl w2 rfl (by exact⟨rfl,rfl,rfl,rfl,rfl,by decide,rfl,rfl⟩) rF ⟨λ_ _ _ _ _=>(lK rfl (bR (aQ (i:=0) (gX (by decide+kernel)) rfl (cM rfl) (gY rfl)) (bR (aQ (i:=1) (gX (by decide+kernel)) rfl (cM rfl) (gY rfl)) ju))),λ_ _ _ _ _=>(pw (aM mO jL (cK (i:=1) (hN:=rfl) (hv:=bz rfl)) a6 (aK _))),λ_ _ _ _ _=>(aX (a4 aZ (a4 (af (by exact hu) (cK (i:=0) (hN:=rfl) (hv:=bz rfl)) a6) (a4 (af (by exact hu) (cK (i:=0) (hN:=rfl) (hv:=bz rfl)) a6) aa))))⟩)))))
theorem uG:aW ["world","book","weights","givings","found","giving"] ["world","book"] (aJ uB):=fP
theorem DP(T:Txt Pm mg):cD P w (Hd.K Pm) mg base CX0 4 104 Hd.oF ["world","book"] (spD (Hd.K Pm) 2 lS):=by
 refine cJ Al uG rfl λcdv A outer s H E hr=> ?_
 have sc:=uG
 have hu:=d9 hr
 refine a8 0 _ λv0=>a8 1 _ λv1=>a8 2 _ λv2=>a8 3 _ λv3=>a8 4 _ λv4=>a8 5 _ λv5=>ah 2 "weights" λl2=>ah 3 "givings" λl3=>ah 4 "found" λl4=>dF 4 "found" λw4=>ah 5 "giving" λl5=>aC "cap_faults" λg_cap_faults=>aC "gap_faults" λg_gap_faults=>aC "lone_faults" λg_lone_faults=>aC "sorted" λg_sorted=>aC "twice_faults" λg_twice_faults=> ?_
 exact(ae (aA (i:=2) sc.nd rfl l2 (af hu (v1 _) a6))
 (ae (aA (i:=3) sc.nd rfl l3 (af hu (v1 _) a6))
 (ae (aA (i:=4) sc.nd rfl l4 (aB (aB (b7 (tf T) hr g_cap_faults T.at oJ iq (a4 (v0 _) (a4 (v2 _) (a4 (v3 _) aa))) (a7 (a7 (a7 ax)))) (b7 (tm T) hr g_gap_faults T.at oK iz (a4 (v0 _) (a4 (v3 _) aa)) (a7 (a7 ax)))) (b7 (qK T) hr g_twice_faults T.at mj fZ (a4 (v0 _) (a4 (v3 _) aa)) (a7 (a7 ax)))))
 (ae (cE (l:=(some 3)) GaG rfl (fm (v3 _)) (aQ (i:=5) sc.nd rfl l5)
  (ay (CU (i:=4) rfl w4 (b7 (sT T) hr g_lone_faults T.at n9 gD (a4 (v0 _) (a4 (v2 _) (a4 (v5 _) aa))) (a7 (a7 (a7 ax)))))))
 (ay (b4 (cq dY jP g_sorted T.km iU (a4 (v4 _) aa))))))))
theorem qx:aW ["_law_script","_law_k","_law_many","_law_cell"] ["_law_script","_law_k","_law_many"] (aJ ql):=fP
theorem ak(T:Txt Pm mg):cD P w (Hd.K Pm) mg base CX0 1 111 Hd.kQ ["_law_script","_law_k","_law_many"] (spD (Hd.K Pm) 3 a9):=by
 refine cJ au qx rfl λcdv A outer s H E hr=> ?_
 have sc:=qx
 have hu:=d9 hr
 refine a8 0 _ λv0=>a8 1 _ λv1=>a8 2 _ λv2=>a8 3 _ λv3=>ah 3 "_law_cell" λl3=>aC "len" λg_len=> ?_
 exact(ae (aA (i:=3) sc.nd rfl l3 a6)
 (ae (bA (aM mO jL (cq (cT.or bV) bW g_len T.jF fU (a4 (v0 _) aa)) a6 (aK _))
  (ay (aA (i:=3) sc.nd rfl l3 (lH (af hu (v0 _) (lH (v1 _) (cq (cT.or bV) bW g_len T.jF fU (a4 (v0 _) aa)))) a6)))
  b6)
 (ay (b4 (lH (mE (lH (bw (lH (bw (aB (v3 _) a6) (aB (aB (bw (v1 _) (v1 _)) (v1 _)) a6)) a6) a6) a6) a6) (v2 _))))))
theorem qy:aW ["_law_script","_law_k","_law_part","_law_scale","_law_caps_here","_law_c","_law_at","_law_hours","_law_kind","_law_top"] ["_law_script","_law_k","_law_part","_law_scale"] (aJ qp):=fP
theorem Am(T:Txt Pm mg):cD P w (Hd.K Pm) mg base CX0 2 118 Hd.kR ["_law_script","_law_k","_law_part","_law_scale"] (spD (Hd.K Pm) 4 jd):=by
 refine cJ sP qy rfl λcdv A outer s H E hr=> ?_
 have sc:=qy
 have hu:=d9 hr
 have hu20:=bX hr
 refine a8 0 _ λv0=>a8 1 _ λv1=>a8 2 _ λv2=>a8 3 _ λv3=>a8 4 _ λv4=>a8 5 _ λv5=>a8 6 _ λv6=>a8 7 _ λv7=>a8 8 _ λv8=>a8 9 _ λv9=>ah 4 "_law_caps_here" λl4=>dF 4 "_law_caps_here" λw4=>ah 5 "_law_c" λl5=>ah 6 "_law_at" λl6=>ah 7 "_law_hours" λl7=>ah 8 "_law_kind" λl8=>ah 9 "_law_top" λl9=>aC "_law_draw" λaj=>aC "range" λg_range=>aC "tuple" λg_tuple=> ?_
 exact(ae (aA (i:=4) sc.nd rfl l4 (bP aa))
 (ae (cE (l:=none) GaG rfl (fM g_range T.iR (af hu (bP (a4 a6 (a4 a6 (a4 a6 (a4 a6 (a4 a6 (a4 a6 aa))))))) (b7 (ak T) hr aj T.at au aq (a4 (v0 _) (a4 (v1 _) (a4 a6 aa))) (a7 (a7 (a7 ax)))))) (aQ (i:=5) sc.nd rfl l5)
  (ae (aA (i:=6) sc.nd rfl l6 (aB (aB (v1 _) a6) (bw a6 (v5 _))))
 (ae (aA (i:=7) sc.nd rfl l7 (bw (v3 _) (aB a6 (b7 (ak T) hr aj T.at au aq (a4 (v0 _) (a4 (v6 _) (a4 a6 aa))) (a7 (a7 (a7 ax)))))))
 (ae (aA (i:=8) sc.nd rfl l8 (b7 (ak T) hr aj T.at au aq (a4 (v0 _) (a4 (aB (v6 _) a6) (a4 a6 aa))) (a7 (a7 (a7 ax)))))
 (ae (bA (aM (cf hu20) cg (v8 _) a6 (aK _))
  (ay (br (i:=4) rfl w4 (aX (a4 aZ (a4 (v7 _) (a4 (bw (v2 _) (aB a6 (b7 (ak T) hr aj T.at au aq (a4 (v0 _) (a4 (aB (v6 _) a6) (a4 a6 aa))) (a7 (a7 (a7 ax)))))) aa))))))
  b6)
 (ae (bA (aM (cf hu20) cg (v8 _) a6 (aK _))
  (ae (aA (i:=9) sc.nd rfl l9 (bw (v2 _) (aB a6 (b7 (ak T) hr aj T.at au aq (a4 (v0 _) (a4 (aB (v6 _) a6) (a4 a6 aa))) (a7 (a7 (a7 ax)))))))
 (ay (br (i:=4) rfl w4 (aX (a4 aZ (a4 (v7 _) (a4 (v9 _) (a4 (aB a6 (b7 (ak T) hr aj T.at au aq (a4 (v0 _) (a4 (aB (v6 _) a6) (a4 a6 aa))) (a7 (a7 (a7 ax))))) aa))))))))
  b6)
 (ay (bA (aM (cf hu20) cg (v8 _) a6 (aK _))
  (ay (br (i:=4) rfl w4 (aX (a4 aZ (a4 (bw (v2 _) (aB a6 (b7 (ak T) hr aj T.at au aq (a4 (v0 _) (a4 (aB (v6 _) a6) (a4 a6 aa))) (a7 (a7 (a7 ax)))))) aa)))))
  b6))))))))
 (ay (b4 (j8 cY dR g_tuple T.jG gM (a4 (v4 _) aa))))))
theorem nu:aW ["_law_script","_law_scale","_law_stuffs_here","_law_s","_law_k","_law_part","_law_sizes","_law_young"] ["_law_script","_law_scale"] (aJ mZ):=fP
theorem tq(T:Txt Pm mg):cD P w (Hd.K Pm) mg base CX0 3 125 Hd.iL ["_law_script","_law_scale"] (spD (Hd.K Pm) 2 g8):=by
 refine cJ oM nu rfl λcdv A outer s H E hr=> ?_
 have sc:=nu
 have hu:=d9 hr
 refine a8 0 _ λv0=>a8 1 _ λv1=>a8 2 _ λv2=>a8 3 _ λv3=>a8 4 _ λv4=>a8 5 _ λv5=>a8 6 _ λv6=>a8 7 _ λv7=>ah 2 "_law_stuffs_here" λl2=>dF 2 "_law_stuffs_here" λw2=>ah 3 "_law_s" λl3=>ah 4 "_law_k" λl4=>ah 5 "_law_part" λl5=>ah 6 "_law_sizes" λl6=>ah 7 "_law_young" λl7=>aC "_law_caps" λBo=>aC "_law_draw" λaj=>aC "range" λg_range=>aC "tuple" λg_tuple=> ?_
 exact(ae (aA (i:=2) sc.nd rfl l2 (bP aa))
 (ae (cE (l:=none) GaG rfl (fM g_range T.iR (af hu (bP (a4 a6 (a4 a6 (a4 a6 (a4 a6 (a4 a6 (a4 a6 aa))))))) (b7 (ak T) hr aj T.at au aq (a4 (v0 _) (a4 a6 (a4 a6 aa))) (a7 (a7 (a7 ax)))))) (aQ (i:=3) sc.nd rfl l3)
  (ae (aA (i:=4) sc.nd rfl l4 (aB a6 (bw a6 (v3 _))))
 (ae (aA (i:=5) sc.nd rfl l5 (af hu (bP (a4 a6 (a4 a6 (a4 a6 (a4 a6 (a4 (lI a6 a6) aa)))))) (b7 (ak T) hr aj T.at au aq (a4 (v0 _) (a4 (v4 _) (a4 a6 aa))) (a7 (a7 (a7 ax))))))
 (ae (aA (i:=6) sc.nd rfl l6 (af hu (bP (a4 (aX (a4 (v5 _) aa)) (a4 (aX (a4 (v5 _) (a4 (bw a6 (v5 _)) aa))) (a4 (aX (a4 (v5 _) (a4 (bw a6 (v5 _)) (a4 (bw a6 (v5 _)) aa)))) aa)))) (b7 (ak T) hr aj T.at au aq (a4 (v0 _) (a4 (aB (v4 _) a6) (a4 a6 aa))) (a7 (a7 (a7 ax))))))
 (ae (aA (i:=7) sc.nd rfl l7 (bw (af hu (bP (a4 a6 (a4 (v1 _) aa))) (b7 (ak T) hr aj T.at au aq (a4 (v0 _) (a4 (aB (v4 _) a6) (a4 a6 aa))) (a7 (a7 (a7 ax))))) (b7 (ak T) hr aj T.at au aq (a4 (v0 _) (a4 (aB (v4 _) a6) (a4 a6 aa))) (a7 (a7 (a7 ax))))))
 (ay (br (i:=2) rfl w2 (aX (a4 (aB aZ (af hu aZ (v3 _))) (a4 (v6 _) (a4 (b7 (Am T) hr Bo T.at sP kH (a4 (v0 _) (a4 (aB (v4 _) a6) (a4 (v5 _) (a4 (v1 _) aa)))) (a7 (a7 (a7 (a7 ax))))) (a4 (v7 _) aa))))))))))))
 (ay (b4 (j8 cY dR g_tuple T.jG gM (a4 (v2 _) aa))))))
theorem qz:aW ["_law_script","_law_many","_law_scale","_law_bars_here","_law_i","_law_j","_law_k","_law_one"] ["_law_script","_law_many","_law_scale"] (aJ qq):=fP
theorem An(T:Txt Pm mg):cD P w (Hd.K Pm) mg base CX0 2 132 Hd.kS ["_law_script","_law_many","_law_scale"] (spD (Hd.K Pm) 3 je):=by
 refine cJ sQ qz rfl λcdv A outer s H E hr=> ?_
 have sc:=qz
 have hu20:=bX hr
 refine a8 0 _ λv0=>a8 1 _ λv1=>a8 2 _ λv2=>a8 3 _ λv3=>a8 4 _ λv4=>a8 5 _ λv5=>a8 6 _ λv6=>a8 7 _ λv7=>ah 3 "_law_bars_here" λl3=>dF 3 "_law_bars_here" λw3=>ah 4 "_law_i" λl4=>ah 5 "_law_j" λl5=>ah 6 "_law_k" λl6=>ah 7 "_law_one" λl7=>aC "_law_draw" λaj=>aC "len" λg_len=>aC "range" λg_range=>aC "tuple" λg_tuple=> ?_
 exact(ae (aA (i:=3) sc.nd rfl l3 (bP aa))
 (ae (cE (l:=none) GaG rfl (fM g_range T.iR (v1 _)) (aQ (i:=4) sc.nd rfl l4)
  (ay (cE (l:=none) GaG rfl (CT g_range T.iR (v4 _) (v1 _)) (aQ (i:=5) sc.nd rfl l5)
  (ae (aA (i:=6) sc.nd rfl l6 (aB (aB a6 (bw a6 (v4 _))) (bw a6 (v5 _))))
 (ay (bA (gx (aM lB j7 (cq (cT.or bV) bW g_len T.jF fU (a4 (v3 _) aa)) a6 (aK _)) (dX (aM (cf hu20) cg (b7 (ak T) hr aj T.at au aq (a4 (v0 _) (a4 (v6 _) (a4 a6 aa))) (a7 (a7 (a7 ax)))) a6 (aK _)))).pt
  (ae (aA (i:=7) sc.nd rfl l7 (aX (a4 (v4 _) (a4 (v5 _) (a4 (bw (v2 _) (aB a6 (b7 (ak T) hr aj T.at au aq (a4 (v0 _) (a4 (aB (v6 _) a6) (a4 a6 aa))) (a7 (a7 (a7 ax)))))) aa)))))
 (ay (D5 (i:=3) rfl w3 (b7 (ak T) hr aj T.at au aq (a4 (v0 _) (a4 (aB (v6 _) a6) (a4 (aB (cq (cT.or bV) bW g_len T.jF fU (a4 (v3 _) aa)) a6) aa))) (a7 (a7 (a7 ax)))) (v7 _))))
  b6))))))
 (ay (b4 (j8 cY dR g_tuple T.jG gM (a4 (v3 _) aa))))))
theorem qA:aW ["_law_script","_law_k","_law_scale","_law_every","_law_early","_law_late","_law_begin"] ["_law_script","_law_k","_law_scale"] (aJ qr):=fP
theorem Ao(T:Txt Pm mg):cD P w (Hd.K Pm) mg base CX0 2 139 Hd.kT ["_law_script","_law_k","_law_scale"] (spD (Hd.K Pm) 3 jg):=by
 refine cJ sR qA rfl λcdv A outer s H E hr=> ?_
 have sc:=qA
 have hu:=d9 hr
 have hu20:=bX hr
 refine a8 0 _ λv0=>a8 1 _ λv1=>a8 2 _ λv2=>a8 3 _ λv3=>a8 4 _ λv4=>a8 5 _ λv5=>a8 6 _ λv6=>ah 3 "_law_every" λl3=>ah 4 "_law_early" λl4=>ah 5 "_law_late" λl5=>ah 6 "_law_begin" λl6=>aC "_law_draw" λaj=> ?_
 exact(ae (bA (aM (cf hu20) cg (b7 (ak T) hr aj T.at au aq (a4 (v0 _) (a4 (v1 _) (a4 a6 aa))) (a7 (a7 (a7 ax)))) a6 (aK _))
  (ay (b4 (aX (a4 aZ (a4 (bw (v2 _) (b7 (ak T) hr aj T.at au aq (a4 (v0 _) (a4 (aB (v1 _) a6) (a4 a6 aa))) (a7 (a7 (a7 ax))))) aa)))))
  b6)
 (ae (aA (i:=3) sc.nd rfl l3 (bw (v2 _) (aB a6 (b7 (ak T) hr aj T.at au aq (a4 (v0 _) (a4 (aB (v1 _) a6) (a4 a6 aa))) (a7 (a7 (a7 ax)))))))
 (ae (aA (i:=4) sc.nd rfl l4 (bw (v2 _) (b7 (ak T) hr aj T.at au aq (a4 (v0 _) (a4 (aB (v1 _) a6) (a4 (mE (v3 _) (v2 _)) aa))) (a7 (a7 (a7 ax))))))
 (ae (aA (i:=5) sc.nd rfl l5 (bw (v2 _) (b7 (ak T) hr aj T.at au aq (a4 (v0 _) (a4 (aB (v1 _) a6) (a4 (mE (j6 (v3 _) (v4 _)) (v2 _)) aa))) (a7 (a7 (a7 ax))))))
 (ae (aA (i:=6) sc.nd rfl l6 (aB (v4 _) (bw (v2 _) (b7 (ak T) hr aj T.at au aq (a4 (v0 _) (a4 (aB (v1 _) a6) (a4 a6 aa))) (a7 (a7 (a7 ax)))))))
 (ay (b4 (aX (a4 aZ (a4 (v6 _) (a4 (v3 _) (a4 (af hu (bP (a4 a6 (a4 a6 (a4 a6 (a4 a6 (a4 a6 aa)))))) (b7 (ak T) hr aj T.at au aq (a4 (v0 _) (a4 (aB (v1 _) a6) (a4 a6 aa))) (a7 (a7 (a7 ax))))) (a4 (v4 _) (a4 (v5 _) aa))))))))))))))
theorem oW:aW ["_law_script","_law_scale","_law_guests","_law_g","_law_stuffs_here","_law_orders","_law_r","_law_k","_law_stuff","_law_most","_law_rule","_law_dues_here","_law_tapers"] ["_law_script"] (aJ oH):=fP
theorem vD(T:Txt Pm mg):cD P w (Hd.K Pm) mg base CX0 4 146 Hd.jA ["_law_script"] (spD (Hd.K Pm) 1 gS):=by
 refine cJ qu oW rfl λcdv A outer s H E hr=> ?_
 have sc:=oW
 have hu:=d9 hr
 have hu20:=bX hr
 refine a8 0 _ λv0=>a8 1 _ λv1=>a8 2 _ λv2=>a8 3 _ λv3=>a8 4 _ λv4=>a8 5 _ λv5=>a8 6 _ λv6=>a8 7 _ λv7=>a8 8 _ λv8=>a8 9 _ λv9=>a8 10 _ λv10=>a8 11 _ λv11=>a8 12 _ λv12=>ah 1 "_law_scale" λl1=>ah 2 "_law_guests" λl2=>dF 2 "_law_guests" λw2=>ah 3 "_law_g" λl3=>ah 4 "_law_stuffs_here" λl4=>ah 5 "_law_orders" λl5=>dF 5 "_law_orders" λw5=>ah 6 "_law_r" λl6=>ah 7 "_law_k" λl7=>ah 8 "_law_stuff" λl8=>ah 9 "_law_most" λl9=>ah 10 "_law_rule" λl10=>ah 11 "_law_dues_here" λl11=>ah 12 "_law_tapers" λl12=>aC "_law_bars" λBp=>aC "_law_draw" λaj=>aC "_law_dues" λBn=>aC "_law_stuffs" λvK=>aC "len" λg_len=>aC "range" λg_range=>aC "tuple" λg_tuple=> ?_
 exact(ae (aA (i:=1) sc.nd rfl l1 (af hu (bP (a4 a6 (a4 a6 (a4 a6 (a4 a6 (a4 a6 (a4 (lI a6 a6) aa))))))) (b7 (ak T) hr aj T.at au aq (a4 (v0 _) (a4 a6 (a4 a6 aa))) (a7 (a7 (a7 ax))))))
 (ae (aA (i:=2) sc.nd rfl l2 (bP aa))
 (ae (cE (l:=none) GaG rfl (fM g_range T.iR (af hu (bP (a4 a6 (a4 a6 (a4 a6 (a4 a6 (a4 a6 (a4 a6 aa))))))) (b7 (ak T) hr aj T.at au aq (a4 (v0 _) (a4 a6 (a4 a6 aa))) (a7 (a7 (a7 ax)))))) (aQ (i:=3) sc.nd rfl l3)
  (ay (br (i:=2) rfl w2 (aX (a4 (aB aZ (af hu aZ (v3 _))) (a4 (bw (v1 _) (b7 (ak T) hr aj T.at au aq (a4 (v0 _) (a4 (aB a6 (v3 _)) (a4 a6 aa))) (a7 (a7 (a7 ax))))) aa))))))
 (ae (aA (i:=4) sc.nd rfl l4 (b7 (tq T) hr vK T.at oM iA (a4 (v0 _) (a4 (v1 _) aa)) (a7 (a7 ax))))
 (ae (aA (i:=5) sc.nd rfl l5 (bP aa))
 (ae (cE (l:=none) GaG rfl (fM g_range T.iR (af hu (bP (a4 a6 (a4 a6 (a4 a6 (a4 a6 (a4 a6 (a4 a6 aa))))))) (b7 (ak T) hr aj T.at au aq (a4 (v0 _) (a4 a6 (a4 a6 aa))) (a7 (a7 (a7 ax)))))) (aQ (i:=6) sc.nd rfl l6)
  (ae (aA (i:=7) sc.nd rfl l7 (aB a6 (bw a6 (v6 _))))
 (ae (aA (i:=8) sc.nd rfl l8 (b7 (ak T) hr aj T.at au aq (a4 (v0 _) (a4 (v7 _) (a4 (cq (cT.or bV) bW g_len T.jF fU (a4 (v4 _) aa)) aa))) (a7 (a7 (a7 ax)))))
 (ae (aA (i:=9) sc.nd rfl l9 (bw (af hu (af hu (af hu (v4 _) (v8 _)) a6) a6) (af hu (bP (a4 a6 (a4 a6 (a4 a6 aa)))) (b7 (ak T) hr aj T.at au aq (a4 (v0 _) (a4 (aB (v7 _) a6) (a4 a6 aa))) (a7 (a7 (a7 ax)))))))
 (ae (aA (i:=10) sc.nd rfl l10 (aX (a4 (af hu (bP (a4 aZ (a4 aZ (a4 aZ aa)))) (lH (v6 _) a6)) (a4 (aB a6 (b7 (ak T) hr aj T.at au aq (a4 (v0 _) (a4 (aB (v7 _) a6) (a4 a6 aa))) (a7 (a7 (a7 ax))))) (a4 (b7 (ak T) hr aj T.at au aq (a4 (v0 _) (a4 (aB (v7 _) a6) (a4 a6 aa))) (a7 (a7 (a7 ax)))) (a4 (v9 _) aa))))))
 (ae (aA (i:=11) sc.nd rfl l11 (b7 (Ao T) hr Bn T.at sR jf (a4 (v0 _) (a4 (aB (v7 _) a6) (a4 (v1 _) aa))) (a7 (a7 (a7 ax)))))
 (ae (aA (i:=12) sc.nd rfl l12 (aX aa))
 (ae (bA (gx (aM (cf hu20) cg (af hu (v11 _) a6) aZ (aK _)) (dX (aM mO jL (af hu (v11 _) a6) a6 (aK _)))).pt
  (ay (aA (i:=12) sc.nd rfl l12 (aX (a4 (aX (a4 a6 (a4 a6 (a4 a6 aa)))) (a4 (aX (a4 a6 (a4 a6 (a4 a6 aa)))) aa)))))
  b6)
 (ay (br (i:=5) rfl w5 (aX (a4 (aB aZ (af hu aZ (v6 _))) (a4 (b7 (ak T) hr aj T.at au aq (a4 (v0 _) (a4 (aB (v7 _) a6) (a4 (cq (cT.or bV) bW g_len T.jF fU (a4 (v2 _) aa)) aa))) (a7 (a7 (a7 ax)))) (a4 (v8 _) (a4 (v10 _) (a4 (v11 _) (a4 (v12 _) aa)))))))))))))))))
 (ay (b4 (aX (a4 (j8 cY dR g_tuple T.jG gM (a4 (v2 _) aa)) (a4 (v4 _) (a4 (b7 (An T) hr Bp T.at sQ kI (a4 (v0 _) (a4 (cq (cT.or bV) bW g_len T.jF fU (a4 (v4 _) aa)) (a4 (v1 _) aa))) (a7 (a7 (a7 ax)))) (a4 (j8 cY dR g_tuple T.jG gM (a4 (v5 _) aa)) aa)))))))))))))
theorem qB:aW ["_law_script","_law_world_here","_law_order","_law_k","_law_scale","_law_dues_here","_law_hour_here","_law_near","_law_ends"] ["_law_script","_law_world_here","_law_order","_law_k"] (aJ qt):=fP
theorem Ap(T:Txt Pm mg):cD P w (Hd.K Pm) mg base CX0 2 153 Hd.kU ["_law_script","_law_world_here","_law_order","_law_k"] (spD (Hd.K Pm) 4 jh):=by
 refine cJ sS qB rfl λcdv A outer s H E hr=> ?_
 have sc:=qB
 have hu:=d9 hr
 have hu20:=bX hr
 refine a8 0 _ λv0=>a8 1 _ λv1=>a8 2 _ λv2=>a8 3 _ λv3=>a8 4 _ λv4=>a8 5 _ λv5=>a8 6 _ λv6=>a8 7 _ λv7=>a8 8 _ λv8=>ah 4 "_law_scale" λl4=>ah 5 "_law_dues_here" λl5=>ah 6 "_law_hour_here" λl6=>ah 7 "_law_near" λl7=>ah 8 "_law_ends" λl8=>aC "_law_draw" λaj=>aC "max" λg_max=>aC "min" λg_min=> ?_
 exact(ae (aA (i:=4) sc.nd rfl l4 (af hu (bP (a4 a6 (a4 a6 (a4 a6 (a4 a6 (a4 a6 (a4 (lI a6 a6) aa))))))) (b7 (ak T) hr aj T.at au aq (a4 (v0 _) (a4 a6 (a4 a6 aa))) (a7 (a7 (a7 ax))))))
 (ae (aA (i:=5) sc.nd rfl l5 (af hu (af hu (af hu (v1 _) a6) (v2 _)) a6))
 (ae (aA (i:=6) sc.nd rfl l6 (bw (v4 _) (b7 (ak T) hr aj T.at au aq (a4 (v0 _) (a4 (v3 _) (a4 a6 aa))) (a7 (a7 (a7 ax))))))
 (ae (bA (gx (aM (cf hu20) cg (af hu (v5 _) a6) aZ (aK _)) (dX (aM mO jL (b7 (ak T) hr aj T.at au aq (a4 (v0 _) (a4 (aB (v3 _) a6) (a4 a6 aa))) (a7 (a7 (a7 ax)))) a6 (aK _)))).pt
  (ae (aA (i:=7) sc.nd rfl l7 (aB (af hu (v5 _) a6) (bw (b7 (ak T) hr aj T.at au aq (a4 (v0 _) (a4 (v3 _) (a4 (cq (tQ (by rfl)) rn g_min T.J1 EF (a4 (af hu (v5 _) a6) (a4 a6 aa))) aa))) (a7 (a7 (a7 ax)))) (af hu (v5 _) a6))))
 (ae (aA (i:=8) sc.nd rfl l8 (bP (a4 (v7 _) (a4 (j6 (v7 _) (af hu (v5 _) a6)) (a4 (aB (v7 _) (af hu (v5 _) a6)) (a4 (j6 (j6 (v7 _) (af hu (v5 _) a6)) a6) (a4 (aB (aB (v7 _) (af hu (v5 _) a6)) a6) (a4 (v7 _) aa))))))))
 (ay (aA (i:=6) sc.nd rfl l6 (cq (CA (by rfl)) AK g_max T.IZ EG (a4 a6 (a4 (af hu (v8 _) (b7 (ak T) hr aj T.at au aq (a4 (v0 _) (a4 (aB (v3 _) a6) (a4 a6 aa))) (a7 (a7 (a7 ax))))) aa)))))))
  b6)
 (ae (bA (aM (cf hu20) cg (b7 (ak T) hr aj T.at au aq (a4 (v0 _) (a4 (aB (v3 _) a6) (a4 a6 aa))) (a7 (a7 (a7 ax)))) a6 (aK _))
  (ay (aA (i:=6) sc.nd rfl l6 (aB (v6 _) a6)))
  b6)
 (ae (bA (aM (cf hu20) cg (b7 (ak T) hr aj T.at au aq (a4 (v0 _) (a4 (aB (v3 _) a6) (a4 a6 aa))) (a7 (a7 (a7 ax)))) a6 (aK _))
  (ay (aA (i:=6) sc.nd rfl l6 (lI a6 a6)))
  b6)
 (ay (b4 (v6 _)))))))))
theorem ny:aW ["_law_script","_law_world_here","_law_order","_law_k","_law_part","_law_many","_law_odd"] ["_law_script","_law_world_here","_law_order","_law_k"] (aJ n4):=fP
theorem tu(T:Txt Pm mg):cD P w (Hd.K Pm) mg base CX0 2 160 Hd.iM ["_law_script","_law_world_here","_law_order","_law_k"] (spD (Hd.K Pm) 4 fc):=by
 refine cJ oN ny rfl λcdv A outer s H E hr=> ?_
 have sc:=ny
 have hu:=d9 hr
 have hu20:=bX hr
 refine a8 0 _ λv0=>a8 1 _ λv1=>a8 2 _ λv2=>a8 3 _ λv3=>a8 4 _ λv4=>a8 5 _ λv5=>a8 6 _ λv6=>ah 4 "_law_part" λl4=>ah 5 "_law_many" λl5=>ah 6 "_law_odd" λl6=>aC "_law_draw" λaj=> ?_
 exact(ae (aA (i:=4) sc.nd rfl l4 (af hu (af hu (af hu (af hu (v1 _) a6) (af hu (af hu (af hu (v1 _) a6) (v2 _)) a6)) a6) a6))
 (ae (aA (i:=5) sc.nd rfl l5 (bw (v4 _) (aB a6 (b7 (ak T) hr aj T.at au aq (a4 (v0 _) (a4 (aB (v3 _) a6) (a4 a6 aa))) (a7 (a7 (a7 ax)))))))
 (ae (aA (i:=6) sc.nd rfl l6 (bP (a4 a6 (a4 (Eu (v5 _)) (a4 (aB (v5 _) a6) (a4 (lI a6 a6) (a4 (bw (v4 _) a6) (a4 (Eu a6) aa))))))))
 (ae (bA (aM (cf hu20) cg (b7 (ak T) hr aj T.at au aq (a4 (v0 _) (a4 (aB (v3 _) a6) (a4 a6 aa))) (a7 (a7 (a7 ax)))) a6 (aK _))
  (ay (b4 (af hu (v6 _) (b7 (ak T) hr aj T.at au aq (a4 (v0 _) (a4 (aB (v3 _) a6) (a4 a6 aa))) (a7 (a7 (a7 ax)))))))
  b6)
 (ay (b4 (v5 _)))))))
theorem mw:aW ["_law_script","_law_world_here","_law_many","_law_scale","_law_kept","_law_n","_law_spot"] ["_law_script","_law_world_here","_law_many"] (aJ ma):=fP
theorem sW(T:Txt Pm mg):cD P w (Hd.K Pm) mg base CX0 2 165 Hd.gK ["_law_script","_law_world_here","_law_many"] (spD (Hd.K Pm) 3 fC):=by
 refine cJ ni mw rfl λcdv A outer s H E hr=> ?_
 have sc:=mw
 have hu:=d9 hr
 have hu20:=bX hr
 refine a8 0 _ λv0=>a8 1 _ λv1=>a8 2 _ λv2=>a8 3 _ λv3=>a8 5 _ λv5=>a8 6 _ λv6=>ah 3 "_law_scale" λl3=>ah 4 "_law_kept" λl4=>dF 4 "_law_kept" λw4=>ah 5 "_law_n" λl5=>ah 6 "_law_spot" λl6=>aC "_law_draw" λaj=>aC "len" λg_len=>aC "range" λg_range=>aC "sorted" λg_sorted=>aC "tuple" λg_tuple=> ?_
 exact(ae (aA (i:=3) sc.nd rfl l3 (af hu (bP (a4 a6 (a4 a6 (a4 a6 (a4 a6 (a4 a6 (a4 (lI a6 a6) aa))))))) (b7 (ak T) hr aj T.at au aq (a4 (v0 _) (a4 a6 (a4 a6 aa))) (a7 (a7 (a7 ax))))))
 (ae (aA (i:=4) sc.nd rfl l4 o8)
 (ae (cE (l:=none) GaG rfl (fM g_range T.iR (v2 _)) (aQ (i:=5) sc.nd rfl l5)
  (ae (aA (i:=6) sc.nd rfl l6 (aX (a4 (b7 (ak T) hr aj T.at au aq (a4 (v0 _) (a4 (aB a6 (v5 _)) (a4 (cq (cT.or bV) bW g_len T.jF fU (a4 (af hu (v1 _) a6) aa)) aa))) (a7 (a7 (a7 ax)))) (a4 (bw (v3 _) (b7 (ak T) hr aj T.at au aq (a4 (v0 _) (a4 (aB a6 (v5 _)) (a4 a6 aa))) (a7 (a7 (a7 ax))))) aa))))
 (ae (bA (gx (aM lB j7 (v5 _) (cq (cT.or bV) bW g_len T.jF fU (a4 (af hu (v1 _) a6) aa)) (aK _)) (dX (aM (cf hu20) cg (b7 (ak T) hr aj T.at au aq (a4 (v0 _) (a4 a6 (a4 a6 aa))) (a7 (a7 (a7 ax)))) a6 (aK _)))).pt
  (ay (aA (i:=6) sc.nd rfl l6 (aX (a4 (v5 _) (a4 a6 aa)))))
  b6)
 (ay (pA (i:=4) hu rfl (by first|exact Or.inl rfl|exact Or.inr (Or.inl rfl)|exact Or.inr (Or.inr rfl)) (v6 _) (af hu (bP (a4 (aB a6 (b7 (ak T) hr aj T.at au aq (a4 (v0 _) (a4 (aB a6 (v5 _)) (a4 a6 aa))) (a7 (a7 (a7 ax))))) (a4 (lI a6 a6) aa))) (mE (b7 (ak T) hr aj T.at au aq (a4 (v0 _) (a4 (aB a6 (v5 _)) (a4 a6 aa))) (a7 (a7 (a7 ax)))) a6)))))))
 (ay (b4 (j8 cY dR g_tuple T.jG gM (a4 (cq dY gC g_sorted T.km iU (a4 (kC (N:=["_law_spot","_law_weight_here"]) (i:=4) rfl w4 rfl (by exact⟨rfl,rfl,rfl,rfl,rfl,by decide,rfl,rfl⟩) rF ⟨λ_ _ _ _ _=>(lK rfl (bR (aQ (i:=0) (gX (by decide+kernel)) rfl (cM rfl) (gY rfl)) (bR (aQ (i:=1) (gX (by decide+kernel)) rfl (cM rfl) (gY rfl)) ju))),λ_ _ _ _ _=>iV,λ_ _ _ _ _=>(aX (a4 (af (by exact hu) (cK (i:=0) (hN:=rfl) (hv:=bz rfl)) a6) (a4 (af (by exact hu) (cK (i:=0) (hN:=rfl) (hv:=bz rfl)) a6) (a4 (cK (i:=1) (hN:=rfl) (hv:=bz rfl)) aa))))⟩) aa)) aa)))))))
theorem mz:aW ["_law_script","_law_world_here","_law_many","_law_kept","_law_n","_law_order","_law_spot"] ["_law_script","_law_world_here","_law_many"] (aJ mf):=fP
theorem sX(T:Txt Pm mg):cD P w (Hd.K Pm) mg base CX0 3 170 Hd.gL ["_law_script","_law_world_here","_law_many"] (spD (Hd.K Pm) 3 fD):=by
 refine cJ nj mz rfl λcdv A outer s H E hr=> ?_
 have sc:=mz
 have hu:=d9 hr
 have hu20:=bX hr
 refine a8 0 _ λv0=>a8 1 _ λv1=>a8 2 _ λv2=>a8 4 _ λv4=>a8 5 _ λv5=>a8 6 _ λv6=>ah 3 "_law_kept" λl3=>dF 3 "_law_kept" λw3=>ah 4 "_law_n" λl4=>ah 5 "_law_order" λl5=>ah 6 "_law_spot" λl6=>aC "_law_amount" λvL=>aC "_law_draw" λaj=>aC "_law_hour" λBq=>aC "len" λg_len=>aC "range" λg_range=>aC "sorted" λg_sorted=>aC "tuple" λg_tuple=> ?_
 exact(ae (aA (i:=3) sc.nd rfl l3 o8)
 (ae (cE (l:=none) GaG rfl (fM g_range T.iR (v2 _)) (aQ (i:=4) sc.nd rfl l4)
  (ae (aA (i:=5) sc.nd rfl l5 (b7 (ak T) hr aj T.at au aq (a4 (v0 _) (a4 (aB a6 (v4 _)) (a4 (cq (cT.or bV) bW g_len T.jF fU (a4 (af hu (v1 _) a6) aa)) aa))) (a7 (a7 (a7 ax)))))
 (ae (aA (i:=6) sc.nd rfl l6 (aX (a4 (v5 _) (a4 (b7 (Ap T) hr Bq T.at sS kJ (a4 (v0 _) (a4 (v1 _) (a4 (v5 _) (a4 (aB a6 (v4 _)) aa)))) (a7 (a7 (a7 (a7 ax))))) aa))))
 (ae (pA (i:=3) hu rfl (by first|exact Or.inl rfl|exact Or.inr (Or.inl rfl)|exact Or.inr (Or.inr rfl)) (v6 _) (b7 (tu T) hr vL T.at oN iC (a4 (v0 _) (a4 (v1 _) (a4 (v5 _) (a4 (aB a6 (v4 _)) aa)))) (a7 (a7 (a7 (a7 ax))))))
 (ay (bA (aM (cf hu20) cg (b7 (ak T) hr aj T.at au aq (a4 (v0 _) (a4 (aB a6 (v4 _)) (a4 a6 aa))) (a7 (a7 (a7 ax)))) a6 (aK _))
  (ay (pA (i:=3) hu rfl (by first|exact Or.inl rfl|exact Or.inr (Or.inl rfl)|exact Or.inr (Or.inr rfl)) (v6 _) (aB (lI a6 a6) (v4 _))))
  b6))))))
 (ay (b4 (j8 cY dR g_tuple T.jG gM (a4 (cq dY gC g_sorted T.km iU (a4 (kC (N:=["_law_spot","_law_amount_here"]) (i:=3) rfl w3 rfl (by exact⟨rfl,rfl,rfl,rfl,rfl,by decide,rfl,rfl⟩) rF ⟨λ_ _ _ _ _=>(lK rfl (bR (aQ (i:=0) (gX (by decide+kernel)) rfl (cM rfl) (gY rfl)) (bR (aQ (i:=1) (gX (by decide+kernel)) rfl (cM rfl) (gY rfl)) ju))),λ_ _ _ _ _=>iV,λ_ _ _ _ _=>(aX (a4 (af (by exact hu) (cK (i:=0) (hN:=rfl) (hv:=bz rfl)) a6) (a4 (af (by exact hu) (cK (i:=0) (hN:=rfl) (hv:=bz rfl)) a6) (a4 (cK (i:=1) (hN:=rfl) (hv:=bz rfl)) aa))))⟩) aa)) aa))))))
theorem nz:aW ["_law_weights_here","_law_guest","_law_hour_here","_law_found","_law_one"] ["_law_weights_here","_law_guest","_law_hour_here"] (aJ n5):=fP
theorem tw(T:Txt Pm mg):cD P w (Hd.K Pm) mg base CX0 1 177 Hd.iN ["_law_weights_here","_law_guest","_law_hour_here"] (spD (Hd.K Pm) 3 kK):=by
 refine cJ oO nz rfl λcdv A outer s H E hr=> ?_
 have sc:=nz
 have hu:=d9 hr
 have hu20:=bX hr
 refine a8 0 _ λv0=>a8 1 _ λv1=>a8 2 _ λv2=>a8 3 _ λv3=>a8 4 _ λv4=>ah 3 "_law_found" λl3=>ah 4 "_law_one" λl4=> ?_
 exact(ae (aA (i:=3) sc.nd rfl l3 fI)
 (ae (cE (l:=(some 0)) GaG rfl (fm (v0 _)) (aQ (i:=4) sc.nd rfl l4)
  (ay (bA (gx (aM (cf hu20) cg (af hu (v4 _) a6) (v1 _) (aK _)) (dX (aM tP ph (af hu (v4 _) a6) (v2 _) (aK _)))).pt
  (ay (aA (i:=3) sc.nd rfl l3 (af hu (v4 _) a6)))
  b6)))
 (ay (b4 (v3 _)))))
theorem sY:aW ["_law_dues_here","_law_hour_here","_law_k"] ["_law_dues_here","_law_hour_here"] (aJ sN):=fP
theorem Bl(T:Txt Pm mg):cD P w (Hd.K Pm) mg base CX0 1 184 Hd.mL ["_law_dues_here","_law_hour_here"] (spD (Hd.K Pm) 2 pG):=by
 refine cJ uC sY rfl λcdv A outer s H E hr=> ?_
 have sc:=sY
 have hu:=d9 hr
 refine a8 0 _ λv0=>a8 1 _ λv1=>a8 2 _ λv2=>ah 2 "_law_k" λl2=>aC "range" λg_range=> ?_
 exact(ae (cE (l:=none) GaG rfl (fM g_range T.iR (af hu (v0 _) a6)) (aQ (i:=2) sc.nd rfl l2)
  (ay (bA (gx (aM tP ph (j6 (aB (af hu (v0 _) a6) (bw (v2 _) (af hu (v0 _) a6))) (af hu (v0 _) a6)) (v1 _) (aK _)) (dX (aM tP ph (v1 _) (aB (aB (af hu (v0 _) a6) (bw (v2 _) (af hu (v0 _) a6))) (af hu (v0 _) a6)) (aK _)))).pt
  (ay (b4 (v2 _)))
  b6)))
 (ay (b4 fI)))
theorem nA:aW ["_law_world_here","_law_book","_law_listed_here","_law_order","_law_hour_here","_law_amount_here","_law_own","_law_stuff","_law_kilo"] ["_law_world_here","_law_book"] (aJ n6):=fP
theorem tD(T:Txt Pm mg):cD P w (Hd.K Pm) mg base CX0 2 189 Hd.iP ["_law_world_here","_law_book"] (spD (Hd.K Pm) 2 g9):=by
 refine cJ oP nA rfl λcdv A outer s H E hr=> ?_
 have sc:=nA
 have hu:=d9 hr
 have hu20:=bX hr
 refine a8 0 _ λv0=>a8 1 _ λv1=>a8 2 _ λv2=>a8 3 _ λv3=>a8 4 _ λv4=>a8 5 _ λv5=>a8 6 _ λv6=>a8 7 _ λv7=>a8 8 _ λv8=>ah 2 "_law_listed_here" λl2=>dF 2 "_law_listed_here" λw2=>ah 3 "_law_order" λl3=>ah 4 "_law_hour_here" λl4=>ah 5 "_law_amount_here" λl5=>ah 6 "_law_own" λl6=>ah 7 "_law_stuff" λl7=>aC "_law_due" λDQ=>aC "_law_weight" λvJ=>aC "len" λg_len=> ?_
 exact(ae (aA (i:=2) sc.nd rfl l2 (bP aa))
 (ae (cE (l:=none) GaG rfl (fm (af hu (v1 _) a6)) (lK rfl (bR (aQ (i:=3) sc.nd rfl l3) (bR (aQ (i:=4) sc.nd rfl l4) (bR (aQ (i:=5) sc.nd rfl l5) ju))))
  (ae (aA (i:=6) sc.nd rfl l6 (af hu (af hu (v0 _) a6) (v3 _)))
 (ae (aA (i:=7) sc.nd rfl l7 (af hu (af hu (v0 _) a6) (af hu (v6 _) a6)))
 (ae (bA (rm (gx (aM (cf hu20) cg (af hu (af hu (v6 _) a6) a6) aZ (aK _)) (dX (aM lB j7 (v4 _) (af hu (af hu (v6 _) a6) a6) (aK _)))).pt (pj (gx (aM (cf hu20) cg (af hu (af hu (v6 _) a6) a6) aZ (aK _)) (dX (aM qV nX (b7 (Bl T) hr DQ T.at uC k8 (a4 (af hu (v6 _) a6) (a4 (v4 _) aa)) (a7 (a7 ax))) fI (aK _)))).pt)).pt
  (ay (br (i:=2) rfl w2 (aX (a4 aZ (a4 (v3 _) (a4 (v4 _) aa))))))
  b6)
 (ae (bA (aM mO jL (v5 _) (af hu (af hu (v6 _) a6) a6) (aK _))
  (ay (br (i:=2) rfl w2 (aX (a4 aZ (a4 (v3 _) (a4 (v4 _) aa))))))
  b6)
 (ae (bA (rm (aM lB j7 (v5 _) a6 (aK _)) (pj (aM (AN hu20) AO (lH (v5 _) (af hu (af hu (v7 _) a6) a6)) a6 (aK _)))).pt
  (ay (br (i:=2) rfl w2 (aX (a4 aZ (a4 (v3 _) (a4 (v4 _) aa))))))
  b6)
 (ae (Hr (i:=8) (N:=["_law_cap"]) sc.nd rfl (by first|exact Or.inl rfl|exact Or.inr rfl) (l:=none) rfl (by exact⟨rfl,rfl,rfl,rfl,rfl,by decide,rfl,rfl⟩) (fm (af hu (v7 _) a6)) jX ⟨λ_ _ _ _ _=>(aQ (i:=0) (gX (by decide+kernel)) rfl (cM rfl) (gY rfl)),λ_ _ _ _ _=>(pw (aM (cf (by exact hu20)) cg (af (by exact hu) (cK (i:=0) (hN:=rfl) (hv:=bz rfl)) a6) aZ (aK _))),λ_ _ _ _ _=>(cK (i:=0) (hN:=rfl) (hv:=bz rfl))⟩)
 (ae (bA (gx (aM mO jL (cq (cT.or bV) bW g_len T.jF fU (a4 (v8 _) aa)) a6 (aK _)) (dX (aM qV nX (b7 (tw T) hr vJ T.at oO iD (a4 (af hu (v1 _) a6) (a4 (af hu (v6 _) a6) (a4 (v4 _) aa))) (a7 (a7 (a7 ax)))) fI (aK _)))).pt
  (ay (br (i:=2) rfl w2 (aX (a4 aZ (a4 (v3 _) (a4 (v4 _) aa))))))
  b6)
 (ay (bA (aM lB j7 (v4 _) (aB (af hu (af hu (af hu (v0 _) a6) (af hu (v6 _) a6)) a6) (af hu (v7 _) a6)) (aK _))
  (ay (br (i:=2) rfl w2 (aX (a4 aZ (a4 (v3 _) (a4 (v4 _) aa))))))
  b6))))))))))
 (ay (b4 (v2 _)))))
theorem vF:aW ["_law_found"] ["_law_found"] (aJ oI):=fP
theorem vG(T:Txt Pm mg):cD P w (Hd.K Pm) mg base CX0 1 196 Hd.jB ["_law_found"] (spD (Hd.K Pm) 1 jy):=by
 refine cJ qv vF rfl λcdv A outer s H E hr=> ?_
 refine a8 0 _ λv0=>aC "bool" λg_bool=>aC "int" λg_int=>aC "isinstance" λg_isinstance=> ?_
 exact(ay (b4 (JQ (rA Hm (v0 _) g_isinstance T.gp g_int T.Nc JU) (JP (JR (rA EI (v0 _) g_isinstance T.gp g_bool T.KU Hk))))))
theorem nB:aW ["_law_found","_law_one","_law_num"] ["_law_found"] (aJ n8):=fP
theorem tF(T:Txt Pm mg):cD P w (Hd.K Pm) mg base CX0 2 203 Hd.iQ ["_law_found"] (spD (Hd.K Pm) 1 gc):=by
 refine cJ oQ nB rfl λcdv A outer s H E hr=> ?_
 have sc:=nB
 have hu:=d9 hr
 refine a8 0 _ λv0=>a8 1 _ λv1=>a8 2 _ λv2=>ah 1 "_law_one" λl1=>ah 2 "_law_num" λl2=>aC "isinstance" λg_isinstance=>aC "_law_whole" λAq=>aC "len" λg_len=>aC "list" λg_list=>aC "str" λg_str=>aC "tuple" λg_tuple=> ?_
 exact(ae (bA (pk (nH (rA EH (v0 _) g_isinstance T.gp g_list T.KW Hl)))
  (ay (b4 we))
  b6)
 (ae (cE (l:=(some 0)) GaG rfl (fm (v0 _)) (aQ (i:=1) sc.nd rfl l1)
  (ae (bA (rm (pk (nH (rA kit_tuple (v1 _) g_isinstance T.gp g_tuple T.jG gM))) (rm (aM lB j7 (cq (cT.or bV) bW g_len T.jF fU (a4 (v1 _) aa)) a6 (aK _)) (pj (pk (nH (rA Hn (af hu (v1 _) a6) g_isinstance T.gp g_str T.Nd JV)))))).pt
  (ay (b4 we))
  b6)
 (ay (cE (l:=none) GaG rfl (fm (wz (v1 _) (ug a6) uf)) (aQ (i:=2) sc.nd rfl l2)
  (ay (bA (pk (nH (b7 (vG T) hr Aq T.at qv jx (a4 (v2 _) aa) (a7 ax))))
  (ay (b4 we))
  b6))))))
 (ay (b4 we))))
theorem Gi:aW ["_law_script","_law_world_here","_law_book","_law_found","_law_words"] ["_law_script"] (aJ Ge):=fP
theorem KY(T:Txt Pm mg):cD P w (Hd.K Pm) mg base CX0 5 208 Hd.Cm ["_law_script"] (spD (Hd.K Pm) 1 rY):=by
 refine cJ N9 Gi rfl λcdv A outer s H E hr=> ?_
 have sc:=Gi
 have hu:=d9 hr
 have hu20:=bX hr
 refine a8 0 _ λv0=>a8 1 _ λv1=>a8 2 _ λv2=>a8 3 _ λv3=>ah 1 "_law_world_here" λl1=>ah 2 "_law_book" λl2=>ah 3 "_law_found" λl3=>ah 4 "_law_words" λl4=>aC "faults" λg_faults=>aC "_law_draw" λaj=>aC "_law_givings" λtJ=>aC "_law_listed" λvI=>aC "_law_single" λvH=>aC "_law_weights" λtH=>aC "_law_world" λAr=>aC "len" λg_len=>aC "min" λg_min=>aC "sorted" λg_sorted=> ?_
 exact(ae (aA (i:=1) sc.nd rfl l1 (b7 (vD T) hr Ar T.at qu jw (a4 (v0 _) aa) (a7 ax)))
 (ae (aA (i:=2) sc.nd rfl l2 (aX (a4 (b7 (sW T) hr tH T.at ni gG (a4 (v0 _) (a4 (v1 _) (a4 (b7 (ak T) hr aj T.at au aq (a4 (v0 _) (a4 a6 (a4 a6 aa))) (a7 (a7 (a7 ax)))) aa))) (a7 (a7 (a7 ax)))) (a4 (aX aa) aa))))
 (ae (aA (i:=2) sc.nd rfl l2 (aX (a4 (af hu (v2 _) a6) (a4 (b7 (sX T) hr tJ T.at nj gH (a4 (v0 _) (a4 (v1 _) (a4 (aB (cq (tQ (by rfl)) rn g_min T.J1 EF (a4 (cq (cT.or bV) bW g_len T.jF fU (a4 (v0 _) aa)) (a4 a6 aa))) (b7 (ak T) hr aj T.at au aq (a4 (v0 _) (a4 a6 (a4 a6 aa))) (a7 (a7 (a7 ax))))) aa))) (a7 (a7 (a7 ax)))) aa))))
 (ae (aA (i:=3) sc.nd rfl l3 (b7 (DP T) hr g_faults T.at Al oq (a4 (v1 _) (a4 (v2 _) aa)) (a7 (a7 ax))))
 (ae (bA (pk (nH (b7 (tF T) hr vI T.at oQ iF (a4 (v3 _) aa) (a7 ax))))
  (ay (b4 we))
  b6)
 (ae (aA (i:=4) sc.nd rfl l4 (bP (a4 aZ (a4 aZ (a4 aZ (a4 aZ (a4 aZ aa)))))))
 (ay (b4 (uT (cf hu20) cg (o6 (N:=["_law_one","_law_words"]) (l:=(some 3)) rfl (by exact⟨rfl,rfl,rfl,rfl,rfl,by decide,rfl,rfl⟩) (fm (v3 _)) jX ⟨λ_ _ _ _ _=>(aQ (i:=0) (gX (by decide+kernel)) rfl (cM rfl) (gY rfl)),λ_ _ _ _ _=>(pw (aM (K2 (by exact hu20)) K3 (af (by exact hu) (cK (i:=0) (hN:=rfl) (hv:=bz rfl)) a6) (cK (i:=1) (hN:=rfl) (hv:=rD rfl)) (by with_unfolding_all rfl))),λ_ _ _ _ _=>(cK (i:=0) (hN:=rfl) (hv:=bz rfl))⟩) (cq dY jP g_sorted T.km iU (a4 (b7 (tD T) hr vH T.at oP iE (a4 (v1 _) (a4 (v2 _) aa)) (a7 (a7 ax))) aa)) (aK _))))))))))
end
theorem all_mk{l:PySem.W.OpenLaw}{w:World}{h:Heap}{mg:Str→Option Value}{fa:Addr}(X:(Hd.K w.params).In h)(G:h.Ns mainGlobals mg)(hfa:mg "law"=some (.ref fa)):
  ∃fd:FuncData,(∀(s:Shared) (v:Value),BindsTo s fd ⟨[v],[]⟩ [("_law_script",v)])∧∀base:Heap,(Hd.K w.params).In base→base.Ns mainGlobals mg→cD l.prog w (Hd.K w.params) mg base CX0 5 fa fd ["_law_script"] (spD (Hd.K w.params) 1 rY):=by
 have T:Txt w.params mg:=⟨h,X,G⟩
 have e:=hfa.symm.trans T.Na
 cases e
 exact⟨_,λs v=> .of_eq rfl,λbase _ _=>KY T⟩
theorem walk{l:PySem.W.OpenLaw}{q:Program}{loose:List Str}{XP:(Str→Option Value)→Heap→Prop}{YP:World→Heap→Prop}{d:DefRec}{K:Params→PySem.W.Frag}(hn:l.most=some 63)(hdf:d.params.defaults=[])
  (hY:∀(w:World) (h:Heap),YP w h→(K w.params).In h)(true_:∀ns:List Int,ns.length≤63→rY [.scr ns]=some (.bl true))
  (F:∀(w:World) (mg:Str→Option Value) (fa:Addr) (h:Heap),(K w.params).In h→h.Ns mainGlobals mg→mg d.name=some (.ref fa)→
   ∃fd:FuncData,(∀(s:Shared) (u:Value),BindsTo s fd ⟨[u],[]⟩ [("_law_script",u)])∧∀base:Heap,(K w.params).In base→base.Ns mainGlobals mg→cD l.prog w (K w.params) mg base CX0 5 fa fd ["_law_script"] (spD (K w.params) 1 rY)):
  PySem.W.WalkO q loose XP YP l.row.toRowW d [] (λf vs=>PySem.call f vs):=
 L2.GQ (n:=63) (k:=5) (x:="_law_script") (CX:=λ_=>CX0) (sp:=λw=>spD (K w.params) 1 rY) hn (by decide) hdf ⟨rfl,by decide,by decide⟩ hY F (λ_ _ a ns hl hO hS=>JS hO hS (true_ ns hl)) λ_ _ _ _ _ z=>z
end Der
open PySem PySem.W PyProof.Rows
set_option maxRecDepth 100000 in
set_option maxHeartbeats 0 in
theorem PySem.Challenge.cw_dosehouse_k41_faults_of_one_giving_holds : PySem.Challenge.rw_dosehouse_k41_faults_of_one_giving.Holds := by
 refine holds_law (by kernel_rfl) λsaid=> ?_
 refine holds_open (q:=Hd.view) (loose:=[]) (Xt:=Hd.xt) (XP:=XL Hd.view []) (Yf:=Hook.obs Hd.hook) (Ya:=Hook.val Hd.hook) (YP:=Hook.says Hd.hook) (N:=2142) Hd.left (Hook.of Hd.hook) (Hook.keeps Hd.hook) (λs e=>xl_of s (Bool.and_eq_true_iff.mp e).1) XL.keeps (by rfl) (by rfl) (by rfl) (λs e=>recFacts_of (Bool.and_eq_true_iff.mp e).2) (by rfl) said (by decide+kernel) ⟨rfl,rfl,rfl,rfl,rfl,by decide+kernel⟩ ?hw ?hc
 case hw=>w_witness2
 case hc=>exact Der.walk (l:=PySem.Challenge.rw_dosehouse_k41_faults_of_one_giving) (K:=Hd.K) rfl rfl (λw h Y=>PySem.W.kIn_of Y) Maths.Gd λw mg fa h KX G hmg=>Der.all_mk KX G hmg
