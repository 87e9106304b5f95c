import PyProof.Rows.All
import Wide.All
import OpenK.AllK
import Wide.FinOn
import PySem.Challenge.RW_dosehouse_k43_faults_of_gaps
set_option Elab.async false
set_option linter.all false
set_option maxRecDepth 100000
set_option maxHeartbeats 1000000
def Gaa:=@List.getElem?_eq_getElem
def Gab:=@List.getElem?_set_ne
def Gac:=@List.getElem?_eq_some_iff
def Gad:=@PySem.wpAny_bind
def Gae:=@if_neg
def Gaf:=@List.mem_cons_of_mem
def Gag:=@if_pos
def Gah:=@List.length_map
def Gai:=@PyProof.Rows.wpS_bind
def Gaj:=@PySem.Heap.get?_push_of_some
def Gak:=@List.mem_cons_self
def Gal:=@List.getElem?_map
def Gam:=@Option.map_eq_some_iff
def Gan:=@List.size_toArray
def Gao:=@PyProof.Rows.wpS_pure
def Gap:=@Nat.le_refl
def Gaq:=@List.map_cons
def Gar:=@PySem.wpAny_pure
def Gas:=@List.append_assoc
def Gat:=@List.all_eq_true
def Gau:=@Bool.and_eq_true
def Gav:=@List.length_append
def Gaw:=@of_decide_eq_true
def Gax:=@List.mem_append
def Gay:=@List.mem_cons
def Gaz:=@PySem.Heap.lt_size
def GaA:=@Bool.false_ne_true
def GaB:=@List.getElem_mem
def GaC:=@PySem.Heap.get?_push_size
def GaD:=@Bool.false_eq_true
def GaE:=@PySem.PassesOwn.never
def GaF:=@List.length_cons
def GaG:=@decide_eq_true
def GaH:=@decide_eq_false
def GaI:=@List.mem_map
def GaJ:=@List.map_append
def GaK:=@Int.eq_ofNat_of_zero_le
def GaL:=@List.mem_of_getElem?
def GaM:=@List.getElem?_append_right
def GaN:=@List.getElem?_set_self
def GaO:=@Nat.ne_of_lt
def GaP:=@Nat.lt_of_lt_of_le
def GaQ:=@List.map_congr_left
def GaR:=@List.map_map
def GaS:=@List.getElem?_append_left
def GaT:=@List.getElem?_take_of_lt
def GaU:=@List.set_cons_succ
def GaV:=@List.set_cons_zero
def GaW:=@Bool.or_eq_true
def GaX:=@Int.toNat_natCast
def GaY:=@List.Perm.append_right
def GaZ:=@Ne.symm
def Gba:=@List.mem_append_right
def Gbb:=@List.append_nil
def Gbc:=@List.take_append_drop
def Gbd:=@List.lookup_cons
def Gbe:=@PySem.wpAny_newObj_type
def Gbf:=@PyProof.Rows.wpS_forRange
def Gbg:=@if_false
def Gbh:=@List.getElem?_drop
def Gbi:=@List.filter_cons
def Gbj:=@List.perm_append_comm
def Gbk:=@List.flatMap_cons
def Gbl:=@List.pairwise_cons
def Gbm:=@List.mem_of_mem_take
def Gbn:=@List.getElem?_eq_none
def Gbo:=@List.Perm.append_left
def Gbp:=@PySem.W.kia_one
def Gbq:=@if_true
def Gbr:=@PyProof.Rows.wpS_mono
def Gbs:=@List.mem_of_mem_drop
def Gbt:=@Nat.le_trans
def Gbu:=@List.take_of_length_le
def Gbv:=@List.find?_cons
def Gbw:=@List.drop_eq_getElem_cons
def Gbx:=@List.mem_iff_getElem?
def Gby:=@List.all_map
def Gbz:=@Nat.lt_irrefl
def GbA:=@PySem.sizeLine_eq
def GbB:=@List.all_cons
def GbC:=@Int.le_refl
def GbD:=@List.mem_range
def GbE:=@List.drop_zero
def GbF:=@PySem.wpAny_truthy_bool
def GbG:=@List.nodup_cons
def GbH:=@PySem.Heap.get?_update_other
def GbI:=@Nat.zero_le
def GbJ:=@Nat.zero_add
def GbK:=@PySem.wpAny_mono
def GbL:=@PyProof.Rows.wpS_modify
def GbM:=@List.drop_length
def GbN:=@List.take_succ_eq_append_getElem
def GbO:=@List.mem_reverse
def GbP:=@PySem.Heap.get?_update_self
def GbQ:=@List.drop_drop
def GbR:=@List.foldl_cons
def GbS:=@List.pairwise_singleton
def GbT:=@Array.length_toList
def GbU:=@Function.comp_apply
def GbV:=@List.length_drop
def GbW:=@PySem.wpAny_call_entry
def GbX:=@List.getElem_map
def GbY:=@PyProof.Rows.callWith_type1
def GbZ:=@Array.getD_eq_getD_getElem?
def Gca:=@PySem.wpAny_passesOwn
def Gcb:=@Nat.min_eq_left
def Gcc:=@List.mem_append_left
def Gce:=@PySem.wpAny_rule
def Gcf:=@List.pairwise_iff_getElem
def Gcg:=@Array.getElem?_eq_getElem
def Gch:=@List.map_id
def Gci:=@List.take_take
def Gcj:=@List.length_take
def Gck:=@Array.toList_inj
def Gcl:=@List.not_mem_nil
def Gcm:=@PyProof.Rows.slot_tuple_getitem
def Gcn:=@List.getElem?_replicate
def Gco:=@PySem.wpAny_callSpecial?_slot
def Gcp:=@PySem.F.plainAttrs_list
def Gcq:=@List.mem_filter
def Gcr:=@PySem.Calls.spliced_cons
def Gcs:=@List.length_nil
def Gct:=@List.mem_singleton
def Gcu:=@PySem.wpAny_typeNameOfWhole_itemiter
def Gcv:=@List.nil_append
def Gcw:=@List.filter_append
def Gcx:=@PySem.Calls.callWith_builtin
def Gcy:=@PySem.F.slot_dict_itemiterator_next
def Gcz:=@Option.some.injEq
def GcA:=@Array.toList_push
def GcB:=@PyProof.Rows.kmk_tree
def GcC:=@PyProof.Rows.wpS_get
def GcD:=@List.drop_take
def GcE:=@beq_iff_eq
def GcF:=@PySem.wpAny_holding
def GcG:=@Array.getElem?_eq_some_iff
def GcH:=@List.length_set
def GcI:=@Option.map_some
def GcJ:=@Nat.ne_of_gt
def GcK:=@PySem.wpAny_Call_Name_kw
def GcL:=@PySem.tupleKind_room_in1
def GcM:=@Nat.lt_of_le_of_lt
def GcN:=@PySem.wpAny_pyIter_tuple
def GcO:=@List.find?_eq_none
def GcP:=@PySem.Heap.size_push
def GcQ:=@PySem.F.slot_dict_itemiterator_iter
def GcR:=@Int.mul_nonneg
def GcS:=@PySem.F.plainAttrs_dict
def GcT:=@List.getElem?_cons_succ
def GcU:=@List.ext_getElem?
def GcV:=@Nat.lt_succ_of_lt
def GcW:=@PySem.wpAny_pyIter_enum
def GcX:=@List.nodup_append
def GcY:=@List.pairwise_map
def GcZ:=@Nat.le_succ
def Gda:=@List.findIdx?_eq_some_iff_getElem
def Gdb:=@List.any_cons
def Gdc:=@List.Perm.map
def Gdd:=@Bool.not_true
def Gde:=@List.take_length
def Gdf:=@decide_eq_decide
def Gdg:=@List.mem_flatMap
def Gdh:=@List.length_replicate
def Gdi:=@PySem.F.slot_dict_get
def Gdj:=@List.length_filter_le
def Gdk:=@Nat.le_of_lt
def Gdl:=@PySem.wpAny_execs_nil
def Gdm:=@PySem.Calls.evalArgs_plain
def Gdn:=@PySem.codeAny_builtin
def Gdo:=@PySem.Around.under_plainId
def Gdp:=@List.filterMap_cons
def Gdq:=@List.getElem_of_mem
def Gdr:=@List.flatMap_append
def Gds:=@Bool.and_false
def Gdt:=@Nat.eq_or_lt_of_le
def Gdu:=@Int.emod_lt_of_pos
def Gdv:=@List.map_drop
def Gdw:=@Nat.add_assoc
def Gdx:=@List.getElem?_set
def Gdy:=@List.findIdx?_map
def Gdz:=@List.map_nil
def GdA:=@Nat.min_self
def GdB:=@Nat.succ_mul
namespace L2
open PySem PySem.Spec PyProof.Rows
noncomputable abbrev Key:=Sum Int Str
noncomputable def sG:Key→Value→Bool
 | .inl k,v=>Value.isInt k v
 | .inr x,v=>Value.isStrOf x v
noncomputable def Nl(w:World):Key→Int
 | .inl k=>hashInt k
 | .inr x=>hashStr w x
theorem cK:∀{k:Key} {v:Value},sG k v=true→(∃i t,k=Sum.inl i∧v=Value.int i t)∨(∃x t,k=Sum.inr x∧v=Value.str x t)
 | .inl i,v,h=>by
  obtain⟨t,e⟩:=Value.isInt_shape (k:=i) (v:=v) h
  exact .inl ⟨i,t,rfl,e⟩
 | .inr x,v,h=>by
  obtain⟨t,e⟩:=Value.isStrOf_shape (x:=x) (v:=v) h
  exact .inr ⟨x,t,rfl,e⟩
theorem C1(i:Int)(t:Tok):sG (.inl i) (.int i t)=true:=by simp[sG,Value.isInt]
theorem C2(x:Str)(t:Tok):sG (.inr x) (.str x t)=true:=by simp[sG,Value.isStrOf]
theorem IJ(a b:Int):decide ((Sum.inl a:Key)=Sum.inl b)=(a==b):=by
 by_cases e:a=b
 ·subst e;simp
 ·have h:¬(Sum.inl a:Key)=Sum.inl b:=λq=>e (Sum.inl.inj q)
  rw[GaH h]
  exact(beq_eq_false_iff_ne.mpr e).symm
theorem IK(a b:Str):decide ((Sum.inr a:Key)=Sum.inr b)=decide (a=b):=by
 by_cases e:a=b
 ·subst e;simp
 ·have h:¬(Sum.inr a:Key)=Sum.inr b:=λq=>e (Sum.inr.inj q)
  rw[GaH h,GaH e]
theorem IL(a:Int)(b:Str):decide ((Sum.inl a:Key)=Sum.inr b)=false:=GaH (λq=>nomatch q)
theorem IM(a:Str)(b:Int):decide ((Sum.inr a:Key)=Sum.inl b)=false:=GaH (λq=>nomatch q)
noncomputable def cz(prog:Program)(w:World):PySem.KeyKind prog w Key where
 is:=sG
 hash:=Nl w
 inj:=λv a b ha hb=>by
  rcases cK ha with⟨i,t,rfl,rfl⟩| ⟨x,t,rfl,rfl⟩
  ·rcases cK hb with⟨j,u,rfl,e⟩| ⟨y,u,rfl,e⟩
   ·injection e with e1 _;rw[e1]
   ·exact nomatch e
  ·rcases cK hb with⟨j,u,rfl,e⟩| ⟨y,u,rfl,e⟩
   ·exact nomatch e
   ·injection e with e1 _;rw[e1]
 byValue:=λk v h=>by
  rcases cK h with⟨i,t,rfl,rfl⟩| ⟨x,t,rfl,rfl⟩<;>rfl
 pyHash:=λhv h=>by
  rcases cK hv with⟨i,t,rfl,rfl⟩| ⟨x,t,rfl,rfl⟩
  ·exact wpAny_pyHash_int h
  ·exact wpAny_pyHash_str h
 eqBool:=λhu hv h=>by
  rcases cK hu with⟨i,t,rfl,rfl⟩| ⟨x,t,rfl,rfl⟩
  ·rcases cK hv with⟨j,u,rfl,rfl⟩| ⟨y,u,rfl,rfl⟩
   ·rw[IJ] at h;exact wpAny_eqBool_int h
   ·rw[IL] at h;exact SeqAt.EqAt.int_str i t y u _ _ _ _ h
  ·rcases cK hv with⟨j,u,rfl,rfl⟩| ⟨y,u,rfl,rfl⟩
   ·rw[IM] at h;exact SeqAt.EqAt.str_int x t j u _ _ _ _ h
   ·rw[IK] at h;exact wpAny_eqBool_str h
 «strs» :=λk x t v h=>by
  rcases cK h with⟨i,u,rfl,e⟩| ⟨y,u,rfl,e⟩
  ·exact nomatch e
  ·injection e with e1 _
   subst e1
   cases v<;>rfl
theorem va(prog:Program)(w:World)(i:Int)(t:Tok):(cz prog w).is (.inl i) (.int i t)=true:=C1 i t
theorem vb(prog:Program)(w:World)(x:Str)(t:Tok):(cz prog w).is (.inr x) (.str x t)=true:=C2 x t
inductive V where
 |non|bl (b:Bool)|int (i:Int)|str (x:Str)|byt (b:Array UInt8)|flt (b:UInt64)|ref (a:Addr)|ty (n:String)
 deriving DecidableEq
def RelV:V→Value→Prop
 | .non,u=>u=Value.none
 | .bl b,u=>u=Value.bool b
 | .int i,u=>∃t,u=Value.int i t
 | .str x,u=>∃t,u=Value.str x t
 | .byt b,u=>∃t,u=Value.bytes b t
 | .flt b,u=>∃t,u=Value.float b t
 | .ref a,u=>u=Value.ref a
 | .ty n,u=>u=Value.type n
abbrev Vals:List V→List Value→Prop:=Paired RelV
theorem Vals.length{xs:List V}{us:List Value}(r:Vals xs us):xs.length=us.length:=Paired.length r
theorem Vals.get:∀{xs:List V} {us:List Value} {i:Nat} {x:V},Vals xs us→xs[i]? =some x→∃u,us[i]? =some u∧RelV x u
 |_,_,_,_,.nil,e=>by simp at e
 |_,_,0,_,.cons r _,e=>by simp at e;subst e;exact⟨_,rfl,r⟩
 |_,_,i+1,x,.cons _ t,e=>by
  obtain⟨u,h1,h2⟩:=Vals.get (i:=i) (x:=x) t (by simpa using e)
  exact⟨u,by simpa using h1,h2⟩
theorem Vals.set{x:V}{u:Value}(r:RelV x u):∀{xs:List V} {us:List Value} (i:Nat),Vals xs us→Vals (xs.set i x) (us.set i u)
 |_,_,_,.nil=> .nil
 |_,_,0,.cons _ t=> .cons r t
 |_,_,i+1,.cons q t=> .cons q (Vals.set r i t)
theorem Vals.append:∀{xs ys:List V} {us ws:List Value},Vals xs us→Vals ys ws→Vals (xs++ys) (us++ws)
 |_,_,_,_,.nil,s=>s
 |_,_,_,_,.cons r t,s=> .cons r (Vals.append t s)
theorem Vals.take:∀{xs:List V} {us:List Value} (n:Nat),Vals xs us→Vals (xs.take n) (us.take n)
 |_,_,0,_=> .nil
 |_,_,_+1,.nil=> .nil
 |_,_,n+1,.cons r t=> .cons r (Vals.take n t)
theorem Vals.drop:∀{xs:List V} {us:List Value} (n:Nat),Vals xs us→Vals (xs.drop n) (us.drop n)
 |_,_,0,r=>r
 |_,_,_+1,.nil=> .nil
 |_,_,n+1,.cons _ t=>Vals.drop n t
def oy:Option V→Option Value→Prop
 |some v,some u=>RelV v u
 |none,none=>True
 |_,_=>False
def KV{κ:Type}:List (κ×V)→List (κ×Value)→Prop:=Paired λ(p:κ×V) (q:κ×Value)=>p.1=q.1∧RelV p.2 q.2
noncomputable def kV:Key→V
 | .inl i=> .int i
 | .inr x=> .str x
inductive HO where
 |lst (xs:List V)
 |tup (xs:List V)
 |dK (kvs:List (Key×V))|dT (kvs:List (List Key×V))
 |set (S:Int→Bool) (n:Nat)
 |ins (C dx:Addr) (fs:List (Str×V))
 |own (x:Addr)
 |xd (fs:List (Str×V))
 |met (f x:Addr)
 |rng (lo hi:Int)
 |frz (o:Obj) (u:HO)
 |tbl (ps:Array Value)
 |ext (φ:Heap→Prop)
noncomputable abbrev Hp:=Addr→Option HO
noncomputable def upd(H:Hp)(a:Addr)(o:HO):Hp:=λb=>if b=a then some o else H b
theorem aK{H:Hp}{a:Addr}{o:HO}:upd H a o a=some o:=by unfold upd;rw[Gag rfl]
theorem ax{H:Hp}{a b:Addr}{o:HO}(h:b≠a):upd H a o b=H b:=by unfold upd;rw[Gae h]
theorem B2{H:Hp}{a b:Addr}{o u:HO}(h:H a=some o)(h' :H b=some u)(d:o≠u):a≠b:=by
 intro e;subst e;rw[h] at h';exact d (Option.some.inj h')
theorem dS{H:Hp}{a b:Addr}{o:HO}(h:H a=some o)(h' :H b=none):a≠b:=by
 intro e;subst e;rw[h] at h';cases h'
section
variable(P:Program)(w:World)
def cx(H:Hp)(h:Heap)(a:Addr):HO→Prop
 | .lst xs=>xs.length≤sizeLine∧∃(its:List Value) (n:Nat),Vals xs its∧h.get? a=some {cls:= .type "list",data:= .seq its.toArray n}
 | .tup xs=>xs.length≤sizeLine∧∃its:List Value,Vals xs its∧IsTup h a its.toArray
 | .dK kvs=>kvs.length≤sizeLine∧(a==sysModules)=false∧∃vs,KV kvs vs∧h.DictOf (cz P w) a vs
 | .dT kvs=>kvs.length≤sizeLine∧(a==sysModules)=false∧∃xs:List (List Key×Addr×Value),
   Paired (λ(p:List Key×V) (q:List Key×Addr×Value)=>p.1=q.1∧H q.2.1=some (.tup (p.1.map kV))∧RelV p.2 q.2.2) kvs xs∧
   ∃o es ep,h.get? a=some o∧o.ExactDict∧o.data= .dict es ep∧es.toList=xs.map (entryOfKey (tupleKind (cz P w)))∧(xs.map (·.1)).Nodup
 | .set S n=>h.SetOf (intKind P w) a S n
 | .ins C dx fs=>H dx=some (.own a)∧fs.length≤1000∧dx≠a∧h.get? a=some (PySem.W.instObj C dx)∧
   ∃mA,h.Ns1 dx mA∧(∀f,oy (fs.lookup f) (mA f))∧PySem.Within mA (fs.map (·.1))
 | .own _=>∃o,h.get? a=some o
 | .xd fs=>∃mA,h.Ns1 a mA∧∀f,oy (fs.lookup f) (mA f)
 | .rng lo hi=>∃t u v,h.get? a=some {cls:= .type "range",data:= .fields #[.int lo t,.int hi u,.int 1 v]}
 | .frz o u=>h.get? a=some o∧cx H h a u
 | .tbl ps=>h.get? a=some {cls:= .none,data:= .fields ps}
 | .met f x=>h.get? a=some (PySem.W.methodObj (.ref f) (.ref x))
 | .ext φ=>φ h∧(∃o,h.get? a=some o)∧∀h1 h2:Heap,φ h1→(∀o,h1.get? a=some o→h2.get? a=some o)→φ h2
def HOk(H:Hp)(h:Heap):Prop:=∀a o,H a=some o→cx P w H h a o
end
section
variable{P:Program}{w:World}{H H' :Hp}{h h' :Heap}{a:Addr}{o:HO}
theorem cx.lt(x:cx P w H h a o):a<h.objs.size:=by
 cases o with
 |lst xs=>obtain⟨_,_,_,_,e⟩:=x;exact Gaz e
 |tup xs=>obtain⟨_,_,_,p⟩:=x;exact p.lt
 |dK kvs=>obtain⟨_,_,_,_,o,_,_,e,_⟩:=x;exact Gaz e
 |dT kvs=>obtain⟨_,_,_,_,o,_,_,e,_⟩:=x;exact Gaz e
 |set S n=>obtain⟨o,_,_,_,e,_⟩:=x;exact Gaz e
 |ins C dx fs=>obtain⟨_,_,_,e,_⟩:=x;exact Gaz e
 |own y=>obtain⟨_,e⟩:=x;exact Gaz e
 |xd fs=>obtain⟨_,⟨_,_,_,e,_⟩,_⟩:=x;exact Gaz e
 |rng lo hi=>obtain⟨_,_,_,e⟩:=x;exact Gaz e
 |frz ob u=>obtain⟨e,_⟩:=x;exact Gaz e
 |tbl ps=>exact Gaz (show h.get? a=some _ from x)
 |met f y=>exact Gaz (show h.get? a=some _ from x)
 |ext φ=>obtain⟨_,⟨_,e⟩,_⟩:=x;exact Gaz e
theorem Paired.IP{α β:Type}{F G:α→β→Prop}:∀{l₁:List α} {l₂:List β},Paired F l₁ l₂→(∀a b,F a b→G a b)→Paired G l₁ l₂
 |_,_,.nil,_=> .nil
 |_,_,.cons r t,f=> .cons (f _ _ r) (Paired.IP t f)
theorem cx.dQ(x:cx P w H h a o)(k:∀b u,(b=a∨H b=some (.own a))→h.get? b=some u→h'.get? b=some u)
  (ho:∀b,H b=some (.own a)→H' b=some (.own a))(ht:∀b xs,H b=some (.tup xs)→H' b=some (.tup xs)):cx P w H' h' a o:=by
 induction o with
 |lst xs=>obtain⟨z,its,n,r,e⟩:=x;exact⟨z,its,n,r,k _ _ (.inl rfl) e⟩
 |tup xs=>obtain⟨z,its,r,ob,e,c⟩:=x;exact⟨z,its,r,ob,k _ _ (.inl rfl) e,c⟩
 |dK kvs=>obtain⟨z,y,vs,r,ob,es,ep,e,c⟩:=x;exact⟨z,y,vs,r,ob,es,ep,k _ _ (.inl rfl) e,c⟩
 |dT kvs=>
  obtain⟨z,y,xs,r,ob,es,ep,e,c⟩:=x
  exact⟨z,y,xs,Paired.IP r λp q z=> ⟨z.1,ht _ _ z.2.1,z.2.2⟩,ob,es,ep,k _ _ (.inl rfl) e,c⟩
 |set S n=>obtain⟨ob,es,ep,t,e,c⟩:=x;exact⟨ob,es,ep,t,k _ _ (.inl rfl) e,c⟩
 |ins C dx fs=>
  obtain⟨d,z,ne,e,mA,⟨od,es,ep,e2,c⟩,r⟩:=x
  exact⟨ho _ d,z,ne,k _ _ (.inl rfl) e,mA,⟨od,es,ep,k _ _ (.inr d) e2,c⟩,r⟩
 |own y=>obtain⟨ob,e⟩:=x;exact⟨ob,k _ _ (.inl rfl) e⟩
 |xd fs=>obtain⟨mA,⟨od,es,ep,e,c⟩,r⟩:=x;exact⟨mA,⟨od,es,ep,k _ _ (.inl rfl) e,c⟩,r⟩
 |rng lo hi=>obtain⟨t,u,v,e⟩:=x;exact⟨t,u,v,k _ _ (.inl rfl) e⟩
 |frz ob u ih=>obtain⟨e,q⟩:=x;exact⟨k _ _ (.inl rfl) e,ih q⟩
 |tbl ps=>
  have e:h.get? a=some {cls:= .none,data:= .fields ps}:=x
  show h'.get? a=some {cls:= .none,data:= .fields ps}
  exact k a _ (.inl rfl) e
 |met f y=>
  have e:h.get? a=some (PySem.W.methodObj (.ref f) (.ref y)):=x
  show h'.get? a=some (PySem.W.methodObj (.ref f) (.ref y))
  exact k a _ (.inl rfl) e
 |ext φ=>obtain⟨p,⟨o,e⟩,st⟩:=x;exact⟨st _ _ p λo q=>k _ _ (.inl rfl) q,⟨o,k _ _ (.inl rfl) e⟩,st⟩
theorem HOk.lt(x:HOk P w H h)(e:H a=some o):a<h.objs.size:=(x a o e).lt
theorem HOk.fresh(x:HOk P w H h)(e:h.objs.size≤a):H a=none:=by
 cases q:H a with
 |none=>rfl
 |some u=>exact absurd (GaP (x.lt q) e) (Gbz _)
theorem HOk.kept(x:HOk P w H h)(k:∀b u,h.get? b=some u→h'.get? b=some u):HOk P w H h' :=λa o e=>
 (x a o e).dQ (λb u _ q=>k b u q) (λ_ q=>q) λ_ _ q=>q
theorem HOk.laid(x:HOk P w H h)(k:∀b u,h.get? b=some u→h'.get? b=some u)(hp:h.objs.size≤a)(new:cx P w (upd H a o) h' a o):HOk P w (upd H a o) h' :=λb u e=>by
 have hn:=x.fresh hp
 by_cases hb:b=a
 ·subst hb;rw[aK] at e;cases e;exact new
 ·rw[ax hb] at e
  exact(x b u e).dQ (λc v _ q=>k c v q) (λc q=>by rw[ax (dS q hn)];exact q) λc xs q=>by rw[ax (dS q hn)];exact q
end
def Rd(H:Hp)(a:Addr)(u:HO):Prop:=H a=some u∨∃o,H a=some (.frz o u)
theorem Rd.of{H:Hp}{a:Addr}{u:HO}(h:H a=some u):Rd H a u:= .inl h
theorem Rd.ok{P:Program}{w:World}{H:Hp}{h:Heap}{a:Addr}{u:HO}(r:Rd H a u)(x:HOk P w H h):cx P w H h a u:=by
 rcases r with r| ⟨o,r⟩
 ·exact x a u r
 ·obtain⟨_,q⟩:=x a _ r
  exact q
def Mut:Option HO→Prop
 |some (.lst _)=>True
 |some (.dK _)=>True
 |some (.dT _)=>True
 |some (.set _ _)=>True
 |some (.ins _ _ _)=>True
 |some (.ext _)=>True
 |_=>False
section
variable{P:Program}{w:World}{H:Hp}{h h' :Heap}{x e:Addr}{o' :HO}
theorem HOk.write(ok:HOk P w H h)(mu:Mut (H x))(he:e=x∨H e=some (.own x))(k:∀b u,b≠e→h.get? b=some u→h'.get? b=some u)(heo:∃u,h'.get? e=some u)
  (new:cx P w (upd H x o') h' x o'):HOk P w (upd H x o') h' :=λb u q=>by
 have nown:∀c y,H c=some (.own y)→c≠x:=λc y r z=>by subst z;rw[r] at mu;exact mu
 have ntup:∀c xs,H c=some (.tup xs)→c≠x:=λc xs r z=>by subst z;rw[r] at mu;exact mu
 by_cases hb:b=x
 ·subst hb;rw[aK] at q;cases q;exact new
 ·rw[ax hb] at q
  by_cases hbe:b=e
  ·have q' :H b=some (.own x):=by
    rcases he with z|z
    ·exact absurd (hbe.trans z) hb
    ·rw[hbe];exact z
   rw[q] at q';cases q'
   obtain⟨v,hv⟩:=heo
   exact⟨v,by rw[hbe];exact hv⟩
  ·refine(ok b u q).dQ (λc v hc r=>k c v ?_ r) (λc r=>by rw[ax (nown c b r)];exact r) λc xs r=>by rw[ax (ntup c xs r)];exact r
   rcases hc with rfl|hc
   ·exact hbe
   ·rintro rfl
    rcases he with z|z
    ·exact nown c b hc z
    ·rw[hc] at z;cases z;exact hb rfl
end
structure Un(fs ex:List Addr)(H H' :Hp)(h h' :Heap):Prop where
 keep:∀b o,h.get? b=some o→H b=none→b∉fs→b∉ex→h'.get? b=some o
 slot:∀b o,h.get? b=some o→H b=none→b∈fs→b∉ex→∃sl,h'.get? b=some {o with slots:=sl}
 free:∀b o,h.get? b=some o→H b=none→b∉ex→H' b=none
 there:∀b o,h.get? b=some o→b∉ex→∃o',h'.get? b=some o'
 p8:∀b xs,H b=some (.tup xs)→H' b=some (.tup xs)
 nz:∀b o u,H b=some (.frz o u)→H' b=some (.frz o u)
 p9:∀b ps,H b=some (.tbl ps)→∃more,H' b=some (.tbl (ps++more))
section
variable{fs fs' ex ex' :List Addr}{H H1 H2:Hp}{h h1 h2 h' :Heap}{a x e:Addr}{o:HO}
theorem Un.any(u:Un fs ex H H1 h h1){b:Addr}{ob:Obj}(q:h.get? b=some ob)(n:H b=none)(hx:b∉ex):∃sl,h1.get? b=some {ob with slots:=sl}:=by
 by_cases hb:b∈fs
 ·exact u.slot b ob q n hb hx
 ·exact⟨ob.slots,u.keep b ob q n hb hx⟩
theorem Un.trans(a:Un fs ex H H1 h h1)(b:Un fs ex H1 H2 h1 h2):Un fs ex H H2 h h2 where
 keep:=λc ob q n hc hx=>b.keep c ob (a.keep c ob q n hc hx) (a.free c ob q n hx) hc hx
 slot:=λc ob q n hc hx=>by
  obtain⟨sl,e1⟩:=a.slot c ob q n hc hx
  obtain⟨sl',e2⟩:=b.slot c _ e1 (a.free c ob q n hx) hc hx
  exact⟨sl',e2⟩
 free:=λc ob q n hx=>by
  obtain⟨o',e1⟩:=a.there c ob q hx
  exact b.free c o' e1 (a.free c ob q n hx) hx
 there:=λc ob q hx=>by
  obtain⟨o',e1⟩:=a.there c ob q hx
  exact b.there c o' e1 hx
 p8:=λc xs q=>b.p8 c xs (a.p8 c xs q)
 nz:=λc ob xs q=>b.nz c ob xs (a.nz c ob xs q)
 p9:=λc ps q=>by
  obtain⟨m1,e1⟩:=a.p9 c ps q
  obtain⟨m2,e2⟩:=b.p9 c _ e1
  exact⟨m1++m2,by rw[e2,Array.append_assoc]⟩
theorem Un.kept(k:∀b u,h.get? b=some u→h'.get? b=some u):Un fs ex H H h h' :=
 ⟨λb ob q _ _ _=>k b ob q,λb ob q _ _ _=> ⟨ob.slots,k b ob q⟩,λ_ _ _ n _=>n,λb ob q _=> ⟨ob,k b ob q⟩,λ_ _ q=>q,λ_ _ _ q=>q,λ_ ps q=> ⟨#[],by rw[q];simp⟩⟩
theorem Un.refl:Un fs ex H H h h:=Un.kept λ_ _ q=>q
theorem Un.laid(k:∀b u,h.get? b=some u→h'.get? b=some u)(hp:h.objs.size≤a)(hn:H a=none):Un fs ex H (upd H a o) h h' where
 keep:=λb u q _ _ _=>k b u q
 slot:=λb u q _ _ _=> ⟨u.slots,k b u q⟩
 free:=λb u q n _=>by rw[ax (GaO (GaP (Gaz q) hp))];exact n
 there:=λb u q _=> ⟨u,k b u q⟩
 p8:=λb xs q=>by rw[ax (dS q hn)];exact q
 nz:=λb u xs q=>by rw[ax (dS q hn)];exact q
 p9:=λb ps q=> ⟨#[],by rw[ax (dS q hn),q];simp⟩
theorem Un.write(mu:Mut (H x))(he:e=x∨H e=some (.own x))(k:∀b u,b≠e→h.get? b=some u→h'.get? b=some u)(heo:∃u,h'.get? e=some u):Un fs ex H (upd H x o) h h' :=by
 have hx:∀b,H b=none→b≠x:=λb n z=>by subst z;rw[n] at mu;exact mu
 have hb:∀b,H b=none→b≠e:=λb n z=>by
  subst z
  rcases he with r|r
  ·exact hx b n r
  ·rw[n] at r;cases r
 have hm:∀b u,H b=some u→¬Mut (some u)→b≠x:=λb u q nm z=>by subst z;rw[q] at mu;exact nm mu
 refine⟨λb u q n _ _=>k b u (hb b n) q,λb u q n _ _=> ⟨u.slots,k b u (hb b n) q⟩,λb u q n _=>by rw[ax (hx b n)];exact n,λb u q _=> ?_,
  λb xs q=>by rw[ax (hm b _ q λz=>z)];exact q,λb u xs q=>by rw[ax (hm b _ q λz=>z)];exact q,λb ps q=> ⟨#[],by rw[ax (hm b _ q λz=>z),q];simp⟩⟩
 by_cases hbe:b=e
 ·subst hbe;exact heo
 ·exact⟨u,k b u hbe q⟩
theorem Un.mono(u:Un fs ex H H1 h h1)(hs:∀b∈fs,b∈fs')(hx:∀b∈ex,b∈ex'):Un fs' ex' H H1 h h1:=
 ⟨λb ob q n hb he=>u.keep b ob q n (λz=>hb (hs b z)) λz=>he (hx b z),λ_ _ q n _ he=>u.any q n λz=>he (hx _ z),λb ob q n he=>u.free b ob q n λz=>he (hx b z),λb ob q he=>u.there b ob q λz=>he (hx b z),u.p8,u.nz,u.p9⟩
end
noncomputable def trk(h:Heap)(H:Hp):List Addr:=(List.range h.objs.size).filter λa=>(H a).isSome
noncomputable def u7(h:Heap)(H:Hp):Heap:=PySem.W.hideAll h (trk h H)
theorem C3(h:Heap)(H:Hp):(u7 h H).objs.size=h.objs.size:=PySem.W.hideAll_size _ _
theorem Dp{h:Heap}{H:Hp}{b:Addr}{o:Obj}(e:h.get? b=some o)(n:H b=none):(u7 h H).get? b=some o:=
 PySem.W.hideAll_get _ e λhm=>by
  have q:(H b).isSome=true:=(Gcq.mp hm).2
  rw[n] at q;simp at q
theorem G8{h:Heap}{H:Hp}{b:Addr}{o:Obj}(e:(u7 h H).get? b=some o):h.get? b=some o∧H b=none:=by
 have e' :h.get? b=some o:=PySem.W.of_hideAll (trk h H) e
 refine⟨e', ?_⟩
 cases q:H b with
 |none=>rfl
 |some x=>
  have hm:b∈trk h H:=Gcq.mpr ⟨GbD.mpr (Gaz e'),by simp[q]⟩
  have z:(u7 h H).get? b=none:=PySem.W.hideAll_none (trk h H) hm
  rw[z] at e;cases e
noncomputable def G9(g h:Heap)(L:Addr):List (Addr×Obj):=(List.range h.objs.size).filterMap λa=>if a=L∨(g.get? a).isSome=true then none else(h.get? a).map λo=>(a,o)
noncomputable def rest(g h:Heap)(L d:Addr):List (Addr×Obj):=(G9 g h L).filter λp=>decide (p.1≠d)
structure Mod(K:PySem.W.Frag)(mg:Str→Option Value)(base:Heap):Prop where
 kin:K.In base
 glob:base.Ns mainGlobals mg
 blt:∃mb,base.Ns builtinsNs mb∧∀x:Str,x≠"__name__"→mb x=bootBuiltins x
 nolimit:base.NoLimit
structure Cx where
 prog:Program
 w:World
 K:PySem.W.Frag
 mg:Str→Option Value
 base:Heap
 A:Around
 N:List Str
 s₀:Shared
 H₀:Hp
 env:Env
 outer:List Env
 stack:List Env
 ex:List Addr
 fn:Str→Bool
 calm:Bool
 pn:List (Addr×Obj)
 xe:Value→Shared→Prop
noncomputable def frs(l:List Env):List Addr:=l.filterMap (·.frame)
noncomputable abbrev Cx.fs (X:Cx):List Addr:=frs X.outer
def Vis(sc:Scope)(x:Str):Prop:=sc.names.lookup x=some .local∨sc.names.lookup x=some .cell∨sc.names.lookup x=some .free
def Loc(sc:Scope)(x:Str):Prop:=sc.names.lookup x=some .local∨sc.names.lookup x=some .cell
def Look(env:Env)(h:Heap)(m:Str→Option Value)(x:Str)(u:Value):Prop:=
 (env.kindOf x=some .local∧m x=some u)∨((env.kindOf x=some .cell∨env.kindOf x=some .free)∧∃c,env.cells.lookup x=some c∧h.IsCell c (some u))
structure Cx.Ok(X:Cx):Prop where
 mod:Mod X.K X.mg X.base
 kind:X.env.scope.kind= .function
 glob:X.env.globals=mainGlobals
 blt:X.env.builtins=builtinsNs
 above:X.s₀.heap.objs.size≤X.env.locals
 inj:∀x y c,X.env.cells.lookup x=some c→X.env.cells.lookup y=some c→x=y
 has:∀x,(X.env.kindOf x=some .cell∨X.env.kindOf x=some .free)→∃c,X.env.cells.lookup x=some c
 cab:∀x c,X.fn x=true→X.env.cells.lookup x=some c→X.s₀.heap.objs.size≤c
 hd:X.calm=true→X.A.handled=none
 frames:X.A.frames=some X.stack
 stk:X.stack=X.outer∨(X.stack=X.env::X.outer∧X.env.frame=some X.env.locals)
 exf:∀b∈X.ex,b≠X.env.locals∧∀x c,X.env.cells.lookup x=some c→c≠b
 bs:∀b o,X.base.get? b=some o→X.s₀.heap.get? b=some o∧X.H₀ b=none
 bsz:X.base.objs.size≤X.s₀.heap.objs.size
 G6:∀b o,X.base.get? b=some o→b∉X.ex
 G7:∀b∈X.ex,b∉X.fs
 pU:X.s₀.heap.FunFrames X.base X.outer
 frf:∀b∈X.fs,X.H₀ b=none
structure Inv(X:Cx)(pins:List (Addr×Obj))(σ:List (Option V))(H:Hp)(s:Shared):Prop where
 ok:X.Ok
 os:s.os=X.s₀.os
 bare:AllBare s.gens
 base:Un X.fs X.ex X.H₀ H X.s₀.heap s.heap
 loc:∃m,s.heap.Ns X.env.locals m∧∀(i:Nat) (x:Str) (v:V),X.N[i]? =some x→σ[i]? =some (some v)→Vis X.env.scope x→∃u,RelV v u∧Look X.env s.heap m x u
 cell:∀x c,X.env.cells.lookup x=some c→∃v,s.heap.IsCell c v
 free:H X.env.locals=none
 jW:∀x c,X.env.cells.lookup x=some c→H c=none
 pin:∀p∈X.pn++pins,s.heap.get? p.1=some p.2∧H p.1=none∧p.1≠X.env.locals∧p.1∉X.fs∧∀v,p.2.data≠ .cell v
 hok:HOk X.prog X.w H s.heap
 len:σ.length=X.N.length
section
variable{X:Cx}{pins:List (Addr×Obj)}{σ:List (Option V)}{H H' :Hp}{s:Shared}{h' :Heap}
theorem Cx.Ok.Nm(ok:X.Ok){b:Addr}{o:Obj}(e:X.base.get? b=some o):b∉X.fs:=λhb=>by
 have:=(ok.pU.mem hb).1
 rw[e] at this;cases this
theorem Inv.bs(I:Inv X pins σ H s):∀b o,X.base.get? b=some o→s.heap.get? b=some o∧H b=none:=λb o e=>
 ⟨I.base.keep b o (I.ok.bs b o e).1 (I.ok.bs b o e).2 (I.ok.Nm e) (I.ok.G6 b o e),I.base.free b o (I.ok.bs b o e).1 (I.ok.bs b o e).2 (I.ok.G6 b o e)⟩
theorem Inv.bk(I:Inv X pins σ H s):∀b o,X.base.get? b=some o→s.heap.get? b=some o:=λb o e=>(I.bs b o e).1
theorem Inv.mod(I:Inv X pins σ H s):Mod X.K X.mg X.base:=I.ok.mod
theorem Inv.kIn(I:Inv X pins σ H s):X.K.In s.heap:=I.ok.mod.kin.keeps I.bk
theorem Inv.nolimit(I:Inv X pins σ H s):s.heap.NoLimit:=I.ok.mod.nolimit.keeps I.bk
theorem Inv.fr(I:Inv X pins σ H s):∃m,Fr X.base X.env.locals s.heap m:=
 let⟨m,hn,_⟩:=I.loc
 ⟨m,hn,I.bk,Gbt I.ok.bsz I.ok.above⟩
theorem Inv.lt(I:Inv X pins σ H s):X.env.locals<s.heap.objs.size:=let⟨_,hn,_⟩:=I.loc;hn.lt
theorem Inv.sz(I:Inv X pins σ H s):X.s₀.heap.objs.size≤s.heap.objs.size:=Gbt I.ok.above (Gdk I.lt)
theorem Inv.Np(I:Inv X pins σ H s){a:Addr}(h:s.heap.objs.size≤a):a∉X.fs:=λhb=>by
 obtain⟨_,o,ho,_⟩:=I.ok.pU.mem hb
 exact absurd (GaP (Gaz ho) (Gbt I.sz h)) (Gbz _)
theorem Inv.cne(I:Inv X pins σ H s):∀x c,X.env.cells.lookup x=some c→c≠X.env.locals:=λx c e z=>by
 obtain⟨v,o,ho,hd⟩:=I.cell x c e
 obtain⟨m,⟨o',es,ep,ho',hd',_⟩,_⟩:=I.loc
 rw[z,ho'] at ho;cases ho;rw[hd'] at hd;cases hd
theorem Inv.pU(I:Inv X pins σ H s):s.heap.FunFrames X.base X.outer:=by
 have all:∀(l:List Env),(∀b∈frs l,b∈X.fs)→X.s₀.heap.FunFrames X.base l→s.heap.FunFrames X.base l:=by
  intro l
  induction l with
  |nil=>intro _ _;trivial
  |cons env r ih=>
   intro hs hl
   obtain⟨hk,⟨L,o,hf,hn,ho,hd⟩,hr⟩:=hl
   have hL:L∈X.fs:=hs L (by unfold frs;rw[Gdp,hf];exact Gak)
   obtain⟨sl,e⟩:=I.base.slot L o ho (I.ok.frf L hL) hL λz=>I.ok.G7 L z hL
   exact⟨hk,⟨L,_,hf,hn,e,hd⟩,ih (λb hb=>hs b (by unfold frs;rw[Gdp,hf];exact Gaf _ hb)) hr⟩
 exact all X.outer (λ_ hb=>hb) I.ok.pU
theorem Inv.stack(I:Inv X pins σ H s):s.heap.FunFrames X.base X.stack:=by
 rcases I.ok.stk with e| ⟨e,hf⟩
 ·rw[e];exact I.pU
 ·rw[e]
  obtain⟨m,hn,_⟩:=I.loc
  refine .cons (by rw[I.ok.kind];decide) hf hn ?_ I.pU
  exact Heap.get?_none_of_le (Gbt I.ok.bsz I.ok.above)
theorem Inv.A7(I:Inv X pins σ H s):∀b∈frs X.stack,b∈X.env.locals::X.fs:=λb hb=>by
 rcases I.ok.stk with e| ⟨e,hf⟩
 ·rw[e] at hb;exact Gaf _ hb
 ·rw[e] at hb
  unfold frs at hb
  rw[Gdp,hf] at hb
  exact hb
theorem Inv.B3(I:Inv X pins σ H s):∀b∈frs X.stack,H b=none:=λb hb=>by
 rcases Gay.mp (I.A7 b hb) with e|hb
 ·rw[e];exact I.free
 ·obtain⟨_,o,ho,_⟩:=I.ok.pU.mem hb
  exact I.base.free b o ho (I.ok.frf b hb) λz=>I.ok.G7 b z hb
theorem Inv.step{g' :Array GenState}{t' :Nat}{d' :Drawn}{ch:List Addr}(I:Inv X pins σ H s)
  (hch:∀b∈ch,(b∈X.ex∨X.s₀.heap.objs.size≤b)∧b≠X.env.locals∧(∀x c,X.env.cells.lookup x=some c→c≠b)∧∀p∈X.pn++pins,p.1≠b)
  (keep:∀b o,b≠X.env.locals→b∉X.fs→b∉ch→s.heap.get? b=some o→H b=none→h'.get? b=some o)
  (slot:∀b o,b≠X.env.locals→b∈X.fs→b∉ch→s.heap.get? b=some o→H b=none→∃sl,h'.get? b=some {o with slots:=sl})(free:∀b o,b∉ch→s.heap.get? b=some o→H b=none→H' b=none)
  (there:∀b o,b∉ch→s.heap.get? b=some o→∃o',h'.get? b=some o')
  (p8:∀b xs,H b=some (.tup xs)→H' b=some (.tup xs))(nz:∀b o u,H b=some (.frz o u)→H' b=some (.frz o u))(p9:∀b ps,H b=some (.tbl ps)→∃more,H' b=some (.tbl (ps++more)))
  (ns:∀m,s.heap.Ns X.env.locals m→h'.Ns X.env.locals m)(hok:HOk X.prog X.w H' h')(hg:AllBare g'):
  Inv X pins σ H' {s with heap:=h',gens:=g',drawn:=d',toks:=t' }:=by
 have neL:∀b o,X.s₀.heap.get? b=some o→b≠X.env.locals:=λb o e=>GaO (GaP (Gaz e) I.ok.above)
 have neC:∀b o,X.s₀.heap.get? b=some o→b∉X.ex→b∉ch:=λb o e hx hb=>by
  rcases(hch b hb).1 with z|z
  ·exact hx z
  ·exact absurd (GaP (Gaz e) z) (Gbz _)
 have cellK:∀x c,X.env.cells.lookup x=some c→∀v,s.heap.IsCell c v→h'.IsCell c v:=λx c e v ⟨o,ho,hd⟩=>by
  have nch:c∉ch:=λz=>(hch c z).2.2.1 x c e rfl
  by_cases hc:c∈X.fs
  ·obtain⟨sl,q⟩:=slot c o (I.cne x c e) hc nch ho (I.jW x c e)
   exact⟨_,q,hd⟩
  ·exact⟨o,keep c o (I.cne x c e) hc nch ho (I.jW x c e),hd⟩
 refine⟨I.ok,I.os,hg,⟨λb o e n hb hx=> ?_,λb o e n hb hx=> ?_,λb o e n hx=> ?_,λb o e hx=> ?_,λb xs e=>p8 b xs (I.base.p8 b xs e),λb o xs e=>nz b o xs (I.base.nz b o xs e),λb ps e=> ?_⟩, ?_,λx c e=> ?_, ?_,λx c e=> ?_,λp hp=> ?_,hok,I.len⟩
 ·exact keep b o (neL b o e) hb (neC b o e hx) (I.base.keep b o e n hb hx) (I.base.free b o e n hx)
 ·obtain⟨sl,e1⟩:=I.base.slot b o e n hb hx
  obtain⟨sl',e2⟩:=slot b _ (neL b o e) hb (neC b o e hx) e1 (I.base.free b o e n hx)
  exact⟨sl',e2⟩
 ·obtain⟨o',e1⟩:=I.base.there b o e hx
  exact free b o' (neC b o e hx) e1 (I.base.free b o e n hx)
 ·obtain⟨o',e1⟩:=I.base.there b o e hx
  exact there b o' (neC b o e hx) e1
 ·obtain⟨m1,e1⟩:=I.base.p9 b ps e
  obtain⟨m2,e2⟩:=p9 b _ e1
  exact⟨m1++m2,by rw[e2,Array.append_assoc]⟩
 ·obtain⟨m,hn,hl⟩:=I.loc
  refine⟨m,ns m hn,λi x v e1 e2 e3=> ?_⟩
  obtain⟨u,r,l⟩:=hl i x v e1 e2 e3
  refine⟨u,r, ?_⟩
  rcases l with l| ⟨k,c,e,z⟩
  ·exact .inl l
  ·exact .inr ⟨k,c,e,cellK x c e _ z⟩
 ·obtain⟨v,z⟩:=I.cell x c e
  exact⟨v,cellK x c e v z⟩
 ·obtain⟨m,⟨o,_,_,ho,_⟩,_⟩:=I.loc
  exact free _ o (λz=>(hch _ z).2.1 rfl) ho I.free
 ·obtain⟨v,o,ho,hd⟩:=I.cell x c e
  exact free c o (λz=>(hch c z).2.2.1 x c e rfl) ho (I.jW x c e)
 ·obtain⟨e,n,ne,nf,d⟩:=I.pin p hp
  have nch:p.1∉ch:=λz=>(hch p.1 z).2.2.2 p hp rfl
  exact⟨keep p.1 p.2 ne nf nch e n,free p.1 p.2 nch e n,ne,nf,d⟩
theorem Inv.un{t' :Nat}(I:Inv X pins σ H s)(u:Un X.fs [] H H' s.heap h')(hok:HOk X.prog X.w H' h'):Inv X pins σ H' {s with heap:=h',toks:=t' }:=by
 obtain⟨m,⟨o,es,ep,ho,r⟩,_⟩:=id I.loc
 obtain⟨sl,hL⟩:=u.any ho I.free (by simp)
 exact I.step (g' :=s.gens) (d' :=s.drawn) (ch:=[]) (λ_ z=>nomatch z) (λb o _ hb _ e n=>u.keep b o e n hb (by simp)) (λb o _ hb _ e n=>u.slot b o e n hb (by simp)) (λb o _ e n=>u.free b o e n (by simp)) (λb o _ e=>u.there b o e (by simp)) u.p8 u.nz u.p9 (λm' hm=>by
  obtain⟨o',es',ep',ho',r'⟩:=hm
  rw[ho] at ho';cases ho'
  exact⟨_,es',ep',hL,r'⟩) hok I.bare
theorem Inv.call{g' :Array GenState}{t' :Nat}{d' :Drawn}{ch:List Addr}(I:Inv X pins σ H s)(u:Un (frs X.stack) ch H H' s.heap h')(hok:HOk X.prog X.w H' h')(hg:AllBare g')
  (hch:∀b∈ch,(b∈X.ex∨X.s₀.heap.objs.size≤b)∧b≠X.env.locals∧(∀x c,X.env.cells.lookup x=some c→c≠b)∧∀p∈X.pn++pins,p.1≠b):
  Inv X pins σ H' {s with heap:=h',gens:=g',drawn:=d',toks:=t' }:=by
 obtain⟨m,⟨o,es,ep,ho,r⟩,_⟩:=id I.loc
 obtain⟨sl,hL⟩:=u.any ho I.free λz=>(hch _ z).2.1 rfl
 exact I.step (ch:=ch) hch (λb o hL hb hc e n=>u.keep b o e n (λz=>(Gay.mp (I.A7 b z)).elim hL hb) hc) (λb o _ _ hc e n=>u.any e n hc) (λb o hc e n=>u.free b o e n hc) (λb o hc e=>u.there b o e hc) u.p8 u.nz u.p9 (λm' hm=>by
  obtain⟨o',es',ep',ho',r'⟩:=hm
  rw[ho] at ho';cases ho'
  exact⟨_,es',ep',hL,r'⟩) hok hg
theorem Inv.turned{t' :Nat}{it:Addr}(I:Inv X pins σ H s)(k:∀b o,b≠it→s.heap.get? b=some o→h'.get? b=some o)(hn:H it=none)(hL:it≠X.env.locals)
  (h1:it∈X.ex∨X.s₀.heap.objs.size≤it)(h2:∀x c,X.env.cells.lookup x=some c→c≠it)(h3:∀p∈X.pn++pins,p.1≠it):Inv X pins σ H {s with heap:=h',toks:=t' }:=by
 have nit:∀b u,H b=some u→b≠it:=λb u e z=>by rw[z,hn] at e;cases e
 refine I.step (g' :=s.gens) (d' :=s.drawn) (ch:=[it]) (λb hb=> ?_) (λb o _ _ hc e _=>k b o (λz=>hc (by simp[z])) e) (λb o _ _ hc e _=> ⟨o.slots,k b o (λz=>hc (by simp[z])) e⟩) (λ_ _ _ _ n=>n)
  (λb o hc e=> ⟨o,k b o (λz=>hc (by simp[z])) e⟩) (λ_ _ e=>e) (λ_ _ _ e=>e) (λb ps e=> ⟨#[],by rw[e];simp⟩) (λm hm=> ?_) (λb u e=> ?_) I.bare
 ·have e:b=it:=by simpa using hb
  subst e
  exact⟨h1,hL,h2,h3⟩
 ·obtain⟨o,es,ep,ho,r⟩:=hm
  exact⟨o,es,ep,k _ o (GaZ hL) ho,r⟩
 ·refine(I.hok b u e).dQ (λc v hc q=>k c v ?_ q) (λ_ q=>q) λ_ _ q=>q
  rcases hc with z|z
  ·rw[z];exact nit b u e
  ·exact nit c _ z
theorem Inv.tok(I:Inv X pins σ H s)(t:Nat):Inv X pins σ H {s with toks:=t}:=I.un (h' :=s.heap) (t' :=t) Un.refl I.hok
theorem Inv.kept{t' :Nat}(I:Inv X pins σ H s)(k:∀b u,s.heap.get? b=some u→h'.get? b=some u):Inv X pins σ H {s with heap:=h',toks:=t' }:=I.un (Un.kept k) (I.hok.kept k)
theorem Inv.laid{a:Addr}{o:HO}{t' :Nat}(I:Inv X pins σ H s)(k:∀b u,s.heap.get? b=some u→h'.get? b=some u)(hp:s.heap.objs.size≤a)(new:cx X.prog X.w (upd H a o) h' a o):
  Inv X pins σ (upd H a o) {s with heap:=h',toks:=t' }:=I.un (Un.laid k hp (I.hok.fresh hp)) (I.hok.laid k hp new)
theorem Inv.write{x e:Addr}{o:HO}{t' :Nat}(I:Inv X pins σ H s)(mu:Mut (H x))(he:e=x∨H e=some (.own x))(k:∀b u,b≠e→s.heap.get? b=some u→h'.get? b=some u)(heo:∃u,h'.get? e=some u)
  (new:cx X.prog X.w (upd H x o) h' x o):Inv X pins σ (upd H x o) {s with heap:=h',toks:=t' }:=I.un (Un.write mu he k heo) (I.hok.write mu he k heo new)
theorem Inv.B4{pins' :List (Addr×Obj)}(I:Inv X pins σ H s)(h:∀p∈pins',s.heap.get? p.1=some p.2∧H p.1=none∧p.1≠X.env.locals∧p.1∉X.fs∧∀v,p.2.data≠ .cell v):Inv X pins' σ H s:=
 ⟨I.ok,I.os,I.bare,I.base,I.loc,I.cell,I.free,I.jW,λp hp=>(Gax.mp hp).elim (λz=>I.pin p (Gcc _ z)) (h p),I.hok,I.len⟩
theorem vc{N:List Str}(hN:N.Nodup){i j:Nat}{x:Str}(a:N[i]? =some x)(b:N[j]? =some x):i=j:=by
 obtain⟨h1,e1⟩:=Gac.mp a
 obtain⟨h2,e2⟩:=Gac.mp b
 exact(List.getElem_inj hN).mp (e1.trans e2.symm)
theorem C4{M:Model}{A:Around}{E:Value→Shared→Prop}{i:Nat}{x:Str}{v:V}{u:Value}{Q:Unit→Shared→Prop}(I:Inv X pins σ H s)(hN:X.N.Nodup)(hi:X.N[i]? =some x)(hx:Loc X.env.scope x)(r:RelV v u)
  (h:∀s',Inv X pins (σ.set i (some v)) H s' →(∃a,Heap.SameBut a s.heap s'.heap∧(a=X.env.locals∨X.env.cells.lookup x=some a))→Q () s')(hf:X.fn x=true∨X.env.scope.names.lookup x=some .local:=by first|exact .inl rfl|exact .inr rfl|assumption):wpAny M A (storeName X.env x u) Q E s:=by
 obtain⟨m,hn,hl⟩:=id I.loc
 have hcls:(X.env.scope.kind== .class||(X.env.scope.kind== .module&&X.env.locals !=X.env.globals))=false:=by rw[I.ok.kind];rfl
 have hiσ:i<σ.length:=by rw[I.len];exact(Gac.mp hi).1
 have cne:=I.cne
 have tracked:∀{a:Addr} {h' :Heap},(∃o,s.heap.get? a=some o∧H a=none)→Heap.SameBut a s.heap h' →HOk X.prog X.w H h' :=λ{a h'} ha hs b ob e=>by
  obtain⟨_,_,hfree⟩:=ha
  refine(I.hok b ob e).dQ (λc w' hc q=>(hs.2 c ?_).trans q) (λ_ q=>q) λ_ _ q=>q
  rintro rfl
  rcases hc with rfl|hc
  ·rw[hfree] at e;cases e
  ·rw[hfree] at hc;cases hc
 rcases hx with hk|hk
 ·refine wpAny_storeName_local hk hn (λh' hn' hs=> ?_) hcls
  obtain⟨oL,_,_,hoL,_⟩:=id hn
  refine h _ ⟨I.ok,I.os,I.bare,⟨λb o e n hb hx=> ?_,λb o e n hb hx=> ?_,I.base.free,λb o e hx=> ?_,I.base.p8,I.base.nz,I.base.p9⟩,⟨_,hn',λj y v' e1 e2 e3=> ?_⟩,λy c e=> ?_,I.free,I.jW,λp hp=> ?_,tracked ⟨oL,hoL,I.free⟩ hs,by simpa using I.len⟩ ⟨_,hs,.inl rfl⟩
  ·exact(hs.2 b (GaO (GaP (Gaz e) I.ok.above))).trans (I.base.keep b o e n hb hx)
  ·obtain⟨sl,e1⟩:=I.base.slot b o e n hb hx
   exact⟨sl,(hs.2 b (GaO (GaP (Gaz e) I.ok.above))).trans e1⟩
  ·obtain⟨o',e1⟩:=I.base.there b o e hx
   exact⟨o',(hs.2 b (GaO (GaP (Gaz e) I.ok.above))).trans e1⟩
  ·by_cases hj:j=i
   ·subst hj
    rw[hi] at e1;cases e1
    rw[GaN hiσ] at e2
    cases e2
    exact⟨u,r,.inl ⟨hk,by simp⟩⟩
   ·rw[Gab (GaZ hj)] at e2
    obtain⟨u',r',q⟩:=hl j y v' e1 e2 e3
    refine⟨u',r', ?_⟩
    rcases q with⟨k,e⟩| ⟨k,c,e,z⟩
    ·refine .inl ⟨k, ?_⟩
     have:y≠x:=λe=>hj (vc hN e1 (e▸hi))
     simp[this,e]
    ·exact .inr ⟨k,c,e,z.sameBut hs (cne y c e)⟩
  ·obtain⟨w',z⟩:=I.cell y c e
   exact⟨w',z.sameBut hs (cne y c e)⟩
  ·obtain⟨e,n,ne,nf,d⟩:=I.pin p hp
   exact⟨(hs.2 p.1 ne).trans e,n,ne,nf,d⟩
 ·have hfn:X.fn x=true:=by
   rcases hf with z|z
   ·exact z
   ·rw[z] at hk;cases hk
  obtain⟨c,hc⟩:=I.ok.has x (.inl hk)
  obtain⟨w',z⟩:=I.cell x c hc
  refine wpAny_storeName_cell I.ok.kind hk hc z (λh' hc' hs=> ?_)
  obtain⟨oc,hoc,hocd⟩:=id z
  refine h {s with heap:=h' } ⟨I.ok,I.os,I.bare,⟨λb o e n hb hx=> ?_,λb o e n hb hx=> ?_,I.base.free,λb o e hx=> ?_,I.base.p8,I.base.nz,I.base.p9⟩,⟨m,hn.sameBut hs (GaZ (cne x c hc)),λj y v' e1 e2 e3=> ?_⟩,λy c' e=> ?_,I.free,I.jW,λp hp=> ?_,tracked ⟨oc,hoc,I.jW x c hc⟩ hs,by simpa using I.len⟩ ⟨c,hs,.inr hc⟩
  ·exact(hs.2 b (GaO (GaP (Gaz e) (I.ok.cab x c hfn hc)))).trans (I.base.keep b o e n hb hx)
  ·obtain⟨sl,e1⟩:=I.base.slot b o e n hb hx
   exact⟨sl,(hs.2 b (GaO (GaP (Gaz e) (I.ok.cab x c hfn hc)))).trans e1⟩
  ·obtain⟨o',e1⟩:=I.base.there b o e hx
   exact⟨o',(hs.2 b (GaO (GaP (Gaz e) (I.ok.cab x c hfn hc)))).trans e1⟩
  ·by_cases hj:j=i
   ·subst hj
    rw[hi] at e1;cases e1
    rw[GaN hiσ] at e2
    cases e2
    exact⟨u,r,.inr ⟨.inl hk,c,hc,hc'⟩⟩
   ·rw[Gab (GaZ hj)] at e2
    obtain⟨u',r',q⟩:=hl j y v' e1 e2 e3
    refine⟨u',r', ?_⟩
    rcases q with q| ⟨k,c',e,z'⟩
    ·exact .inl q
    ·refine .inr ⟨k,c',e,z'.sameBut hs ?_⟩
     rintro rfl
     exact hj (vc hN e1 (I.ok.inj _ _ _ e hc▸hi))
  ·by_cases hcc:c' =c
   ·subst hcc;exact⟨_,hc'⟩
   ·obtain⟨w2,z2⟩:=I.cell y c' e
    exact⟨w2,z2.sameBut hs hcc⟩
  ·obtain⟨e,n,ne,nf,d⟩:=I.pin p hp
   refine⟨(hs.2 p.1 ?_).trans e,n,ne,nf,d⟩
   intro q
   rw[q,hoc] at e
   have q' :oc=p.2:=Option.some.inj e
   exact d w' (by rw[←q'];exact hocd)
theorem vd{M:Model}{A:Around}{E:Value→Shared→Prop}{i:Nat}{x:Str}{v:V}{u:Value}{Q:Unit→Shared→Prop}(I:Inv X pins σ H s)(hN:X.N.Nodup)(hi:X.N[i]? =some x)(hx:Loc X.env.scope x)(r:RelV v u)
  (h:∀s',Inv X pins (σ.set i (some v)) H s' →Q () s')(hf:X.fn x=true∨X.env.scope.names.lookup x=some .local:=by first|exact .inl rfl|exact .inr rfl|assumption):wpAny M A (storeName X.env x u) Q E s:=
 C4 I hN hi hx r (λs' I' _=>h s' I') hf
theorem Inv.Im{s' :Shared}{ch:List Addr}(I:Inv X pins σ H s)(ho:s'.os=s.os)(u:Un (frs X.stack) ch H H' s.heap s'.heap)(hok:HOk X.prog X.w H' s'.heap)(hg:AllBare s'.gens)
  (hch:∀b∈ch,(b∈X.ex∨X.s₀.heap.objs.size≤b)∧b≠X.env.locals∧(∀x c,X.env.cells.lookup x=some c→c≠b)∧∀p∈X.pn++pins,p.1≠b):Inv X pins σ H' s' :=by
 obtain⟨h',g',d',t',o'⟩:=s'
 have e:o' =s.os:=ho
 subst e
 exact I.call (g' :=g') (t' :=t') (d' :=d') u hok hg hch
end
abbrev XK:=Value→Option Addr→Hp→Prop
noncomputable abbrev St:=List (Option V)
abbrev VK:=V→Hp→Prop
abbrev TE:=St→Hp→VK→Prop
abbrev TT:=St→Hp→(Bool→Hp→Prop)→Prop
abbrev TA:=St→Hp→(List V→Hp→Prop)→Prop
structure Ends where
 nx:St→Hp→Prop
 rt:VK
 bk:St→Hp→Prop:=λ_ _=>False
 ct:St→Hp→Prop:=λ_ _=>False
abbrev TS:=Ends→St→Hp→Prop
def EP(X:Cx)(pins:List (Addr×Obj))(σ:St)(Q:VK)(u:Value)(s' :Shared):Prop:=∃v H',Inv X pins σ H' s' ∧RelV v u∧Q v H'
def TP(X:Cx)(pins:List (Addr×Obj))(σ:St)(Q:Bool→Hp→Prop)(b:Bool)(s' :Shared):Prop:=∃H',Inv X pins σ H' s' ∧Q b H'
def AP(X:Cx)(pins:List (Addr×Obj))(σ:St)(Q:List V→Hp→Prop)(us:List Value)(s' :Shared):Prop:=∃vs H',Inv X pins σ H' s' ∧Vals vs us∧Q vs H'
def SP(X:Cx)(pins:List (Addr×Obj))(D:Ends)(f:Flow)(s' :Shared):Prop:=
 match f with
 | .next=>∃σ' H',Inv X pins σ' H' s' ∧D.nx σ' H'
 | .brk=>∃σ' H',Inv X pins σ' H' s' ∧D.bk σ' H'
 | .cont=>∃σ' H',Inv X pins σ' H' s' ∧D.ct σ' H'
 | .ret u=>∃v σ' H',Inv X pins σ' H' s' ∧RelV v u∧D.rt v H'
def PE(X:Cx)(e:Expr)(t:TE):Prop:=
 ∀(pins:List (Addr×Obj)) (s:Shared) (σ:St) (H:Hp) (Q:VK),Inv X pins σ H s→t σ H Q→wpAny (model X.prog X.w) X.A (eval e X.env) (EP X pins σ Q) X.xe s
def PT(X:Cx)(e:Expr)(t:TT):Prop:=
 ∀(pins:List (Addr×Obj)) (s:Shared) (σ:St) (H:Hp) (Q:Bool→Hp→Prop),Inv X pins σ H s→t σ H Q→wpAny (model X.prog X.w) X.A (isTrue e X.env (eval e X.env)) (TP X pins σ Q) X.xe s
def PW(X:Cx)(e:Expr)(t:TT):Prop:=
 ∀(whole:Sem Value) (pins:List (Addr×Obj)) (s:Shared) (σ:St) (H:Hp) (Q:Bool→Hp→Prop),Inv X pins σ H s→t σ H Q→wpAny (model X.prog X.w) X.A (isTrue e X.env whole) (TP X pins σ Q) X.xe s
theorem PW.pt{X:Cx}{e:Expr}{t:TT}(h:PW X e t):PT X e t:=h _
def PA(X:Cx)(es:List Expr)(t:TA):Prop:=
 ∀(pos:Pos) (pins:List (Addr×Obj)) (s:Shared) (σ:St) (H:Hp) (Q:List V→Hp→Prop),Inv X pins σ H s→t σ H Q→wpAny (model X.prog X.w) X.A (spliced (backTo pos (starEach es X.env))) (AP X pins σ Q) X.xe s
def PS(X:Cx)(st:Stmt)(t:TS):Prop:=
 ∀(pins:List (Addr×Obj)) (s:Shared) (σ:St) (H:Hp) (D:Ends),Inv X pins σ H s→t D σ H→wpAny (model X.prog X.w) X.A (exec st X.env) (SP X pins D) X.xe s
def PSs(X:Cx)(st:List Stmt)(t:TS):Prop:=
 ∀(pins:List (Addr×Obj)) (s:Shared) (σ:St) (H:Hp) (D:Ends),Inv X pins σ H s→t D σ H→wpAny (model X.prog X.w) X.A (execs st X.env) (SP X pins D) X.xe s
theorem thn{α:Type}{t:Sem α}{Q Q' :α→Shared→Prop}{M:Model}{A:Around}{E:Value→Shared→Prop}{s:Shared}(h:wpAny M A t Q E s)(hQ:∀a s,Q a s→Q' a s):wpAny M A t Q' E s:=GbK h hQ λ_ _ x=>x
section
variable{X:Cx}
noncomputable def L5(i:Nat):TE:=λσ H Q=>∃v,σ[i]? =some (some v)∧Q v H
noncomputable def tC(v:V):TE:=λ_ H Q=>Q v H
theorem kL{i:Nat}{x:Str}{pos:Pos}(hN:X.N[i]? =some x)(hv:Vis X.env.scope x)(hd:(x==("__debug__":Str))=false:=by decide)(hcd:(x==("__classdict__":Str))=false:=by decide):PE X (.Name x pos) (L5 i):=by
 intro pins s σ H Q I h
 obtain⟨v,e,h⟩:=h
 obtain⟨m,hn,hl⟩:=I.loc
 obtain⟨u,r,l⟩:=hl i x v hN e hv
 have fin:EP X pins σ Q u s:=⟨v,H,I,r,h⟩
 rcases l with⟨hk,hm⟩| ⟨hk,c,hc,hcell⟩
 ·exact wpAny_Name (wpAny_loadName_local I.ok.kind hk hn hm fin) hd
 ·rcases hk with hk|hk
  ·exact wpAny_Name (wpAny_loadName_cell I.ok.kind hk hc hcell fin) hd
  ·exact wpAny_Name (wpAny_loadName_free I.ok.kind hk hc hcell fin hcd) hd
theorem Dq{i j pos}:PE X (.Constant (.int i) j pos) (tC (.int i)):=λ_ _ _ H _ I h=>wpAny_Constant_int ⟨.int i,H,I.tok _,⟨_,rfl⟩,h⟩
theorem L6{b j pos}:PE X (.Constant (.bool b) j pos) (tC (.bl b)):=λ_ _ _ H _ I h=>Constant_bool ⟨.bl b,H,I,rfl,h⟩
theorem IQ{j pos}:PE X (.Constant .none j pos) (tC .non):=λ_ _ _ H _ I h=>Constant_none ⟨.non,H,I,rfl,h⟩
theorem IS{x j pos}:PE X (.Constant (.str x) j pos) (tC (.str x)):=λ_ _ _ H _ I h=>Calls.Constant_str ⟨.str x,H,I.tok _,⟨_,rfl⟩,h⟩
def Gl(X:Cx)(x:Str):Prop:=X.env.kindOf x=some .globalImplicit
theorem Ga{E:Value→Shared→Prop}{pins:List (Addr×Obj)}{s:Shared}{σ:St}{H:Hp}{x:Str}{u:Value}{pos:Pos}{Q:Value→Shared→Prop}(I:Inv X pins σ H s)(hg:Gl X x)(hm:X.mg x=some u)(h:Q u s)
  (hd:(x==("__debug__":Str))=false:=by decide):wpAny (model X.prog X.w) X.A (eval (.Name x pos) X.env) Q E s:=
 Calls.Name_function_global I.ok.kind hg (Calls.loadGlobal_global (by rw[I.ok.glob];exact I.mod.glob.keeps I.bk) hm h) hd
theorem mU{E:Value→Shared→Prop}{pins:List (Addr×Obj)}{s:Shared}{σ:St}{H:Hp}{x:Str}{u:Value}{pos:Pos}{Q:Value→Shared→Prop}(I:Inv X pins σ H s)(hg:Gl X x)(hm:X.mg x=none)(hv:bootBuiltins x=some u)(h:Q u s)
  (hn:x≠"__name__":=by decide)(hd:(x==("__debug__":Str))=false:=by decide):wpAny (model X.prog X.w) X.A (eval (.Name x pos) X.env) Q E s:=by
 obtain⟨mb,h1,h2⟩:=I.mod.blt
 exact Calls.Name_function_global I.ok.kind hg (Calls.loadGlobal_builtin (by rw[I.ok.glob];exact I.mod.glob.keeps I.bk) hm (by rw[I.ok.blt];exact h1.keeps I.bk) ((h2 x hn).trans hv) h) hd
theorem Gb{x:Str}{v:V}{u:Value}{pos:Pos}(hg:Gl X x)(hm:X.mg x=none)(hv:bootBuiltins x=some u)(r:RelV v u)(hn:x≠"__name__":=by decide)(hd:(x==("__debug__":Str))=false:=by decide):PE X (.Name x pos) (tC v):=
 λ_ _ _ H _ I h=>mU I hg hm hv ⟨v,H,I,r,h⟩ hn hd
variable{a b:Expr}{ta tb:TE}{pos:Pos}
noncomputable def tB(t:TE):TT:=λσ H Q=>t σ H λx H1=>∃c,x= .bl c∧Q c H1
theorem IT{e:Expr}{t:TE}(h:PE X e t)(he:∀whole,isTrue e X.env whole=(do let v←whole;standAt e.pos;holding [v] (truthy v)):=by intro _;rfl):PT X e (tB t):=by
 intro pins s σ H Q I hw
 refine isTrue_plain (thn (h pins s σ H _ I hw) λv s1 ⟨x,H1,I1,r1,q1⟩=> ?_) (he _)
 obtain⟨d,rfl,q⟩:=q1
 cases r1
 exact GbF ⟨H1,I1,q⟩
variable{tA tB' :TT}{rest:List Expr}
noncomputable def Nq(t u:TT):TT:=λσ H Q=>t σ H λc H1=>if c=true then u σ H1 Q else Q false H1
noncomputable def tOr(t u:TT):TT:=λσ H Q=>t σ H λc H1=>if c=true then Q true H1 else u σ H1 Q
noncomputable def Nr(t:TT):TT:=λσ H Q=>t σ H λc H1=>Q (!c) H1
theorem Gd(ha:PT X a tA):PW X (.BoolOp .And [a] pos) tA:=by
 intro wh pins s σ H Q I h
 refine isTrue_and (thn (ha pins s σ H Q I h) λc s1 e=> ?_)
 cases c with
 |true=>exact isTrue_and_nil e
 |false=>exact e
theorem IU(ha:PT X a tA):PW X (.BoolOp .Or [a] pos) tA:=by
 intro wh pins s σ H Q I h
 refine isTrue_or (thn (ha pins s σ H Q I h) λc s1 e=> ?_)
 cases c with
 |false=>exact isTrue_or_nil e
 |true=>exact e
theorem IV(ha:PT X a tA)(hb:PW X (.BoolOp .And (b::rest) pos) tB'):PW X (.BoolOp .And (a::b::rest) pos) (Nq tA tB'):=by
 intro wh pins s σ H Q I h
 refine isTrue_and (thn (ha pins s σ H _ I h) λc s1 ⟨H1,I1,q1⟩=> ?_)
 cases c with
 |true=>exact hb wh pins s1 σ H1 Q I1 q1
 |false=>exact⟨H1,I1,q1⟩
theorem L7(ha:PT X a tA)(hb:PW X (.BoolOp .Or (b::rest) pos) tB'):PW X (.BoolOp .Or (a::b::rest) pos) (tOr tA tB'):=by
 intro wh pins s σ H Q I h
 refine isTrue_or (thn (ha pins s σ H _ I h) λc s1 ⟨H1,I1,q1⟩=> ?_)
 cases c with
 |true=>exact⟨H1,I1,q1⟩
 |false=>exact hb wh pins s1 σ H1 Q I1 q1
theorem IW(ha:PT X a tA):PT X (.UnaryOp .Not a pos) (Nr tA):=by
 intro pins s σ H Q I h
 exact isTrue_not (ha pins s σ H (λc H1=>Q (!c) H1) I h)
noncomputable def L8(ta tb:TE):TE:=λσ H Q=>ta σ H λx H1=>∃c,x= .bl c∧if c=true then tb σ H1 Q else Q (.bl false) H1
noncomputable def L9(ta:TE):TE:=λσ H Q=>ta σ H λx H1=>∃c,x= .bl c∧Q (.bl (!c)) H1
theorem IY{op}{t:TE}(h:PE X a t):PE X (.BoolOp op [a] pos) t:=λpins s σ H Q I hw=>BoolOp_one (h pins s σ H Q I hw)
theorem IZ(ha:PE X a ta)(hb:PE X (.BoolOp .And (b::rest) pos) tb):PE X (.BoolOp .And (a::b::rest) pos) (L8 ta tb):=by
 intro pins s σ H Q I h
 refine BoolOp_and (thn (ha pins s σ H _ I h) λv s1 ⟨x,H1,I1,r1,q1⟩=> ?_)
 obtain⟨c,rfl,q1⟩:=q1
 cases r1
 refine GbF ?_
 cases c with
 |true=>exact hb pins s1 σ H1 Q I1 q1
 |false=>exact⟨.bl false,H1,I1,rfl,q1⟩
theorem J1(ha:PE X a ta):PE X (.UnaryOp .Not a pos) (L9 ta):=by
 intro pins s σ H Q I h
 refine UnaryOp_ (thn (ha pins s σ H _ I h) λv s1 ⟨x,H1,I1,r1,q1⟩=> ?_)
 obtain⟨c,rfl,q1⟩:=q1
 cases r1
 exact not_of (GbF ⟨.bl (!c),H1,I1,rfl,q1⟩)
noncomputable def tIf(t:TT)(ta tb:TE):TE:=λσ H Q=>t σ H λc H1=>if c=true then ta σ H1 Q else tb σ H1 Q
theorem Dr{c:Expr}(hc:PT X c tA)(ha:PE X a ta)(hb:PE X b tb):PE X (.IfExp c a b pos) (tIf tA ta tb):=by
 intro pins s σ H Q I h
 refine wpAny_IfExp (thn (hc pins s σ H _ I h) λd s1 ⟨H1,I1,q1⟩=> ?_)
 cases d with
 |true=>exact ha pins s1 σ H1 Q I1 q1
 |false=>exact hb pins s1 σ H1 Q I1 q1
end
def SqL(K:PySem.W.Frag)(H:Hp)(a:Addr)(xs:List V):Prop:=
 Rd H a (.lst xs)∨
  ∃(o:Obj) (its:Array Value) (n:Nat),K.lookup a=some o∧o.cls= .type "list"∧o.dict=none∧o.data= .seq its n∧its.size≤sizeLine∧Vals xs its.toList
def SqT(K:PySem.W.Frag)(H:Hp)(a:Addr)(xs:List V):Prop:=
 Rd H a (.tup xs)∨
  ∃(o:Obj) (its:Array Value) (n:Nat),K.lookup a=some o∧o.cls= .type "tuple"∧o.data= .seq its n∧its.size≤sizeLine∧Vals xs its.toList
noncomputable def Nt:Value→Option V
 | .none=>some .non
 | .bool b=>some (.bl b)
 | .int i _=>some (.int i)
 | .str x _=>some (.str x)
 | .bytes b _=>some (.byt b)
 | .float b _=>some (.flt b)
 | .ref a=>some (.ref a)
 | .type n=>some (.ty n)
 |_=>none
theorem RelV.abs{x:V}{u:Value}(r:RelV x u):Nt u=some x:=by
 cases x with
 |non=>cases r;rfl
 |bl _=>cases r;rfl
 |int _=>obtain⟨t,rfl⟩:=r;rfl
 |str _=>obtain⟨t,rfl⟩:=r;rfl
 |byt _=>obtain⟨t,rfl⟩:=r;rfl
 |flt _=>obtain⟨t,rfl⟩:=r;rfl
 |ref _=>cases r;rfl
 |ty _=>cases r;rfl
theorem RelV.inj{x y:V}{u:Value}(r:RelV x u)(q:RelV y u):x=y:=Option.some.inj (r.abs.symm.trans q.abs)
theorem Vals.inj:∀{xs ys:List V} {us:List Value},Vals xs us→Vals ys us→xs=ys
 |_,_,_,.nil,.nil=>rfl
 |_,_,_,.cons r t,.cons r' t' =>by rw[r.inj r',Vals.inj t t']
section
variable{X:Cx}{pins:List (Addr×Obj)}{σ:St}{H:Hp}{s:Shared}{a:Addr}{xs ys:List V}
theorem SqL.of{K:PySem.W.Frag}(h:H a=some (.lst xs)):SqL K H a xs:= .inl (.inl h)
theorem SqT.of{K:PySem.W.Frag}(h:H a=some (.tup xs)):SqT K H a xs:= .inl (.inl h)
theorem Inv.list(I:Inv X pins σ H s)(h:SqL X.K H a xs):∃its:List Value,Vals xs its∧PlainL s.heap a its.toArray∧xs.length≤sizeLine:=by
 rcases h with h| ⟨o,its,n,hk,hc,hd,hs,hz,r⟩
 ·obtain⟨z,its,n,r,e⟩:=h.ok I.hok
  exact⟨its,r,⟨_,n,e,rfl,rfl,rfl⟩,z⟩
 ·refine⟨its.toList,r,⟨o,n,I.kIn a o hk,hc,hd,by simpa using hs⟩, ?_⟩
  have e:=r.length
  simp only[GbT] at e
  omega
theorem Inv.tuple(I:Inv X pins σ H s)(h:SqT X.K H a xs):∃its:List Value,Vals xs its∧IsTup s.heap a its.toArray∧xs.length≤sizeLine:=by
 rcases h with h| ⟨o,its,n,hk,hc,hs,hz,r⟩
 ·obtain⟨z,its,r,p⟩:=h.ok I.hok
  exact⟨its,r,p,z⟩
 ·refine⟨its.toList,r,⟨o,I.kIn a o hk,hc,n,by simpa using hs⟩, ?_⟩
  have e:=r.length
  simp only[GbT] at e
  omega
theorem Inv.ve(I:Inv X pins σ H s)(h:SqL X.K H a xs)(h' :SqL X.K H a ys):xs=ys:=by
 obtain⟨its,r,⟨o,n,e,_,_,d⟩,_⟩:=I.list h
 obtain⟨its',r',⟨o',n',e',_,_,d'⟩,_⟩:=I.list h'
 rw[e] at e';cases e'
 rw[d] at d'
 injection d' with d1 _
 have:its=its' :=by simpa using congrArg Array.toList d1
 subst this
 exact r.inj r'
theorem Inv.sI(I:Inv X pins σ H s)(h:SqT X.K H a xs)(h' :SqT X.K H a ys):xs=ys:=by
 obtain⟨its,r,⟨o,e,_,n,d⟩,_⟩:=I.tuple h
 obtain⟨its',r',⟨o',e',_,n',d'⟩,_⟩:=I.tuple h'
 rw[e] at e';cases e'
 rw[d] at d'
 injection d' with d1 _
 have:its=its' :=by simpa using congrArg Array.toList d1
 subst this
 exact r.inj r'
end
noncomputable abbrev Cx.pV (X:Cx) (E:Value→Shared→Prop):Cx:={X with xe:=E}
noncomputable abbrev Cx.nox (X:Cx):Cx:=X.pV λ_ _=>False
theorem Cx.Ok.pV{X:Cx}(ok:X.Ok)(E:Value→Shared→Prop):(X.pV E).Ok:=
 ⟨ok.mod,ok.kind,ok.glob,ok.blt,ok.above,ok.inj,ok.has,ok.cab,ok.hd,ok.frames,ok.stk,ok.exf,ok.bs,ok.bsz,ok.G6,ok.G7,ok.pU,ok.frf⟩
theorem Cx.Ok.jD{X:Cx}{E:Value→Shared→Prop}(ok:(X.pV E).Ok):X.Ok:=
 ⟨ok.mod,ok.kind,ok.glob,ok.blt,ok.above,ok.inj,ok.has,ok.cab,ok.hd,ok.frames,ok.stk,ok.exf,ok.bs,ok.bsz,ok.G6,ok.G7,ok.pU,ok.frf⟩
section
variable{X:Cx}{pins:List (Addr×Obj)}{σ:St}{H:Hp}{s:Shared}{E:Value→Shared→Prop}
theorem Inv.pV(I:Inv X pins σ H s)(E:Value→Shared→Prop):Inv (X.pV E) pins σ H s:=⟨I.ok.pV E,I.os,I.bare,I.base,I.loc,I.cell,I.free,I.jW,I.pin,I.hok,I.len⟩
theorem Inv.jD(I:Inv (X.pV E) pins σ H s):Inv X pins σ H s:=⟨I.ok.jD,I.os,I.bare,I.base,I.loc,I.cell,I.free,I.jW,I.pin,I.hok,I.len⟩
theorem SP.jD{D:Ends}{f:Flow}{s' :Shared}(h:SP (X.pV E) pins D f s'):SP X pins D f s' :=by
 cases f with
 |next=>obtain⟨σ',H',I,q⟩:=h;exact⟨σ',H',I.jD,q⟩
 |brk=>obtain⟨σ',H',I,q⟩:=h;exact⟨σ',H',I.jD,q⟩
 |cont=>obtain⟨σ',H',I,q⟩:=h;exact⟨σ',H',I.jD,q⟩
 |ret u=>obtain⟨v,σ',H',I,r,q⟩:=h;exact⟨v,σ',H',I.jD,r,q⟩
theorem PE.nox{e:Expr}{t:TE}(h:PE X.nox e t):PE X e t:=λpins s σ H Q I hw=>
 GbK (h pins s σ H Q (I.pV _) hw) (λ_ _ ⟨v,H',I',r,q⟩=> ⟨v,H',I'.jD,r,q⟩) λ_ _ z=>False.elim z
theorem PT.nox{e:Expr}{t:TT}(h:PT X.nox e t):PT X e t:=λpins s σ H Q I hw=>
 GbK (h pins s σ H Q (I.pV _) hw) (λ_ _ ⟨H',I',q⟩=> ⟨H',I'.jD,q⟩) λ_ _ z=>False.elim z
theorem PSs.nox{st:List Stmt}{t:TS}(h:PSs X.nox st t):PSs X st t:=λpins s σ H D I hw=>
 GbK (h pins s σ H D (I.pV _) hw) (λ_ _ q=>q.jD) λ_ _ z=>False.elim z
end
section
variable{X:Cx}{st:Stmt}{rest:List Stmt}{t u:TS}{e:Expr}{te:TE}{pos:Pos}
noncomputable def La:TS:=λD σ H=>D.nx σ H
noncomputable def Nu(t u:TS):TS:=λD σ H=>t {D with nx:=u D} σ H
theorem Ge:PSs X [] La:=λ_ _ σ H _ I h=>Gdl ⟨σ,H,I,h⟩
theorem nA(h1:PS X st t)(h2:PSs X rest u):PSs X (st::rest) (Nu t u):=by
 intro pins s σ H D I h
 refine wpAny_execs_cons (thn (h1 pins s σ H {D with nx:=u D} I h) λf s1 q=> ?_)
 cases f with
 |next=>
  obtain⟨σ',H',I',q⟩:=q
  exact h2 pins s1 σ' H' D I' q
 |ret v=>exact q
 |brk=>exact q
 |cont=>exact q
theorem u9(h1:PS X st t):PSs X [st] t:=by
 intro pins s σ H D I h
 refine wpAny_execs_cons (thn (h1 pins s σ H D I h) λf s1 q=> ?_)
 cases f with
 |next=>exact Gdl q
 |ret v=>exact q
 |brk=>exact q
 |cont=>exact q
noncomputable def J3:TS:=λD σ H=>D.bk σ H
theorem Ds:PS X (.Break pos) J3:=λ_ _ σ H _ I h=>wpAny_Break ⟨σ,H,I,h⟩
theorem Inv.quiet{pins:List (Addr×Obj)}{σ:St}{H:Hp}{s:Shared}(I:Inv X pins σ H s):interactive X.env=false:=by simp[interactive,I.ok.kind]
noncomputable def Lb(te:TE):TS:=λD σ H=>te σ H λ_ H1=>D.nx σ H1
theorem qh(he:PE X e te)(hs:swapsWith e none pos.line X.env=pure false:=by rfl):PS X (.Expr e pos) (Lb te):=by
 intro pins s σ H D I h
 exact wpAny_Expr_any (thn (he pins s σ H _ I h) λv s1 ⟨x,H1,I1,r1,q1⟩=> ⟨σ,H1,I1,q1⟩) I.quiet hs
noncomputable def Nv(te:TE):TS:=λD σ H=>te σ H D.rt
theorem Dt(he:PE X e te):PS X (.Return (some e) pos) (Nv te):=by
 intro pins s σ H D I h
 exact wpAny_Return_some (thn (he pins s σ H _ I h) λv s1 ⟨x,H1,I1,r1,q1⟩=> ⟨x,σ,H1,I1,r1,q1⟩)
noncomputable def Nw(c:TT)(t u:TS):TS:=λD σ H=>c σ H λb H1=>if b=true then t D σ H1 else u D σ H1
theorem Lc{c:Expr}{a b:List Stmt}{tc:TT}(hc:PT X c tc)(ha:PSs X a t)(hb:PSs X b u):PS X (.If c a b pos) (Nw tc t u):=by
 intro pins s σ H D I h
 refine wpAny_If (thn (hc pins s σ H _ I h) λd s1 ⟨H1,I1,q1⟩=> ?_)
 cases d with
 |true=>exact ha pins s1 σ H1 D I1 q1
 |false=>exact hb pins s1 σ H1 D I1 q1
end
abbrev TG:=V→St→Hp→(St→Hp→Prop)→Prop
abbrev TGs:=List V→St→Hp→(St→Hp→Prop)→Prop
def PG(X:Cx)(target:Expr)(t:TG):Prop:=
 ∀(pins:List (Addr×Obj)) (s:Shared) (σ:St) (H:Hp) (v:V) (u:Value) (Q:St→Hp→Prop),Inv X pins σ H s→RelV v u→t v σ H Q→
  wpAny (model X.prog X.w) X.A (assign target X.env u) (λ_ s' =>∃σ' H',Inv X pins σ' H' s' ∧Q σ' H') X.xe s
def PGs(X:Cx)(ts:List Expr)(t:TGs):Prop:=
 ∀(pins:List (Addr×Obj)) (s:Shared) (σ:St) (H:Hp) (vs:List V) (us:List Value) (Q:St→Hp→Prop),Inv X pins σ H s→Vals vs us→t vs σ H Q→
  wpAny (model X.prog X.w) X.A (assignInOrder ((assignEach ts X.env).map (·.2)) us) (λ_ s' =>∃σ' H',Inv X pins σ' H' s' ∧Q σ' H') X.xe s
abbrev Nx:=V→V→V→Hp→(Hp→Prop)→Prop
def Ld(X:Cx)(t:Nx):Prop:=
 ∀(pins:List (Addr×Obj)) (s:Shared) (σ:St) (H:Hp) (o i v:V) (ov iv u:Value) (Q:Hp→Prop),Inv X pins σ H s→RelV o ov→RelV i iv→RelV v u→t o i v H Q→
  wpAny (model X.prog X.w) X.A (setItem ov iv u) (λ_ s' =>∃H',Inv X pins σ H' s' ∧Q H') X.xe s
section
variable{X:Cx}{pos:Pos}
noncomputable def Io(i:Nat):TG:=λv σ H Q=>Q (σ.set i (some v)) H
theorem B5{i:Nat}{x:Str}(hN:X.N.Nodup)(hi:X.N[i]? =some x)(hx:Loc X.env.scope x)(hf:X.fn x=true∨X.env.scope.names.lookup x=some .local:=by first|exact .inl rfl|exact .inr rfl|assumption):PG X (.Name x pos) (Io i):=by
 intro pins s σ H v u Q I r h
 exact wpAny_assign_Name (vd I hN hi hx r (λs' I' => ⟨_,H,I',h⟩) hf)
noncomputable def Ny:TGs:=λvs σ H Q=>vs=[]∧Q σ H
noncomputable def Le(t:TG)(u:TGs):TGs:=λvs σ H Q=>∃v r,vs=v::r∧t v σ H λσ' H' =>u r σ' H' Q
theorem Gf:PGs X [] Ny:=by
 intro pins s σ H vs us Q I r h
 obtain⟨e,h⟩:=h
 subst e
 cases r
 exact assignInOrder_nil ⟨σ,H,I,h⟩
theorem Du{e:Expr}{es:List Expr}{t:TG}{u:TGs}(h1:PG X e t)(h2:PGs X es u)
  (hs:(assignEach (e::es) X.env).map (·.2)=assign e X.env::(assignEach es X.env).map (·.2):=by rfl):PGs X (e::es) (Le t u):=by
 intro pins s σ H vs us Q I r h
 obtain⟨v,vr,e1,h⟩:=h
 subst e1
 cases r with
 |cons r rr=>
  rw[hs]
  refine assignInOrder_cons (thn (h1 pins s σ H _ _ _ I r h) λ_ s1 ⟨σ1,H1,I1,q1⟩=> ?_)
  exact h2 pins s1 σ1 H1 _ _ Q I1 rr q1
noncomputable def Nz(K:PySem.W.Frag)(n:Nat)(t:TGs):TG:=λv σ H Q=>∃a xs,v= .ref a∧SqT K H a xs∧xs.length=n∧t xs σ H Q
theorem J4{es:List Expr}{k:Nat}{t:TGs}{n:Nat}(hc:X.calm=true)(h:PGs X es t)
  (hn:(assignEach es X.env).length=n:=by rfl)(hst:(assignEach es X.env).findIdx? (·.1)=none:=by rfl):PG X (.Tuple es k pos) (Nz X.K n t):=by
 intro pins s σ H v u Q I r hw
 obtain⟨a,xs,e1,hq,hl,hw⟩:=hw
 subst e1
 cases r
 obtain⟨its,rv,ht,hz⟩:=I.tuple hq
 refine assign_Tuple_tuple (I.ok.hd hc) ht (by simp[hn,←hl,rv.length]) hst λh' hx=> ?_
 have I1:Inv X pins σ H {s with heap:=h' }:=I.kept (t' :=s.toks) λb o e=>hx b o (GaO (Gaz e)) e
 exact h pins _ σ H xs _ Q I1 (by simpa using rv) hw
noncomputable def NA(te:TE)(g:TG):TS:=λD σ H=>te σ H λx H1=>g x σ H1 D.nx
theorem A8{i:Nat}{x:Str}{e:Expr}{te:TE}{pos' :Pos}(hN:X.N.Nodup)(hi:X.N[i]? =some x)(hx:Loc X.env.scope x)(he:PE X e te)(hs:swapsWith e (some (.Name x pos')) pos.line X.env=pure false:=by rfl)(hf:X.fn x=true∨X.env.scope.names.lookup x=some .local:=by first|exact .inl rfl|exact .inr rfl|assumption):
  PS X (.Assign [.Name x pos'] e pos) (NA te (Io i)):=by
 intro pins s σ H D I h
 refine wpAny_Assign_Name (thn (he pins s σ H _ I h) λv s1 ⟨y,H1,I1,r1,q1⟩=> ?_) hs
 exact vd I1 hN hi hx r1 (λs2 I2=> ⟨_,H1,I2,q1⟩) hf
end
section
variable{X:Cx}{pos:Pos}
noncomputable def J5(c:TT)(tb:TS):TS:=λD σ H=>∃W:Nat→St→Hp→Prop,(∃m,W m σ H)∧∀m σ H,W m σ H→
 c σ H λb H1=>if b=true then∃N:St→Hp→Prop,(∀σ' H',N σ' H' →∃m',m' <m∧W m' σ' H')∧tb {D with nx:=N,ct:=N,bk:=D.nx} σ H1 else D.nx σ H1
theorem Dv{c:Expr}{body:List Stmt}{tc:TT}{tb:TS}(hp:PassesOwn (model X.prog X.w) X.A X.env X.xe)(hc:PT X c tc)(hb:PSs X body tb):PS X (.While c body [] pos) (J5 tc tb):=by
 intro pins s σ H D I h
 obtain⟨W,⟨m0,w0⟩,turn⟩:=h
 refine wpAny_While (codeAny_whileLoop (λn s' =>∃σ' H',Inv X pins σ' H' s' ∧W n σ' H') ?_ m0 ⟨σ,H,I,w0⟩)
 rintro n s1 ⟨σ1,H1,I1,w1⟩
 refine Gca hp (thn (hc pins s1 σ1 H1 _ I1 (turn n σ1 H1 w1)) λb s2 ⟨H2,I2,q2⟩=> ?_)
 cases b with
 |true=>
  obtain⟨N,hN,q2⟩:=q2
  rw[Gag rfl]
  refine Gca hp (thn (hb pins s2 σ1 H2 _ I2 q2) λf s3 q3=> ?_)
  cases f with
  |next=>
   obtain⟨σ3,H3,I3,n3⟩:=q3
   obtain⟨m',hm,w3⟩:=hN σ3 H3 n3
   exact⟨m',hm,σ3,H3,I3,w3⟩
  |cont=>
   obtain⟨σ3,H3,I3,n3⟩:=q3
   obtain⟨m',hm,w3⟩:=hN σ3 H3 n3
   exact⟨m',hm,σ3,H3,I3,w3⟩
  |brk=>exact q3
  |ret v=>exact q3
 |false=>
  rw[Gae GaA]
  exact Gdl ⟨σ1,H2,I2,q2⟩
end
structure It where
 go:Nat→Hp→Prop
 yld:Nat→Hp→V→Hp→Prop
 stop:Nat→Hp→Prop
def mV(X:Cx)(pins:List (Addr×Obj))(H:Hp)(b:Addr):Prop:=
 H b=none∧b≠X.env.locals∧b∉X.fs∧(b∈X.ex∨X.s₀.heap.objs.size≤b)∧(∀x c,X.env.cells.lookup x=some c→c≠b)∧∀p∈X.pn++pins,p.1≠b
theorem Inv.C5{X:Cx}{pins:List (Addr×Obj)}{σ:St}{H H' :Hp}{s:Shared}{b:Addr}(I:Inv X pins σ H s)(hb:s.heap.objs.size≤b)(hn:H' b=none):mV X pins H' b:=by
 refine⟨hn,GcJ (GaP I.lt hb),I.Np hb,.inr (Gbt I.sz hb),λx c e z=> ?_,λp hp z=> ?_⟩
 ·obtain⟨v,q⟩:=I.cell x c e
  exact absurd (GaP q.lt (by rw[z];exact hb)) (Gbz _)
 ·exact absurd (GaP (Gaz (I.pin p hp).1) (by rw[z];exact hb)) (Gbz _)
structure Turn(P:Program)(w:World)(K:PySem.W.Frag)(tg:Expr)(J:It)(fp:List Addr)(it:Addr)(tn:Nat→Heap→Prop):Prop where
 mem:it∈fp
 obj:∀i h,tn i h→∀b∈fp,∃o,h.get? b=some o∧∀v,o.data≠ .cell v
 keep:∀i h h',tn i h→(∀b∈fp,∀o,h.get? b=some o→h'.get? b=some o)→tn i h'
 item:∀(X:Cx),X.prog=P→X.w=w→X.K=K→X.calm=true→∀(i:Nat) (pins:List (Addr×Obj)) (s:Shared) (σ:St) (H:Hp) (E:Value→Shared→Prop),Inv X pins σ H s→(∀b∈fp,mV X pins H b)→tn i s.heap→J.go i H→
  wpAny (model P w) X.A (pyNext (.ref it)) (λr s1=>∃u,r=some u∧
   wpAny (model P w) X.A (letOwnedTupleGo tg (.ref it) u) (λ_ s2=>∃x H',Inv X pins σ H' s2∧RelV x u∧J.yld i H x H' ∧tn (i+1) s2.heap∧∀b∈fp,H' b=none) E s1) E s
 done:∀(X:Cx),X.prog=P→X.w=w→X.K=K→X.calm=true→∀(i:Nat) (pins:List (Addr×Obj)) (s:Shared) (σ:St) (H:Hp) (E:Value→Shared→Prop),Inv X pins σ H s→(∀b∈fp,mV X pins H b)→tn i s.heap→J.stop i H→
  wpAny (model P w) X.A (pyNext (.ref it)) (λr s1=>r=none∧Inv X pins σ H s1) E s
 self:∀(A:Around) (i:Nat) (s:Shared) (Q:Value→Shared→Prop) (E:Value→Shared→Prop),tn i s.heap→Q (.ref it) s→wpAny (model P w) A (pyIter (.ref it)) Q E s
abbrev TI:=St→Hp→(It→Hp→Prop)→Prop
def PIE(X:Cx)(pins:List (Addr×Obj))(σ:St)(tg:Expr)(R:It→Hp→Prop)(itv:Value)(s2:Shared):Prop:=
 ∃(it:Addr) (fp:List Addr) (tn:Nat→Heap→Prop) (J:It) (H' :Hp),itv= .ref it∧Inv X pins σ H' s2∧Turn X.prog X.w X.K tg J fp it tn∧tn 0 s2.heap∧(∀b∈fp,mV X pins H' b)∧R J H'
def PI(X:Cx)(tg iter:Expr)(wi:TI):Prop:=
 ∀(pins:List (Addr×Obj)) (s:Shared) (σ:St) (H:Hp) (R:It→Hp→Prop),Inv X pins σ H s→wi σ H R→
  wpAny (model X.prog X.w) X.A (eval iter X.env) (λv s1=>wpAny (model X.prog X.w) X.A (pyIter v) (PIE X pins σ tg R) X.xe s1) X.xe s
theorem Dw{M:Model}{A:Around}{E:Value→Shared→Prop}{s:Shared}{tg:Expr}{it:Addr}{u:Value}{o:Obj}{n:String}{vs:Array Value}{Q:Unit→Shared→Prop}(ho:s.heap.get? it=some o)(hc:o.cls= .type n)(hd:o.data= .fields vs)
  (hn:["enumerate","zip","dict_itemiterator","dict_reverseitemiterator","odict_iterator","itertools.zip_longest","itertools.pairwise"].contains n=false)(hQ:Q () s):wpAny M A (letOwnedTupleGo tg (.ref it) u) Q E s:=by
 unfold letOwnedTupleGo
 cases tg<;>first
  |exact Gar hQ
  |(cases u<;>first
    |exact Gar hQ
    |(refine Gad (wpAny_load ho ?_)
      rw[hc,hd]
      show wpAny M A (if(["enumerate","zip","dict_itemiterator","dict_reverseitemiterator","odict_iterator","itertools.zip_longest","itertools.pairwise"].contains n&&vs[0]? ==some (rawInt _))=true then _ else _) Q E s
      rw[Gae (by intro h;rw[hn,Bool.false_and] at h;cases h)]
      exact Gar hQ))
noncomputable def Itl(K:PySem.W.Frag)(a:Addr):It:=
 ⟨λi H=>∃xs x,SqL K H a xs∧xs[i]? =some x,λi H x H' =>H' =H∧∀xs,SqL K H a xs→xs[i]? =some x,λi H=>∃xs,SqL K H a xs∧xs.length≤i⟩
noncomputable def Itt(K:PySem.W.Frag)(a:Addr):It:=
 ⟨λi H=>∃xs x,SqT K H a xs∧xs[i]? =some x,λi H x H' =>H' =H∧∀xs,SqT K H a xs→xs[i]? =some x,λi H=>∃xs,SqT K H a xs∧xs.length≤i⟩
noncomputable def Itr(lo:Int)(n:Nat):It:=⟨λi _=>i<n,λi H x H' =>H' =H∧x= .int (lo+i),λi _=>n≤i⟩
theorem C6{P:Program}{w:World}{K:PySem.W.Frag}{tg:Expr}(a it:Addr):Turn P w K tg (Itl K a) [it] it (λi h=>h.IsListIter it a i) where
 mem:=by simp
 obj:=λi h st b hb=>by
  have e:b=it:=by simpa using hb
  subst e
  obtain⟨o,e,c,d⟩:=st
  exact⟨o,e,λv z=>by rw[d] at z;cases z⟩
 keep:=λi h h' st k=>st.at λo e=>k it (by simp) o e
 item:=by
  intro X hP hw hK hc i pins s σ H E I hf st hg
  subst hP hw hK
  obtain⟨xs,x,hq,hx⟩:=hg
  obtain⟨its,rv,p,hz⟩:=I.list hq
  obtain⟨u,hu,ru⟩:=rv.get hx
  obtain⟨f0,f1,f2,f3,f4,f5⟩:=hf it (by simp)
  refine wpAny_pyNext_list_item st p.isList (x:=u) (by simpa using hu) λh' st' sb=> ?_
  have I1:Inv X pins σ H {s with heap:=h' }:=I.turned (t' :=s.toks) (λb o hb e=>(sb.2 b hb).trans e) f0 f1 f3 f4 f5
  obtain⟨o,e,c,d⟩:=id st'
  exact⟨u,rfl,Dw (s:={s with heap:=h' }) e c d (by decide) ⟨x,H,I1,ru,⟨rfl,λys hy=>by rw[I.ve hy hq];exact hx⟩,st',λb hb=>(hf b hb).1⟩⟩
 done:=by
  intro X hP hw hK hc i pins s σ H E I hf st hg
  subst hP hw hK
  obtain⟨xs,hq,hx⟩:=hg
  obtain⟨its,rv,p,hz⟩:=I.list hq
  obtain⟨f0,f1,f2,f3,f4,f5⟩:=hf it (by simp)
  have hl:=rv.length
  exact wpAny_pyNext_list_end (I.ok.hd hc) st p.isList (by simp;omega) λh' eb=> ⟨rfl,I.turned (t' :=s.toks) (λb o hb e=>eb b o hb e) f0 f1 f3 f4 f5⟩
 self:=λ_ _ _ _ _ st h=>wpAny_pyIter_listiter st h
theorem A9{P:Program}{w:World}{K:PySem.W.Frag}{tg:Expr}(a it:Addr):Turn P w K tg (Itt K a) [it] it (λi h=>h.IsTupleIter it a i) where
 mem:=by simp
 obj:=λi h st b hb=>by
  have e:b=it:=by simpa using hb
  subst e
  obtain⟨o,e,c,d⟩:=st
  exact⟨o,e,λv z=>by rw[d] at z;cases z⟩
 keep:=λi h h' st k=>st.at λo e=>k it (by simp) o e
 item:=by
  intro X hP hw hK hc i pins s σ H E I hf st hg
  subst hP hw hK
  obtain⟨xs,x,hq,hx⟩:=hg
  obtain⟨its,rv,p,hz⟩:=I.tuple hq
  obtain⟨u,hu,ru⟩:=rv.get hx
  obtain⟨f0,f1,f2,f3,f4,f5⟩:=hf it (by simp)
  refine wpAny_pyNext_tuple_item st (show s.heap.IsTuple a its.toArray from p) (x:=u) (by simpa using hu) λh' st' sb=> ?_
  have I1:Inv X pins σ H {s with heap:=h' }:=I.turned (t' :=s.toks) (λb o hb e=>(sb.2 b hb).trans e) f0 f1 f3 f4 f5
  obtain⟨o,e,c,d⟩:=id st'
  exact⟨u,rfl,Dw (s:={s with heap:=h' }) e c d (by decide) ⟨x,H,I1,ru,⟨rfl,λys hy=>by rw[I.sI hy hq];exact hx⟩,st',λb hb=>(hf b hb).1⟩⟩
 done:=by
  intro X hP hw hK hc i pins s σ H E I hf st hg
  subst hP hw hK
  obtain⟨xs,hq,hx⟩:=hg
  obtain⟨its,rv,p,hz⟩:=I.tuple hq
  obtain⟨f0,f1,f2,f3,f4,f5⟩:=hf it (by simp)
  have hl:=rv.length
  exact wpAny_pyNext_tuple_end (I.ok.hd hc) st (show s.heap.IsTuple a its.toArray from p) (by simp;omega) λh' eb=> ⟨rfl,I.turned (t' :=s.toks) (λb o hb e=>eb b o hb e) f0 f1 f3 f4 f5⟩
 self:=λ_ _ _ _ _ st h=>wpAny_pyIter_tupleiter st h
theorem Aa{P:Program}{w:World}{K:PySem.W.Frag}{tg:Expr}(it:Addr)(lo:Int)(n:Nat):Turn P w K tg (Itr lo n) [it] it (λi h=>IsRangeIter h it (lo+(i:Nat)*1) ((n:Int)-(i:Nat)) 1) where
 mem:=by simp
 obj:=λi h st b hb=>by
  have e:b=it:=by simpa using hb
  subst e
  exact⟨_,st,λv z=>by
   have z' :Data.fields _=Data.cell v:=z
   cases z'⟩
 keep:=λi h h' st k=>k it (by simp) _ st
 item:=by
  intro X hP hw hK hc i pins s σ H E I hf st hg
  subst hP hw hK
  obtain⟨f0,f1,f2,f3,f4,f5⟩:=hf it (by simp)
  have W:=Walks.range (prog:=X.prog) (w:=X.w) (I.ok.hd hc) it lo 1 n
  refine W.item i s _ _ hg st λv h' tk hv st' kk=> ?_
  obtain⟨t,rfl⟩:=hv
  have I1:Inv X pins σ H {s with heap:=h',toks:=tk}:=I.turned (λb o hb e=>kk b o (by simpa using hb) e) f0 f1 f3 f4 f5
  refine⟨_,rfl,Dw (s:={s with heap:=h',toks:=tk}) (n:="range_iterator") st' rfl rfl (by decide) ⟨.int (lo+i),H,I1,⟨t, ?_⟩,⟨rfl,rfl⟩,st',λb hb=>(hf b hb).1⟩⟩
  rw[Int.mul_one]
 done:=by
  intro X hP hw hK hc i pins s σ H E I hf st hg
  subst hP hw hK
  obtain⟨f0,f1,f2,f3,f4,f5⟩:=hf it (by simp)
  exact wpAny_pyNext_range_end (I.ok.hd hc) st (by have:n≤i:=hg;omega) λh' eb=> ⟨rfl,I.turned (t' :=s.toks) (λb o hb e=>eb b o hb e) f0 f1 f3 f4 f5⟩
 self:=λ_ _ _ _ _ st h=>wpAny_pyIter_rangeiter st h
section
variable{X:Cx}{tg:Expr}
theorem kM{pins:List (Addr×Obj)}{σ:St}{H:Hp}{s:Shared}{R:It→Hp→Prop}{E:Value→Shared→Prop}{lo hi:Int}{t u v:Tok}{tk:Nat}(I:Inv X pins σ H s)(h1: -(2^62)≤lo)(h2:lo<2^62)(h3: -(2^62)≤hi)(h4:hi<2^62)
  (q:R (Itr lo (hi -lo).toNat) H):wpAny (model X.prog X.w) X.A (pyIter (.ref s.heap.objs.size)) (PIE X pins σ tg R) E {s with heap:=s.heap.push {cls:= .type "range",data:= .fields #[.int lo t,.int hi u,.int 1 v]},toks:=tk}:=by
 refine wpAny_pyIter_range (IsRange.new ..) (small_one h1 h2 h3 h4) ?_
 have I1:Inv X pins σ H {s with heap:=s.heap.push {cls:= .type "range",data:= .fields #[.int lo t,.int hi u,.int 1 v]},toks:=tk}:=I.kept λb o e=>Gaj _ e
 refine⟨(s.heap.push {cls:= .type "range",data:= .fields #[.int lo t,.int hi u,.int 1 v]}).objs.size,[(s.heap.push {cls:= .type "range",data:= .fields #[.int lo t,.int hi u,.int 1 v]}).objs.size],_,_,H,rfl,
  I1.kept (t' :=tk) λb o e=>Gaj _ e,Aa _ lo (hi -lo).toNat, ?_,λb hb=> ?_,q⟩
 ·have e1:lo+((0:Nat):Int)*1=lo:=by simp
  have e2:(((hi -lo).toNat:Nat):Int)-((0:Nat):Int)=Builtin.Range.rangeSize lo hi 1:=by rw[rangeSize_one];split<;>omega
  show IsRangeIter _ _ (lo+((0:Nat):Int)*1) ((((hi -lo).toNat:Nat):Int)-((0:Nat):Int)) 1
  rw[e1,e2]
  exact GaC _ rfl
 ·have e:b=(s.heap.push {cls:= .type "range",data:= .fields #[.int lo t,.int hi u,.int 1 v]}).objs.size:=by simpa using hb
  subst e
  exact I1.C5 (Gap _) (I1.hok.fresh (Gap _))
noncomputable def Lf(ta:TA):TI:=λσ H R=>ta σ H λvs H1=>∃j:Int,vs=[.int j]∧-(2^62)≤j∧j<2^62∧R (Itr 0 j.toNat) H1
noncomputable def Lg(ta:TA):TI:=λσ H R=>ta σ H λvs H1=>∃i j:Int,vs=[.int i,.int j]∧(-(2^62)≤i∧i<2^62∧-(2^62)≤j∧j<2^62)∧R (Itr i (j -i).toNat) H1
theorem C7{a:Expr}{ta:TA}{p pos:Pos}(hg:Gl X "range")(hm:X.mg "range"=none)(ha:PA X [a] ta)(hs:starEach [a] X.env=[(false,eval a X.env)]:=by rfl):PI X tg (.Call (.Name "range" p) [a] [] pos) (Lf ta):=by
 intro pins s σ H R I h
 refine Call_ (mU I hg hm boot_range (GbY (thn (ha pos pins s σ H _ I h) λus s1 ⟨vs,H1,I1,r1,q1⟩=> ?_) hs rfl))
 obtain⟨j,e,q1,q2,q⟩:=q1
 subst e
 cases r1 with
 |cons r rr=>
  cases rr
  obtain⟨t,rfl⟩:=r
  exact call_range_1 (kM I1 (by omega) (by omega) q1 q2 (by simpa using q))
theorem C8{a b:Expr}{ta:TA}{p pos:Pos}(hg:Gl X "range")(hm:X.mg "range"=none)(ha:PA X [a,b] ta)(hs:starEach [a,b] X.env=[(false,eval a X.env),(false,eval b X.env)]:=by rfl)(hs2:starEach [b] X.env=[(false,eval b X.env)]:=by rfl):
  PI X tg (.Call (.Name "range" p) [a,b] [] pos) (Lg ta):=by
 intro pins s σ H R I h
 refine Call_ (mU I hg hm boot_range (GbY (thn (ha pos pins s σ H _ I h) λus s1 ⟨vs,H1,I1,r1,q1⟩=> ?_) (by rw[hs,hs2]) (by rw[hs2];rfl)))
 obtain⟨i,j,e,⟨q1,q2,q3,q4⟩,q⟩:=q1
 subst e
 cases r1 with
 |cons r rr=>
  cases rr with
  |cons r' rr=>
   cases rr
   obtain⟨t,rfl⟩:=r
   obtain⟨t',rfl⟩:=r'
   exact call_range_2 (kM I1 q1 q2 q3 q4 q)
noncomputable def NB(wi:TI)(g:TG)(tb:TS):TS:=λD σ H=>wi σ H λJ H1=>∃W:Nat→Nat→St→Hp→Prop,(∃m,W 0 m σ H1)∧∀i m σ H,W i m σ H→
 (J.stop i H∧D.nx σ H)∨(J.go i H∧∃N:St→Hp→Prop,(∀σ' H',N σ' H' →∃m',m' <m∧W (i+1) m' σ' H')∧∀x H',J.yld i H x H' →g x σ H' λσ2 H2=>tb {D with nx:=N,ct:=N,bk:=D.nx} σ2 H2)
noncomputable def qv(fp:List Addr)(h:Heap):List (Addr×Obj):=fp.filterMap λb=>(h.get? b).map λo=>(b,o)
theorem jX{fp:List Addr}{h:Heap}{b:Addr}{o:Obj}(hb:b∈fp)(e:h.get? b=some o):(b,o)∈qv fp h:=List.mem_filterMap.mpr ⟨b,hb,by rw[e];rfl⟩
theorem C9{fp:List Addr}{h:Heap}{p:Addr×Obj}(hp:p∈qv fp h):p.1∈fp∧h.get? p.1=some p.2:=by
 obtain⟨b,hb,e⟩:=List.mem_filterMap.mp hp
 cases q:h.get? b with
 |none=>rw[q] at e;cases e
 |some o=>
  rw[q] at e
  have e' :(b,o)=p:=Option.some.inj e
  subst e'
  exact⟨hb,q⟩
theorem Inv.pinned{pins:List (Addr×Obj)}{σ:St}{H:Hp}{s:Shared}{fp:List Addr}(I:Inv X pins σ H s)(hf:∀b∈fp,mV X pins H b)(ho:∀b∈fp,∃o,s.heap.get? b=some o∧∀v,o.data≠ .cell v):Inv X (pins++qv fp s.heap) σ H s:=
 I.B4 λp hp=>(Gax.mp hp).elim (λz=>I.pin p (Gba _ z)) λz=>by
  obtain⟨hb,e⟩:=C9 z
  obtain⟨f0,f1,f2,_⟩:=hf p.1 hb
  obtain⟨o,e',d⟩:=ho p.1 hb
  rw[e] at e';cases e'
  exact⟨e,f0,f1,f2,d⟩
theorem Inv.nB{pins pl:List (Addr×Obj)}{σ:St}{H:Hp}{s:Shared}(I:Inv X (pins++pl) σ H s):Inv X pins σ H s:=I.B4 λp hp=>I.pin p (Gba _ (Gcc _ hp))
theorem Dx{iter:Expr}{body:List Stmt}{wi:TI}{g:TG}{tb:TS}{pos:Pos}(hp:PassesOwn (model X.prog X.w) X.A X.env X.xe)(hc:X.calm=true)(hi:PI X tg iter wi)(hg:PG X tg g)(hb:PSs X body tb)
  (hs:∀x,foldedSetIterable iter X.env x=pure x:=by intro _;rfl):PS X (.For tg iter body [] pos) (NB wi g tb):=by
 intro pins s σ H D I h
 refine wpAny_For (thn (hi pins s σ H _ I h) λv s1 h1=>thn h1 λitv s2 h2=> ?_) hs
 obtain⟨it,fp,tn,J,H2,e,I2,T,st2,f2,W,⟨m0,w0⟩,turn⟩:=h2
 subst e
 have stat:∀{H' :Hp},(∀b∈fp,H' b=none)→∀b∈fp,mV X pins H' b:=λhn b hb=> ⟨hn b hb,(f2 b hb).2⟩
 refine codeAny_forLoop_any (λn s' =>∃i σ' H',Inv X pins σ' H' s' ∧tn i s'.heap∧(∀b∈fp,H' b=none)∧W i n σ' H') ?_ m0 ⟨0,σ,H2,I2,st2,λb hb=>(f2 b hb).1,w0⟩
 rintro n s3 ⟨i,σ3,H3,I3,st3,fr3,w3⟩
 rcases turn i n σ3 H3 w3 with⟨stop,qn⟩| ⟨go,N,hN,step⟩
 ·refine Gca hp (thn (T.done X rfl rfl rfl hc i pins s3 σ3 H3 X.xe I3 (stat fr3) st3 stop) λr s4 ⟨hr,I4⟩=> ?_)
  subst hr
  exact Gdl ⟨σ3,H3,I4,qn⟩
 ·refine Gca hp (thn (T.item X rfl rfl rfl hc i pins s3 σ3 H3 X.xe I3 (stat fr3) st3 go) λr s4 ⟨u,hr,h4⟩=> ?_)
  subst hr
  refine Gca hp (thn h4 λ_ s5 ⟨x,H5,I5,r5,y5,st5,fr5⟩=> ?_)
  have I5' :=I5.pinned (stat fr5) (T.obj _ _ st5)
  refine Gca hp (thn (hg _ s5 σ3 H5 x u _ I5' r5 (step x H5 y5)) λ_ s6 ⟨σ6,H6,I6,q6⟩=> ?_)
  refine Gca hp (thn (hb _ s6 σ6 H6 _ I6 q6) λf s7 q7=> ?_)
  have again:∀{σ7:St} {H7:Hp},Inv X (pins++qv fp s5.heap) σ7 H7 s7→N σ7 H7→∃m,m<n∧∃i σ' H',Inv X pins σ' H' s7∧tn i s7.heap∧(∀b∈fp,H' b=none)∧W i m σ' H' :=λ{σ7 H7} I7 n7=>by
   obtain⟨m',hm,w7⟩:=hN σ7 H7 n7
   refine⟨m',hm,i+1,σ7,H7,I7.nB,T.keep _ _ _ st5 λb hb o e=>(I7.pin (b,o) (Gba _ (Gba _ (jX hb e)))).1,λb hb=> ?_,w7⟩
   obtain⟨o,e,d⟩:=T.obj _ _ st5 b hb
   exact(I7.pin (b,o) (Gba _ (Gba _ (jX hb e)))).2.1
  cases f with
  |next=>obtain⟨σ7,H7,I7,n7⟩:=q7;exact again I7 n7
  |cont=>obtain⟨σ7,H7,I7,n7⟩:=q7;exact again I7 n7
  |brk=>obtain⟨σ7,H7,I7,q7⟩:=q7;exact⟨σ7,H7,I7.nB,q7⟩
  |ret v=>obtain⟨x7,σ7,H7,I7,r7,q7⟩:=q7;exact⟨x7,σ7,H7,I7.nB,r7,q7⟩
end
abbrev R2:=V→V→Hp→VK→Prop
def OpR(X:Cx)(f:Value→Value→Sem Value)(r:R2):Prop:=
 ∀(pins:List (Addr×Obj)) (s:Shared) (σ:St) (H:Hp) (x y:V) (v u:Value) (Q:VK),Inv X pins σ H s→RelV x v→RelV y u→r x y H Q→
  wpAny (model X.prog X.w) X.A (f v u) (EP X pins σ Q) X.xe s
def UnR(X:Cx)(f:Value→Sem Value)(r:V→Hp→VK→Prop):Prop:=
 ∀(pins:List (Addr×Obj)) (s:Shared) (σ:St) (H:Hp) (x:V) (v:Value) (Q:VK),Inv X pins σ H s→RelV x v→r x H Q→
  wpAny (model X.prog X.w) X.A (f v) (EP X pins σ Q) X.xe s
def i4(X:Cx)(f:Value)(r:List V→Hp→VK→Prop):Prop:=
 ∀(pins:List (Addr×Obj)) (s:Shared) (σ:St) (H:Hp) (xs:List V) (us:List Value) (Q:VK),Inv X pins σ H s→Vals xs us→r xs H Q→
  wpAny (model X.prog X.w) X.A (call f us) (EP X pins σ Q) X.xe s
noncomputable def tOp(r:R2)(ta tb:TE):TE:=λσ H Q=>ta σ H λx H1=>tb σ H1 λy H2=>r x y H2 Q
noncomputable def tUn(r:V→Hp→VK→Prop)(ta:TE):TE:=λσ H Q=>ta σ H λx H1=>r x H1 Q
noncomputable def rI(C:Int→Int→Prop)(g:Int→Int→V):R2:=λx y H Q=>∃i j,x= .int i∧y= .int j∧C i j∧Q (g i j) H
noncomputable def rI0(g:Int→Int→V):R2:=λx y H Q=>∃i j,x= .int i∧y= .int j∧Q (g i j) H
def rU(g:Int→V):V→Hp→VK→Prop:=λx H Q=>∃i,x= .int i∧Q (g i) H
section
variable{X:Cx}{a b c:Expr}{ta tb tc:TE}{pos:Pos}
theorem J6(ha:PE X a ta)(hb:PE X b tb){pins:List (Addr×Obj)}{s:Shared}{σ:St}{H:Hp}{R:V→V→Hp→Prop}(I:Inv X pins σ H s)
  (h:ta σ H λx H1=>tb σ H1 λy H2=>R x y H2){Q:Value→Shared→Prop}{f:Value→Value→Sem Value}
  (hf:∀v u s2 x y H2,Inv X pins σ H2 s2→RelV x v→RelV y u→R x y H2→wpAny (model X.prog X.w) X.A (f v u) Q X.xe s2):
  wpAny (model X.prog X.w) X.A (eval a X.env) (λv s₁=>wpAny (model X.prog X.w) X.A (eval b X.env) (λu s₂=>wpAny (model X.prog X.w) X.A (f v u) Q X.xe s₂) X.xe s₁) X.xe s:=by
 refine thn (ha pins s σ H _ I h) λv s1 ⟨x,H1,I1,r1,q1⟩=> ?_
 refine thn (hb pins s1 σ H1 _ I1 q1) λu s2 ⟨y,H2,I2,r2,q2⟩=> ?_
 exact hf v u s2 x y H2 I2 r1 r2 q2
theorem Lh{op:Operator}{r:R2}(ho:OpR X (binaryOp op) r)(ha:PE X a ta)(hb:PE X b tb):PE X (.BinOp a op b pos) (tOp r ta tb):=by
 intro pins s σ H Q I h
 exact wpAny_BinOp (J6 ha hb I h λv u s2 x y H2 I2 rx ry q=>ho pins s2 σ H2 x y v u Q I2 rx ry q)
theorem Li{op:UnaryOp}{r:V→Hp→VK→Prop}(ho:UnR X (unaryOp op) r)(ha:PE X a ta):PE X (.UnaryOp op a pos) (tUn r ta):=by
 intro pins s σ H Q I h
 exact UnaryOp_ (thn (ha pins s σ H _ I h) λv s1 ⟨x,H1,I1,r1,q1⟩=>ho pins s1 σ H1 x v Q I1 r1 q1)
theorem opI{f:Value→Value→Sem Value}{C:Int→Int→Prop}{g:Int→Int→Int}
  (rule:∀(i j:Int) (t u:Tok) (s:Shared) (Q:Value→Shared→Prop) (E:Value→Shared→Prop),C i j→Q (.int (g i j) s.toks) {s with toks:=s.toks+1}→wpAny (model X.prog X.w) X.A (f (.int i t) (.int j u)) Q E s):
  OpR X f (rI C λi j=> .int (g i j)):=by
 intro pins s σ H x y v u Q I rx ry h
 obtain⟨i,j,rfl,rfl,hc,q⟩:=h
 obtain⟨t,rfl⟩:=rx
 obtain⟨t',rfl⟩:=ry
 exact rule i j t t' s _ _ hc ⟨.int (g i j),H,I.tok _,⟨_,rfl⟩,q⟩
theorem Lj{f:Value→Value→Sem Value}{g:Int→Int→Int}
  (rule:∀(i j:Int) (t u:Tok) (s:Shared) (Q:Value→Shared→Prop) (E:Value→Shared→Prop),Q (.int (g i j) s.toks) {s with toks:=s.toks+1}→wpAny (model X.prog X.w) X.A (f (.int i t) (.int j u)) Q E s):
  OpR X f (rI0 λi j=> .int (g i j)):=by
 intro pins s σ H x y v u Q I rx ry h
 obtain⟨i,j,rfl,rfl,q⟩:=h
 obtain⟨t,rfl⟩:=rx
 obtain⟨t',rfl⟩:=ry
 exact rule i j t t' s _ _ ⟨.int (g i j),H,I.tok _,⟨_,rfl⟩,q⟩
theorem Gg{f:Value→Value→Sem Value}{g:Int→Int→Bool}
  (rule:∀(i j:Int) (t u:Tok) (s:Shared) (Q:Value→Shared→Prop) (E:Value→Shared→Prop),Q (.bool (g i j)) s→wpAny (model X.prog X.w) X.A (f (.int i t) (.int j u)) Q E s):
  OpR X f (rI0 λi j=> .bl (g i j)):=by
 intro pins s σ H x y v u Q I rx ry h
 obtain⟨i,j,rfl,rfl,q⟩:=h
 obtain⟨t,rfl⟩:=rx
 obtain⟨t',rfl⟩:=ry
 exact rule i j t t' s _ _ ⟨.bl (g i j),H,I,rfl,q⟩
def Lk(i j:Int):Prop:=0<j∧j<1073741824
def Ll(i j:Int):Prop:=0≤j∧j≤1000000∧i.natAbs<2^64
def Gh(i j:Int):Prop:=(-(2^64)<i∧i<2^64)∨(-(2^64)<j∧j<2^64)
theorem Gh.ok{i j:Int}(h:Gh i j):IntMulOk i j:=by
 rcases h with⟨h1,h2⟩| ⟨h1,h2⟩
 ·exact .of_left (intBits_le_64 h1 h2)
 ·exact .of_right (intBits_le_64 h1 h2)
theorem J7:OpR X (binaryOp .Add) (rI0 λi j=> .int (i+j)):=Lj λ_ _ _ _ _ _ _ q=>add_int q
theorem J8:OpR X (binaryOp .Sub) (rI0 λi j=> .int (i -j)):=Lj λ_ _ _ _ _ _ _ q=>sub_int q
theorem J9:OpR X (binaryOp .Mult) (rI Gh λi j=> .int (i*j)):=opI λ_ _ _ _ _ _ _ hc q=>mul_int q hc.ok
theorem Gi:OpR X (binaryOp .FloorDiv) (rI Lk λi j=> .int (i/j)):=opI λi j _ _ _ _ _ hc q=>by
 have h1:(0:Int)<j:=hc.1
 have h2:j<1073741824:=hc.2
 exact floordiv_int (by omega) (by rw[Int.fdiv_eq_ediv_of_nonneg i (by omega)];exact q) (.inl (PyProof.noPylong_small (by omega)))
theorem Ja:OpR X (binaryOp .Mod) (rI (λ_ j=>0<j) λi j=> .int (i%j)):=opI λi j _ _ _ _ _ hc q=>by
 have h1:(0:Int)<j:=hc
 exact mod_int' (by omega) (by rw[Int.fmod_eq_emod_of_nonneg i (by omega)];exact q)
theorem Jb:OpR X (binaryOp .Pow) (rI Ll λi j=> .int (i^j.toNat)):=opI λ_ _ _ _ _ _ _ hc q=>pow_int_small hc.1 hc.2.1 hc.2.2 q
theorem unI{f:Value→Sem Value}{g:Int→Int}
  (rule:∀(i:Int) (t:Tok) (s:Shared) (Q:Value→Shared→Prop) (E:Value→Shared→Prop),Q (.int (g i) s.toks) {s with toks:=s.toks+1}→wpAny (model X.prog X.w) X.A (f (.int i t)) Q E s):
  UnR X f (rU λi=> .int (g i)):=by
 intro pins s σ H x v Q I rx h
 obtain⟨i,rfl,q⟩:=h
 obtain⟨t,rfl⟩:=rx
 exact rule i t s _ _ ⟨.int (g i),H,I.tok _,⟨_,rfl⟩,q⟩
theorem Jc:UnR X (unaryOp .USub) (rU λi=> .int (-i)):=unI λ_ _ _ _ _ q=>neg_int q
end
section
variable{X:Cx}{a b c:Expr}{ta tb tc:TE}{pos:Pos}
theorem Dy{pins:List (Addr×Obj)}{σ:St}{H:Hp}{s:Shared}{Q:VK}{k k' :Bool}(I:Inv X pins σ H s)(q:Q (.bl k) H)(e:k=k'):EP X pins σ Q (.bool k') s:=by
 subst e
 exact⟨.bl k,H,I,rfl,q⟩
theorem nC:OpR X (compareOp .Lt) (rI0 λi j=> .bl (decide (i<j))):=Gg λ_ _ _ _ _ _ _ q=>lt_int q
theorem Dz:OpR X (compareOp .LtE) (rI0 λi j=> .bl (decide (i≤j))):=Gg λ_ _ _ _ _ _ _ q=>le_int q
theorem pb:OpR X (compareOp .Gt) (rI0 λi j=> .bl (decide (j<i))):=Gg λ_ _ _ _ _ _ _ q=>gt_int q
theorem Lm:OpR X (compareOp .GtE) (rI0 λi j=> .bl (decide (j≤i))):=Gg λ_ _ _ _ _ _ _ q=>ge_int q
theorem Ab:OpR X (compareOp .Is) (λx y H Q=>y= .non∧Q (.bl (decide (x= .non))) H):=by
 intro pins s σ H x y v u Q I rx ry h
 obtain⟨rfl,q⟩:=h
 cases ry
 refine is_none_gen (Dy I q ?_)
 cases x<;>first
  |(cases rx;rfl)
  |(obtain⟨t,rfl⟩:=rx;rfl)
theorem uc:OpR X (compareOp .IsNot) (λx y H Q=>y= .non∧Q (.bl (!decide (x= .non))) H):=by
 intro pins s σ H x y v u Q I rx ry h
 obtain⟨rfl,q⟩:=h
 cases ry
 refine isnot_none_gen (Dy I q ?_)
 cases x<;>first
  |(cases rx;rfl)
  |(obtain⟨t,rfl⟩:=rx;rfl)
theorem OpR.or{f:Value→Value→Sem Value}{r r' :R2}(h:OpR X f r)(h' :OpR X f r'):OpR X f (λx y H Q=>r x y H Q∨r' x y H Q):=by
 intro pins s σ H x y v u Q I rx ry q
 rcases q with q|q
 ·exact h pins s σ H x y v u Q I rx ry q
 ·exact h' pins s σ H x y v u Q I rx ry q
theorem aM(b:Expr){op:CmpOp}(h:op≠ .In:=by decide)(h2:op≠ .NotIn:=by decide):behindInMarks op b=false:=by
 have e1:(op==CmpOp.In)=false:=by cases op<;>first|rfl|exact absurd rfl h
 have e2:(op==CmpOp.NotIn)=false:=by cases op<;>first|rfl|exact absurd rfl h2
 cases b<;>simp[behindInMarks,e1,e2]
theorem Gj{op:CmpOp}{r:R2}(ho:OpR X (compareOp op) r)(ha:PE X a ta)(hb:PE X b tb)(hm:behindInMarks op b=false):PE X (.Compare a [op] [b] pos) (tOp r ta tb):=by
 intro pins s σ H Q I h
 exact wpAny_Compare1 (J6 ha hb I h λv u s2 x y H2 I2 rx ry q=>ho pins s2 σ H2 x y v u Q I2 rx ry q) hm
noncomputable def Ip(t:TE):TT:=λσ H Q=>t σ H λx H' =>∃k,x= .bl k∧Q k H'
theorem Gk{op:CmpOp}{r:R2}(ho:OpR X (compareOp op) r)(ha:PE X a ta)(hb:PE X b tb)(hm:behindInMarks op b=false):PT X (.Compare a [op] [b] pos) (Ip (tOp r ta tb)):=by
 intro pins s σ H Q I h
 refine wpAny_isTrue_Compare1 (thn (ha pins s σ H _ I h) λv s1 ⟨x,H1,I1,r1,q1⟩=>thn (hb pins s1 σ H1 _ I1 q1) λu s2 ⟨y,H2,I2,r2,q2⟩=>
  thn (ho pins s2 σ H2 x y v u _ I2 r1 r2 q2) λc s3 ⟨z,H3,I3,r3,k,e,q3⟩=> ?_) hm
 subst e
 cases r3
 exact GbF ⟨H3,I3,q3⟩
noncomputable def Jd(r r' :R2)(ta tb tc:TE):TE:=λσ H Q=>ta σ H λx H1=>tb σ H1 λy H2=>r x y H2 λz H3=>∃k,z= .bl k∧
 (if k=true then tc σ H3 λw' H4=>r' y w' H4 Q else Q (.bl false) H3)
theorem DB{op op' :CmpOp}{r r' :R2}(ho:OpR X (compareOp op) r)(ho' :OpR X (compareOp op') r')(ha:PE X a ta)(hb:PE X b tb)(hc:PE X c tc)
  (hm:lastMarks [op,op'] [b,c]=false:=by with_unfolding_all rfl):PT X (.Compare a [op,op'] [b,c] pos) (Ip (Jd r r' ta tb tc)):=by
 intro pins s σ H Q I h
 refine isTrue_chain (thn (ha pins s σ H _ I h) λv s1 ⟨x,H1,I1,r1,q1⟩=>test_link (thn (hb pins s1 σ H1 _ I1 q1) λu s2 ⟨y,H2,I2,r2,q2⟩=>
  thn (ho pins s2 σ H2 x y v u _ I2 r1 r2 q2) λd s3 ⟨z,H3,I3,r3,k,e,q3⟩=> ?_)) hm
 subst e
 cases r3
 refine GbF ?_
 cases k with
 |false=>
  obtain⟨k',e',q'⟩:=q3
  cases e'
  exact ite_ff ⟨H3,I3,q'⟩
 |true=>
  refine ite_tt (test_last (thn (hc pins s3 σ H3 _ I3 q3) λw' s4 ⟨z',H4,I4,r4,q4⟩=>thn (ho' pins s4 σ H4 y z' u w' _ I4 r2 r4 q4) λd' s5 ⟨z2,H5,I5,r5,k2,e2,q5⟩=> ?_))
  subst e2
  cases r5
  exact GbF ⟨H5,I5,q5⟩
theorem qx:(sizeLine:Nat)<2^63:=by rw[GbA];decide
theorem Ac:OpR X (binaryOp .Add) (λx y H Q=>∃i j,x= .str i∧y= .str j∧i.length+j.length≤sizeLine∧Q (.str (i++j)) H):=by
 intro pins s σ H x y v u Q I rx ry h
 obtain⟨i,j,rfl,rfl,hz,q⟩:=h
 obtain⟨t,rfl⟩:=rx
 obtain⟨t',rfl⟩:=ry
 exact add_str (λt' tk=> ⟨.str (i++j),H,I.tok _,⟨_,rfl⟩,q⟩) hz
theorem vals1{x:V}{us:List Value}(r:Vals [x] us):∃u,us=[u]∧RelV x u:=by
 cases r with
 |cons r1 r2=>cases r2;exact⟨_,rfl,r1⟩
theorem vals2{x y:V}{us:List Value}(r:Vals [x,y] us):∃u w',us=[u,w']∧RelV x u∧RelV y w' :=by
 cases r with
 |cons r1 r2=>
  cases r2 with
  |cons r3 r4=>cases r4;exact⟨_,_,rfl,r1,r3⟩
theorem Ca(hc:X.calm=true):i4 X (.builtin "max") (λxs H Q=>∃i j,xs=[.int i,.int j]∧Q (.int (if j>i then j else i)) H):=by
 intro pins s σ H xs us Q I r h
 obtain⟨i,j,rfl,q⟩:=h
 obtain⟨u,w',rfl,⟨t,rfl⟩,⟨t',rfl⟩⟩:=vals2 r
 refine max_two_ints (I.ok.hd hc) λh' tk k=> ⟨_,H,I.kept k, ?_,q⟩
 by_cases hj:j>i
 ·rw[Gag hj,Gag hj];exact⟨_,rfl⟩
 ·rw[Gae hj,Gae hj];exact⟨_,rfl⟩
theorem sJ(hc:X.calm=true):i4 X (.builtin "min") (λxs H Q=>∃i j,xs=[.int i,.int j]∧Q (.int (if j<i then j else i)) H):=by
 intro pins s σ H xs us Q I r h
 obtain⟨i,j,rfl,q⟩:=h
 obtain⟨u,w',rfl,⟨t,rfl⟩,⟨t',rfl⟩⟩:=vals2 r
 refine min_two_ints (I.ok.hd hc) λh' tk k=> ⟨_,H,I.kept k, ?_,q⟩
 by_cases hj:j<i
 ·rw[Gag hj,Gag hj];exact⟨_,rfl⟩
 ·rw[Gae hj,Gae hj];exact⟨_,rfl⟩
def Ln(K:PySem.W.Frag)(x:V)(H:Hp)(n:Nat):Prop:=
 match x with
 | .str y=>y.length≤sizeLine∧n=y.length
 | .byt y=>y.size≤sizeLine∧n=y.size
 | .ref p=>(∃xs,SqL K H p xs∧n=xs.length)∨∃xs,SqT K H p xs∧n=xs.length
 |_=>False
theorem cL:i4 X (.builtin "len") (λxs H Q=>∃x n,xs=[x]∧Ln X.K x H n∧Q (.int n) H):=by
 intro pins s σ H xs us Q I r h
 obtain⟨x,n,rfl,e,q⟩:=h
 obtain⟨u,rfl,rx⟩:=vals1 r
 have hl:=qx
 have hs:sizeLine=16777216:=GbA
 cases x with
 |str y=>
  obtain⟨t,rfl⟩:=rx
  obtain⟨hy,e'⟩:y.length≤sizeLine∧n=y.length:=e
  subst e'
  exact len_str (by omega) ⟨.int _,H,I.tok _,⟨_,rfl⟩,q⟩
 |byt y=>
  obtain⟨t,rfl⟩:=rx
  obtain⟨hy,e'⟩:y.size≤sizeLine∧n=y.size:=e
  subst e'
  exact PySem.W.len_bytes (by omega) ⟨.int _,H,I.tok _,⟨_,rfl⟩,q⟩
 |ref p=>
  cases rx
  have e' :(∃xs,SqL X.K H p xs∧n=xs.length)∨∃xs,SqT X.K H p xs∧n=xs.length:=e
  rcases e' with⟨xs,hx,e'⟩| ⟨xs,hx,e'⟩
  ·subst e'
   obtain⟨its,r',pl,hz⟩:=I.list hx
   have hlen:=r'.length
   exact Calls.call_len_list pl.isList (by simp only[Gan];omega) ⟨.int xs.length,H,I.tok _,⟨_,by simp only[Gan];rw[hlen]⟩,q⟩
  ·subst e'
   obtain⟨its,r',pl,hz⟩:=I.tuple hx
   have hlen:=r'.length
   exact len_tuple pl (by simp only[Gan];omega) ⟨.int xs.length,H,I.tok _,⟨_,by simp only[Gan];rw[hlen]⟩,q⟩
 |_=>exact(show False from e).elim
end
structure Je(h:Heap)(x dx C:Addr)(mA:Str→Option Value):Prop where
 obj:h.get? x=some (PySem.W.instObj C dx)
 ns:h.Ns1 dx mA
 ne:dx≠x
theorem Cb{h:Heap}{dx:Addr}{mA:Str→Option Value}(n:h.Ns1 dx mA):∃od,h.get? dx=some od∧∀name,PySem.W.lookIn name od=some (mA name):=by
 obtain⟨o,es,ep,ho,hd,hk,_,hm⟩:=n
 refine⟨o,ho,λname=> ?_⟩
 have e:=hm name
 unfold nsFind findBy at e
 rw[←Array.find?_toList] at e
 unfold PySem.W.lookIn
 rw[hd]
 dsimp only
 split
 ·rename_i y q
  rw[q] at e
  exact congrArg some e
 ·rename_i q
  rw[q] at e
  have a:es.toList.any (·.refKey)=false:=by
   rw[List.any_eq_false]
   intro y hy
   obtain⟨z,t,hkey⟩:=hk y (Array.mem_toList_iff.mp hy)
   simp[DictEntry.refKey,hkey]
  have a' :¬es.toList.any (·.refKey)=true:=by rw[a];exact GaA
  rw[Gae a']
  exact congrArg some e
theorem Je.look{h:Heap}{x dx C:Addr}{mA:Str→Option Value}(I:Je h x dx C mA):∃od,PySem.W.InstAt h x (PySem.W.instObj C dx) C (some od)∧∀name,PySem.W.lookIn name od=some (mA name):=
 let⟨od,ho,hl⟩:=Cb I.ns
 ⟨od,⟨I.obj,rfl,rfl,ho⟩,hl⟩
theorem oy.some_of{v:V}{o:Option Value}(r:oy (some v) o):∃u,o=some u∧RelV v u:=by
 cases o with
 |none=>exact(show False from r).elim
 |some u=>exact⟨u,rfl,r⟩
section
variable{P:Program}{w:World}{H H' :Hp}{h h' :Heap}{a C dx:Addr}{fs fs' :List (Str×V)}
theorem Gm(hok:HOk P w H h)(e:H a=some (.ins C dx fs)):∃mA,Je h a dx C mA∧(∀f,oy (fs.lookup f) (mA f))∧PySem.Within mA (fs.map (·.1))∧fs.length≤1000∧H dx=some (.own a):=by
 obtain⟨d,z,ne,ob,mA,n,r,q⟩:=(show cx P w H h a (.ins C dx fs) from hok a _ e)
 exact⟨mA,⟨ob,n,ne⟩,r,q,z,d⟩
end
structure Cls(K:PySem.W.Frag)(C:Addr):Prop where
 pg:PySem.W.plainGet K C Str.empty=true
 hd:PySem.W.hasDictIn K C=true
 po:PySem.W.plainOver K C=true
 sa:PySem.W.findIn K (.ref C) "__setattr__"=some (some (.builtin "object.__setattr__"))
theorem Cls.get{K:PySem.W.Frag}{C:Addr}(c:Cls K C)(f:Str):PySem.W.plainGet K C f=true:=c.pg
section
variable{X:Cx}{pins:List (Addr×Obj)}{σ:St}{H:Hp}{s:Shared}{A:Around}{E:Value→Shared→Prop}{Q:Value→Shared→Prop}{c:Value}{b:Bool}
inductive mW(K:PySem.W.Frag)(H:Hp):V→Value→Prop where
 |non:mW K H .non (.type "NoneType")
 |bl (x:Bool):mW K H (.bl x) (.type "bool")
 |int (i:Int):mW K H (.int i) (.type "int")
 |str (x:Str):mW K H (.str x) (.type "str")
 |flt (x:UInt64):mW K H (.flt x) (.type "float")
 |lst {a:Addr} {xs:List V} (e:H a=some (.lst xs)):mW K H (.ref a) (.type "list")
 |frz {a:Addr} {o:Obj} {xs:List V} (e:H a=some (.frz o (.lst xs))):mW K H (.ref a) (.type "list")
 |tup {a:Addr} {xs:List V} (e:H a=some (.tup xs)):mW K H (.ref a) (.type "tuple")
 |dK {a:Addr} {kvs:List (Key×V)} (e:H a=some (.dK kvs)):mW K H (.ref a) (.type "dict")
 |dT {a:Addr} {kvs:List (List Key×V)} (e:H a=some (.dT kvs)):mW K H (.ref a) (.type "dict")
 |ins {a C dx:Addr} {fs:List (Str×V)} (e:H a=some (.ins C dx fs)) (cl:Cls K C) (ha:PySem.W.findIn K (.ref C) "__class__"=some (some (.builtin "object.__class__")))
   (hn:PySem.W.specialIn K (.builtin "object.__class__") "__get__"=some (some (.builtin "getset_descriptor.__get__"))) (htk:PySem.W.takesIn K (.builtin "object.__class__")=some true)
   (hm:PySem.W.mroIn K C (.type "object")=some true):mW K H (.ref a) (.ref C)
theorem Cc{x:V}{u t:Value}(I:Inv X pins σ H s)(rx:RelV x u)(ty:mW X.K H x t)(e:PySem.W.kitOne X.K t c=some b)(h:∀tk,Q (.bool b) {s with toks:=tk}):
  wpAny (model X.prog X.w) A (call (.builtin "isinstance") [u,c]) Q E s:=by
 cases ty with
 |non=>cases(show u=Value.none from rx);exact Gbp PySem.W.kitx_none I.kIn True.intro e (λz=>nomatch z) h
 |bl y=>cases(show u=Value.bool y from rx);exact Gbp PySem.W.kitx_bool I.kIn True.intro e (λz=>nomatch z) h
 |int i=>obtain⟨t,q⟩:=(show∃t,u=Value.int i t from rx);cases q;exact Gbp PySem.W.kitx_int I.kIn True.intro e (λz=>nomatch z) h
 |str y=>obtain⟨t,q⟩:=(show∃t,u=Value.str y t from rx);cases q;exact Gbp PySem.W.kitx_str I.kIn True.intro e (λz=>nomatch z) h
 |flt y=>obtain⟨t,q⟩:=(show∃t,u=Value.float y t from rx);cases q;exact Gbp PySem.W.kitx_float I.kIn True.intro e (λz=>nomatch z) h
 | @lst a xs ea=>
  cases(show u=Value.ref a from rx)
  obtain⟨_,_,n,_,h1⟩:=(show cx X.prog X.w H s.heap a (.lst xs) from I.hok a _ ea)
  exact Gbp PySem.W.kitx_list I.kIn ⟨_,h1,rfl⟩ e (λz=>nomatch z) h
 | @frz a ob xs ea=>
  cases(show u=Value.ref a from rx)
  obtain⟨_,_,_,n,_,h1⟩:=(show cx X.prog X.w H s.heap a (.frz ob (.lst xs)) from I.hok a _ ea)
  exact Gbp PySem.W.kitx_list I.kIn ⟨_,h1,rfl⟩ e (λz=>nomatch z) h
 | @tup a xs ea=>
  cases(show u=Value.ref a from rx)
  obtain⟨_,_,_,p⟩:=(show cx X.prog X.w H s.heap a (.tup xs) from I.hok a _ ea)
  obtain⟨o,h1,h2,_⟩:=p
  exact Gbp PySem.W.kitx_tuple I.kIn ⟨o,h1,h2⟩ e (λz=>nomatch z) h
 | @dK a kvs ea=>
  cases(show u=Value.ref a from rx)
  obtain⟨_,_,vs,_,p⟩:=(show cx X.prog X.w H s.heap a (.dK kvs) from I.hok a _ ea)
  obtain⟨o,es,ep,h1,h2,_⟩:=p
  exact Gbp PySem.W.kitx_dict I.kIn ⟨o,h1,h2.1⟩ e (λz=>nomatch z) h
 | @dT a kvs ea=>
  cases(show u=Value.ref a from rx)
  obtain⟨_,_,xs,_,o,es,ep,h1,h2,_⟩:=(show cx X.prog X.w H s.heap a (.dT kvs) from I.hok a _ ea)
  exact Gbp PySem.W.kitx_dict I.kIn ⟨o,h1,h2.1⟩ e (λz=>nomatch z) h
 | @ins a C dx fs ea cl ha hn htk hm=>
  cases(show u=Value.ref a from rx)
  obtain⟨mA,O,_⟩:=Gm I.hok ea
  obtain⟨od,J,_⟩:=O.look
  exact Gbp (PySem.W.kitx_own (cl.get _) cl.hd ha hn htk hm) I.kIn J e (λz=>nomatch z) h
end
structure gV(k:Nat)(A:Around):Prop where
 hd:A.handled=none
 dp:A.depth+3*k+5<recursionLimit
 un:A.units+16*k+200<cLine
theorem gV.mono{j k:Nat}{A:Around}(r:gV k A)(h:j≤k):gV j A:=⟨r.hd,by have:=r.dp;omega,by have:=r.un;omega⟩
theorem gV.deeper{k:Nat}{A:Around}(r:gV (k+1) A)(env:Env):gV k (A.deeper env):=
 ⟨r.hd,by have:=r.dp;show A.depth+1+3*k+5<_;omega,by have:=r.un;show A.units+3+16*k+200<_;omega⟩
theorem Ad{A:Around}{C:Addr}{us:List Value}{kw:List (Str×Value)}:(A.under (.builtin "type.__call__" ⟨.ref C::us,kw⟩)).depth=A.depth+1:=by
 first|rfl|simp[Around.under,Code.weight,Code.isCreation,Code.isGuard,Code.isCaller,Code.frames,Code.isFrame,guardIds]
theorem Ae{A:Around}{C:Addr}{us:List Value}{kw:List (Str×Value)}:(A.under (.builtin "type.__call__" ⟨.ref C::us,kw⟩)).units=A.units+1:=by
 first|rfl|simp[Around.under,Code.cUnits,Code.frames,Code.isFrame]
theorem gV.make{k:Nat}{A:Around}(r:gV (k+1) A)(C:Addr)(us:List Value)(kw:List (Str×Value)):gV k (A.under (.builtin "type.__call__" ⟨.ref C::us,kw⟩)):=
 ⟨r.hd,by have:=r.dp;rw[Ad];omega,by have:=r.un;rw[Ae];omega⟩
theorem gV.depth{k:Nat}{A:Around}(r:gV k A):A.depth<recursionLimit:=by have:=r.dp;omega
theorem gV.units{k:Nat}{A:Around}(r:gV k A):A.units+64<cLine:=by have:=r.un;omega
noncomputable def NC:TA:=λ_ H Q=>Q [] H
noncomputable def Lo(ta:TE)(tr:TA):TA:=λσ H Q=>ta σ H λx H1=>tr σ H1 λxs H2=>Q (x::xs) H2
section
variable{X:Cx}{e:Expr}{es:List Expr}{te:TE}{t:TA}{pos:Pos}
theorem Af:PA X [] NC:=λ_ _ _ _ H Q I h=>Calls.spliced_nil ⟨[],H,I,.nil,h⟩
theorem ud(ha:PE X e te)(hr:PA X es t)(hs:starEach (e::es) X.env=(false,eval e X.env)::starEach es X.env:=by rfl):PA X (e::es) (Lo te t):=by
 intro pos pins s σ H Q I h
 rw[hs]
 show wpAny _ _ (spliced ((false,eval e X.env)::backTo pos (starEach es X.env))) _ _ s
 refine Gcr (thn (ha pins s σ H _ I h) λu s1 ⟨x,H1,I1,r1,q1⟩=> ?_)
 exact thn (hr pos pins s1 σ H1 _ I1 q1) λus s2 ⟨xs,H2,I2,r2,q2⟩=> ⟨x::xs,H2,I2,.cons r1 r2,q2⟩
noncomputable def ND(t:TA):TE:=λσ H Q=>t σ H λxs H1=>xs.length≤sizeLine∧∀p,H1 p=none→Q (.ref p) (upd H1 p (.tup xs))
noncomputable def NF(t:TA):TE:=λσ H Q=>t σ H λxs H1=>xs.length≤sizeLine∧∀p,H1 p=none→Q (.ref p) (upd H1 p (.lst xs))
theorem Jf{x1}(h:PA X es t):PE X (.Tuple es x1 pos) (ND t):=by
 intro pins s σ H Q I hq
 refine wpAny_Tuple_spliced (thn (h pos pins s σ H _ I hq) λus s1 ⟨xs,H1,I1,r,z,q⟩=> ⟨by rw[←r.length];exact z, ?_⟩)
 have hf:H1 s1.heap.objs.size=none:=I1.hok.fresh (Gap _)
 refine⟨.ref s1.heap.objs.size,upd H1 s1.heap.objs.size (.tup xs),I1.laid (t' :=s1.toks) (λb u e=>Gaj _ e) (Gap _) ?_,rfl,q _ hf⟩
 exact⟨z,us,r,⟨_,GaC _ rfl,rfl,_,rfl⟩⟩
theorem DC(h:PA X es t):PE X (.List es pos) (NF t):=by
 intro pins s σ H Q I hq
 refine wpAny_List_spliced (thn (h pos pins s σ H _ I hq) λus s1 ⟨xs,H1,I1,r,z,q⟩=> ⟨by rw[←r.length];exact z, ?_⟩)
 have hf:H1 s1.heap.objs.size=none:=I1.hok.fresh (Gap _)
 refine⟨.ref s1.heap.objs.size,upd H1 s1.heap.objs.size (.lst xs),I1.laid (t' :=s1.toks) (λb u e=>Gaj _ e) (Gap _) ?_,rfl,q _ hf⟩
 exact⟨z,us,0,r,GaC _ rfl⟩
end
abbrev Sp:=List V→Hp→VK→XK→Prop
abbrev CXT:=List Env→Hp→Shared→XK→Value→Shared→Prop
structure Ah(P:Program)(w:World)(K:PySem.W.Frag)(mg:Str→Option Value)(base:Heap)(A:Around)(outer:List Env)(s:Shared)(H:Hp):Prop where
 frames:A.frames=some outer
 mod:Mod K mg base
 bs:∀b o,base.get? b=some o→s.heap.get? b=some o∧H b=none
 bsz:base.objs.size≤s.heap.objs.size
 pU:s.heap.FunFrames base outer
 frf:∀b∈frs outer,H b=none
 hok:HOk P w H s.heap
 bare:AllBare s.gens
def CE(outer:List Env)(P:Program)(w:World)(H:Hp)(s:Shared)(Q:VK)(u:Value)(s' :Shared):Prop:=
 ∃v H',s'.os=s.os∧AllBare s'.gens∧Un (frs outer) [] H H' s.heap s'.heap∧HOk P w H' s'.heap∧RelV v u∧Q v H'
def CR(CX:CXT)(outer:List Env)(P:Program)(w:World)(H:Hp)(s:Shared)(Q:VK)(E:XK)(r:Result)(s' :Shared):Prop:=
 match r with
 | .ok (.ret u)=>CE outer P w H s Q u s'
 | .ok _=>False
 | .error e=>CX outer H s E e s'
structure cC(P:Program)(w:World)(K:PySem.W.Frag)(mg:Str→Option Value)(base:Heap)(CX:CXT)(k:Nat)(f:Addr)(fd:FuncData)(ps:List Str)(sp:Sp):Prop where
 len:∀vs H Q E,sp vs H Q E→vs.length=ps.length
 run:∀(A:Around) (outer:List Env) (s:Shared) (H:Hp) (args:Args) (us:List Value) (vs:List V) (Q:VK) (E:XK),gV k A→Ah P w K mg base A outer s H→BindsTo s fd args (ps.zip us)→Vals vs us→sp vs H Q E→
  codeAny (model P w) A (.call (.ref f) args) (CR CX outer P w H s Q E) s
theorem cC.mono{P:Program}{w:World}{K:PySem.W.Frag}{mg:Str→Option Value}{base:Heap}{CX:CXT}{j k:Nat}{f:Addr}{fd:FuncData}{ps:List Str}{sp:Sp}(F:cC P w K mg base CX j f fd ps sp)(h:j≤k):
  cC P w K mg base CX k f fd ps sp:=⟨F.len,λA outer s H args us vs Q E hr=>F.run A outer s H args us vs Q E (hr.mono h)⟩
theorem cC.imp{P:Program}{w:World}{K:PySem.W.Frag}{mg:Str→Option Value}{base:Heap}{CX:CXT}{k:Nat}{f:Addr}{fd:FuncData}{ps:List Str}{sp sp' :Sp}(F:cC P w K mg base CX k f fd ps sp)
  (h:∀vs H Q E,sp' vs H Q E→sp vs H Q E):cC P w K mg base CX k f fd ps sp' :=
 ⟨λvs H Q E q=>F.len vs H Q E (h _ _ _ _ q),λA outer s H args us vs Q E hr he hb hv hs=>F.run A outer s H args us vs Q E hr he hb hv (h _ _ _ _ hs)⟩
theorem Ah.make{P:Program}{w:World}{K:PySem.W.Frag}{mg:Str→Option Value}{base:Heap}{A:Around}{outer:List Env}{s:Shared}{H:Hp}(e:Ah P w K mg base A outer s H)(C:Addr)(us:List Value)(kw:List (Str×Value)):
  Ah P w K mg base (A.under (.builtin "type.__call__" ⟨.ref C::us,kw⟩)) outer s H:=⟨by first|exact e.frames|(simpa[Around.under,Code.envs,Code.isFrame,pushEnvs] using e.frames),e.mod,e.bs,e.bsz,e.pU,e.frf,e.hok,e.bare⟩
section
variable{X:Cx}{pins:List (Addr×Obj)}{σ:St}{H:Hp}{s s' :Shared}
theorem Inv.NG(I:Inv X pins σ H s):Ah X.prog X.w X.K X.mg X.base X.A X.stack s H:=
 ⟨I.ok.frames,I.ok.mod,I.bs,Gbt I.ok.bsz I.sz,I.stack,I.B3,I.hok,I.bare⟩
theorem Inv.after{Q:VK}{u:Value}(I:Inv X pins σ H s)(h:CE X.stack X.prog X.w H s Q u s'):EP X pins σ Q u s' :=by
 obtain⟨v,H',os,bare,un,hok,r,q⟩:=h
 obtain⟨hh,g,d,t,os'⟩:=s'
 obtain rfl:os' =s.os:=os
 exact⟨v,H',I.call (h' :=hh) (g' :=g) (d' :=d) (t' :=t) (ch:=[]) un hok bare (λb z=>absurd z (by simp)),r,q⟩
end
noncomputable def Lp(sp:Sp)(dvs:List V)(E:XK)(t:TA):TE:=λσ H Q=>t σ H λvs H1=>sp (vs++dvs) H1 Q E
def Binds(K:PySem.W.Frag)(fd:FuncData)(ps:List Str)(ds:List Value):Prop:=
 ∀(s:Shared) (us:List Value),K.In s.heap→(us++ds).length=ps.length→BindsTo s fd ⟨us,[]⟩ (ps.zip (us++ds))
theorem Binds.all{K:PySem.W.Frag}{fd:FuncData}{ps:List Str}(h:∀us:List Value,us.length=ps.length→bindArgs fd ⟨us,[]⟩=pure (ps.zip us)):Binds K fd ps []:=λs us _ hl=>by
 rw[Gbb] at hl⊢
 exact .of_eq (h us hl)
def Passes(CX:CXT)(X:Cx)(E:XK):Prop:=∀(pins:List (Addr×Obj)) (σ:St) (H:Hp) (s:Shared) (e:Value) (s' :Shared),Inv X pins σ H s→CX X.stack H s E e s' →X.xe e s'
section
variable{X:Cx}{CX:CXT}{k:Nat}{f C:Addr}{fd:FuncData}{ps:List Str}{sp:Sp}{dvs:List V}{ds:List Value}{E:XK}{x m:Str}{p pos apos:Pos}{e o:Expr}{es:List Expr}{ta:TE}{t:TA}
theorem Jg{pins:List (Addr×Obj)}{σ:St}{H:Hp}{s:Shared}{Q:VK}{us:List Value}{vs:List V}(F:cC X.prog X.w X.K X.mg X.base CX k f fd ps sp)(hr:gV k X.A)(hb:Binds X.K fd ps ds)(hd:Vals dvs ds)(hx:Passes CX X E)
  (I:Inv X pins σ H s)(r:Vals vs us)(h:sp (vs++dvs) H Q E):wpAny (model X.prog X.w) X.A (call (.ref f) us) (EP X pins σ Q) X.xe s:=by
 have r2:Vals (vs++dvs) (us++ds):=r.append hd
 have hl:(us++ds).length=ps.length:=by rw[←r2.length];exact F.len _ _ _ _ h
 refine wpAny_call (codeAny_mono (F.run X.A X.stack s H ⟨us,[]⟩ (us++ds) (vs++dvs) Q E hr I.NG (hb s us I.kIn hl) r2 h) λr s' hq=> ?_)
 cases r with
 |error e=>exact hx pins σ H s e s' I hq
 |ok fl=>
  cases fl with
  |ret u=>exact I.after hq
  |next=>exact False.elim hq
  |brk=>exact False.elim hq
  |cont=>exact False.elim hq
theorem Gn(F:cC X.prog X.w X.K X.mg X.base CX k f fd ps sp)(hr:gV k X.A)(hg:Gl X x)(hm:X.mg x=some (.ref f))(hk:PySem.W.keepIn X.K (.ref f)=true)(hb:Binds X.K fd ps ds)(hd:Vals dvs ds)(hx:Passes CX X E)
  (ha:PA X (e::es) t)(hdb:(x==("__debug__":Str))=false:=by decide)(he:starEach (e::es) X.env=(false,eval e X.env)::starEach es X.env:=by rfl)(hpl:(backTo pos (starEach es X.env)).any (·.1)=false:=by rfl):
  PE X (.Call (.Name x p) (e::es) [] pos) (Lp sp dvs E t):=by
 intro pins s σ H Q I h
 refine GcK (Ga I hg hm ?_ hdb)
 refine PySem.W.callWith_K (h₀:=X.base) I.ok.mod.kin hk (thn (ha pos pins s σ H _ I h) λus s1 ⟨vs,H1,I1,r,q⟩=> ⟨I1.kIn, ?_⟩) he hpl
 exact Jg F hr hb hd hx I1 r q
end
structure aW(N P:List Str)(sc:Scope):Prop where
 kind:sc.kind= .function
 co:sc.isCoroutine=false
 gen:sc.isGenerator=false
 nd:N.Nodup
 pre:N.take P.length=P
 par:∀x∈P,sc.names.lookup x=some .local∨sc.names.lookup x=some .cell
 KC:∀y∈sc.names,y.2≠ .free
theorem sL{kindOf:Str→Option NameKind}{x:Str}:∀{binds:List (Str×Value)} {m:Str→Option Value},(∀v,(x,v)∉binds)→bindL kindOf binds m x=m x
 |[],_,_=>rfl
 |(n,v)::r,m,h=>by
  unfold bindL
  rw[sL λw hw=>h w (Gaf _ hw)]
  split
  ·have:x≠n:=by rintro rfl;exact h v Gak
   simp[this]
  ·rfl
theorem sM{kindOf:Str→Option NameKind}{x:Str}:∀{binds:List (Str×Value)} {m:Str→Option Value},(∀v,(x,v)∉binds)→bindC kindOf binds m x=m x
 |[],_,_=>rfl
 |(n,v)::r,m,h=>by
  unfold bindC
  rw[sM λw hw=>h w (Gaf _ hw)]
  split
  ·rfl
  ·have:x≠n:=by rintro rfl;exact h v Gak
   simp[this]
theorem sN{kindOf:Str→Option NameKind}{x:Str}{v:Value}:∀{P:List Str} {vs:List Value} {i:Nat} {m:Str→Option Value},P.Nodup→P[i]? =some x→vs[i]? =some v→kindOf x=some .local→
  bindL kindOf (P.zip vs) m x=some v
 |[],_,_,_,_,h,_,_=>by simp at h
 |_::_,[],_,_,_,_,h,_=>by simp at h
 |p::P,w::vs,0,m,nd,h1,h2,hk=>by
  simp at h1 h2;subst h1;subst h2
  show bindL kindOf ((p,w)::P.zip vs) m p=_
  unfold bindL
  rw[sL λv hv=>(GbG.mp nd).1 (List.of_mem_zip hv).1,Gag hk]
  simp
 |p::P,w::vs,i+1,m,nd,h1,h2,hk=>by
  show bindL kindOf ((p,w)::P.zip vs) m x=_
  unfold bindL
  exact sN (i:=i) (GbG.mp nd).2 (by simpa using h1) (by simpa using h2) hk
theorem sO{kindOf:Str→Option NameKind}{x:Str}{v:Value}:∀{P:List Str} {vs:List Value} {i:Nat} {m:Str→Option Value},P.Nodup→P[i]? =some x→vs[i]? =some v→kindOf x≠some .local→
  bindC kindOf (P.zip vs) m x=some v
 |[],_,_,_,_,h,_,_=>by simp at h
 |_::_,[],_,_,_,_,h,_=>by simp at h
 |p::P,w::vs,0,m,nd,h1,h2,hk=>by
  simp at h1 h2;subst h1;subst h2
  show bindC kindOf ((p,w)::P.zip vs) m p=_
  unfold bindC
  rw[sM λv hv=>(GbG.mp nd).1 (List.of_mem_zip hv).1,Gae hk]
  simp
 |p::P,w::vs,i+1,m,nd,h1,h2,hk=>by
  show bindC kindOf ((p,w)::P.zip vs) m x=_
  unfold bindC
  exact sO (i:=i) (GbG.mp nd).2 (by simpa using h1) (by simpa using h2) hk
noncomputable def start(N:List Str)(vs:List V):St:=vs.map some++List.replicate (N.length -vs.length) none
noncomputable def Ai(CX:CXT)(P:Program)(w:World)(K:PySem.W.Frag)(mg:Str→Option Value)(base:Heap)(N:List Str)(qual:Str)(scope:Scope)(f:Addr)(cd:Value)(A:Around)(outer:List Env)(s:Shared)(H:Hp)(E:XK):Cx where
 prog:=P
 w:=w
 K:=K
 mg:=mg
 base:=base
 A:=A.deeper (envOfC qual scope s.heap.objs.size f cd)
 N:=N
 s₀:=s
 H₀:=H
 env:=envOfC qual scope s.heap.objs.size f cd
 outer:=outer
 stack:=envOfC qual scope s.heap.objs.size f cd::outer
 ex:=[]
 calm:=true
 fn:=λ_=>true
 pn:=[]
 xe:=λe s' =>wpAny (model P w) (A.deeper (envOfC qual scope s.heap.objs.size f cd)) (leaving (envOfC qual scope s.heap.objs.size f cd) e) (λ_ s'' =>CX outer H s E e s'') (λe' s'' =>CX outer H s E e' s'') s'
theorem vf{sc:Scope}{n:Nat}{x:Str}(h:sc.names.lookup x=some .cell):∃c,(cellsFrom n sc.names []).lookup x=some c:=by
 have q:=PySem.W.cellsFrom_some sc.names n [] (.inl h)
 exact Option.isSome_iff_exists.mp q
theorem Cd{CX:CXT}{P:Program}{w:World}{K:PySem.W.Frag}{mg:Str→Option Value}{base:Heap}{N ps:List Str}{qual:Str}{scope:Scope}{f:Addr}{cd:Value}{A:Around}{outer:List Env}{s s1:Shared}{H:Hp}{E:XK}{us:List Value}{vs:List V}
  (S:aW N ps scope)(hd:A.handled=none)(e0:Ah P w K mg base A outer s H)(hl:vs.length=ps.length)(r:Vals vs us)
  (x:InCallC s s.heap.objs.size (bindL (envOfC qual scope s.heap.objs.size f cd).kindOf (ps.zip us) λ_=>none) (cellsFrom (s.heap.objs.size+1) scope.names []) (bindC (envOfC qual scope s.heap.objs.size f cd).kindOf (ps.zip us) λ_=>none) s1):
  Inv (Ai CX P w K mg base N qual scope f cd A outer s H E) [] (start N vs) H s1:=by
 have hpl:ps.length≤N.length:=by have:=congrArg List.length S.pre;rw[Gcj] at this;omega
 obtain⟨h1,tk,rfl,hk⟩:=x.done
 have noA:∀b:Addr,b∉(Ai CX P w K mg base N qual scope f cd A outer s H E).ex:=λb z=>absurd (show b∈([]:List Addr) from z) (by simp)
 refine⟨⟨e0.mod,S.kind,rfl,rfl,Gap _,λy z c h1 h2=> ?_,λy hy=> ?_,λy c _ h=> ?_,λ_=>hd,Around.frames_deeper e0.frames,.inr ⟨rfl,rfl⟩,λb z=>absurd z (noA b),e0.bs,e0.bsz,λb _ _=>noA b,λb z=>absurd z (noA b),e0.pU,e0.frf⟩,
  rfl,e0.bare,Un.kept hk,⟨_,x.toInCall.ns,λi y v h1 h2 h3=> ?_⟩,λy c h=> ⟨_,x.cell y c h⟩,e0.hok.fresh (Gap _),λy c h=> ?_,λp hp=>absurd (show p∈([]:List (Addr×Obj)) from hp) (by simp),e0.hok.kept hk, ?_⟩
 ·exact name_of_addr x.apart (PySem.mem_of_lookup h1) (PySem.mem_of_lookup h2)
 ·have hy:scope.names.lookup y=some .cell∨scope.names.lookup y=some .free:=hy
  rcases hy with hy|hy
  ·exact vf hy
  ·exact absurd rfl (S.KC _ (PySem.mem_of_lookup hy))
 ·exact Gdk (x.above y c (PySem.mem_of_lookup h))
 ·have hi:i<vs.length:=by
   unfold start at h2
   by_cases hi:i<vs.length
   ·exact hi
   ·rw[GaM (by simpa using hi)] at h2
    rw[Gcn] at h2
    split at h2<;>cases h2
  have ha:vs[i]? =some v:=by
   unfold start at h2
   rw[GaS (by simpa using hi),Gal] at h2
   cases e:vs[i]? with
   |none=>rw[e] at h2;cases h2
   |some a=>rw[e] at h2;cases h2;rfl
  obtain⟨u,hu,rv⟩:=r.get ha
  have hp:ps[i]? =some y:=by
   rw[←S.pre,GaT (by omega)];exact h1
  have ndP:ps.Nodup:=by rw[←S.pre];exact S.nd.sublist (List.take_sublist _ _)
  refine⟨u,rv, ?_⟩
  rcases S.par y (GaL hp) with k|k
  ·exact .inl ⟨k,sN ndP hp hu k⟩
  ·obtain⟨c,e⟩:=vf (n:=s.heap.objs.size+1) k
   refine .inr ⟨.inl k,c,e, ?_⟩
   have q:=x.cell y c e
   rw[sO ndP hp hu (by show scope.names.lookup y≠_;rw[k];decide)] at q
   exact q
 ·exact e0.hok.fresh (Gdk (x.above y c (PySem.mem_of_lookup h)))
 ·unfold start
  show _=N.length
  rw[Gav,Gah,Gdh]
  omega
theorem Lq{CX:CXT}{P:Program}{w:World}{K:PySem.W.Frag}{mg:Str→Option Value}{base:Heap}{k:Nat}{f:Addr}{name qual:Str}{params:Arguments}{body:List Stmt}{scope:Scope}{dV kV doc pm cdv ct oc:Value}{an od:Option Addr}
  {osl:Array (Option Value)}{N ps:List Str}{sp:Sp}(lk:K.lookup f=some ⟨oc,od,.func (PySem.W.fnOf name qual params body scope dV kV doc pm an cdv ct),osl⟩)(hcd:PySem.W.codeIn K cdv qual=true)(S:aW N ps scope)
  (len:∀vs H Q E,sp vs H Q E→vs.length=ps.length)
  (hbody:∀(A:Around) (outer:List Env) (s:Shared) (H:Hp) (vs:List V) (Q:VK) (E:XK),gV k (A.deeper (envOfC qual scope s.heap.objs.size f cdv))→sp vs H Q E→
   ∃t,PSs (Ai CX P w K mg base N qual scope f cdv A outer s H E) body t∧t {nx:=λ_ H' =>Q .non H',rt:=Q} (start N vs) H):
  cC P w K mg base CX (k+1) f (PySem.W.fnOf name qual params body scope dV kV doc pm an cdv ct) ps sp:=by
 refine⟨len,λA outer s H args us vs Q E hr e0 hb r hsp=> ?_⟩
 have hl:=len _ _ _ _ hsp
 have KX:K.In s.heap:=e0.mod.kin.keeps λb o e=>(e0.bs b o e).1
 have lim:s.heap.NoLimit:=e0.mod.nolimit.keeps λb o e=>(e0.bs b o e).1
 have hkind:∀y∈ps.zip us,scope.names.lookup y.1=some .local∨(scope.names.lookup y.1=some .cell∧((cellsFrom (s.heap.objs.size+1) scope.names []).lookup y.1).isSome=true):=λ⟨n,v⟩ hy=>by
  rcases S.par n (List.of_mem_zip hy).1 with q|q
  ·exact .inl q
  ·exact .inr ⟨q,PySem.W.cellsFrom_some _ _ _ (.inl q)⟩
 refine codeAny_call_function hr.depth (KX _ _ lk) rfl S.co S.gen rfl (PySem.W.codeRec_of KX hcd) (hb _ _ _ _ ?_)
 refine wpAny_newFunctionEnv_cells S.kind hkind λenv he s1 x=> ?_
 subst he
 refine⟨lim.keeps x.toInCall.keep,codeAny_func ?_⟩
 obtain⟨t,ht,hq⟩:=hbody A outer s H vs Q E (hr.deeper _) hsp
 have I:Inv (Ai CX P w K mg base N qual scope f cdv A outer s H E) [] (start N vs) H s1:=Cd S hr.hd e0 hl r x
 refine GbK (ht [] s1 (start N vs) H _ I hq) (λfl s' hs=> ?_) λe s' hs=>hs
 have fin:∀{σ' :St} {H' :Hp} {v:V} {u:Value},Inv (Ai CX P w K mg base N qual scope f cdv A outer s H E) [] σ' H' s' →RelV v u→Q v H' →CE outer P w H s Q u s' :=
  λ{σ' H' v u} J rv q=> ⟨v,H',J.os,J.bare,J.base,J.hok,rv,q⟩
 cases fl with
 |ret u=>
  obtain⟨v,σ',H',J,rv,q⟩:=hs
  exact fin J rv q
 |next=>
  obtain⟨σ',H',J,q⟩:=hs
  exact fin (v:=V.non) (u:=Value.none) J rfl q
 |brk=>
  obtain⟨_,_,_,q⟩:=hs
  exact False.elim q
 |cont=>
  obtain⟨_,_,_,q⟩:=hs
  exact False.elim q
section
variable{X:Cx}{x:Str}{p pos:Pos}{e:Expr}{es:List Expr}{t:TA}{id T:String}{r:List V→Hp→VK→Prop}
noncomputable def tCB(r:List V→Hp→VK→Prop)(t:TA):TE:=λσ H Q=>t σ H λvs H1=>r vs H1 Q
theorem vg(hc:i4 X (.builtin id) r)(hg:Gl X x)(hm:X.mg x=none)(hv:bootBuiltins x=some (.builtin id))(ha:PA X (e::es) t)(hn:x≠"__name__":=by decide)(hdb:(x==("__debug__":Str))=false:=by decide)
  (he:starEach (e::es) X.env=(false,eval e X.env)::starEach es X.env:=by rfl)(hpl:(backTo pos (starEach es X.env)).any (·.1)=false:=by rfl):PE X (.Call (.Name x p) (e::es) [] pos) (tCB r t):=by
 intro pins s σ H Q I h
 refine GcK (mU I hg hm hv ?_ hn hdb)
 exact PyProof.Rows.callWith_builtin1 (thn (ha pos pins s σ H _ I h) λus s1 ⟨vs,H1,I1,r1,q1⟩=>hc pins s1 σ H1 vs us Q I1 r1 q1) he hpl
theorem Ce(hc:i4 X (.type T) r)(hg:Gl X x)(hm:X.mg x=none)(hv:bootBuiltins x=some (.type T))(ha:PA X (e::es) t)(hn:x≠"__name__":=by decide)(hdb:(x==("__debug__":Str))=false:=by decide)
  (he:starEach (e::es) X.env=(false,eval e X.env)::starEach es X.env:=by rfl)(hpl:(backTo pos (starEach es X.env)).any (·.1)=false:=by rfl):PE X (.Call (.Name x p) (e::es) [] pos) (tCB r t):=by
 intro pins s σ H Q I h
 refine GcK (mU I hg hm hv ?_ hn hdb)
 exact GbY (thn (ha pos pins s σ H _ I h) λus s1 ⟨vs,H1,I1,r1,q1⟩=>hc pins s1 σ H1 vs us Q I1 r1 q1) he hpl
end
end L2
namespace HT
open PySem PyProof.Rows
section
open PySem.SeqAt
open PySem.AutoSeq1 (wpAny_loadPart')
open PySem.MeetsSeq PySem.MeetsSeq2 PySem.MeetsSeq3
end
section
variable{prog:Program}{w:World}{A:Around}{E:Value→Shared→Prop}{s:Shared}
theorem Gp{t b:Addr}{vs ws:List Value}{Q:Value→Shared→Prop}(ht:IsTup s.heap t vs.toArray)(hb:IsTup s.heap b ws.toArray)(hv:vs≠[])
  (h1:ws=[]→Q (.ref t) s)(h2:ws≠[]→Q (.ref s.heap.objs.size) {s with heap:=s.heap.push {cls:= .type "tuple",data:= .seq (vs++ws).toArray}})
  (hsz:vs.length+ws.length≤sizeLine):wpAny (model prog w) A (binaryOp .Add (.ref t) (.ref b)) Q E s:=by
 obtain⟨⟨cls,dd,data,sl⟩,ho,hc,n,hd⟩:=id ht
 obtain⟨⟨cls2,dd2,data2,sl2⟩,ho2,hc2,n2,hd2⟩:=id hb
 simp only at hc hd hc2 hd2
 subst hc hd hc2 hd2
 have e:vs.toArray++ws.toArray=(vs++ws).toArray:=by simp
 by_cases hw:ws=[]
 ·exact concat_meets ⟨_,ho,rfl⟩ ⟨_,ho2,rfl⟩ noFill_tuple_add seq_tuple_add PySem.F.slot_tuple_add PySem.F.entry_tuple_add (PySem.F.args_tuple_add_2 _ _)
   (tuple_addW1 t b vs.toArray ws.toArray n n2 dd dd2 sl sl2 (by simpa using hv) (by simp[hw])) ⟨ho,ho2,h1 hw⟩
 ·refine concat_meets ⟨_,ho,rfl⟩ ⟨_,ho2,rfl⟩ noFill_tuple_add seq_tuple_add PySem.F.slot_tuple_add PySem.F.entry_tuple_add (PySem.F.args_tuple_add_2 _ _)
   (tuple_addW2 t b vs.toArray ws.toArray n n2 dd dd2 sl sl2 (by simpa using hv) (by simpa using hw) (by rw[Gan,Gan];exact hsz)) ⟨ho,ho2, ?_⟩
  rw[e]
  exact h2 hw
noncomputable def sIx(n d:Nat):Option Int→Nat
 |none=>d
 |some v=>if v<0 then(v+(n:Int)).toNat else min v.toNat n
theorem Jh(n d:Nat)(hd:d≤n)(o:Option Int):sIx n d o≤n:=by
 cases o with
 |none=>exact hd
 |some v=>
  show(if v<0 then(v+(n:Int)).toNat else min v.toNat n)≤n
  by_cases hv:v<0
  ·rw[Gag hv];omega
  ·rw[Gae hv];exact Nat.min_le_right _ _
theorem B6(v:Int)(n d:Nat):(if v<0 then max (v+(n:Int)) 0 else min v (n:Int))=((sIx n d (some v):Nat):Int):=by
 show(if v<0 then max (v+(n:Int)) 0 else min v (n:Int))=(((if v<0 then(v+(n:Int)).toNat else min v.toNat n):Nat):Int)
 by_cases hv:v<0
 ·simp only[Gag hv];omega
 ·simp only[Gae hv];omega
theorem Aj(lo hi:Option Int)(n:Nat):Builtin.Slice.sliceAdjust lo hi 1 (n:Int)=(((sIx n 0 lo:Nat):Int),((sIx n n hi:Nat):Int)):=by
 have h1:¬((1:Int)<0):=by omega
 unfold Builtin.Slice.sliceAdjust
 simp only[h1,Gbg]
 refine Prod.ext ?_ ?_
 ·cases lo with
  |none=>rfl
  |some v=>exact B6 v n 0
 ·cases hi with
  |none=>rfl
  |some v=>exact B6 v n n
theorem Ak(i j:Nat):Builtin.Slice.slicePlaces (i:Int) (j:Int) 1=j -i:=by
 unfold Builtin.Slice.slicePlaces
 have h1:(1:Int)>0:=by omega
 simp only[h1,Gbq,Int.ediv_one]
 split<;>omega
theorem qy{v:Value}{o:Option Int}{Q:Option Int→Shared→Prop}(p:IsPart v o)(h:Q o s):wpAny (model prog w) A (Builtin.Slice.slicePartIndex v) Q E s:=by
 cases p with
 |none=>exact slicePart_none h
 |int i t=>exact slicePart_int h
theorem oz{sl:Addr}{vl vu:Value}{lo hi:Option Int}{n:Nat}{Q:Int×Int×Nat→Shared→Prop}(hs:s.heap.IsSliceOf sl vl vu .none)(pl:IsPart vl lo)(pu:IsPart vu hi)
  (h:Q (((sIx n 0 lo:Nat):Int),1,sIx n n hi -sIx n 0 lo) s):wpAny (model prog w) A (Builtin.Slice.sliceApplied (.ref sl) (pure (n:Int))) Q E s:=by
 obtain⟨os,hos,hcs,hds⟩:=id hs
 unfold Builtin.Slice.sliceApplied Builtin.Slice.sliceFields
 refine Gad (Gad (wpAny_field hos hds (x:=vl) rfl (Gad (wpAny_field hos hds (x:=vu) rfl (Gad (wpAny_field hos hds (x:= .none) rfl (Gar ?_)))))))
 refine Gad (slicePart_none ?_)
 show wpAny _ _ (if((1:Int)==0)=true then _ else _) _ _ s
 rw[Gae (by decide)]
 refine Gad (qy pl (Gad (qy pu (Gad (Gar ?_)))))
 show wpAny _ _ (match Builtin.Slice.sliceAdjust lo hi 1 (n:Int) with|(lo,hi)=>pure (lo,(1:Int),Builtin.Slice.slicePlaces lo hi 1)) _ _ s
 rw[Aj lo hi n]
 show wpAny _ _ (pure (((sIx n 0 lo:Nat):Int),(1:Int),Builtin.Slice.slicePlaces ((sIx n 0 lo:Nat):Int) ((sIx n n hi:Nat):Int) 1)) _ _ s
 rw[Ak]
 exact Gar h
theorem DD(xs:Array Value)(i k:Nat):((List.range k).filterMap λ(m:Nat)=>xs[((i:Int)+(m:Int)*1).toNat]?).toArray=((xs.toList.drop i).take k).toArray:=by
 have e:(λ(m:Nat)=>xs[((i:Int)+(m:Int)*1).toNat]?)=λm=>xs[i+m]? :=by
  funext m
  have:((i:Int)+(m:Int)*1).toNat=i+m:=by omega
  rw[this]
 rw[e]
 have:=pick_run xs i k
 rw[List.filterMap_map] at this
 have e2:((λx=>xs[x]?)∘λx=>i+x)=λm=>xs[i+m]? :=rfl
 rw[e2] at this
 rw[this]
theorem nD{t sl:Addr}{items:Array Value}{vl vu:Value}{lo hi:Option Int}{Q:Value→Shared→Prop}(ht:IsTup s.heap t items)(hs:s.heap.IsSliceOf sl vl vu .none)(pl:IsPart vl lo)(pu:IsPart vu hi)
  (hw:¬(sIx items.size 0 lo=0∧sIx items.size items.size hi=items.size))
  (h:Q (.ref s.heap.objs.size) {s with heap:=s.heap.push {cls:= .type "tuple",data:= .seq ((items.toList.drop (sIx items.size 0 lo)).take (sIx items.size items.size hi -sIx items.size 0 lo)).toArray}})
  (hsz:items.size≤sizeLine):wpAny (model prog w) A (getItem (.ref t) (.ref sl)) Q E s:=by
 have htake:sizeOk (.seq ((items.toList.drop (sIx items.size 0 lo)).take (sIx items.size items.size hi -sIx items.size 0 lo)).toArray):=by
  show((items.toList.drop (sIx items.size 0 lo)).take (sIx items.size items.size hi -sIx items.size 0 lo)).toArray.size≤sizeLine
  rw[Gan,Gcj,GbV,GbT]
  omega
 have hj:sIx items.size items.size hi≤items.size:=Jh _ _ (Gap _) hi
 obtain⟨os,hos,hcs,hds⟩:=id hs
 have hTs:s.TypeIs (.ref sl) "slice":=⟨os,hos,hcs⟩
 unfold getItem
 try with_reducible refine GcF ?_
 first|refine Gad (Gar ?_)|skip
 refine Gad (wpAny_sequenceKey ht.typeIs (by decide) ?_)
 refine Gad (Gco (name:=Str.ofString "__getitem__") ht.typeIs Gcm
  (GbW Gcm ht.typeIs entry_tuple_getitem ?_ (args_tuple_getitem _ _)))
 show wpAny _ _ (Builtin.Tuple.tupleItemsOf (.ref t)>>=_) _ _ s
 refine Gad (tupleItemsOf_ ht ?_)
 refine Gad (wpAny_typeOf hTs ?_)
 rw[Gag (by decide)]
 refine Gad (oz hs pl pu ?_)
 have hno:¬((((sIx items.size 0 lo:Nat):Int)==0&&(1:Int)==1&&(sIx items.size items.size hi -sIx items.size 0 lo)==items.size)=true):=by
  intro q
  rw[Gau,Gau] at q
  have q1:((sIx items.size 0 lo:Nat):Int)=0:=eq_of_beq q.1.1
  have q2:sIx items.size items.size hi -sIx items.size 0 lo=items.size:=eq_of_beq q.2
  exact hw ⟨by omega,by omega⟩
 show wpAny _ _ (if(((sIx items.size 0 lo:Nat):Int)==0&&(1:Int)==1&&(sIx items.size items.size hi -sIx items.size 0 lo)==items.size)=true then _ else _) _ _ s
 rw[Gae hno,DD]
 first
  |exact Gad (m:=Builtin.Tuple.tupleExact _) (Gbe (Gar ⟨_,rfl,Gar h⟩) htake)
  |exact Gad (m:=Builtin.Tuple.tupleExact _) (Gbe (Gad (Gar (Gar ⟨_,rfl,Gar h⟩))) htake)
  |exact Gad (Gad (m:=Builtin.Tuple.tupleExact _) (Gbe (Gar (Gar ⟨_,rfl,Gar h⟩)) htake))
  |exact Gad (Gad (m:=Builtin.Tuple.tupleExact _) (Gbe (Gar ⟨_,rfl,Gar h⟩) htake))
end
end HT
namespace L2
open PySem PySem.Spec PyProof.Rows
abbrev TO:=St→Hp→(Option Int→Hp→Prop)→Prop
def PO(X:Cx)(e:Option Expr)(t:TO):Prop:=
 ∀(pins:List (Addr×Obj)) (s:Shared) (σ:St) (H:Hp) (Q:Option Int→Hp→Prop),Inv X pins σ H s→t σ H Q→
  wpAny (model X.prog X.w) X.A (evalPart e X.env) (λu s' =>∃o H',Inv X pins σ H' s' ∧IsPart u o∧Q o H') X.xe s
noncomputable def Gq:TO:=λ_ H Q=>Q none H
noncomputable def Lr(t:TE):TO:=λσ H Q=>t σ H λx H1=>∃i,x= .int i∧Q (some i) H1
section
variable{X:Cx}{e:Expr}{te:TE}{lo hi:Option Expr}{tl th:TO}{pos p2:Pos}
theorem Gr:PO X none Gq:=by
 intro pins s σ H Q I h
 rw[evalPart_none]
 exact Gar ⟨none,H,I,.none,h⟩
theorem Gs(h:PE X e te):PO X (some e) (Lr te):=by
 intro pins s σ H Q I hw
 rw[evalPart_some]
 refine thn (h pins s σ H _ I hw) λu s1 ⟨x,H1,I1,r1,q1⟩=> ?_
 obtain⟨i,rfl,q⟩:=q1
 obtain⟨t,rfl⟩:=r1
 exact⟨some i,H1,I1,.int i t,q⟩
def SlR(X:Cx)(r:V→Option Int→Option Int→Hp→VK→Prop):Prop:=
 ∀(pins:List (Addr×Obj)) (s:Shared) (σ:St) (H:Hp) (x:V) (v vl vu:Value) (lo hi:Option Int) (sl:Addr) (Q:VK),Inv X pins σ H s→RelV x v→s.heap.IsSliceOf sl vl vu .none→IsPart vl lo→IsPart vu hi→r x lo hi H Q→
  ∃T id,typeLookup (.type T) "__getitem__"=pure (some (.builtin id))∧s.TypeIs v T∧wpAny (model X.prog X.w) X.A (getItem v (.ref sl)) (EP X pins σ Q) X.xe s
theorem SlR.or{r r' :V→Option Int→Option Int→Hp→VK→Prop}(h:SlR X r)(h' :SlR X r'):SlR X (λx lo hi H Q=>r x lo hi H Q∨r' x lo hi H Q):=by
 intro pins s σ H x v vl vu lo hi sl Q I rx hs pl pu q
 rcases q with q|q
 ·exact h pins s σ H x v vl vu lo hi sl Q I rx hs pl pu q
 ·exact h' pins s σ H x v vl vu lo hi sl Q I rx hs pl pu q
noncomputable def tSl(r:V→Option Int→Option Int→Hp→VK→Prop)(te:TE)(tl th:TO):TE:=λσ H Q=>te σ H λx H1=>tl σ H1 λl H2=>th σ H2 λu H3=>r x l u H3 Q
theorem DF{r:V→Option Int→Option Int→Hp→VK→Prop}(hr:SlR X r)(he:PE X e te)(hl:PO X lo tl)(hu:PO X hi th):PE X (.Subscript e (.Slice lo hi none p2) pos) (tSl r te tl th):=by
 intro pins s σ H Q I h
 refine Subscript_ (thn (he pins s σ H _ I h) λv s1 ⟨x,H1,I1,r1,q1⟩=> ?_)
 refine wpAny_Slice (thn (hl pins s1 σ H1 _ I1 q1) λvl s2 ⟨l,H2,I2,pl,q2⟩=>thn (hu pins s2 σ H2 _ I2 q2) λvu s3 ⟨u,H3,I3,pu,q3⟩=> ?_)
 rw[evalPart_none]
 refine Gar ?_
 have I4:Inv X pins σ H3 {s3 with heap:=s3.heap.push {cls:= .type "slice",data:= .fields #[vl,vu,.none]}}:=I3.kept (t' :=s3.toks) λb ob q=>Gaj _ q
 obtain⟨T,id,hT,ht,hg⟩:=hr pins {s3 with heap:=s3.heap.push {cls:= .type "slice",data:= .fields #[vl,vu,.none]}} σ H3 x v vl vu l u s3.heap.objs.size Q I4 r1 (Heap.IsSliceOf.new ..) pl pu q3
 show wpAny (model X.prog X.w) X.A (subscriptTail e (.Slice lo hi none p2) v (.ref s3.heap.objs.size)) (EP X pins σ Q) X.xe {s3 with heap:=s3.heap.push {cls:= .type "slice",data:= .fields #[vl,vu,.none]}}
 exact tail_any (ops:=[.ref s3.heap.objs.size,v]) ht hT hg (by with_unfolding_all rfl)
noncomputable def vh(xs:List V)(lo hi:Option Int):List V:=(xs.drop (HT.sIx xs.length 0 lo)).take (HT.sIx xs.length xs.length hi -HT.sIx xs.length 0 lo)
theorem pf(xs:List V)(lo hi:Option Int):(vh xs lo hi).length≤xs.length:=by
 unfold vh
 rw[Gcj,GbV]
 omega
def NH(K:PySem.W.Frag):V→Option Int→Option Int→Hp→VK→Prop:=λx lo hi H Q=>∃a xs,x= .ref a∧SqT K H a xs∧
 ¬(HT.sIx xs.length 0 lo=0∧HT.sIx xs.length xs.length hi=xs.length)∧∀p,H p=none→Q (.ref p) (upd H p (.tup (vh xs lo hi)))
theorem Ji:SlR X (NH X.K):=by
 intro pins s σ H x v vl vu lo hi sl Q I rx hs pl pu h
 obtain⟨a,xs,rfl,hx,hw,q⟩:=h
 cases rx
 obtain⟨its,r,ht,hz⟩:=I.tuple hx
 have hlen:its.toArray.size=xs.length:=by rw[Gan];exact r.length.symm
 refine⟨"tuple",_,Gcm.lookup,ht.typeIs, ?_⟩
 refine HT.nD ht hs pl pu (by rw[hlen];exact hw) ?_ (by rw[hlen];exact hz)
 rw[hlen]
 refine⟨.ref s.heap.objs.size,_,I.laid (t' :=s.toks) (o:= .tup (vh xs lo hi)) (λb ob q=>Gaj _ q) (Gap _) ?_,rfl,q _ (I.hok.fresh (Gap _))⟩
 exact⟨Gbt (pf xs lo hi) hz,_,(r.drop (HT.sIx xs.length 0 lo)).take (HT.sIx xs.length xs.length hi -HT.sIx xs.length 0 lo),IsTup.new _ _⟩
noncomputable def Iq(K:PySem.W.Frag):R2:=λx y H Q=>∃a b xs ys,x= .ref a∧y= .ref b∧SqT K H a xs∧SqT K H b ys∧xs≠[]∧xs.length+ys.length≤sizeLine∧
 (ys=[]→Q (.ref a) H)∧(ys≠[]→∀p,H p=none→Q (.ref p) (upd H p (.tup (xs++ys))))
theorem Vals.cV{xs:List V}{us:List Value}(r:Vals xs us):us=[]↔xs=[]:=by
 cases r with
 |nil=>simp
 |cons _ _=>simp
theorem Gu:OpR X (binaryOp .Add) (Iq X.K):=by
 intro pins s σ H x y v u Q I rx ry h
 obtain⟨a,b,xs,ys,rfl,rfl,ha,hb,hx,hz,q1,q2⟩:=h
 cases rx
 cases ry
 obtain⟨its,r1,p1,_⟩:=I.tuple ha
 obtain⟨its2,r2,p2,_⟩:=I.tuple hb
 refine HT.Gp p1 p2 (λz=>hx (r1.cV.mp z)) (λz=> ⟨.ref a,H,I,rfl,q1 (r2.cV.mp z)⟩) (λz=> ?_) (by rw[←r1.length,←r2.length];exact hz)
 refine⟨.ref s.heap.objs.size,_,I.laid (t' :=s.toks) (o:= .tup (xs++ys)) (λb ob q=>Gaj _ q) (Gap _) ?_,rfl,q2 (λw=>z (r2.cV.mpr w)) _ (I.hok.fresh (Gap _))⟩
 exact⟨by rw[Gav];exact hz,_,r1.append r2,IsTup.new _ _⟩
end
noncomputable def ixN(n:Nat)(i:Int):Option Nat:=if 0≤i then(if i<n then some i.toNat else none) else if -(n:Int)≤i then some (i+n).toNat else none
noncomputable def atI{α:Type}(xs:List α)(i:Int):Option α:=(ixN xs.length i).bind λj=>xs[j]?
theorem B7{n:Nat}{i:Int}{j:Nat}(h:ixN n i=some j):seqIndex? i n=some j∧j<n∧-(n:Int)≤i∧i<n:=by
 unfold ixN at h
 by_cases h0:0≤i
 ·rw[Gag h0] at h
  by_cases h1:i<n
  ·rw[Gag h1] at h
   have e:i.toNat=j:=Option.some.inj h
   exact⟨by rw[seqIndex_of h0 h1,e],by omega,by omega,h1⟩
  ·rw[Gae h1] at h;cases h
 ·rw[Gae h0] at h
  by_cases h1: -(n:Int)≤i
  ·rw[Gag h1] at h
   have e:(i+n).toNat=j:=Option.some.inj h
   exact⟨by rw[seqIndex_neg (by omega) h1,e],by omega,h1,by omega⟩
  ·rw[Gae h1] at h;cases h
theorem ue{α:Type}{xs:List α}{i:Int}{v:α}(h:atI xs i=some v):∃j,seqIndex? i xs.length=some j∧xs[j]? =some v∧j<xs.length∧-(xs.length:Int)≤i∧i<xs.length:=by
 unfold atI at h
 cases e:ixN xs.length i with
 |none=>rw[e] at h;cases h
 |some j=>
  rw[e] at h
  obtain⟨h1,h2,h3,h4⟩:=B7 e
  exact⟨j,h1,h,h2,h3,h4⟩
def B8(b:Expr):Prop:=∀o i,subscripted b false o i=operate [o,i] (getItem o i)
def IxR(X:Cx)(r:R2):Prop:=
 ∀(value slice:Expr) (pins:List (Addr×Obj)) (s:Shared) (σ:St) (H:Hp) (x y:V) (v u:Value) (Q:VK),Inv X pins σ H s→RelV x v→RelV y u→r x y H Q→
  subscripted slice false v u=operate [v,u] (getItem v u)→wpAny (model X.prog X.w) X.A (subscriptTail value slice v u) (EP X pins σ Q) X.xe s
def MtR(X:Cx)(id:String)(r:V→List V→Hp→VK→Prop):Prop:=
 ∀(pins:List (Addr×Obj)) (s:Shared) (σ:St) (H:Hp) (x:V) (xs:List V) (v:Value) (us:List Value) (Q:VK),Inv X pins σ H s→RelV x v→Vals xs us→r x xs H Q→
  wpAny (model X.prog X.w) X.A (call (.builtin id) (v::us)) (EP X pins σ Q) X.xe s
section
variable{X:Cx}{a b:Expr}{ta tb:TE}{pos:Pos}
theorem IxR.or{r r' :R2}(h:IxR X r)(h' :IxR X r'):IxR X (λx y H Q=>r x y H Q∨r' x y H Q):=by
 intro value slice pins s σ H x y v u Q I rx ry q hs
 rcases q with q|q
 ·exact h value slice pins s σ H x y v u Q I rx ry q hs
 ·exact h' value slice pins s σ H x y v u Q I rx ry q hs
theorem MtR.or{id:String}{r r' :V→List V→Hp→VK→Prop}(h:MtR X id r)(h' :MtR X id r'):MtR X id (λx xs H Q=>r x xs H Q∨r' x xs H Q):=by
 intro pins s σ H x xs v us Q I rx rs q
 rcases q with q|q
 ·exact h pins s σ H x xs v us Q I rx rs q
 ·exact h' pins s σ H x xs v us Q I rx rs q
theorem Ls{r:R2}(hr:IxR X r)(ha:PE X a ta)(hb:PE X b tb)(hs:B8 b):PE X (.Subscript a b pos) (tOp r ta tb):=by
 intro pins s σ H Q I h
 exact Subscript_ (J6 ha hb I h λv u s2 x y H2 I2 rx ry q=>hr a b pins s2 σ H2 x y v u Q I2 rx ry q (hs _ _))
noncomputable def Lu(K:PySem.W.Frag):R2:=λx y H Q=>∃p xs i v,x= .ref p∧y= .int i∧SqL K H p xs∧atI xs i=some v∧Q v H
noncomputable def Lv(K:PySem.W.Frag):R2:=λx y H Q=>∃p xs i v,x= .ref p∧y= .int i∧SqT K H p xs∧atI xs i=some v∧Q v H
noncomputable def Lw:R2:=λx y H Q=>∃z i c,x= .str z∧y= .int i∧z.length≤sizeLine∧atI z.cps.toList i=some c∧Q (.str ⟨#[c]⟩) H
theorem Gv:IxR X (Lu X.K):=by
 intro value slice pins s σ H x y v u Q I rx ry h hs
 obtain⟨p,xs,i,z,rfl,rfl,hq,he,q⟩:=h
 cases rx
 obtain⟨t,rfl⟩:=ry
 obtain⟨its,r,pl,hz⟩:=I.list hq
 obtain⟨j,h1,h2,h3,h4,h5⟩:=ue he
 obtain⟨w,ew,rw'⟩:=r.get h2
 have hl:=r.length
 have hn:=qx
 have fin:EP X pins σ Q w s:=⟨z,H,I,rw',q⟩
 by_cases h0:0≤i
 ·have hj:i.toNat=j:=by
   rw[seqIndex_of h0 h5] at h1
   exact Option.some.inj h1
  exact item_listR pl.isList h0 (by omega) (by rw[hj];simpa using ew) fin hs
 ·have hj:(i+(its.toArray.size:Int)).toNat=j:=by
   rw[seqIndex_neg (by omega) h4] at h1
   rw[Gan,←hl]
   exact Option.some.inj h1
  exact subscriptTail_builtinR (x:=w) pl.isList.typeIs slot_list_getitem.lookup
   (wpAny_getItem_list_neg (Q:=λr s' =>r=w∧EP X pins σ Q r s') pl.isList (by omega) (by rw[Gan]<;>omega) (by omega) (by rw[hj];simpa using ew) ⟨rfl,fin⟩) hs
theorem Jj:IxR X (Lv X.K):=by
 intro value slice pins s σ H x y v u Q I rx ry h hs
 obtain⟨p,xs,i,z,rfl,rfl,hq,he,q⟩:=h
 cases rx
 obtain⟨t,rfl⟩:=ry
 obtain⟨its,r,pl,hz⟩:=I.tuple hq
 obtain⟨j,h1,h2,h3,h4,h5⟩:=ue he
 obtain⟨w,ew,rw'⟩:=r.get h2
 have hl:=r.length
 have hn:=qx
 have fin:EP X pins σ Q w s:=⟨z,H,I,rw',q⟩
 exact subscriptTail_builtinR (x:=w) pl.typeIs slot_tuple_getitem.lookup
  (getItem_tuple (j:=j) (Q:=λr s' =>r=w∧EP X pins σ Q r s') pl (by omega) (by omega) (by rw[Gan,←hl];exact h1) (by simpa using ew) ⟨rfl,fin⟩) hs
theorem Jk:IxR X Lw:=by
 intro value slice pins s σ H x y v u Q I rx ry h hs
 obtain⟨z,i,c,rfl,rfl,hz,he,q⟩:=h
 obtain⟨t,rfl⟩:=rx
 obtain⟨t',rfl⟩:=ry
 obtain⟨j,h1,h2,h3,h4,h5⟩:=ue he
 have hl:z.cps.toList.length=z.length:=by simp[Str.length]
 rw[hl] at h1 h4 h5
 have hn:=qx
 exact tail_any (typeIs_str s z t) slot_str_getitem.lookup (getItem_str (c:=c) (by
  have e1:decide (i< -(2^63:Int))=false:=GaH (by omega)
  have e2:decide (i≥2^63)=false:=GaH (by omega)
  rw[e1,e2,Bool.or_false]) (by rw[h1];simpa using h2) ⟨.str ⟨#[c]⟩,H,I.tok _,⟨_,rfl⟩,q⟩) hs
noncomputable def rIx(K:PySem.W.Frag):R2:=λx y H Q=>Lu K x y H Q∨Lv K x y H Q∨Lw x y H Q
theorem Jl:IxR X (rIx X.K):=Gv.or (Jj.or Jk)
theorem Al(its:List Value)(n j:Nat)(u:Value):Obj.mapSeq (·.setIfInBounds j u) {cls:= .type "list",data:= .seq its.toArray n}={cls:= .type "list",data:= .seq (its.set j u).toArray n}:=by
 simp[Obj.mapSeq]
theorem Inv.lst{pins:List (Addr×Obj)}{σ:St}{H:Hp}{s:Shared}{p:Addr}{xs:List V}(I:Inv X pins σ H s)(h:H p=some (.lst xs)):
  ∃(its:List Value) (n:Nat),Vals xs its∧s.heap.get? p=some {cls:= .type "list",data:= .seq its.toArray n}∧xs.length≤sizeLine:=by
 obtain⟨z,its,n,r,e⟩:=I.hok p _ h
 exact⟨its,n,r,e,z⟩
theorem Inv.Jm{pins:List (Addr×Obj)}{σ:St}{H:Hp}{s:Shared}{p:Addr}{xs ys:List V}{its its' :List Value}{n n' :Nat}{f:Obj→Obj}(I:Inv X pins σ H s)(h:H p=some (.lst xs))
  (ho:s.heap.get? p=some {cls:= .type "list",data:= .seq its.toArray n})(hf:f {cls:= .type "list",data:= .seq its.toArray n}={cls:= .type "list",data:= .seq its'.toArray n' })(r:Vals ys its')(hz:ys.length≤sizeLine)(t:Nat):
  Inv X pins σ (upd H p (.lst ys)) {s with heap:=s.heap.update p f,toks:=t}:=by
 have e:(s.heap.update p f).get? p=some {cls:= .type "list",data:= .seq its'.toArray n' }:=by
  rw[GbP f ho (by rw[hf]<;>rfl),hf]
 refine I.write (x:=p) (e:=p) (by rw[h];trivial) (.inl rfl) (λb u hb q=>(GbH _ _ (GaZ hb)).trans q) ⟨_,e⟩ ?_
 exact⟨hz,its',n',r,e⟩
def Ir:V→V→V→Hp→(Hp→Prop)→Prop:=λo i v H Q=>∃p xs k j,o= .ref p∧i= .int k∧H p=some (.lst xs)∧ixN xs.length k=some j∧Q (upd H p (.lst (xs.set j v)))
theorem set_list:Ld X Ir:=by
 intro pins s σ H o i v ov iv u Q I ro ri rv h
 obtain⟨p,xs,k,j,rfl,rfl,hp,hj,q⟩:=h
 cases ro
 obtain⟨t,rfl⟩:=ri
 obtain⟨its,n,r,ho,hz⟩:=I.lst hp
 obtain⟨h1,h2,h3,h4⟩:=B7 hj
 have hl:=r.length
 have hn:=qx
 have I' :Inv X pins σ (upd H p (.lst (xs.set j v))) {s with heap:=s.heap.update p (Obj.mapSeq (·.setIfInBounds j u))}:=
  I.Jm hp ho (Al its n j u) (r.set rv j) (by rw[GcH];exact hz) s.toks
 by_cases h0:0≤k
 ·have hk:k.toNat=j:=by
   rw[seqIndex_of h0 h4] at h1
   exact Option.some.inj h1
  exact PySem.W.ki_setAt ho h0 (by omega) (by rw[Gan,←hl];exact h4) (by rw[hk];exact⟨_,I',q⟩)
 ·have hk:(k+(its.toArray.size:Int)).toNat=j:=by
   rw[seqIndex_neg (by omega) h3] at h1
   rw[Gan,←hl]
   exact Option.some.inj h1
  exact PySem.W.ki_setBack ho (by omega) (by rw[Gan,←hl];exact h3) (by omega) (by rw[hk];exact⟨_,I',q⟩)
theorem uf(lo hi:Option Int)(n:Nat):(sliceBounds lo hi none n).1=((HT.sIx n 0 lo:Nat):Int)∧(sliceBounds lo hi none n).2.1=((HT.sIx n n hi:Nat):Int)∧(sliceBounds lo hi none n).2.2=1:=by
 refine⟨?_, ?_,rfl⟩
 ·cases lo with
  |none=>simp[sliceBounds,HT.sIx]
  |some i=>
   simp only[sliceBounds,HT.sIx,Option.getD_none,show(1:Int)>0 by decide,Gbq]
   by_cases h:i<0
   ·simp only[h,Gbq]<;>omega
   ·simp only[h,Gbg]<;>omega
 ·cases hi with
  |none=>simp[sliceBounds,HT.sIx]
  |some i=>
   simp only[sliceBounds,HT.sIx,Option.getD_none,show(1:Int)>0 by decide,Gbq]
   by_cases h:i<0
   ·simp only[h,Gbq]<;>omega
   ·simp only[h,Gbg]<;>omega
theorem rY(its:List Value)(lo hi:Option Int):slicePick its.toArray lo hi none=((its.drop (HT.sIx its.length 0 lo)).take (HT.sIx its.length its.length hi -HT.sIx its.length 0 lo)).toArray:=by
 obtain⟨h1,h2,h3⟩:=uf lo hi its.toArray.size
 unfold slicePick
 rw[h1,h2,h3]
 simp only[sliceRange_one,pick_run,Gan]<;>rfl
def NI(K:PySem.W.Frag):V→Option Int→Option Int→Hp→VK→Prop:=λx lo hi H Q=>∃a xs,x= .ref a∧SqL K H a xs∧∀p,H p=none→Q (.ref p) (upd H p (.lst (vh xs lo hi)))
theorem Gw:SlR X (NI X.K):=by
 intro pins s σ H x v vl vu lo hi sl Q I rx hs pl pu h
 obtain⟨a,xs,rfl,hx,q⟩:=h
 cases rx
 obtain⟨its,r,ht,hz⟩:=I.list hx
 have hlen:=r.length
 refine⟨"list",_,slot_list_getitem.lookup,ht.isList.typeIs, ?_⟩
 refine wpAny_getItem_list_slice ht.isList hs pl pu .none (by simp) ?_ (by rw[Gan]<;>omega)
 rw[rY,←hlen]
 refine⟨.ref s.heap.objs.size,_,I.laid (t' :=s.toks) (o:= .lst (vh xs lo hi)) (λb ob q=>Gaj _ q) (Gap _) ?_,rfl,q _ (I.hok.fresh (Gap _))⟩
 exact⟨Gbt (pf xs lo hi) hz,_,0,(r.drop (HT.sIx xs.length 0 lo)).take (HT.sIx xs.length xs.length hi -HT.sIx xs.length 0 lo),GaC _ rfl⟩
noncomputable def sP:V→Bool
 | .non=>true
 | .bl _=>true
 | .int _=>true
 | .str _=>true
 |_=>false
noncomputable def eqV:V→V→Bool
 | .non,.non=>true
 | .bl a,.bl b=>a==b
 | .bl a,.int b=>(if a then 1 else 0)==b
 | .int a,.bl b=>a==(if b then 1 else 0)
 | .int a,.int b=>a==b
 | .str a,.str b=>a==b
 |_,_=>false
theorem Jn{A:Around}{s:Shared}{y x:V}{u v:Value}(ry:RelV y u)(rx:RelV x v)(fy:sP y=true)(fx:sP x=true):SeqAt.EqAt A s u v (eqV y x):=by
 cases y with
 |non=>
  cases ry
  cases x with
  |non=>cases rx;exact SeqAt.EqAt.same _
  |bl b=>cases rx;exact SeqAt.EqAt.none_bool b
  |int b=>obtain⟨t,rfl⟩:=rx;exact SeqAt.EqAt.none_int b t
  |str b=>obtain⟨t,rfl⟩:=rx;exact SeqAt.EqAt.none_str b t
  |_=>exact absurd (show false=true from fx) GaA
 |bl a=>
  cases ry
  cases x with
  |non=>cases rx;exact SeqAt.EqAt.bool_none a
  |bl b=>cases rx;exact SeqAt.EqAt.bool_bool a b
  |int b=>obtain⟨t,rfl⟩:=rx;exact SeqAt.EqAt.bool_int a b t
  |str b=>obtain⟨t,rfl⟩:=rx;exact SeqAt.EqAt.bool_str a b t
  |_=>exact absurd (show false=true from fx) GaA
 |int a=>
  obtain⟨t',rfl⟩:=ry
  cases x with
  |non=>cases rx;exact SeqAt.EqAt.int_none a t'
  |bl b=>cases rx;exact SeqAt.EqAt.int_bool a t' b
  |int b=>obtain⟨t,rfl⟩:=rx;exact SeqAt.EqAt.int_int a t' b t
  |str b=>obtain⟨t,rfl⟩:=rx;exact SeqAt.EqAt.int_str a t' b t
  |_=>exact absurd (show false=true from fx) GaA
 |str a=>
  obtain⟨t',rfl⟩:=ry
  cases x with
  |non=>cases rx;exact SeqAt.EqAt.str_none a t'
  |bl b=>cases rx;exact SeqAt.EqAt.str_bool a t' b
  |int b=>obtain⟨t,rfl⟩:=rx;exact SeqAt.EqAt.str_int a t' b t
  |str b=>obtain⟨t,rfl⟩:=rx;exact SeqAt.EqAt.str_str a t' b t
  |_=>exact absurd (show false=true from fx) GaA
 |_=>exact absurd (show false=true from fy) GaA
theorem i4.or{f:Value}{r r' :List V→Hp→VK→Prop}(h:i4 X f r)(h' :i4 X f r'):i4 X f (λxs H Q=>r xs H Q∨r' xs H Q):=by
 intro pins s σ H xs us Q I rs q
 rcases q with q|q
 ·exact h pins s σ H xs us Q I rs q
 ·exact h' pins s σ H xs us Q I rs q
theorem cQ:i4 X (.type "tuple") (λxs H Q=>∃p ys,xs=[.ref p]∧((SqL X.K H p ys∧∀l,H l=none→Q (.ref l) (upd H l (.tup ys)))∨(SqT X.K H p ys∧Q (.ref p) H))):=by
 intro pins s σ H xs us Q I r h
 obtain⟨p,ys,rfl,h⟩:=h
 obtain⟨u,rfl,rx⟩:=vals1 r
 cases rx
 rcases h with⟨hq,q⟩| ⟨hq,q⟩
 ·obtain⟨its,r',pl,hz⟩:=I.list hq
  have hlen:=r'.length
  refine call_tuple_list pl.isList (λh' kp=> ?_) (by simp only[Gan]<;>omega)
  have I1:Inv X pins σ H {s with heap:=h' }:=I.kept (t' :=s.toks) kp
  have I2:Inv X pins σ (upd H h'.objs.size (.tup ys)) {s with heap:=h'.push {cls:= .type "tuple",data:= .seq its.toArray}}:=
   I1.laid (t' :=s.toks) (λb o e=>Gaj _ e) (Gap _) (show cx X.prog X.w _ _ _ (.tup ys) from⟨hz,its,r',IsTup.new _ _⟩)
  exact⟨.ref h'.objs.size,_,I2,rfl,q _ (I1.hok.fresh (Gap _))⟩
 ·obtain⟨its,r',pl,hz⟩:=I.tuple hq
  exact call_tuple_same pl ⟨.ref p,H,I,rfl,q⟩
def tyV(K:PySem.W.Frag)(T:String)(x:V)(H:Hp):Prop:=match x with
 | .str _=>T="str"
 | .int _=>T="int"
 | .ref p=>(T="list"∧∃xs,SqL K H p xs)∨(T="tuple"∧∃o,K.lookup p=some o∧o.cls= .type "tuple"∧o.dict=none)∨
   (T="dict"∧((∃kvs,H p=some (.dK kvs))∨∃kvs,H p=some (.dT kvs)))∨(T="set"∧∃S n,H p=some (.set S n))
 |_=>False
theorem Jo{pins:List (Addr×Obj)}{σ:St}{H:Hp}{s:Shared}{T:String}{x:V}{v:Value}(I:Inv X pins σ H s)(r:RelV x v)(ty:tyV X.K T x H):
  s.TypeIs v T∧∀a,v= .ref a→∃ob,s.heap.get? a=some ob∧ob.dict=none:=by
 cases x with
 |str z=>
  obtain⟨t,rfl⟩:=r
  cases(show T="str" from ty)
  exact⟨typeIs_str s z t,λ_ e=>nomatch e⟩
 |int i=>
  obtain⟨t,rfl⟩:=r
  cases(show T="int" from ty)
  exact⟨typeIs_int s i t,λ_ e=>nomatch e⟩
 |ref p=>
  cases r
  rcases ty with⟨rfl,xs,hq⟩| ⟨rfl,o,hk,hc,hd⟩| ⟨rfl,hk⟩| ⟨rfl,S,n,hk⟩
  ·obtain⟨its,_,pl,_⟩:=I.list hq
   refine⟨pl.isList.typeIs,λa e=> ?_⟩
   cases e
   obtain⟨o,n,e,c,hd,_⟩:=pl
   exact⟨o,e,hd⟩
  ·refine⟨⟨o,I.kIn p o hk,hc⟩,λa e=> ?_⟩
   cases e
   exact⟨o,I.kIn _ o hk,hd⟩
  ·have z:∃o,s.heap.get? p=some o∧o.ExactDict:=by
    rcases hk with⟨kvs,hk⟩| ⟨kvs,hk⟩
    ·obtain⟨_,_,_,_,o,_,_,e,ex,_⟩:=I.hok p _ hk
     exact⟨o,e,ex⟩
    ·obtain⟨_,_,_,_,o,_,_,e,ex,_⟩:=I.hok p _ hk
     exact⟨o,e,ex⟩
   obtain⟨o,e,ex⟩:=z
   refine⟨⟨o,e,ex.1⟩,λa e2=> ?_⟩
   cases e2
   exact⟨o,e,ex.2.1⟩
  ·obtain⟨o,_,_,_,e,ex,_⟩:=I.hok p _ hk
   refine⟨⟨o,e,ex.1⟩,λa e2=> ?_⟩
   cases e2
   exact⟨o,e,ex.2.1⟩
 |_=>exact False.elim ty
noncomputable def tBM(K:PySem.W.Frag)(T:String)(r:V→List V→Hp→VK→Prop)(to:TE)(t:TA):TE:=λσ H Q=>to σ H λx H1=>tyV K T x H1∧t σ H1 λxs H2=>r x xs H2 Q
variable{o e:Expr}{es:List Expr}{to:TE}{t:TA}{name:Str}{apos cpos:Pos}{T id:String}{r:V→List V→Hp→VK→Prop}
theorem B9(pa:PlainAttrs T)(slot:Slot T name id)(hty:typeOf (.builtin id)=pure (.type "method_descriptor"))(hm:MtR X id r)(ho:PE X o to)(ha:PA X (e::es) t)
  (hbase:attributeBase o name X.env (eval o X.env)=eval o X.env:=by rfl)
  (hfew:((backTo cpos (starEach (e::es) X.env)).all (λx=> !x.1)&&(backToKw cpos (keywordEach [] X.env)).all (λx=>x.1.isSome)
   &&decide ((e::es).length+([]:List Keyword).length+(if([]:List Keyword).isEmpty then 0 else 1)<30))=true:=by rfl)
  (hline:(apos.endLine==cpos.line)=true:=by rfl)(hs:starEach (e::es) X.env=(false,eval e X.env)::starEach es X.env:=by rfl)(hplain:(backTo cpos (starEach es X.env)).any (·.1)=false:=by rfl):
  PE X (.Call (.Attribute o name apos) (e::es) [] cpos) (tBM X.K T r to t):=by
 intro pins s σ H Q I h
 refine wpAny_Call_method_late hbase hfew hline rfl (thn (ho pins s σ H _ I h) λv s1 ⟨x,H1,I1,r1,ty,q1⟩=> ?_)
 obtain⟨h1,h2⟩:=Jo I1 r1 ty
 refine⟨T,id,pa,slot,hty,h1,h2, ?_⟩
 have hA:=ha cpos pins s1 σ H1 _ I1 q1
 rw[hs] at hA⊢
 refine Gcx (by show(false||(backTo cpos (starEach es X.env)).any (·.1))=false;rw[hplain]<;>rfl) (Gdm ?_)
 exact thn hA λus s2 ⟨vs,H2,I2,r2,q2⟩=>hm pins s2 σ H2 x vs v us Q I2 r1 r2 q2
end
def MtM(X:Cx)(id:String)(r:V→List V→Hp→VK→Prop):Prop:=
 ∀(pins:List (Addr×Obj)) (s:Shared) (σ:St) (H:Hp) (x:V) (xs:List V) (v:Value) (us:List Value) (Q:VK),Inv X pins σ H s→RelV x v→Vals xs us→r x xs H Q→
  wpAny (model X.prog X.w) X.A (call (.builtin id) (v::us)) (EP X pins σ Q) X.xe s
theorem Vals.one:∀{x:V} {us:List Value},Vals [x] us→∃u,us=[u]∧RelV x u
 |_,_,.cons r .nil=> ⟨_,rfl,r⟩
theorem Vals.zero:∀{us:List Value},Vals [] us→us=[]
 |_,.nil=>rfl
theorem Vals.reverse{xs:List V}{us:List Value}(h:Vals xs us):Vals xs.reverse us.reverse:=by
 induction h with
 |nil=>exact .nil
 |cons r t ih=>rw[List.reverse_cons,List.reverse_cons];exact Vals.append ih (.cons r .nil)
theorem Vals.rep{xs:List V}{us:List Value}(h:Vals xs us):∀k:Nat,Vals (List.replicate k xs).flatten (List.replicate k us).flatten
 |0=> .nil
 |k+1=>by
  rw[List.replicate_succ,List.replicate_succ,List.flatten_cons,List.flatten_cons]
  exact Vals.append h (Vals.rep h k)
section
variable{X:Cx}{pins:List (Addr×Obj)}{σ:St}{H:Hp}{s:Shared}{l b:Addr}{xs ys zs:List V}
theorem Inv.Jp{its its' :List Value}{n:Nat}{f:Array Value→Array Value}{t' :Nat}(I:Inv X pins σ H s)(hH:H l=some (.lst xs))
  (e:s.heap.get? l=some {cls:= .type "list",data:= .seq its.toArray n})(hf:f its.toArray=its'.toArray)(hv:Vals ys its')(hz:ys.length≤sizeLine):
  Inv X pins σ (upd H l (.lst ys)) {s with heap:=s.heap.update l (Obj.mapSeq f),toks:=t' }:=by
 have q:=PySem.IsL.update e f
 rw[hf] at q
 refine I.write (x:=l) (e:=l) (by rw[hH];exact trivial) (.inl rfl) (λb' u hb hu=>(GbH s.heap (Obj.mapSeq f) (GaZ hb)).trans hu) ⟨_,q⟩ ?_
 exact⟨hz,its',_,hv,q⟩
theorem Inv.NJ{its:List Value}{t' :Nat}(I:Inv X pins σ H s)(hv:Vals ys its)(hz:ys.length≤sizeLine):
  Inv X pins σ (upd H s.heap.objs.size (.lst ys)) {s with heap:=s.heap.push {cls:= .type "list",data:= .seq its.toArray},toks:=t' }:=
 I.laid (λ_ _ q=>Gaj _ q) (Gap _) ⟨hz,its,0,hv,GaC _ rfl⟩
theorem Inv.fresh(I:Inv X pins σ H s):H s.heap.objs.size=none:=I.hok.fresh (Gap _)
theorem Inv.Gx(I:Inv X pins σ H s)(hH:H l=some (.lst xs)):xs.length≤sizeLine∧∃(its:List Value) (n:Nat),Vals xs its∧xs.length=its.length∧s.heap.get? l=some {cls:= .type "list",data:= .seq its.toArray n}:=by
 obtain⟨z,its,n,r,e⟩:=I.hok l _ hH
 exact⟨z,its,n,r,r.length,e⟩
theorem DH{n:Nat}(h:n≤sizeLine):Builtin.List.listTooLong n=false:=by
 unfold Builtin.List.listTooLong
 exact GaH (by omega)
end
section
variable{X:Cx}
def Ba:V→List V→Hp→VK→Prop:=λx vs H Q=>∃l xs y,x= .ref l∧vs=[y]∧H l=some (.lst xs)∧xs.length<sizeLine∧Q .non (upd H l (.lst (xs++[y])))
theorem oA:MtM X "list.append" Ba:=by
 intro pins s σ H x vs v us Q I rx rv h
 obtain⟨l,xs,y,rfl,rfl,hH,hz,q⟩:=h
 cases rx
 obtain⟨u,rfl,ru⟩:=rv.one
 obtain⟨z,its,n,r,hl,e⟩:=I.Gx hH
 refine call_meets F.slot_list_append ⟨_,e,rfl⟩ F.entry_list_append (F.args_list_append_2 _ _) (PySem.list_append l its.toArray n u (by rw[Gan];omega)) ⟨e, ?_⟩
 refine⟨.non,_,I.Jp (its' :=its++[u]) hH e (by simp) (r.append (.cons ru .nil)) ?_,rfl,q⟩
 rw[Gav,List.length_singleton]
 omega
def Gy:V→List V→Hp→VK→Prop:=λx vs H Q=>∃l b xs zs,x= .ref l∧vs=[.ref b]∧H l=some (.lst xs)∧H b=some (.lst zs)∧xs.length+zs.length≤sizeLine∧Q .non (upd H l (.lst (xs++zs)))
theorem Cf:MtM X "list.extend" Gy:=by
 intro pins s σ H x vs v us Q I rx rv h
 obtain⟨l,b,xs,zs,rfl,rfl,hH,hB,hz,q⟩:=h
 cases rx
 obtain⟨u,rfl,ru⟩:=rv.one
 cases ru
 obtain⟨z,its,n,r,hl,e⟩:=I.Gx hH
 obtain⟨z2,its2,n2,r2,hl2,e2⟩:=I.Gx hB
 have hsz:its.toArray.size+its2.toArray.size≤sizeLine:=by rw[Gan,Gan];omega
 have hlong:¬(!its.toArray.isEmpty&&Builtin.List.listTooLong (its.toArray.size+its2.toArray.size))=true:=by
  rw[DH hsz,Gds]
  exact GaA
 refine call_meets F.slot_list_extend ⟨_,e,rfl⟩ F.entry_list_extend (F.args_list_extend_2 _ _)
  (AutoSeq1.list_extend_list_list_0 l its.toArray n b its2.toArray n2 hlong (by rw[Gan];omega) (by omega)) ⟨e,e2, ?_⟩
 refine⟨.non,_,I.Jp (its' :=its++its2) hH e (by simp) (r.append r2) ?_,rfl,q⟩
 rw[Gav]
 omega
end
section
variable{κ:Type} [DecidableEq κ]
noncomputable def gK(kvs:List (κ×V))(k:κ):Option V:=(kvs.find? λkv=>decide (kv.1=k)).map (·.2)
noncomputable def putK(kvs:List (κ×V))(k:κ)(v:V):List (κ×V):=
 if(kvs.any λkv=>decide (kv.1=k))=true then kvs.map (λkv=>if kv.1=k then(kv.1,v) else kv) else kvs++[(k,v)]
noncomputable def Iu(kvs:List (κ×V))(k:κ):List (κ×V):=kvs.filter λkv=>decide (kv.1≠k)
theorem kN{p:κ×V}{r:List (κ×V)}{k:κ}(e:p.1=k):gK (p::r) k=some p.2:=by simp[gK,Gbv,e]
theorem iK{p:κ×V}{r:List (κ×V)}{k:κ}(e:¬p.1=k):gK (p::r) k=gK r k:=by simp[gK,Gbv,e]
theorem qz(k:κ):∀kvs:List (κ×V),(kvs.any λkv=>decide (kv.1=k))=(gK kvs k).isSome
 |[]=>rfl
 |p::r=>by
  rw[Gdb]
  by_cases e:p.1=k
  ·simp only[kN e,GaG e,Bool.true_or,Option.isSome_some]
  ·rw[iK e,GaH e,Bool.false_or];exact qz k r
theorem kO(kvs:List (κ×V))(k:κ)(v:V):(putK kvs k v).length≤kvs.length+1:=by
 unfold putK
 split
 ·rw[Gah];omega
 ·rw[Gav,GaF,Gcs];omega
theorem DJ{kvs:List (κ×V)}{k:κ}(v:V)(h:gK kvs k=none):putK kvs k v=kvs++[(k,v)]:=by
 unfold putK
 rw[qz,h]
 exact Gae (by decide)
theorem oy.Cg{o:Option V}{u:Option Value}(r:oy o u):o.isSome=u.isSome:=by
 cases o with
 |none=>cases u with
  |none=>rfl
  |some _=>exact(show False from r).elim
 |some _=>cases u with
  |none=>exact(show False from r).elim
  |some _=>rfl
theorem oy.getD{o:Option V}{u:Option Value}{d:V}{d' :Value}(r:oy o u)(rd:RelV d d'):RelV (o.getD d) (u.getD d'):=by
 cases o with
 |none=>cases u with
  |none=>exact rd
  |some _=>exact(show False from r).elim
 |some _=>cases u with
  |none=>exact(show False from r).elim
  |some _=>exact r
theorem KV.val{kvs:List (κ×V)}{vs:List (κ×Value)}(r:KV kvs vs)(k:κ):oy (gK kvs k) (valueAt vs k):=by
 unfold KV at r
 induction r with
 |nil=>exact True.intro
 | @cons p q ps qs h t ih=>
  obtain⟨h1,h2⟩:=h
  by_cases e:p.1=k
  ·have e' :q.1=k:=h1.symm.trans e
   have b:valueAt (q::qs) k=some q.2:=by simp[valueAt,Gbv,e']
   rw[kN e,b];exact h2
  ·have e' :¬q.1=k:=λz=>e (h1.trans z)
   have b:valueAt (q::qs) k=valueAt qs k:=by simp[valueAt,Gbv,e']
   rw[iK e,b];exact ih
theorem KV.any{kvs:List (κ×V)}{vs:List (κ×Value)}(r:KV kvs vs)(k:κ):(kvs.any λkv=>decide (kv.1=k))=vs.any λkv=>decide (kv.1=k):=by
 unfold KV at r
 induction r with
 |nil=>rfl
 |cons h t ih=>rw[Gdb,Gdb,ih,h.1]
theorem KV.Jq{kvs:List (κ×V)}{vs:List (κ×Value)}(r:KV kvs vs)(k:κ){y:V}{u:Value}(ry:RelV y u):
  KV (kvs.map λkv=>if kv.1=k then(kv.1,y) else kv) (vs.map λkv=>if kv.1=k then(kv.1,u) else kv):=by
 unfold KV at r⊢
 induction r with
 |nil=>exact .nil
 | @cons p q ps qs h t ih=>
  rw[Gaq,Gaq]
  refine .cons ?_ ih
  obtain⟨h1,h2⟩:=h
  by_cases e:p.1=k
  ·rw[Gag e,Gag (h1.symm.trans e)];exact⟨h1,ry⟩
  ·rw[Gae e,Gae (λz=>e (h1.trans z))];exact⟨h1,h2⟩
theorem KV.put{kvs:List (κ×V)}{vs:List (κ×Value)}(r:KV kvs vs)(k:κ){y:V}{u:Value}(ry:RelV y u):KV (putK kvs k y) (stored vs k u):=by
 unfold putK stored
 rw[r.any k]
 by_cases e:(vs.any λkv=>decide (kv.1=k))=true
 ·rw[Gag e,Gag e];exact r.Jq k ry
 ·rw[Gae e,Gae e];exact Paired.snoc r ⟨rfl,ry⟩
theorem KV.drop{kvs:List (κ×V)}{vs:List (κ×Value)}(r:KV kvs vs)(k:κ):KV (Iu kvs k) (without vs k):=by
 unfold KV at r⊢
 unfold Iu without
 induction r with
 |nil=>exact .nil
 | @cons p q ps qs h t ih=>
  obtain⟨h1,h2⟩:=h
  rw[Gbi,Gbi]
  by_cases e:p.1=k
  ·have a:¬decide (p.1≠k)=true:=by simp[e]
   have b:¬decide (q.1≠k)=true:=by simp[h1.symm.trans e]
   rw[Gae a,Gae b];exact ih
  ·have e' :¬q.1=k:=λz=>e (h1.trans z)
   have a:decide (p.1≠k)=true:=by simp[e]
   have b:decide (q.1≠k)=true:=by simp[e']
   rw[Gag a,Gag b];exact .cons ⟨h1,h2⟩ ih
theorem KV.keys{kvs:List (κ×V)}{vs:List (κ×Value)}(r:KV kvs vs):kvs.map (·.1)=vs.map (·.1):=by
 unfold KV at r
 induction r with
 |nil=>rfl
 |cons h t ih=>rw[Gaq,Gaq,ih,h.1]
theorem KV.length{kvs:List (κ×V)}{vs:List (κ×Value)}(r:KV kvs vs):kvs.length=vs.length:=Paired.length r
end
theorem Bb{P:Program}{w:World}{k:Key}{u:Value}(r:RelV (kV k) u):(cz P w).is k u=true:=by
 cases k with
 |inl i=>obtain⟨t,e⟩:=(show∃t,u=Value.int i t from r);subst e;exact va P w i t
 |inr x=>obtain⟨t,e⟩:=(show∃t,u=Value.str x t from r);subst e;exact vb P w x t
theorem sQ{P:Program}{w:World}:∀{ks:List Key} {us:List Value},Vals (ks.map kV) us→ItemsAre (cz P w) ks us
 |[],_,r=>by rw[Gdz] at r;cases r;exact .nil
 |k::ks,_,r=>by
  rw[Gaq] at r
  cases r with
  |cons h t=>exact .cons (Bb h) (sQ t)
abbrev KT(H:Hp):List (List Key×V)→List (List Key×Addr×Value)→Prop:=Paired λp q=>p.1=q.1∧H q.2.1=some (.tup (p.1.map kV))∧RelV p.2 q.2.2
theorem KT.val{H:Hp}{kvs:List (List Key×V)}{xs:List (List Key×Addr×Value)}(r:KT H kvs xs)(k:List Key):oy (gK kvs k) ((atKey xs k).map (·.2)):=by
 induction r with
 |nil=>exact True.intro
 | @cons p q ps qs h t ih=>
  obtain⟨h1,_,h2⟩:=h
  by_cases e:p.1=k
  ·have e' :q.1=k:=h1.symm.trans e
   have b:atKey (q::qs) k=some q.2:=by simp[atKey,Gbv,e']
   rw[kN e,b];exact h2
  ·have e' :¬q.1=k:=λz=>e (h1.trans z)
   have b:atKey (q::qs) k=atKey qs k:=by simp[atKey,Gbv,e']
   rw[iK e,b];exact ih
theorem KT.Jq{H:Hp}{kvs:List (List Key×V)}{xs:List (List Key×Addr×Value)}(r:KT H kvs xs)(k:List Key){y:V}{u:Value}(ry:RelV y u):
  KT H (kvs.map λkv=>if kv.1=k then(kv.1,y) else kv) (xs.map (putAt k u)):=by
 induction r with
 |nil=>exact .nil
 | @cons p q ps qs h t ih=>
  rw[Gaq,Gaq]
  refine .cons ?_ ih
  obtain⟨h1,h2,h3⟩:=h
  unfold putAt
  by_cases e:p.1=k
  ·rw[Gag e,Gag (h1.symm.trans e)];exact⟨h1,h2,ry⟩
  ·rw[Gae e,Gae (λz=>e (h1.trans z))];exact⟨h1,h2,h3⟩
theorem KT.put{H:Hp}{kvs:List (List Key×V)}{xs:List (List Key×Addr×Value)}(r:KT H kvs xs)(k:List Key){b:Addr}{y:V}{u:Value}(hb:H b=some (.tup (k.map kV)))(ry:RelV y u):
  KT H (putK kvs k y) (storedH xs k b u):=by
 have e:(kvs.any λkv=>decide (kv.1=k))=(atKey xs k).isSome:=by
  rw[qz,(r.val k).Cg,Option.isSome_map]
 unfold putK storedH
 rw[e]
 by_cases q:(atKey xs k).isSome=true
 ·rw[Gag q,Gag q];exact r.Jq k ry
 ·rw[Gae q,Gae q];exact Paired.snoc r ⟨rfl,hb,ry⟩
theorem KT.keeps{H H' :Hp}{kvs:List (List Key×V)}{xs:List (List Key×Addr×Value)}(r:KT H kvs xs)(ht:∀b ys,H b=some (.tup ys)→H' b=some (.tup ys)):KT H' kvs xs:=
 Paired.IP r λ_ _ z=> ⟨z.1,ht _ _ z.2.1,z.2.2⟩
section
variable{P:Program}{w:World}{H:Hp}{h:Heap}{a:Addr}
theorem Iv{u:HO}(ok:HOk P w H h)(e:Rd H a u):cx P w H h a u:=e.ok ok
theorem sR{kvs:List (Key×V)}(ok:HOk P w H h)(e:Rd H a (.dK kvs)):kvs.length≤sizeLine∧(a==sysModules)=false∧∃vs,KV kvs vs∧h.DictOf (cz P w) a vs:=
 show cx P w H h a (.dK kvs) from Iv ok e
theorem Lx{kvs:List (Key×V)}(ok:HOk P w H h)(e:H a=some (.dK kvs)):kvs.length≤sizeLine∧(a==sysModules)=false∧∃vs,KV kvs vs∧h.DictOf (cz P w) a vs:=sR ok (.inl e)
theorem mX{ks:List Key}(ok:HOk P w H h)(e:H a=some (.tup (ks.map kV))):(tupleKind (cz P w)).is h ks a:=by
 obtain⟨_,its,r,o,h1,h2,n,h3⟩:=(show cx P w H h a (.tup (ks.map kV)) from ok a _ e)
 exact⟨o,its.toArray,n,h1,h2,h3,by simpa using sQ r⟩
theorem vk{kvs:List (List Key×V)}(ok:HOk P w H h)(e:Rd H a (.dT kvs)):kvs.length≤sizeLine∧(a==sysModules)=false∧
  ∃xs,KT H kvs xs∧h.DictOfH (tupleKind (cz P w)) a xs:=by
 obtain⟨z,y,xs,r,o,es,ep,h1,h2,h3,h4,h5⟩:=(show cx P w H h a (.dT kvs) from Iv ok e)
 refine⟨z,y,xs,r,o,es,ep,h1,h2,h3,h4,λx hx=> ?_,h5⟩
 have all:∀{l:List (List Key×V)} {m:List (List Key×Addr×Value)},KT H l m→∀x∈m,(tupleKind (cz P w)).is h x.1 x.2.1:=by
  intro l m q
  induction q with
  |nil=>intro x hx;exact nomatch hx
  | @cons p q ps qs hq t ih=>
   intro x hx
   rcases Gay.mp hx with e|hx
   ·subst e
    exact mX ok (by rw[←hq.1];exact hq.2.1)
   ·exact ih x hx
 exact all r x hx
theorem DK{kvs:List (List Key×V)}(ok:HOk P w H h)(e:H a=some (.dT kvs)):kvs.length≤sizeLine∧(a==sysModules)=false∧
  ∃xs,KT H kvs xs∧h.DictOfH (tupleKind (cz P w)) a xs:=vk ok (.inl e)
end
def pW(H:Hp)(a:Addr)(y:V)(r:Option V):Prop:=
 (∃kvs k,Rd H a (.dK kvs)∧y=kV k∧r=gK kvs k)∨∃kvs k b,Rd H a (.dT kvs)∧y= .ref b∧H b=some (.tup (k.map kV))∧r=gK kvs k
def vn(H:Hp)(a:Addr)(y v:V)(H' :Hp):Prop:=
 (∃kvs k,H a=some (.dK kvs)∧y=kV k∧kvs.length<sizeLine∧H' =upd H a (.dK (putK kvs k v)))∨
 ∃kvs k b,H a=some (.dT kvs)∧y= .ref b∧H b=some (.tup (k.map kV))∧kvs.length<sizeLine∧H' =upd H a (.dT (putK kvs k v))
theorem pW.k{H:Hp}{a:Addr}{kvs:List (Key×V)}{k:Key}(e:H a=some (.dK kvs)):pW H a (kV k) (gK kvs k):= .inl ⟨kvs,k,.inl e,rfl,rfl⟩
theorem pW.t{H:Hp}{a b:Addr}{kvs:List (List Key×V)}{k:List Key}(e:H a=some (.dT kvs))(eb:H b=some (.tup (k.map kV))):pW H a (.ref b) (gK kvs k):= .inr ⟨kvs,k,b,.inl e,rfl,eb,rfl⟩
theorem vn.k{H:Hp}{a:Addr}{kvs:List (Key×V)}{k:Key}{v:V}(e:H a=some (.dK kvs))(hl:kvs.length<sizeLine):vn H a (kV k) v (upd H a (.dK (putK kvs k v))):= .inl ⟨kvs,k,e,rfl,hl,rfl⟩
theorem vn.t{H:Hp}{a b:Addr}{kvs:List (List Key×V)}{k:List Key}{v:V}(e:H a=some (.dT kvs))(eb:H b=some (.tup (k.map kV)))(hl:kvs.length<sizeLine):
  vn H a (.ref b) v (upd H a (.dT (putK kvs k v))):= .inr ⟨kvs,k,b,e,rfl,eb,hl,rfl⟩
section
variable{X:Cx}{pins:List (Addr×Obj)}{σ:St}{H:Hp}{s:Shared}{a:Addr}{y v:V}{u r:Value}{o:Option V}{A:Around}{E:Value→Shared→Prop}
theorem Inv.big(I:Inv X pins σ H s):sysModules<s.heap.objs.size:=by
 have h:mainGlobals<s.heap.objs.size:=(I.mod.glob.keeps I.bk).lt
 exact Nat.lt_trans (by decide) h
theorem Ci{Q:Value→Shared→Prop}(hu:A.units+1<cLine)(I:Inv X pins σ H s)(g:pW H a y (some v))(ry:RelV y u)(h:∀w' s',Inv X pins σ H s' →RelV v w' →Q w' s'):
  wpAny (model X.prog X.w) A (getItem (.ref a) u) Q E s:=by
 rcases g with⟨kvs,k,e,ey,l⟩| ⟨kvs,k,b,e,ey,eb,l⟩
 ·subst ey
  obtain⟨z,hd,vs,rel,dd⟩:=sR I.hok e
  obtain⟨w',hw,rw'⟩:=oy.some_of (v:=v) (o:=valueAt vs k) (by rw[l];exact rel.val k)
  exact wpAny_getItem_of (Bb ry) dd.mapOf hw (h w' _ (I.tok _) rw')
 ·subst ey
  cases(show u=Value.ref b from ry)
  obtain⟨z,hd,xs,rel,dd⟩:=vk I.hok e
  obtain⟨w',hw,rw'⟩:=oy.some_of (v:=v) (o:=(atKey xs k).map (·.2)) (by rw[l];exact rel.val k)
  obtain⟨p,hp,hp2⟩:=Gam.mp hw
  refine wpAny_getItem_heap (GcL hu) (mX I.hok eb) dd hp ?_
  rw[hp2]
  exact h w' _ (I.tok _) rw'
theorem qi{h' :Heap}{t' :Nat}{ob:HO}(I:Inv X pins σ H s)(mu:Mut (H a))(hs:Heap.SameBut a s.heap h')(he:∃q,h'.get? a=some q)(new:cx X.prog X.w (upd H a ob) h' a ob):
  Inv X pins σ (upd H a ob) {s with heap:=h',toks:=t' }:=
 I.write (x:=a) (e:=a) mu (.inl rfl) (λb q hb z=>(hs.2 b hb).trans z) he new
theorem Jr{P:Program}{w:World}{H' :Hp}{h' :Heap}{kvs:List (Key×V)}{vs:List (Key×Value)}(z:kvs.length≤sizeLine)(hd:(a==sysModules)=false)(rel:KV kvs vs)(dd:h'.DictOf (cz P w) a vs):
  cx P w H' h' a (.dK kvs):=⟨z,hd,vs,rel,dd⟩
theorem Cj{H' :Hp}{Q:Unit→Shared→Prop}(hu:A.units+1<cLine)(I:Inv X pins σ H s)(g:vn H a y v H')(ry:RelV y u)(rv:RelV v r)(h:∀s',Inv X pins σ H' s' →Q () s'):
  wpAny (model X.prog X.w) A (setItem (.ref a) u r) Q E s:=by
 rcases g with⟨kvs,k,e,ey,l,eH⟩| ⟨kvs,k,b,e,ey,eb,l,eH⟩
 ·subst ey eH
  obtain⟨z,hd,vs,rel,dd⟩:=Lx I.hok e
  have hz:vs.length≤sizeLine:=by rw[←rel.length];exact z
  have hl:(putK kvs k v).length≤sizeLine:=by have:=kO kvs k v;omega
  refine wpAny_setItem_pairs (hsz:=hz) (Bb ry) dd λh' dd' hs=>h _ ?_
  have he:∃q,h'.get? a=some q:=let⟨q,_,_,hq,_⟩:=dd';⟨q,hq⟩
  exact qi I (by rw[e];exact True.intro) hs he (Jr hl hd (rel.put k rv) dd')
 ·subst ey eH
  cases(show u=Value.ref b from ry)
  obtain⟨z,hd,xs,rel,dd⟩:=DK I.hok e
  have hz:xs.length≤sizeLine:=by rw[←Paired.length rel];exact z
  have hl:(putK kvs k v).length≤sizeLine:=by have:=kO kvs k v;omega
  refine wpAny_setItem_heap (hsz:=hz) (GcL hu) (mX I.hok eb) dd λh' dd' hs=>h _ ?_
  obtain⟨q,es,ep,hq,h2,h3,h4,_,h5⟩:=dd'
  refine qi I (by rw[e];exact True.intro) hs ⟨q,hq⟩ ⟨hl,hd,_,(rel.put k eb rv).keeps λc ys ec=> ?_,q,es,ep,hq,h2,h3,h4,h5⟩
  rw[ax (B2 ec e (λz=>nomatch z))]
  exact ec
end
section
variable{X:Cx}{pins:List (Addr×Obj)}{σ:St}{H:Hp}{s:Shared}{a:Addr}{kvs:List (Key×V)}{k:Key}{u:Value}{A:Around}{E:Value→Shared→Prop}
theorem Ly{Q:Value→Shared→Prop}(I:Inv X pins σ H s)(e:Rd H a (.dK kvs))(h:∀t s',Inv X pins σ H s' →Q (.int kvs.length t) s'):wpAny (model X.prog X.w) A (call (.builtin "len") [.ref a]) Q E s:=by
 obtain⟨z,hd,vs,rel,dd⟩:=sR I.hok e
 refine call_len_dict hd dd (by rw[←rel.length];rw[GbA] at z;omega) ?_
 rw[←rel.length]
 exact h _ _ (I.tok _)
end
theorem vo{X:Cx}{pins:List (Addr×Obj)}{σ:St}{H:Hp}{s:Shared}{a:Addr}{y:V}{o:Option V}(I:Inv X pins σ H s)(g:pW H a y o):s.TypeIs (.ref a) "dict":=by
 rcases g with⟨kvs,k,e,_,_⟩| ⟨kvs,k,b,e,_,_,_⟩
 ·obtain⟨_,_,vs,_,dd⟩:=sR I.hok e
  exact dd.typeIs
 ·obtain⟨_,_,xs,_,dd⟩:=vk I.hok e
  exact dd.typeIs
theorem DP{P:Program}{w:World}{H:Hp}(h:Heap)(hb:sysModules<h.objs.size):cx P w H (h.push {cls:= .type "dict",data:= .dict #[]}) h.objs.size (.dT []):=
 ⟨GbI _,beq_eq_false_iff_ne.mpr (GaZ (GaO hb)),[],.nil,_,#[],0,GaC _ rfl,⟨rfl,rfl,rfl⟩,rfl,rfl,List.nodup_nil⟩
noncomputable def Js:TE:=λ_ H Q=>∀p,H p=none→Q (.ref p) (upd H p (.dT []))
section
variable{X:Cx}{pos:Pos}
theorem vp:PE X (.Dict [] [] pos) Js:=λpins s σ H Q I h=>
 wpAny_Dict_empty ⟨.ref s.heap.objs.size,_,I.laid (a:=s.heap.objs.size) (o:= .dT []) (t' :=s.toks) (λ_ _ q=>Gaj _ q) (Gap _) (DP s.heap I.big),rfl,h _ (I.hok.fresh (Gap _))⟩
end
structure M2(X:Cx)(o:Expr)(m:Str)(apos:Pos)(e f:Expr)(cpos:Pos):Prop where
 base:attributeBase o m X.env (eval o X.env)=eval o X.env
 few:((backTo cpos (starEach [e,f] X.env)).all (λx=> !x.1)&&(backToKw cpos (keywordEach [] X.env)).all (λx=>x.1.isSome)
  &&decide (([e,f]:List Expr).length+([]:List Keyword).length+(if([]:List Keyword).isEmpty then 0 else 1)<30))=true
 line:(apos.endLine==cpos.line)=true
 trees:backTo cpos (starEach [e,f] X.env)=[(false,eval e X.env),(false,eval f X.env)]
def IsD(H:Hp)(a:Addr):Prop:=(∃kvs,Rd H a (.dK kvs))∨∃kvs,Rd H a (.dT kvs)
theorem Am{X:Cx}{pins:List (Addr×Obj)}{σ:St}{H:Hp}{s:Shared}{a:Addr}(I:Inv X pins σ H s)(d:IsD H a):
  s.TypeIs (.ref a) "dict"∧(∀b,Value.ref a= .ref b→∃ob,s.heap.get? b=some ob∧ob.dict=none)∧(a==sysModules)=false:=by
 rcases d with⟨kvs,e⟩| ⟨kvs,e⟩
 ·obtain⟨_,hd,vs,_,dd⟩:=sR I.hok e
  refine⟨dd.typeIs,λb q=> ?_,hd⟩
  cases q
  obtain⟨ob,_,_,h1,h2,_⟩:=dd
  exact⟨ob,h1,h2.2.1⟩
 ·obtain⟨_,hd,xs,_,dd⟩:=vk I.hok e
  refine⟨dd.typeIs,λb q=> ?_,hd⟩
  cases q
  obtain⟨ob,_,_,h1,h2,_⟩:=dd
  exact⟨ob,h1,h2.2.1⟩
section
variable{X:Cx}{pins:List (Addr×Obj)}{σ:St}{H:Hp}{s:Shared}{a:Addr}{y d:V}{u r:Value}{o:Option V}{A:Around}{E:Value→Shared→Prop}
theorem Jt{Q:Value→Shared→Prop}(hu:A.units+1<cLine)(I:Inv X pins σ H s)(g:pW H a y o)(ry:RelV y u)(rd:RelV d r)(h:∀w' s',Inv X pins σ H s' →RelV (o.getD d) w' →Q w' s'):
  wpAny (model X.prog X.w) A (call (.builtin "dict.get") [.ref a,u,r]) Q E s:=by
 rcases g with⟨kvs,k,e,ey,l⟩| ⟨kvs,k,b,e,ey,eb,l⟩
 ·subst ey
  obtain⟨z,hd,vs,rel,dd⟩:=sR I.hok e
  refine call_meetsIn Gdi dd.typeIs PySem.F.entry_dict_get (PySem.F.args_dict_get_3 _ _ _) (meets_dict_get_default (cz X.prog X.w) a (Bb ry) hd r) ⟨_,dd.mapOf,h _ _ (I.tok _) ?_⟩
  rw[l]
  exact(rel.val k).getD rd
 ·subst ey
  cases(show u=Value.ref b from ry)
  obtain⟨z,hd,xs,rel,dd⟩:=vk I.hok e
  refine call_meetsIn Gdi dd.typeIs PySem.F.entry_dict_get (PySem.F.args_dict_get_3 _ _ _) (meetsH_dict_get_default (tupleKind (cz X.prog X.w)) a b hd r) ⟨GcL hu,k,xs,mX I.hok eb,dd,h _ _ (I.tok _) ?_⟩
  rw[l]
  exact(rel.val k).getD rd
end
noncomputable def Ju(td ty tx:TE):TE:=λσ H Q=>td σ H λx H1=>∃a,x= .ref a∧IsD H1 a∧ty σ H1 λy H2=>tx σ H2 λz H3=>∃o,pW H3 a y o∧Q (o.getD z) H3
section
variable{X:Cx}{o e f:Expr}{apos cpos:Pos}{td ty tx:TE}
theorem DQ(hu:X.A.units+1<cLine)(ho:PE X o td)(he:PE X e ty)(hf:PE X f tx)(m:M2 X o "get" apos e f cpos):PE X (.Call (.Attribute o "get" apos) [e,f] [] cpos) (Ju td ty tx):=by
 intro pins s σ H Q I h
 refine wpAny_Call_method m.base m.few m.line GcS Gdi PySem.F.type_dict_get (thn (ho pins s σ H _ I h) λu s1 ⟨x,H1,I1,rx,a,ex,d,q1⟩=> ?_)
 subst ex
 obtain rfl:u=Value.ref a:=rx
 obtain⟨t1,t2,_⟩:=Am I1 d
 refine⟨t1,t2, ?_⟩
 rw[m.trees]
 refine Gcx rfl (Gdm (Gcr (thn (he pins s1 σ H1 _ I1 q1) λiv s2 ⟨y,H2,I2,ry,q2⟩=>
  Gcr (thn (hf pins s2 σ H2 _ I2 q2) λfv s3 ⟨z,H3,I3,rz,ov,g,q3⟩=>Calls.spliced_nil ?_))))
 exact Jt hu I3 g ry rz λw' s4 I4 rw' => ⟨_,H3,I4,rw',q3⟩
end
end L2
namespace Att
open PySem PySem.W PySem.Calls PyProof.Rows
theorem pX{P:Params}{h:Heap}:∀(ns:List Int) (vs:List Value),WellAll P h vs (ns.map WData.int)→IntsAre vs ns:=by
 intro ns
 induction ns with
 |nil=>
  intro vs w
  rw[Gdz] at w
  cases w
  exact .nil
 |cons n ns ih=>
  intro vs w
  rw[Gaq] at w
  cases w with
  |cons a b=>
   cases a
   exact .cons _ _ (ih _ b)
theorem Ck{l:OpenLaw}{n:Nat}(hn:l.most=some n){P:Params}{h:Heap}{args:List WData}{vals:List Value}
  (hpre:l.row.toRowW.claim.pre args=true)(hwl:WellAll P h vals args):
  ∃a vs ns,vals=[Value.ref a]∧args=[WData.list (ns.map WData.int)]∧h.get? a=some {cls:= .type "list",data:= .seq vs.toArray}∧IntsAre vs ns∧ns.length≤n:=by
 have hsh:WShape.hasAll [] args [.list .int]=true:=(pre_splitW hpre).1
 have hc:l.pre.holds [] {args:=args}=true:=(pre_splitW hpre).2
 obtain⟨d,r,rfl,h1,h2⟩:=hasAllW_cons hsh
 obtain rfl:=hasAllW_nil h2
 obtain⟨xs,rfl,h3⟩:=hasW_list h1
 obtain⟨ns,rfl⟩:=items_int h3
 have hlen:ns.length≤n:=by
  unfold OpenLaw.pre at hc
  have h4:(WTm.not (.lt (.lit (.int (n:Int))) (.len (.arg 0)))).holds [] {args:=[.list (ns.map .int)]}=true:=by
   have h4:=(holds_andW hc).1
   rw[hn] at h4
   exact h4
  have h5:=condW_of h4 (w_not (w_lt w_lit (w_len_list (w_arg rfl))))
  rw[Gah] at h5
  refine Nat.le_of_not_lt λq=> ?_
  have q' :(n:Int)<((ns.length:Nat):Int):=by omega
  first
   |(rw[GaG q'] at h5;exact absurd h5 (by decide))
   |(simp at h5;omega)
 cases hwl with
 |cons w1 w2=>
  cases w2
  cases w1 with
  |list ho hall=>exact⟨_,_,ns,rfl,rfl,ho,pX ns _ hall,hlen⟩
theorem Cm(l:OpenLaw)(args:List WData):l.row.toRowW.claim.post args (.bool true) args=true:=
 postW_of (r:=l.row.toRowW) (X:=(true==true))
  (show WShape.has [] (.bool true) .bool=true by first|rfl|decide|simp[WShape.has,WShape.arms,WShape.armsAll])
  (show(WTm.eq .res (.lit (.bool true))).value [] {args:=args,res:=some (.bool true),after:=args}=some (.bool (true==true)) from w_eq_bool (w_res rfl) w_lit) rfl
theorem vq{l:OpenLaw}{n:Nat}{q:Program}{loose:List Str}{XP:(Str→Option Value)→Heap→Prop}{YP:World→Heap→Prop}{d:DefRec}
  (hn:l.most=some n)(hdf:d.params.defaults=[])
  (call:∀(w:World) (s₀ s₁:Shared) (mg mb:Str→Option Value) (fa:Addr) (o:Obj) (pm cd doc:Value) (a:Addr) (vs:List Value) (ns:List Int),
   Ground q loose [] XP w s₀ mg mb s₁.heap→YP w s₁.heap→
   s₁.heap.get? fa=some o→o.data= .func (docDef d.name d.params d.body d.scope pm cd doc)→s₁.heap.CodeRec cd d.name→mg d.name=some (.ref fa)→
   s₁.heap.get? a=some {cls:= .type "list",data:= .seq vs.toArray}→IntsAre vs ns→ns.length≤n→s₁.gens=#[]→
   codeAny (model l.prog w) callerA (.call (.ref fa) ⟨[.ref a],[]⟩) (λr s' =>r= .ok (.ret (.bool true))∧OldK s₁.heap s'.heap∧s'.os=s₁.os∧AllBare s'.gens) s₁):
  WalkO q loose XP YP l.row.toRowW d [] (λf vs=>PySem.call f vs):=by
 intro w s₀ s₁ mg mb G Y fa o pm cd doc dV kV ho hd hcd hD hmg hg args vals as hpre hlay hrd hwl hlo
 obtain rfl:dV= .none:=Dflts.none hD hdf
 obtain rfl:kV= .none:=Dflts.noKw hD
 obtain⟨a,vs,ns,rfl,rfl,hobj,hints,hlen⟩:=Ck hn hpre hwl
 refine enter_call (codeAny_mono (call w s₀ s₁ mg mb fa o pm cd doc a vs ns G Y ho (fd_plain hd) hcd hmg hobj hints hlen hg) λr s' hq=> ?_)
 obtain⟨rfl,h2,h3,h4⟩:=hq
 exact⟨.inl ⟨.bool true,.bool true,[],rfl,λ_=>rfl,.bool true,Cm l _,λ_=> ⟨List.Pairwise.nil,λ_ hm=>(nomatch hm)⟩⟩,h2,h3,h4⟩
end Att
namespace L2
open PySem PySem.Spec PyProof.Rows
theorem lU:∀{vs:List Value} {ns:List Int},IntsAre vs ns→Vals (ns.map V.int) vs
 |_,_,.nil=> .nil
 |_,_,.cons n t h=> .cons ⟨t,rfl⟩ (lU h)
def Gz(H:Hp):Prop:=∀b,H b=none∨∃o xs,H b=some (.frz o (.lst xs))
theorem DR{P:Program}{w:World}{K:PySem.W.Frag}{mg mb:Str→Option Value}{CX:CXT}{k:Nat}{fa a:Addr}{fd:FuncData}{x:Str}{sp:Sp}{s₁:Shared}{vs:List Value}{ns:List Int}
  (KX:K.In s₁.heap)(hns:s₁.heap.Ns mainGlobals mg)(hb:s₁.heap.Ns builtinsNs mb)(hbb:∀x:Str,x≠"__name__"→mb x=bootBuiltins x)(hlim:s₁.heap.NoLimit)(hg:s₁.gens=#[])
  (ha:s₁.heap.get? a=some {cls:= .type "list",data:= .seq vs.toArray})(hi:IntsAre vs ns)(hl:ns.length≤sizeLine)(hr:gV k callerA)
  (F:∀base:Heap,K.In base→base.Ns mainGlobals mg→cC P w K mg base CX k fa fd [x] sp)(hbind:∀(s:Shared) (u:Value),BindsTo s fd ⟨[u],[]⟩ [(x,u)])
  (hsp:∀H:Hp,Gz H→SqL K H a (ns.map V.int)→sp [.ref a] H (λv _=>v= .bl true) λ_ _ _=>False)
  (hCX:∀H e s',CX [] H s₁ (λ_ _ _=>False) e s' →False):
  codeAny (model P w) callerA (.call (.ref fa) ⟨[.ref a],[]⟩) (λr s' =>r= .ok (.ret (.bool true))∧OldK s₁.heap s'.heap∧s'.os=s₁.os∧AllBare s'.gens) s₁:=by
 have rv:=lU hi
 have lenV:=hi.length
 have core:∀H:Hp,Gz H→SqL K H a (ns.map V.int)→HOk P w H s₁.heap→(∀b,H b≠none→b=a)→(H a≠none→K.lookup a=none)→
   codeAny (model P w) callerA (.call (.ref fa) ⟨[.ref a],[]⟩) (λr s' =>r= .ok (.ret (.bool true))∧OldK s₁.heap s'.heap∧s'.os=s₁.os∧AllBare s'.gens) s₁:=by
  intro H hO hS hok hA hK
  have base_of:∀{b:Addr} {o:Obj},s₁.heap.get? b=some o→H b=none→(u7 s₁.heap H).get? b=some o:=λe n=>Dp e n
  have noA:∀{b:Addr} {o:Obj} {es:Array DictEntry} {ep:Nat},s₁.heap.get? b=some o→o.data= .dict es ep→H b=none:=λ{b o es ep} e d=>by
   cases q:H b with
   |none=>rfl
   |some u=>
    have e' :b=a:=hA b (by rw[q];simp)
    subst e'
    rw[ha] at e;cases e
    have d' :Data.seq vs.toArray _=Data.dict es ep:=d
    cases d'
  have nsK:∀{b:Addr} {m:Str→Option Value},s₁.heap.Ns b m→(u7 s₁.heap H).Ns b m:=λ{b m} ⟨o,es,ep,e,d,r⟩=> ⟨o,es,ep,base_of e (noA e d),d,r⟩
  have hKb:K.In (u7 s₁.heap H):=λb o e=>base_of (KX b o e) (by
   cases q:H b with
   |none=>rfl
   |some u=>
    have e' :b=a:=hA b (by rw[q];simp)
    subst e'
    rw[hK (by rw[q];simp)] at e;cases e)
  have hM:Mod K mg (u7 s₁.heap H):=⟨hKb,nsK hns,⟨mb,nsK hb,hbb⟩,let⟨mc,h1,h2⟩:=hlim;⟨mc,nsK h1,h2⟩⟩
  have e0:Ah P w K mg (u7 s₁.heap H) callerA [] s₁ H:=⟨rfl,hM,λb o e=>G8 e,Nat.le_of_eq (C3 _ _),trivial,λb hb=>absurd (show b∈([]:List Addr) from hb) (by simp),hok,.of_eq hg⟩
  refine codeAny_mono ((F _ hKb (nsK hns)).run callerA [] s₁ H ⟨[.ref a],[]⟩ [.ref a] [.ref a] _ _ hr e0 (hbind s₁ (.ref a)) (.cons rfl .nil) (hsp H hO hS)) λr s' h=> ?_
  cases r with
  |error e=>exact(hCX H e s' h).elim
  |ok fl=>
   cases fl with
   |next=>exact False.elim h
   |brk=>exact False.elim h
   |cont=>exact False.elim h
   |ret u=>
    obtain⟨v,H',os,bare,un,hok',r',q⟩:=h
    have q' :v= .bl true:=q
    subst q'
    obtain rfl:u=Value.bool true:=r'
    refine⟨rfl,OldK.of_keep λb o e=> ?_,os,bare⟩
    cases q:H b with
    |none=>exact un.keep b o e q (by intro z;exact absurd (show b∈([]:List Addr) from z) (by simp)) (by simp)
    |some u=>
     rcases hO b with z| ⟨ob,xs,z⟩
     ·rw[q] at z;cases z
     ·have z2:=un.nz b ob _ z
      obtain⟨e1,_⟩:=hok b _ z
      obtain⟨e2,_⟩:=hok' b _ z2
      rw[e] at e1;cases e1
      exact e2
 cases hk:K.lookup a with
 |some o=>
  have e:=KX a o hk
  rw[ha] at e
  cases e
  refine core (λ_=>none) (λ_=> .inl rfl) (.inr ⟨_,vs.toArray,_,hk,rfl,rfl,rfl,by rw[Gan,lenV];exact hl,by simpa using rv⟩) (λb u z=>by have z' :(none:Option HO)=some u:=z;cases z') (λb z=>absurd rfl z) λz=>absurd rfl z
 |none=>
  refine core (λb=>if b=a then some (.frz {cls:= .type "list",data:= .seq vs.toArray} (.lst (ns.map V.int))) else none) (λb=> ?_) (.inl (.inr ⟨{cls:= .type "list",data:= .seq vs.toArray},Gag rfl⟩)) (λb u z=> ?_) (λb z=> ?_) λ_=>hk
  ·by_cases hb:b=a
   ·exact .inr ⟨_,_,Gag hb⟩
   ·exact .inl (Gae hb)
  ·by_cases hb:b=a
   ·have z' :=(Gag hb).symm.trans z
    cases z'
    subst hb
    exact⟨ha,by rw[Gah];exact hl,vs,_,rv,ha⟩
   ·have z' :=(Gae hb).symm.trans z
    cases z'
  ·by_cases hb:b=a
   ·exact hb
   ·exact absurd (Gae hb) z
theorem GA{l:PySem.W.OpenLaw}{n k:Nat}{q:Program}{loose:List Str}{XP:(Str→Option Value)→Heap→Prop}{YP:World→Heap→Prop}{d:DefRec}{K:Params→PySem.W.Frag}{CX:World→CXT}{sp:World→Sp}{x:Str}
  (hn:l.most=some n)(hn2:n≤sizeLine)(hdf:d.params.defaults=[])(hr:gV k callerA)
  (hY:∀(w:World) (h:Heap),YP w h→(K w.params).In h)
  (F:∀(w:World) (mg:Str→Option Value) (fa:Addr) (h:Heap),(K w.params).In h→h.Ns mainGlobals mg→mg d.name=some (.ref fa)→
   ∃fd:FuncData,(∀(s:Shared) (u:Value),BindsTo s fd ⟨[u],[]⟩ [(x,u)])∧
    ∀base:Heap,(K w.params).In base→base.Ns mainGlobals mg→cC l.prog w (K w.params) mg base (CX w) k fa fd [x] (sp w))
  (hsp:∀(w:World) (H:Hp) (a:Addr) (ns:List Int),ns.length≤n→Gz H→SqL (K w.params) H a (ns.map V.int)→sp w [.ref a] H (λv _=>v= .bl true) λ_ _ _=>False)
  (hCX:∀(w:World) (H:Hp) (s:Shared) (e:Value) (s' :Shared),CX w [] H s (λ_ _ _=>False) e s' →False):
  PySem.W.WalkO q loose XP YP l.row.toRowW d [] (λf vs=>PySem.call f vs):=by
 refine Att.vq hn hdf λw s₀ s₁ mg mb fa o pm cd doc a vs ns G Y ho hd hcd hmg hobj hints hlen hg=> ?_
 have KX:=hY w _ Y
 obtain⟨fd,hb,hF⟩:=F w mg fa _ KX G.T.g hmg
 exact DR KX G.T.g G.T.b G.T.builtins G.T.nolimit hg hobj hints (Gbt hlen hn2) hr hF hb (λH hO hS=>hsp w H a ns hlen hO hS) λH e s' =>hCX w H s₁ e s'
noncomputable def lV(s:Stmt):Arguments:=match s with
 | .FunctionDef _ a _ _ _ _ _ _ _ _=>a
 |_=>{posonlyargs:=[],args:=[],vararg:=none,kwonlyargs:=[],kw_defaults:=[],kwarg:=none,defaults:=[]}
noncomputable def jh(s:Stmt):List Stmt:=match s with
 | .FunctionDef _ _ b _ _ _ _ _ _ _=>b
 |_=>[]
noncomputable def aJ(s:Stmt):Scope:=match s with
 | .FunctionDef _ _ _ _ _ _ sc _ _ _=>sc
 |_=>{kind:= .function,names:=[],isGenerator:=false,isCoroutine:=false}
noncomputable abbrev CX0:CXT:=λ_ _ _ _ _ _=>False
noncomputable abbrev E0:XK:=λ_ _ _=>False
theorem Lz{X:Cx}:Passes CX0 X E0:=λ_ _ _ _ _ _ _ h=>h.elim
structure Fun(K:PySem.W.Frag)(x qual:Str)(st:Stmt)(f:Addr)(fd:FuncData):Prop where
 ex:∃(oc:Value) (od:Option Addr) (kV doc pm:Value) (an:Option Addr) (cdv ct:Value) (osl:Array (Option Value)),
  fd=PySem.W.fnOf x qual (lV st) (jh st) (aJ st) .none kV doc pm an cdv ct∧K.lookup f=some ⟨oc,od,.func fd,osl⟩∧PySem.W.codeIn K cdv qual=true
 kp:PySem.W.keepIn K (.ref f)=true
section
variable{P:Program}{w:World}{K:PySem.W.Frag}{mg:Str→Option Value}{base:Heap}
theorem Fun.ok{x qual:Str}{st:Stmt}{f:Addr}{fd:FuncData}{N ps:List Str}{k:Nat}{sp:Sp}(F:Fun K x qual st f fd)(S:aW N ps (aJ st))(len:∀vs H Q E,sp vs H Q E→vs.length=ps.length)
  (hbody:∀(cdv:Value) (A:Around) (outer:List Env) (s:Shared) (H:Hp) (vs:List V) (Q:VK) (E:XK),gV k (A.deeper (envOfC qual (aJ st) s.heap.objs.size f cdv))→sp vs H Q E→
   ∃t,PSs (Ai CX0 P w K mg base N qual (aJ st) f cdv A outer s H E).nox (jh st) t∧t {nx:=λ_ H' =>Q .non H',rt:=Q} (start N vs) H):cC P w K mg base CX0 (k+1) f fd ps sp:=by
 obtain⟨oc,od,kV,doc,pm,an,cdv,ct,osl,rfl,lk,hcd⟩:=F.ex
 refine Lq lk hcd S len λA outer s H vs Q E hr hsp=> ?_
 obtain⟨t,h,q⟩:=hbody cdv A outer s H vs Q E hr hsp
 exact⟨t,h.nox,q⟩
theorem Jv{x qual:Str}{st:Stmt}{f:Addr}{oc:Value}{od an:Option Addr}{osl:Array (Option Value)}{kV doc pm cdv ct:Value}(l:K.lookup f=some ⟨oc,od,.func (PySem.W.fnOf x qual (lV st) (jh st) (aJ st) .none kV doc pm an cdv ct),osl⟩)
  (c:PySem.W.codeIn K cdv qual=true)(k:PySem.W.keepIn K (.ref f)=true):Fun K x qual st f (PySem.W.fnOf x qual (lV st) (jh st) (aJ st) .none kV doc pm an cdv ct):=⟨⟨oc,od,kV,doc,pm,an,cdv,ct,osl,rfl,l,c⟩,k⟩
end
theorem dh{A:Around}{k:Nat}(hr:gV k A):A.units+1<cLine:=GcM (Nat.add_le_add_left (by decide:1≤64) _) hr.units
def c0(H H' :Hp):Prop:=∀b o,H b=some o→H' b=some o
theorem c0.refl(H:Hp):c0 H H:=λ_ _ h=>h
theorem c0.trans{H H1 H2:Hp}(a:c0 H H1)(b:c0 H1 H2):c0 H H2:=λc o h=>b c o (a c o h)
theorem c0.free{H H' :Hp}(e:c0 H H'){l:Addr}(h:H' l=Option.none):H l=Option.none:=by
 cases q:H l with
 |none=>rfl
 |some o=>
  rw[e l o q] at h
  cases h
end L2
namespace DL
open PySem
noncomputable abbrev Key:=Sum Int Str
inductive D where
 |non
 |bl (b:Bool)
 |int (i:Int)
 |str (x:Str)
 |tup (ds:List D)
 |lst (ds:List D)
 |dK (kvs:List (Key×D))
 |dT (kvs:List (List Key×D))
 |scr (ns:List Int)
 deriving Inhabited
mutual
@[simp] noncomputable def D.imm:D→Bool
 | .non=>true
 | .bl _=>true
 | .int _=>true
 | .str _=>true
 | .tup ds=>aN ds
 | .lst _=>false
 | .dK _=>false
 | .dT _=>false
 | .scr _=>true
@[simp] noncomputable def aN:List D→Bool
 |[]=>true
 |d::ds=>d.imm&&aN ds
end
noncomputable def D.ph:D→Bool
 | .lst ds=>aN ds
 | .dK kvs=>aN (kvs.map (·.2))
 | .dT kvs=>aN (kvs.map (·.2))
 |d=>d.imm
noncomputable def D.top:D→Bool
 | .lst _=>true
 | .dK _=>true
 | .dT _=>true
 |_=>false
noncomputable def ah:Nat:=16777216
inductive Slot where
 |sh (d:D)
 |own (d:D)
 |lok (d:D)
 |bor (d:D)
noncomputable abbrev Env:=List (Option Slot)
inductive Cls where
 |c|tn|to|tb
 deriving DecidableEq
structure RV where
 k:Cls
 d:D
noncomputable abbrev DE:=Env→Option RV
noncomputable abbrev DT:=Env→Option Bool
noncomputable abbrev DA:=Env→Option (List RV)
noncomputable abbrev DG:=D→Env→Option Env
inductive Out where
 |nx (e:Env)
 |ret (d:D)
 |bk (e:Env)
 |ct (e:Env)
noncomputable abbrev DS:=Env→Option Out
noncomputable def jY(d:D):RV:=⟨if d.top then .tn else .c,d⟩
noncomputable def RV.free(r:RV):Bool:=match r.k with
 | .c=>true
 | .tn=>true
 |_=>false
@[simp] noncomputable def vE(i:Nat):DE:=λenv=>match env[i]? with
 |some (some (.sh d))=>some ⟨.c,d⟩
 |some (some (.own d))=>some ⟨.to,d⟩
 |some (some (.lok d))=>some ⟨.tb,d⟩
 |some (some (.bor d))=>some ⟨.tb,d⟩
 |_=>none
@[simp] noncomputable def kE(d:D):DE:=λ_=>some ⟨.c,d⟩
@[simp] noncomputable def opE(o:D→D→Option RV)(f g:DE):DE:=λenv=>(f env).bind λx=>(g env).bind λy=>o x.d y.d
@[simp] noncomputable def unE(o:D→Option RV)(f:DE):DE:=λenv=>(f env).bind λx=>o x.d
noncomputable def aQ:D→D→Option RV
 | .int i,.int j=>some ⟨.c,.int (i+j)⟩
 | .str x,.str y=>if x.length+y.length≤ah then some ⟨.c,.str (x++y)⟩ else none
 | .tup x,.tup y=>if x.length+y.length≤ah∧0<x.length then some ⟨.c,.tup (x++y)⟩ else none
 | .lst x,.lst y=>if x.length+y.length≤ah then some ⟨.tn,.lst (x++y)⟩ else none
 |_,_=>none
noncomputable def kJ:D→D→Option RV
 | .int i,.int j=>some ⟨.c,.int (i -j)⟩
 |_,_=>none
noncomputable def ck(i j:Int):Bool:=decide (i.natAbs<18446744073709551616)||decide (j.natAbs<18446744073709551616)
noncomputable def dR:D→D→Option RV
 | .int i,.int j=>if ck i j then some ⟨.c,.int (i*j)⟩ else none
 |_,_=>none
noncomputable def mv:D→D→Option RV
 | .int i,.int j=>if 0<j∧j<1073741824 then some ⟨.c,.int (i/j)⟩ else none
 |_,_=>none
noncomputable def qA:D→D→Option RV
 | .int i,.int j=>if 0<j then some ⟨.c,.int (i%j)⟩ else none
 |_,_=>none
noncomputable def oB:D→D→Option RV
 | .int i,.int j=>if 0≤j∧j≤1000∧i.natAbs<1000000 then some ⟨.c,.int (i^j.toNat)⟩ else none
 |_,_=>none
noncomputable def Cn:D→Option RV
 | .int i=>some ⟨.c,.int (-i)⟩
 |_=>none
@[simp] noncomputable def ay:Nat→D→Bool
 |_,.non=>true
 |_,.bl _=>true
 |_,.int _=>true
 |_,.str _=>true
 |n+1,.tup ds=>ds.all (ay n)
 |n+1,.lst ds=>ds.all (ay n)
 |_,_=>false
@[simp] noncomputable def D.plain(d:D):Bool:=ay 20 d
mutual
@[simp] noncomputable def eqD:D→D→Bool
 | .non,.non=>true
 | .bl a,.bl b=>a==b
 | .bl a,.int b=>(if a then 1 else 0)==b
 | .int a,.bl b=>a==(if b then 1 else 0)
 | .int a,.int b=>a==b
 | .str a,.str b=>a==b
 | .tup a,.tup b=>kP a b
 | .lst a,.lst b=>kP a b
 |_,_=>false
@[simp] noncomputable def kP:List D→List D→Bool
 |[],[]=>true
 |a::as,b::bs=>eqD a b&&kP as bs
 |_,_=>false
end
noncomputable def eqB(x y:D):Option Bool:=if x.plain&&y.plain then some (eqD x y) else none
noncomputable def neB(x y:D):Option Bool:=if x.plain&&y.plain then some (!eqD x y) else none
noncomputable def dz:D→Bool
 | .non=>true
 |_=>false
noncomputable def qB(x y:D):Option Bool:=if dz y then some (dz x) else none
noncomputable def kC(x y:D):Option Bool:=if dz y then some (!dz x) else none
noncomputable def ltB:D→D→Option Bool
 | .int i,.int j=>some (decide (i<j))
 |_,_=>none
noncomputable def leB:D→D→Option Bool
 | .int i,.int j=>some (decide (i≤j))
 |_,_=>none
noncomputable def gtB:D→D→Option Bool
 | .int i,.int j=>some (decide (j<i))
 |_,_=>none
noncomputable def geB:D→D→Option Bool
 | .int i,.int j=>some (decide (j≤i))
 |_,_=>none
@[simp] noncomputable def bq(o:D→D→Option Bool)(f g:DE):DT:=λenv=>(f env).bind λx=>(g env).bind λy=>o x.d y.d
@[simp] noncomputable def bE(t:DT):DE:=λenv=>(t env).map λb=> ⟨.c,.bl b⟩
@[simp] noncomputable def vt(f:DE):DT:=λenv=>(f env).bind λx=>match x.d with
 | .bl b=>some b
 |_=>none
@[simp] noncomputable def mY(t u:DT):DT:=λenv=>(t env).bind λb=>if b then u env else some false
@[simp] noncomputable def orT(t u:DT):DT:=λenv=>(t env).bind λb=>if b then some true else u env
@[simp] noncomputable def ug(t:DT):DT:=λenv=>(t env).map (!·)
@[simp] noncomputable def DU(o p:D→D→Option Bool)(f g h:DE):DT:=λenv=>(f env).bind λx=>(g env).bind λy=>(o x.d y.d).bind λb=>if b then(h env).bind λz=>p y.d z.d else some false
@[simp] noncomputable def ifE(t:DT)(f g:DE):DE:=λenv=>(t env).bind λb=>if b then f env else g env
noncomputable def atD{α:Type}(xs:List α)(i:Int):Option α:=if 0≤i then xs[i.toNat]? else if -(xs.length:Int)≤i then xs[(i+xs.length).toNat]? else none
noncomputable def keyOf:D→Option Key
 | .int i=>some (.inl i)
 | .str x=>some (.inr x)
 |_=>none
@[simp] noncomputable def keysOf:List D→Option (List Key)
 |[]=>some []
 |d::ds=>(keyOf d).bind λk=>(keysOf ds).map (k:: ·)
section
variable{κ:Type} [DecidableEq κ]
noncomputable def look(kvs:List (κ×D))(k:κ):Option D:=(kvs.find? λkv=>decide (kv.1=k)).map (·.2)
noncomputable def put(kvs:List (κ×D))(k:κ)(v:D):List (κ×D):=
 if(kvs.any λkv=>decide (kv.1=k))=true then kvs.map (λkv=>if kv.1=k then(kv.1,v) else kv) else kvs++[(k,v)]
end
noncomputable def ixD:D→D→Option D
 | .lst xs,.int i=>atD xs i
 | .tup xs,.int i=>atD xs i
 | .str x,.int i=>if x.length≤ah then(atD x.cps.toList i).map λc=> .str ⟨#[c]⟩ else none
 | .dK kvs,k=>(keyOf k).bind λk=>look kvs k
 | .dT kvs,.tup ds=>(keysOf ds).bind λk=>look kvs k
 | .scr ns,.int i=>(atD ns i).map .int
 |_,_=>none
@[simp] noncomputable def ixE(f g:DE):DE:=λenv=>(f env).bind λx=>(g env).bind λy=>(ixD x.d y.d).map λd=> ⟨.c,d⟩
@[simp] noncomputable def ao:DA:=λ_=>some []
@[simp] noncomputable def a5(f:DE)(r:DA):DA:=λenv=>(f env).bind λx=>(r env).bind λxs=>some (x::xs)
@[simp] noncomputable def bI(a:DA):DE:=λenv=>(a env).bind λrs=>if rs.all (·.free)&&decide (rs.length≤ah) then some ⟨.c,.tup (rs.map (·.d))⟩ else none
@[simp] noncomputable def fT(a:DA):DE:=λenv=>(a env).bind λrs=>if rs.all (·.free)&&decide (rs.length≤ah) then some ⟨.tn,.lst (rs.map (·.d))⟩ else none
@[simp] noncomputable def aH(sp:List D→Option D)(a:DA):DE:=λenv=>(a env).bind λrs=>(sp (rs.map (·.d))).map jY
@[simp] noncomputable def dG(o:List D→Option RV)(a:DA):DE:=λenv=>(a env).bind λrs=>o (rs.map (·.d))
noncomputable def cM:List D→Option RV
 |[.lst xs]=>some ⟨.c,.int xs.length⟩
 |[.tup xs]=>some ⟨.c,.int xs.length⟩
 |[.str x]=>if x.length≤ah then some ⟨.c,.int x.length⟩ else none
 |[.dK kvs]=>some ⟨.c,.int kvs.length⟩
 |[.scr ns]=>some ⟨.c,.int ns.length⟩
 |_=>none
noncomputable def nE:List D→Option RV
 |[.int i,.int j]=>some ⟨.c,.int (if j<i then j else i)⟩
 |_=>none
noncomputable def sS:List D→Option RV
 |[.int i,.int j]=>some ⟨.c,.int (if j>i then j else i)⟩
 |_=>none
noncomputable def iL:List D→Option RV
 |[.lst xs]=>some ⟨.c,.tup xs⟩
 |[.tup xs]=>some ⟨.c,.tup xs⟩
 |_=>none
@[simp] noncomputable def uh:List D→Option (List Bool)
 |[]=>some []
 | .bl b::ds=>(uh ds).map (b:: ·)
 |_=>none
@[simp] noncomputable def Bc:List D→Option (List Int)
 |[]=>some []
 | .int i::ds=>(Bc ds).map (i:: ·)
 |_=>none
noncomputable def kQ:D→Option (List D)
 | .lst xs=>some xs
 | .tup xs=>some xs
 | .scr ns=>some (ns.map .int)
 |_=>none
noncomputable def one(o:List D→Option RV):List D→Option RV
 |[d]=>(kQ d).bind o
 |_=>none
noncomputable def anyS:List D→Option RV:=one λds=>(uh ds).map λbs=> ⟨.c,.bl (bs.any id)⟩
noncomputable def pY(i:Int)(ns:List Int):Int:=ns.foldl (λa b=>if b>a then b else a) i
noncomputable def jJ(T:String):D→Bool
 | .non=>T=="NoneType"
 | .bl _=>T=="bool"||T=="int"
 | .int _=>T=="int"
 | .str _=>T=="str"
 | .tup _=>T=="tuple"
 | .lst _=>T=="list"
 | .dK _=>T=="dict"
 | .dT _=>T=="dict"
 | .scr _=>T=="list"
noncomputable def kR:D→Bool
 | .scr _=>true
 |_=>false
@[simp] noncomputable def Co(T:String)(f:DE):DT:=λenv=>(f env).bind λx=>if kR x.d then none else some (jJ T x.d)
noncomputable def sIx(n d:Nat):Option Int→Nat
 |none=>d
 |some v=>if v<0 then(v+(n:Int)).toNat else min v.toNat n
noncomputable def cutD{α:Type}(xs:List α)(lo hi:Option Int):List α:=(xs.drop (sIx xs.length 0 lo)).take (sIx xs.length xs.length hi -sIx xs.length 0 lo)
noncomputable abbrev DO:=Env→Option (Option Int)
@[simp] noncomputable def noO:DO:=λ_=>some none
@[simp] noncomputable def DV(f:DE):DO:=λenv=>(f env).bind λx=>match x.d with
 | .int i=>some (some i)
 |_=>none
noncomputable def slD(lo hi:Option Int):D→Option RV
 | .lst xs=>some ⟨.tn,.lst (cutD xs lo hi)⟩
 | .tup xs=>if sIx xs.length 0 lo=0∧sIx xs.length xs.length hi=xs.length then none else some ⟨.c,.tup (cutD xs lo hi)⟩
 | .scr ns=>some ⟨.tn,.lst (cutD (ns.map .int) lo hi)⟩
 |_=>none
@[simp] noncomputable def slE(f:DE)(lo hi:DO):DE:=λenv=>(f env).bind λx=>(lo env).bind λl=>(hi env).bind λh=>slD l h x.d
@[simp] noncomputable def gN(i:Nat):DG:=λd env=>some (env.set i (some (.sh d)))
@[simp] noncomputable def gNs:List Nat→List D→Env→Option Env
 |[],[],env=>some env
 |i::is,d::ds,env=>gNs is ds (env.set i (some (.sh d)))
 |_,_,_=>none
@[simp] noncomputable def gT(is:List Nat):DG:=λd env=>match d with
 | .tup ds=>gNs is ds env
 |_=>none
@[simp] noncomputable def bg:DS:=λenv=>some (.nx env)
@[simp] noncomputable def bkS:DS:=λenv=>some (.bk env)
@[simp] noncomputable def aE(f g:DS):DS:=λenv=>(f env).bind λo=>match o with
 | .nx e=>g e
 |o=>some o
noncomputable def stored(i:Nat)(r:RV)(env:Env):Option Env:=match r.k with
 | .c=>some (env.set i (some (.sh r.d)))
 | .tn=>some (env.set i (some (.own r.d)))
 |_=>none
@[simp] noncomputable def aR(i:Nat)(f:DE):DS:=λenv=>(f env).bind λr=>(stored i r env).map .nx
noncomputable def Bd(r:RV):Bool:=match r.k with
 | .c=>r.d.imm
 | .tn=>r.d.ph
 | .to=>r.d.ph
 | .tb=>false
@[simp] noncomputable def retS(f:DE):DS:=λenv=>(f env).bind λr=>if Bd r then some (.ret r.d) else none
@[simp] noncomputable def ifS(t:DT)(f g:DS):DS:=λenv=>(t env).bind λb=>if b then f env else g env
@[simp] noncomputable def forL(g:DG)(body:DS):List D→Env→Option Out
 |[],env=>some (.nx env)
 |d::ds,env=>(g d env).bind λe=>(body e).bind λo=>match o with
  | .nx e=>forL g body ds e
  | .ct e=>forL g body ds e
  | .bk e=>some (.nx e)
  | .ret d=>some (.ret d)
noncomputable abbrev DI:=Env→Option (List D)
@[simp] noncomputable def bR(l:Option Nat)(env:Env):Env:=match l with
 |none=>env
 |some i=>match env[i]? with
  |some (some (.own d))=>env.set i (some (.lok d))
  |_=>env
@[simp] noncomputable def qC(l:Option Nat)(env:Env):Bool:=match l with
 |none=>false
 |some i=>match env[i]? with
  |some (some (.own _))=>true
  |_=>false
@[simp] noncomputable def iM(l:Option Nat)(env:Env):Env:=match l with
 |none=>env
 |some i=>match env[i]? with
  |some (some (.lok d))=>env.set i (some (.own d))
  |_=>env
noncomputable def freed(l:Option Nat)(b:Bool):Out→Out
 | .nx e=> .nx (if b then iM l e else e)
 |o=>o
@[simp] noncomputable def gW(l:Option Nat)(src:DI)(g:DG)(body:DS):DS:=λenv=>(src (bR l env)).bind λds=>(forL g body ds (bR l env)).map (freed l (qC l env))
noncomputable def gX(t:DT)(body:DS):Nat→Env→Option Out
 |0,_=>none
 |n+1,env=>(t env).bind λb=>if b then(body env).bind λo=>match o with
   | .nx e=>gX t body n e
   | .ct e=>gX t body n e
   | .bk e=>some (.nx e)
   | .ret d=>some (.ret d)
  else some (.nx env)
noncomputable def ui(t:DT)(body:DS):DS:=gX t body 100000
@[simp] noncomputable def kS(f:DE):DI:=λenv=>(f env).bind λr=>if r.k= .to then none else match r.d with
 | .lst xs=>some xs
 | .tup xs=>some xs
 | .scr ns=>some (ns.map .int)
 |_=>none
noncomputable def bx(lo:Int)(n:Nat):List D:=(List.range n).map λ(k:Nat)=> .int (lo+(k:Int))
noncomputable def bU(i:Int):Bool:=decide (-4611686018427387904≤i)&&decide (i<4611686018427387904)
@[simp] noncomputable def gz(f:DE):DI:=λenv=>(f env).bind λr=>match r.d with
 | .int j=>if bU j then some (bx 0 j.toNat) else none
 |_=>none
@[simp] noncomputable def Be(f g:DE):DI:=λenv=>(f env).bind λx=>(g env).bind λy=>match x.d,y.d with
 | .int i,.int j=>if bU i&&bU j then some (bx i (j -i).toNat) else none
 |_,_=>none
@[simp] noncomputable def ownAt(i:Nat)(env:Env):Option D:=match env[i]? with
 |some (some (.own d))=>some d
 |_=>none
@[simp] noncomputable def kT(i:Nat)(f:DE):DS:=λenv=>(f env).bind λr=>(ownAt i env).bind λd=>match d with
 | .lst xs=>if r.free&&decide (xs.length<ah) then some (.nx (env.set i (some (.own (.lst (xs++[r.d])))))) else none
 |_=>none
@[simp] noncomputable def LA(i:Nat)(f:DE):DS:=λenv=>(f env).bind λr=>(ownAt i env).bind λd=>match d,r.d with
 | .lst xs,.lst ys=>if(r.k== .tn)&&decide (xs.length+ys.length≤ah) then some (.nx (env.set i (some (.own (.lst (xs++ys)))))) else none
 |_,_=>none
noncomputable def putD(d k v:D):Option D:=match d with
 | .dK kvs=>if kvs.length<ah then(keyOf k).map λk=> .dK (put kvs k v) else none
 | .dT kvs=>match k with
  | .tup ks=>if kvs.length<ah then(keysOf ks).map λk=> .dT (put kvs k v) else none
  |_=>none
 | .lst xs=>match k with
  | .int j=>if 0≤j∧j<xs.length then some (.lst (xs.set j.toNat v)) else if j<0∧-(xs.length:Int)≤j then some (.lst (xs.set (j+xs.length).toNat v)) else none
  |_=>none
 |_=>none
@[simp] noncomputable def qD:DE:=λ_=>some ⟨.tn,.dT []⟩
@[simp] noncomputable def vA(i:Nat)(k v:DE):DS:=λenv=>(v env).bind λx=>(k env).bind λy=>(ownAt i env).bind λd=>if x.free then(putD d y.d x.d).map λd=> .nx (env.set i (some (.own d))) else none
noncomputable def fJ:Option Slot→Option Slot
 |some (.sh d)=>some (.sh d)
 |some (.own d)=>some (.bor d)
 |some (.lok d)=>some (.bor d)
 |some (.bor d)=>some (.bor d)
 |none=>none
noncomputable def compEnv(n:Nat)(aT:List Nat)(env:Env):Env:=List.replicate n none++aT.map λi=>fJ (env[i]?.getD none)
@[simp] noncomputable def cn(g:DG)(t:DT)(f:DE):List D→Env→Option (List D)
 |[],_=>some []
 |d::ds,env=>(g d env).bind λe=>(t e).bind λb=>if b then(f e).bind λr=>if r.free then(cn g t f ds e).map (r.d:: ·) else none else cn g t f ds e
@[simp] noncomputable def pj(l:Option Nat)(n:Nat)(aT:List Nat)(src:DI)(g:DG)(t:DT)(f:DE):DE:=λenv=>(src (bR l env)).bind λds=>if ds.length≤ah then(cn g t f ds (compEnv n aT env)).map λrs=> ⟨.tn,.lst rs⟩ else none
@[simp] noncomputable def gL:DT:=λ_=>some true
@[simp] noncomputable def bz(n:Nat)(ds:List D):Env:=ds.map (λd=>some (.sh d))++List.replicate (n -ds.length) none
@[simp] noncomputable def fw(n np:Nat)(body:DS):List D→Option D:=λds=>if ds.length=np then(body (bz n ds)).bind λo=>match o with
  | .ret d=>some d
  | .nx _=>some .non
  |_=>none
 else none
@[simp] theorem GB{a b:String}:Str.ofString a=Str.ofString b↔a=b:=by
 constructor
 ·intro h
  rw[Str.ofString_eq_toList,Str.ofString_eq_toList] at h
  have h1:a.toList.map Char.toNat=b.toList.map Char.toNat:=by
   injection h with h
   exact Gck.mpr h|>λz=>by simpa using z
  have h2:a.toList=b.toList:=by
   have inj:∀(x y:List Char),x.map Char.toNat=y.map Char.toNat→x=y:=by
    intro x
    induction x with
    |nil=>intro y e;cases y with
     |nil=>rfl
     |cons=>simp at e
    |cons c x ih=>intro y e;cases y with
     |nil=>simp at e
     |cons c' y=>
      simp only[Gaq,List.cons.injEq] at e
      rw[ih y e.2,Char.toNat_inj.mp e.1]
   exact inj _ _ h1
  exact String.toList_inj.mp h2
 ·rintro rfl;rfl
section
variable{i j:Int}{x y:Str}{ds es:List D}{d:D}{env:Env}{n:Nat}
@[simp] theorem LB:aQ (.int i) (.int j)=some ⟨.c,.int (i+j)⟩:=rfl
@[simp] theorem LC:aQ (.str x) (.str y)=if x.length+y.length≤ah then some ⟨.c,.str (x++y)⟩ else none:=rfl
@[simp] theorem LD:aQ (.tup ds) (.tup es)=if ds.length+es.length≤ah∧0<ds.length then some ⟨.c,.tup (ds++es)⟩ else none:=rfl
@[simp] theorem LF:aQ (.lst ds) (.lst es)=if ds.length+es.length≤ah then some ⟨.tn,.lst (ds++es)⟩ else none:=rfl
@[simp] theorem LH:kJ (.int i) (.int j)=some ⟨.c,.int (i -j)⟩:=rfl
@[simp] theorem LI:dR (.int i) (.int j)=if ck i j then some ⟨.c,.int (i*j)⟩ else none:=rfl
@[simp] theorem KD:mv (.int i) (.int j)=if 0<j∧j<1073741824 then some ⟨.c,.int (i/j)⟩ else none:=rfl
@[simp] theorem LJ:qA (.int i) (.int j)=if 0<j then some ⟨.c,.int (i%j)⟩ else none:=rfl
@[simp] theorem LK:oB (.int i) (.int j)=if 0≤j∧j≤1000∧i.natAbs<1000000 then some ⟨.c,.int (i^j.toNat)⟩ else none:=rfl
@[simp] theorem LL:Cn (.int i)=some ⟨.c,.int (-i)⟩:=rfl
@[simp] theorem MS:ltB (.int i) (.int j)=some (decide (i<j)):=rfl
@[simp] theorem MT:leB (.int i) (.int j)=some (decide (i≤j)):=rfl
@[simp] theorem MU:gtB (.int i) (.int j)=some (decide (j<i)):=rfl
@[simp] theorem MV:geB (.int i) (.int j)=some (decide (j≤i)):=rfl
@[simp] theorem MW:eqB (.int i) (.int j)=some (i==j):=rfl
@[simp] theorem MX:eqB (.str x) (.str y)=some (x==y):=rfl
@[simp] theorem NK:eqB .non (.int j)=some false:=rfl
@[simp] theorem NL:eqB (.int j) .non=some false:=rfl
@[simp] theorem NM:eqB .non .non=some true:=rfl
@[simp] theorem MY:neB (.int i) (.int j)=some (!(i==j)):=rfl
@[simp] theorem MZ:neB (.str x) (.str y)=some (!(x==y)):=rfl
@[simp] theorem NN:neB .non (.int j)=some true:=rfl
@[simp] theorem NO:neB (.int j) .non=some true:=rfl
@[simp] theorem NP:neB .non .non=some false:=rfl
@[simp] theorem KG:dz .non=true:=rfl
@[simp] theorem KH:dz (.int i)=false:=rfl
@[simp] theorem KI:dz (.str x)=false:=rfl
@[simp] theorem LM{b:Bool}:dz (.bl b)=false:=rfl
@[simp] theorem KJ:dz (.tup ds)=false:=rfl
@[simp] theorem KN:dz (.lst ds)=false:=rfl
@[simp] theorem LN:qB d .non=some (dz d):=rfl
@[simp] theorem KO:kC d .non=some (!dz d):=rfl
@[simp] theorem kU:cM [.lst ds]=some ⟨.c,.int ds.length⟩:=rfl
@[simp] theorem iN:cM [.tup ds]=some ⟨.c,.int ds.length⟩:=rfl
@[simp] theorem LP:cM [.str x]=if x.length≤ah then some ⟨.c,.int x.length⟩ else none:=rfl
@[simp] theorem DW{ns:List Int}:cM [.scr ns]=some ⟨.c,.int ns.length⟩:=rfl
@[simp] theorem N0{kvs:List (Key×D)}:cM [.dK kvs]=some ⟨.c,.int kvs.length⟩:=rfl
@[simp] theorem KP:nE [.int i,.int j]=some ⟨.c,.int (if j<i then j else i)⟩:=rfl
@[simp] theorem KQ:sS [.int i,.int j]=some ⟨.c,.int (if j>i then j else i)⟩:=rfl
@[simp] theorem Jw:iL [.lst ds]=some ⟨.c,.tup ds⟩:=rfl
@[simp] theorem Jx:iL [.tup ds]=some ⟨.c,.tup ds⟩:=rfl
@[simp] theorem LQ{T:String}:jJ T .non=(T=="NoneType"):=rfl
@[simp] theorem N5{T:String}{b:Bool}:jJ T (.bl b)=(T=="bool"||T=="int"):=rfl
@[simp] theorem LR{T:String}:jJ T (.int i)=(T=="int"):=rfl
@[simp] theorem LU{T:String}:jJ T (.str x)=(T=="str"):=rfl
@[simp] theorem LV{T:String}:jJ T (.tup ds)=(T=="tuple"):=rfl
@[simp] theorem LW{T:String}:jJ T (.lst ds)=(T=="list"):=rfl
@[simp] theorem KR:kR .non=false:=rfl
@[simp] theorem LX{b:Bool}:kR (.bl b)=false:=rfl
@[simp] theorem KS:kR (.int i)=false:=rfl
@[simp] theorem KU:kR (.str x)=false:=rfl
@[simp] theorem KW:kR (.tup ds)=false:=rfl
@[simp] theorem KY:kR (.lst ds)=false:=rfl
@[simp] theorem N6{lo hi:Option Int}:slD lo hi (.lst ds)=some ⟨.tn,.lst (cutD ds lo hi)⟩:=rfl
@[simp] theorem N7{lo hi:Option Int}:slD lo hi (.tup ds)=if sIx ds.length 0 lo=0∧sIx ds.length ds.length hi=ds.length then none else some ⟨.c,.tup (cutD ds lo hi)⟩:=rfl
@[simp] theorem N8{lo hi:Option Int}{ns:List Int}:slD lo hi (.scr ns)=some ⟨.tn,.lst (cutD (ns.map .int) lo hi)⟩:=rfl
@[simp] theorem LY:stored n ⟨.c,d⟩ env=some (env.set n (some (.sh d))):=rfl
@[simp] theorem KZ:stored n ⟨.tn,d⟩ env=some (env.set n (some (.own d))):=rfl
@[simp] theorem N9:Bd ⟨.c,d⟩=d.imm:=rfl
@[simp] theorem LZ:Bd ⟨.tn,d⟩=d.ph:=rfl
@[simp] theorem M0:Bd ⟨.to,d⟩=d.ph:=rfl
@[simp] theorem L0:(D.lst ds).ph=aN ds:=rfl
@[simp] theorem M1{kvs:List (List Key×D)}:(D.dT kvs).ph=aN (kvs.map (·.2)):=rfl
@[simp] theorem M3{kvs:List (Key×D)}:(D.dK kvs).ph=aN (kvs.map (·.2)):=rfl
@[simp] theorem M4:jY .non=⟨.c,.non⟩:=rfl
@[simp] theorem Na{b:Bool}:jY (.bl b)=⟨.c,.bl b⟩:=rfl
@[simp] theorem M5:jY (.int i)=⟨.c,.int i⟩:=rfl
@[simp] theorem M6:jY (.str x)=⟨.c,.str x⟩:=rfl
@[simp] theorem M7:jY (.tup ds)=⟨.c,.tup ds⟩:=rfl
@[simp] theorem M8:jY (.lst ds)=⟨.tn,.lst ds⟩:=rfl
@[simp] theorem Nb{kvs:List (List Key×D)}:jY (.dT kvs)=⟨.tn,.dT kvs⟩:=rfl
@[simp] theorem Nc{kvs:List (Key×D)}:jY (.dK kvs)=⟨.tn,.dK kvs⟩:=rfl
@[simp] theorem NQ:RV.free ⟨.c,d⟩=true:=rfl
@[simp] theorem Nd:RV.free ⟨.tn,d⟩=true:=rfl
@[simp] theorem M9{l:Option Nat}{b:Bool}:freed l b (.nx env)= .nx (if b then iM l env else env):=rfl
@[simp] theorem L1{l:Option Nat}{b:Bool}:freed l b (.ret d)= .ret d:=rfl
@[simp] theorem L3:keyOf (.int i)=some (.inl i):=rfl
@[simp] theorem L4:keyOf (.str x)=some (.inr x):=rfl
@[simp] theorem Nf:ixD (.lst ds) (.int i)=atD ds i:=rfl
@[simp] theorem Ng:ixD (.tup ds) (.int i)=atD ds i:=rfl
@[simp] theorem Nh{ns:List Int}:ixD (.scr ns) (.int i)=(atD ns i).map .int:=rfl
@[simp] theorem Nj:ixD (.str x) (.int i)=if x.length≤ah then(atD x.cps.toList i).map λc=> .str ⟨#[c]⟩ else none:=rfl
@[simp] theorem NR{kvs:List (List Key×D)}:ixD (.dT kvs) (.tup ds)=(keysOf ds).bind λk=>look kvs k:=rfl
theorem dm{α:Type}{xs:List α}{k:Nat}:atD xs (k:Int)=xs[k]? :=by
 unfold atD;rw[Gag (by omega)];simp
@[simp] theorem NY{α:Type}{xs:List α}:atD xs 0=xs[0]? :=rfl
@[simp] theorem NZ{α:Type}{xs:List α}:atD xs 1=xs[1]? :=rfl
@[simp] theorem O0{α:Type}{xs:List α}:atD xs 2=xs[2]? :=rfl
@[simp] theorem O1{α:Type}{xs:List α}:atD xs 3=xs[3]? :=rfl
@[simp] theorem O2{α:Type}{xs:List α}:atD xs 4=xs[4]? :=rfl
@[simp] theorem O3{α:Type}{xs:List α}:atD xs 5=xs[5]? :=rfl
end
open PySem
noncomputable def aZ:D→List Int
 | .non=>[0]
 | .int i=>[1,i]
 | .str x=>2::x.cps.toList.map Int.ofNat
 |_=>[3]
noncomputable def fu{α:Type} [DecidableEq α](lt:α→α→Bool):List α→List α→Bool
 |[],[]=>false
 |[],_::_=>true
 |_::_,[]=>false
 |a::as,b::bs=>if a=b then fu lt as bs else lt a b
noncomputable def ltI(a b:Int):Bool:=decide (a<b)
noncomputable def ltC:List (List Int)→List (List Int)→Bool:=fu (fu ltI)
noncomputable def code:D→List (List Int)
 | .tup ds=>ds.map aZ
 |d=>[aZ d]
noncomputable def Cp(d:D):List D→List D
 |[]=>[d]
 |e::es=>if ltC (code d) (code e) then d::e::es else e::Cp d es
noncomputable def cB:List D→List D
 |[]=>[]
 |d::ds=>Cp d (cB ds)
noncomputable def tyD:D→Nat
 | .non=>0
 | .int _=>1
 | .str _=>2
 |_=>3
noncomputable def mj(d:D):Bool:=tyD d !=3
noncomputable def mw:List D→List D→Bool
 |a::as,b::bs=>if aZ a=aZ b then mw as bs else(tyD a==tyD b&&(tyD a==1||tyD a==2))
 |_,_=>true
noncomputable def Cq:D→Bool
 | .int _=>true
 |_=>false
noncomputable def mq(t:Nat):D→Bool
 | .tup (f::r)=>tyD f==t&&r.all mj
 |_=>false
noncomputable def vB:D→D→Bool
 | .tup a,.tup b=>mw a b
 |_,_=>false
noncomputable def keysOk(ds:List D):Bool:=ds.all Cq||((ds.all (mq 1)||ds.all (mq 2))&&ds.all λx=>ds.all λy=>vB x y)
noncomputable def sortedS:List D→Option RV:=one λds=>if decide (ds.length<64)&&keysOk ds then some ⟨.tn,.lst (cB ds)⟩ else none
structure uj{α:Type}(lt:α→α→Bool):Prop where
 irr:∀a,lt a a=false
 tr:∀a b c,lt a b=true→lt b c=true→lt a c=true
 tot:∀a b,lt a b=false→lt b a=false→a=b
theorem NS:uj ltI:=⟨λa=>by simp[ltI],λa b c h1 h2=>by simp[ltI] at*;omega,λa b h1 h2=>by simp[ltI] at*;omega⟩
section
variable{α:Type} [DecidableEq α]{lt:α→α→Bool}
theorem uj.lex(L:uj lt):uj (fu lt):=by
 refine⟨λa=> ?_,λa=> ?_,λa=> ?_⟩
 ·induction a with
  |nil=>rfl
  |cons x xs ih=>simp[fu,ih]
 ·induction a with
  |nil=>
   intro b c h1 h2
   cases c with
   |nil=>cases b<;>simp[fu] at h1 h2
   |cons z zs=>rfl
  |cons x xs ih=>
   intro b c h1 h2
   cases b with
   |nil=>simp[fu] at h1
   |cons y ys=>
    cases c with
    |nil=>simp[fu] at h2
    |cons z zs=>
     unfold fu at h1 h2⊢
     by_cases e1:x=y
     ·subst e1
      rw[Gag rfl] at h1
      by_cases e2:x=z
      ·subst e2
       rw[Gag rfl] at h2⊢
       exact ih ys zs h1 h2
      ·rw[Gae e2] at h2⊢;exact h2
     ·rw[Gae e1] at h1
      by_cases e2:y=z
      ·subst e2
       rw[Gae e1];exact h1
      ·rw[Gae e2] at h2
       by_cases e3:x=z
       ·subst e3
        have:=L.tr x y x h1 h2
        rw[L.irr] at this;cases this
       ·rw[Gae e3];exact L.tr x y z h1 h2
 ·induction a with
  |nil=>
   intro b h1 h2
   cases b with
   |nil=>rfl
   |cons y ys=>simp[fu] at h1
  |cons x xs ih=>
   intro b h1 h2
   cases b with
   |nil=>simp[fu] at h2
   |cons y ys=>
    unfold fu at h1 h2
    by_cases e:x=y
    ·subst e
     rw[Gag rfl] at h1 h2
     rw[ih ys h1 h2]
    ·rw[Gae e] at h1
     rw[Gae (GaZ e)] at h2
     exact absurd (L.tot x y h1 h2) e
theorem uj.nt(L:uj lt){k x y:α}(h1:lt k y=true)(h2:lt x y=false):lt k x=true:=by
 cases h:lt y x with
 |true=>exact L.tr k y x h1 h
 |false=>rw[L.tot x y h2 h];exact h1
theorem uj.NT(L:uj lt){x y:α}(h:lt x y=true):lt y x=false:=by
 cases q:lt y x with
 |false=>rfl
 |true=>have:=L.tr x y x h q;rw[L.irr] at this;cases this
end
theorem Cr:uj ltC:=NS.lex.lex
noncomputable def rank(cs:List (List (List Int)))(i:Nat):Int:=((cs.filter λc=>ltC c (cs[i]?.getD [])).length:Nat)
theorem mZ{α:Type}{p q:α→Bool}:∀{l:List α},(∀x∈l,p x=true→q x=true)→(l.filter p).length≤(l.filter q).length
 |[],_=>Gap _
 |x::l,h=>by
  have ih:=mZ (l:=l) λy hy=>h y (Gaf _ hy)
  have hx:=h x Gak
  cases hp:p x with
  |false=>
   rw[Gbi,hp]
   simp only[GaD,Gbg]
   refine Gbt ih ?_
   rw[Gbi]
   split
   ·rw[GaF];omega
   ·exact Gap _
  |true=>rw[Gbi,Gbi,hp,hx hp];simp;exact ih
theorem mz{α:Type}{p q:α→Bool}:∀{l:List α} {z:α},z∈l→p z=false→q z=true→(∀x∈l,p x=true→q x=true)→(l.filter p).length<(l.filter q).length
 |[],z,hz,_,_,_=>by cases hz
 |x::l,z,hz,h1,h2,h=>by
  rcases Gay.mp hz with e|hz
  ·subst e
   have:=mZ (l:=l) (p:=p) (q:=q) λy hy=>h y (Gaf _ hy)
   rw[Gbi,Gbi,h1,h2]
   simp;omega
  ·have ih:=mz hz h1 h2 λy hy=>h y (Gaf _ hy)
   have hx:=h x Gak
   cases hp:p x with
   |false=>
    rw[Gbi,hp]
    simp only[GaD,Gbg]
    rw[Gbi]
    split
    ·rw[GaF];omega
    ·exact ih
   |true=>rw[Gbi,Gbi,hp,hx hp];simp;exact ih
theorem Bf{cs:List (List (List Int))}{i j:Nat}(hi:i<cs.length)(hj:j<cs.length):decide (rank cs i<rank cs j)=ltC cs[i] cs[j]:=by
 unfold rank
 rw[Gaa hi,Gaa hj]
 simp only[Option.getD_some]
 cases h:ltC cs[i] cs[j] with
 |true=>
  refine GaG (Int.ofNat_lt.mpr ?_)
  exact mz (z:=cs[i]) (GaB hi) (Cr.irr _) h λc _ hc=>Cr.tr _ _ _ hc h
 |false=>
  refine GaH (Int.not_lt.mpr (Int.ofNat_le.mpr ?_))
  exact mZ λc _ hc=>Cr.nt hc h
def fK(ds:List D):Prop:=ds.Pairwise λa b=>ltC (code b) (code a)=false
theorem oC(d:D):∀es:List D,(Cp d es).Perm (d::es)
 |[]=>List.Perm.refl _
 |e::es=>by
  unfold Cp
  split
  ·exact List.Perm.refl _
  ·exact((oC d es).cons e).trans (List.Perm.swap d e es)
theorem fM:∀ds:List D,(cB ds).Perm ds
 |[]=>List.Perm.refl _
 |d::ds=>(oC d _).trans ((fM ds).cons d)
theorem pk(d:D):∀{es:List D},fK es→fK (Cp d es)
 |[],_=>GbS _ _
 |e::es,h=>by
  have h' :=Gbl.mp h
  unfold Cp
  split
  ·rename_i c
   refine Gbl.mpr ⟨λb hb=> ?_,h⟩
   rcases Gay.mp hb with q|q
   ·subst q;exact Cr.NT c
   ·cases z:ltC (code b) (code d) with
    |false=>rfl
    |true=>have:=Cr.tr _ _ _ z c;rw[h'.1 b q] at this;cases this
  ·rename_i c
   refine Gbl.mpr ⟨λb hb=> ?_,pk d h'.2⟩
   rcases Gay.mp ((oC d es).mem_iff.mp hb) with q|q
   ·subst q;simpa using c
   ·exact h'.1 b q
theorem fU:∀ds:List D,fK (cB ds)
 |[]=>List.Pairwise.nil
 |d::ds=>pk d (fU ds)
theorem jE:∀{xs ys:List D},xs.Perm ys→fK xs→fK ys→(∀a∈xs,∀b∈xs,code a=code b→a=b)→xs=ys
 |[],ys,hp,_,_,_=>(List.nil_perm.mp hp).symm
 |x::xs,ys,hp,hx,hy,hi=>by
  cases ys with
  |nil=>exact absurd (List.perm_nil.mp hp) (by simp)
  |cons y ys=>
   have px:=Gbl.mp hx
   have py:=Gbl.mp hy
   have e:x=y:=by
    have mx:x∈y::ys:=hp.mem_iff.mp Gak
    have my:y∈x::xs:=hp.mem_iff.mpr Gak
    rcases Gay.mp mx with q|q
    ·exact q
    ·rcases Gay.mp my with r|r
     ·exact r.symm
     ·exact hi x Gak y my (Cr.tot _ _ (py.1 x q) (px.1 y r)).symm.symm
   subst e
   rw[jE (List.perm_cons x|>.mp hp) px.2 py.2 λa ha b hb=>hi a (Gaf _ ha) b (Gaf _ hb)]
open PySem
@[simp] noncomputable def fA:Nat→List D→List D
 |_,[]=>[]
 |i,x::xs=> .tup [.int i,x]::fA (i+1) xs
@[simp] noncomputable def Bg(f:DE):DI:=λenv=>(f env).bind λr=>if r.k= .to then none else match r.d with
 | .lst xs=>some (fA 0 xs)
 | .tup xs=>some (fA 0 xs)
 |_=>none
theorem jK:∀(i:Nat) (xs:List D),(fA i xs).length=xs.length
 |_,[]=>rfl
 |i,x::xs=>by simp[jK (i+1) xs]
theorem jL:∀(k:Nat) (xs:List D) (i:Nat),(fA k xs)[i]? =(xs[i]?).map λx=> .tup [.int ((k+i:Nat)),x]
 |_,[],i=>by simp
 |k,x::xs,i=>by
  cases i with
  |zero=>simp
  |succ i=>
   simp only[fA,GcT]
   rw[jL (k+1) xs i,show k+1+i=k+(i+1) by omega]
open PySem
open PySem
noncomputable def gq{α:Type}(xs:List α)(i:Int)(y:α):List α:=xs.take (if i<0 then(i+(xs.length:Int)).toNat else min i.toNat xs.length)++y::xs.drop (if i<0 then(i+(xs.length:Int)).toNat else min i.toNat xs.length)
theorem sT{α:Type}(xs:List α)(i:Int)(y:α):(gq xs i y).length=xs.length+1:=by
 unfold gq
 rw[Gav,GaF,Gcj,GbV]
 omega
theorem An{α:Type}(xs:List α)(i:Int)(y:α):(gq xs i y).Perm (y::xs):=by
 unfold gq
 refine List.perm_middle.trans ?_
 rw[Gbc]
@[simp] noncomputable def Ma(i:Nat)(k v:DE):DS:=λenv=>(k env).bind λx=>(v env).bind λr=>(ownAt i env).bind λd=>match d,x.d with
 | .lst xs,.int j=>if r.free&&(decide (xs.length<ah)&&bU j) then some (.nx (env.set i (some (.own (.lst (gq xs j r.d)))))) else none
 |_,_=>none
open PySem
noncomputable def mmD(best:Int→List Int→Int)(dv:D)(d:D):Option RV:=(kQ d).bind λds=>(Bc ds).map λns=>match ns with
 |[]=> ⟨.c,dv⟩
 |n::ns=> ⟨.c,.int (best n ns)⟩
@[simp] noncomputable def mmE(best:Int→List Int→Int)(dv:D)(f:DE):DE:=λenv=>(f env).bind λr=>mmD best dv r.d
open PySem
noncomputable def isInt:D→Bool
 | .int _=>true
 |_=>false
noncomputable def unI:D→Int
 | .int i=>i
 |_=>0
noncomputable def Jy:Key→D
 | .inl i=> .int i
 | .inr x=> .str x
open PySem
noncomputable def Ct:D→D→Option (Option D)
 | .dK kvs,k=>(keyOf k).map λk=>look kvs k
 | .dT kvs,.tup ks=>(keysOf ks).map λk=>look kvs k
 |_,_=>none
@[simp] noncomputable def GC(o k d:DE):DE:=λenv=>(o env).bind λx=>(k env).bind λy=>(d env).bind λr=>if r.k= .c then(Ct x.d y.d).map λv=> ⟨.c,v.getD r.d⟩ else none
@[simp] theorem Nk{kvs:List (List Key×D)}{ks:List D}:Ct (.dT kvs) (.tup ks)=(keysOf ks).map λk=>look kvs k:=rfl
open PySem
open PySem
noncomputable def bM(kvs:List (List Key×D)):List D:=kvs.map λp=> .tup [.tup (p.1.map Jy),p.2]
@[simp] noncomputable def DX(vw:List (List Key×D)→List D)(f:DE):DI:=λenv=>(f env).bind λr=>if r.k= .tn then match r.d with
 | .dT kvs=>some (vw kvs)
 |_=>none
 else none
@[simp] noncomputable def Mb(i:Nat)(env:Env):Bool:=(List.range env.length).all λj=>j==i||match env[j]? with
 |some (some (.bor _))=>false
 |_=>true
@[simp] noncomputable def dictAt(i:Nat)(env:Env):Option (List (List Key×D)):=match env[i]? with
 |some (some (.own (.dT kvs)))=>some kvs
 |some (some (.lok (.dT kvs)))=>some kvs
 |some (some (.bor (.dT kvs)))=>if Mb i env then some kvs else none
 |_=>none
@[simp] noncomputable def oD(vw:List (List Key×D)→List D)(i n:Nat)(aT:List Nat)(g:DG)(t:DT)(f:DE):DE:=λenv=>(dictAt i env).bind λkvs=>
 if(vw kvs).length≤ah then(cn g t f (vw kvs) (compEnv n aT (env.set i none))).map λrs=> ⟨.tn,.lst rs⟩ else none
open PySem
open PySem
open PySem
open PySem
open PySem
noncomputable abbrev DN:=Env→List (List D)→Option (Env×List (List D))
@[simp] noncomputable def Bh(env:Env):Bool:=env.all λz=>match z with
 |some (.bor _)=>false
 |_=>true
open PySem
noncomputable def fV:List D→Option RV:=one λds=>if decide (ds.length<1000000)&&keysOk ds then some ⟨.tn,.lst (cB ds)⟩ else none
open PySem
noncomputable def dd1(ks:List Int)(k:Int):List Int:=if k∈ks then ks else ks++[k]
noncomputable def ddF(ns:List Int):List Int:=ns.foldl dd1 []
open PySem
noncomputable abbrev Rws:=List (List Key×D)
noncomputable abbrev DM:=Env→Rws→Option (Env×Rws)
@[simp] noncomputable def Mc(f g:DM):DM:=λenv rows=>(f env rows).bind λq=>g q.1 q.2
@[simp] noncomputable def setM(j:Nat)(f:DE):DM:=λenv rows=>(f env).bind λr=>match r.k with
 | .c=>some (env.set j (some (.sh r.d)),rows)
 |_=>none
noncomputable def DY(kvs:Rws)(k:List Key)(d:D):Option Rws:=if kvs.length<ah then match kvs.findIdx? (λp=>decide (p.1=k)) with
 |some j=>match kvs[j]? with
  |some (_,.lst ds)=>if ds.length<ah then some (kvs.set j (k,.lst (ds++[d]))) else none
  |_=>none
 |none=>some (kvs++[(k,.lst [d])])
 else none
@[simp] noncomputable def Md(k f:DE):DM:=λenv rows=>(k env).bind λy=>(f env).bind λr=>match y.d with
 | .tup ks=>if r.d.imm&&Bh env then(keysOf ks).bind λk=>(DY rows k r.d).map λrows' =>(env,rows') else none
 |_=>none
@[simp] noncomputable def nF(j:Nat)(f:DM):List D→DM
 |[],env,rows=>some (env,rows)
 |d::ds,env,rows=>(f (env.set j (some (.sh d))) rows).bind λq=>nF j f ds q.1 q.2
@[simp] noncomputable def Iw(j:Nat)(e:DE)(f:DM):DM:=λenv rows=>(e env).bind λr=>match r.d with
 | .tup xs=>if aN xs then nF j f xs env rows else none
 |_=>none
@[simp] noncomputable def DZ(i:Nat)(f:DM):DS:=λenv=>(f (env.set i none) []).bind λq=>some (.ret (.dT q.2))
open PySem PySem.Spec PyProof.Rows L2
noncomputable abbrev aD:=PySem.W.Frag
noncomputable abbrev St:=L2.St
def isT:HO→Prop
 | .tup _=>True
 | .frz _ _=>True
 |_=>False
def Kl(K:aD)(a:Addr)(xs:List V):Prop:=∃(o:Obj) (its:Array Value) (n:Nat),K.lookup a=some o∧o.cls= .type "list"∧o.dict=none∧o.data= .seq its n∧its.size≤sizeLine∧Vals xs its.toList
def Scr(K:aD)(H:Hp)(a:Addr)(ns:List Int):Prop:=(∃o,H a=some (.frz o (.lst (ns.map V.int))))∨Kl K a (ns.map V.int)
inductive Rep (K:aD) (F:Addr→Prop) (H:Hp):D→V→Prop where
 |non:Rep K F H .non .non
 |bl (b:Bool):Rep K F H (.bl b) (.bl b)
 |int (i:Int):Rep K F H (.int i) (.int i)
 |str (x:Str):Rep K F H (.str x) (.str x)
 |tup {a:Addr} {vs:List V} {ds:List D} (h:H a=some (.tup vs)) (l:ds.length=vs.length) (r:∀(i:Nat) d v,ds[i]? =some d→vs[i]? =some v→Rep K F H d v):Rep K F H (.tup ds) (.ref a)
 |lst {a:Addr} {vs:List V} {ds:List D} (f:F a) (h:Rd H a (.lst vs)) (l:ds.length=vs.length) (r:∀(i:Nat) d v,ds[i]? =some d→vs[i]? =some v→Rep K F H d v):Rep K F H (.lst ds) (.ref a)
 |scr {a:Addr} {ns:List Int} (h:Scr K H a ns):Rep K F H (.scr ns) (.ref a)
 |dK {a:Addr} {ws:List (Key×V)} {kvs:List (Key×D)} (f:F a) (h:H a=some (.dK ws)) (l:kvs.map (·.1)=ws.map (·.1)) (r:∀(i:Nat) p q,kvs[i]? =some p→ws[i]? =some q→Rep K F H p.2 q.2):Rep K F H (.dK kvs) (.ref a)
 |dT {a:Addr} {ws:List (List Key×V)} {kvs:List (List Key×D)} (f:F a) (h:H a=some (.dT ws)) (l:kvs.map (·.1)=ws.map (·.1)) (r:∀(i:Nat) p q,kvs[i]? =some p→ws[i]? =some q→Rep K F H p.2 q.2):Rep K F H (.dT kvs) (.ref a)
def aX(K:aD)(F:Addr→Prop)(H:Hp)(ds:List D)(vs:List V):Prop:=ds.length=vs.length∧∀(i:Nat) d v,ds[i]? =some d→vs[i]? =some v→Rep K F H d v
def b7{κ:Type}(K:aD)(F:Addr→Prop)(H:Hp)(kvs:List (κ×D))(ws:List (κ×V)):Prop:=kvs.map (·.1)=ws.map (·.1)∧∀(i:Nat) p q,kvs[i]? =some p→ws[i]? =some q→Rep K F H p.2 q.2
inductive Inn (K:aD) (F:Addr→Prop) (H:Hp):D→V→Prop where
 |non:Inn K F H .non .non
 |bl (b:Bool):Inn K F H (.bl b) (.bl b)
 |int (i:Int):Inn K F H (.int i) (.int i)
 |str (x:Str):Inn K F H (.str x) (.str x)
 |tup {a:Addr} {vs:List V} {ds:List D} (h:H a=some (.tup vs)) (r:aX K F H ds vs):Inn K F H (.tup ds) (.ref a)
 |lst {a:Addr} {vs:List V} {ds:List D} (h:Rd H a (.lst vs)) (r:aX K F H ds vs):Inn K F H (.lst ds) (.ref a)
 |scr {a:Addr} {ns:List Int} (h:Scr K H a ns):Inn K F H (.scr ns) (.ref a)
 |dK {a:Addr} {ws:List (Key×V)} {kvs:List (Key×D)} (h:H a=some (.dK ws)) (r:b7 K F H kvs ws):Inn K F H (.dK kvs) (.ref a)
 |dT {a:Addr} {ws:List (List Key×V)} {kvs:List (List Key×D)} (h:H a=some (.dT ws)) (r:b7 K F H kvs ws):Inn K F H (.dT kvs) (.ref a)
section
variable{K:aD}{F F' :Addr→Prop}{H H' :Hp}{d:D}{v:V}{ds:List D}{vs:List V}
theorem Rep.inn(h:Rep K F H d v):Inn K F H d v:=by
 cases h with
 |non=>exact .non
 |bl b=>exact .bl b
 |int i=>exact .int i
 |str x=>exact .str x
 |tup h l r=>exact .tup h ⟨l,r⟩
 |lst f h l r=>exact .lst h ⟨l,r⟩
 |scr h=>exact .scr h
 |dK f h l r=>exact .dK h ⟨l,r⟩
 |dT f h l r=>exact .dT h ⟨l,r⟩
theorem Inn.rep(h:Inn K F H d v)(hf:∀a,v= .ref a→d.top=true→F a):Rep K F H d v:=by
 cases h with
 |non=>exact .non
 |bl b=>exact .bl b
 |int i=>exact .int i
 |str x=>exact .str x
 |tup h r=>exact .tup h r.1 r.2
 |lst h r=>exact .lst (hf _ rfl rfl) h r.1 r.2
 |scr h=>exact .scr h
 |dK h r=>exact .dK (hf _ rfl rfl) h r.1 r.2
 |dT h r=>exact .dT (hf _ rfl rfl) h r.1 r.2
def iP(F:Addr→Prop)(H H' :Hp):Prop:=∀b o,H b=some o→(F b∨isT o)→H' b=some o
theorem iP.of_same(h:c0 H H'):iP F H H' :=λb o e _=>h b o e
theorem iP.tup{a:Addr}(s:iP F H H')(h:H a=some (.tup vs)):H' a=some (.tup vs):=s _ _ h (.inr trivial)
theorem iP.scr{a:Addr}{ns:List Int}(s:iP F H H')(h:Scr K H a ns):Scr K H' a ns:=by
 rcases h with⟨o,h⟩|h
 ·exact .inl ⟨o,s _ _ h (.inr trivial)⟩
 ·exact .inr h
theorem iP.rd{a:Addr}{u:HO}(s:iP F H H')(f:F a)(h:Rd H a u):Rd H' a u:=by
 rcases h with h| ⟨o,h⟩
 ·exact .inl (s _ _ h (.inl f))
 ·exact .inr ⟨o,s _ _ h (.inl f)⟩
theorem Rd.there{a:Addr}{u:HO}(h:Rd H a u):H a≠none:=by
 rcases h with h| ⟨o,h⟩<;>rw[h]<;>simp
theorem Rep.gen(s:iP F H H')(hF:∀b,F b→H b≠none→F' b)(h:Rep K F H d v):Rep K F' H' d v:=by
 induction h with
 |non=>exact .non
 |bl b=>exact .bl b
 |int i=>exact .int i
 |str x=>exact .str x
 |tup h l r ih=>exact .tup (s.tup h) l ih
 |lst f h l r ih=>exact .lst (hF _ f (Rd.there h)) (s.rd f h) l ih
 |scr h=>exact .scr (s.scr h)
 |dK f h l r ih=>exact .dK (hF _ f (by rw[h];simp)) (s _ _ h (.inl f)) l ih
 |dT f h l r ih=>exact .dT (hF _ f (by rw[h];simp)) (s _ _ h (.inl f)) l ih
theorem Rep.same(s:c0 H H')(h:Rep K F H d v):Rep K F H' d v:=h.gen (.of_same s) λ_ f _=>f
theorem Rep.imp(hF:∀b,F b→F' b)(h:Rep K F H d v):Rep K F' H d v:=h.gen (.of_same λ_ _ e=>e) λb f _=>hF b f
theorem aX.gen(s:iP F H H')(hF:∀b,F b→H b≠none→F' b)(h:aX K F H ds vs):aX K F' H' ds vs:=⟨h.1,λi d v e1 e2=>(h.2 i d v e1 e2).gen s hF⟩
theorem b7.gen{κ:Type}{kvs:List (κ×D)}{ws:List (κ×V)}(s:iP F H H')(hF:∀b,F b→H b≠none→F' b)(h:b7 K F H kvs ws):b7 K F' H' kvs ws:=⟨h.1,λi p q e1 e2=>(h.2 i p q e1 e2).gen s hF⟩
theorem Inn.gen(s:iP F H H')(hF:∀b,F b→H b≠none→F' b)(ht:∀a,v= .ref a→d.top=true→∀o,H a=some o→H' a=some o)(h:Inn K F H d v):Inn K F' H' d v:=by
 have rd:∀{a:Addr} {u:HO},(∀o,H a=some o→H' a=some o)→Rd H a u→Rd H' a u:=λk h=>by
  rcases h with h| ⟨o,h⟩
  ·exact .inl (k _ h)
  ·exact .inr ⟨o,k _ h⟩
 cases h with
 |non=>exact .non
 |bl b=>exact .bl b
 |int i=>exact .int i
 |str x=>exact .str x
 |tup h r=>exact .tup (s.tup h) (r.gen s hF)
 |lst h r=>exact .lst (rd (ht _ rfl rfl) h) (r.gen s hF)
 |scr h=>exact .scr (s.scr h)
 |dK h r=>exact .dK (ht _ rfl rfl _ h) (r.gen s hF)
 |dT h r=>exact .dT (ht _ rfl rfl _ h) (r.gen s hF)
theorem Inn.same(s:c0 H H')(h:Inn K F H d v):Inn K F H' d v:=h.gen (.of_same s) (λ_ f _=>f) λ_ _ _ o e=>s _ o e
theorem Inn.imp(hF:∀b,F b→F' b)(h:Inn K F H d v):Inn K F' H d v:=h.gen (.of_same λ_ _ e=>e) (λb f _=>hF b f) λ_ _ _ _ e=>e
theorem Inn.any(h:Inn K F H d v):Rep K (λ_=>True) H d v:=(h.imp (F' :=λ_=>True) λ_ _=>trivial).rep λ_ _ _=>trivial
theorem qj{ds:List D}(h:aN ds=true):∀(i:Nat) d,ds[i]? =some d→d.imm=true:=by
 induction ds with
 |nil=>intro i d e;simp at e
 |cons x xs ih=>
  unfold aN at h
  rw[Gau] at h
  intro i d e
  cases i with
  |zero=>simp at e;subst e;exact h.1
  |succ i=>exact ih h.2 i d (by simpa using e)
theorem Rep.imm(h:Rep K F H d v)(hd:d.imm=true):Rep K F' H d v:=by
 induction h with
 |non=>exact .non
 |bl b=>exact .bl b
 |int i=>exact .int i
 |str x=>exact .str x
 |tup h l r ih=>
  unfold D.imm at hd
  exact .tup h l λi d v e1 e2=>ih i d v e1 e2 (qj hd i d e1)
 |lst f h l r ih=>simp[D.imm] at hd
 |scr h=>exact .scr h
 |dK f h l r ih=>simp[D.imm] at hd
 |dT f h l r ih=>simp[D.imm] at hd
theorem Inn.imm(h:Inn K F H d v)(hd:d.imm=true):Rep K F' H d v:=by
 refine Rep.imm (h.rep λa _ ht=> ?_) hd
 cases d<;>simp[D.top] at ht<;>simp[D.imm] at hd
theorem aX.nil:aX K F H [] []:=⟨rfl,λi d v e=>by simp at e⟩
theorem aX.cV(h:aX K F H [] vs):vs=[]:=List.eq_nil_of_length_eq_zero h.1.symm
theorem aX.cons(h:Rep K F H d v)(r:aX K F H ds vs):aX K F H (d::ds) (v::vs):=by
 refine⟨by simp[r.1],λi x u e1 e2=> ?_⟩
 cases i with
 |zero=>simp at e1 e2;subst e1;subst e2;exact h
 |succ i=>exact r.2 i x u (by simpa using e1) (by simpa using e2)
theorem aX.cons_inv(h:aX K F H (d::ds) vs):∃v r,vs=v::r∧Rep K F H d v∧aX K F H ds r:=by
 cases vs with
 |nil=>exact absurd h.1 (by simp)
 |cons v r=>exact⟨v,r,rfl,h.2 0 d v rfl rfl,by simpa using h.1,λi x u e1 e2=>h.2 (i+1) x u (by simpa using e1) (by simpa using e2)⟩
theorem aX.append:∀{ds es:List D} {vs us:List V},aX K F H ds vs→aX K F H es us→aX K F H (ds++es) (vs++us)
 |[],es,vs,us,h,r=>by rw[h.cV];exact r
 |d::ds,es,vs,us,h,r=>by
  obtain⟨v,w,rfl,h1,h2⟩:=h.cons_inv
  exact .cons h1 (h2.append r)
theorem aX.take(n:Nat)(h:aX K F H ds vs):aX K F H (ds.take n) (vs.take n):=by
 refine⟨by simp[h.1],λi x u e1 e2=> ?_⟩
 by_cases hi:i<n
 ·rw[GaT hi] at e1 e2;exact h.2 i x u e1 e2
 ·rw[Gbn (by simp;omega)] at e1;cases e1
theorem aX.drop(n:Nat)(h:aX K F H ds vs):aX K F H (ds.drop n) (vs.drop n):=by
 refine⟨by simp[h.1],λi x u e1 e2=> ?_⟩
 rw[Gbh] at e1 e2
 exact h.2 _ x u e1 e2
theorem aX.reverse(h:aX K F H ds vs):aX K F H ds.reverse vs.reverse:=by
 refine⟨by simp[h.1],λi x u e1 e2=> ?_⟩
 have hi:i<ds.length:=by have:=(Gac.mp e1).1;simpa using this
 rw[List.getElem?_reverse hi] at e1
 rw[List.getElem?_reverse (by rw[←h.1];exact hi),←h.1] at e2
 exact h.2 _ x u e1 e2
theorem aX.set(h:aX K F H ds vs)(r:Rep K F H d v)(i:Nat):aX K F H (ds.set i d) (vs.set i v):=by
 refine⟨by simp[h.1],λj x u e1 e2=> ?_⟩
 by_cases hj:i=j
 ·subst hj
  have hi:i<ds.length:=by have:=(Gac.mp e1).1;simpa using this
  rw[GaN hi] at e1
  rw[GaN (by rw[←h.1];exact hi)] at e2
  cases e1;cases e2;exact r
 ·rw[Gab hj] at e1 e2
  exact h.2 j x u e1 e2
theorem aX.get{i:Nat}(h:aX K F H ds vs)(e:ds[i]? =some d):∃v,vs[i]? =some v∧Rep K F H d v:=by
 have hi:=(Gac.mp e).1
 have hi' :i<vs.length:=by rw[←h.1];exact hi
 exact⟨vs[i],by simp[hi'],h.2 i d _ e (by simp[hi'])⟩
theorem aX.imm(h:aX K F H ds vs)(hd:aN ds=true):aX K F' H ds vs:=⟨h.1,λi d v e1 e2=>(h.2 i d v e1 e2).imm (qj hd i d e1)⟩
end
def br:Option (Option Slot)→Prop
 |some (some (.own _))=>True
 |some (some (.lok _))=>True
 |some (some (.bor _))=>True
 |_=>False
def vC:Option (Option Slot)→Prop
 |some (some (.own _))=>True
 |some (some (.lok _))=>True
 |_=>False
def isO:Option (Option Slot)→Prop
 |some (some (.own _))=>True
 |_=>False
def uk:Option (Option Slot)→Prop
 |some (some (.lok _))=>True
 |some (some (.bor _))=>True
 |_=>False
theorem sU{x:Option (Option Slot)}(h:br x):isO x∨uk x:=by
 match x,h with
 |some (some (.own _)),_=>exact .inl trivial
 |some (some (.lok _)),_=>exact .inr trivial
 |some (some (.bor _)),_=>exact .inr trivial
theorem uk.top{x:Option (Option Slot)}(h:uk x):br x:=by
 match x,h with
 |some (some (.lok _)),_=>trivial
 |some (some (.bor _)),_=>trivial
theorem isO.ol{x:Option (Option Slot)}(h:isO x):vC x:=by
 match x,h with
 |some (some (.own _)),_=>trivial
theorem vC.top{x:Option (Option Slot)}(h:vC x):br x:=by
 match x,h with
 |some (some (.own _)),_=>trivial
 |some (some (.lok _)),_=>trivial
def Cln(Bad:Addr→Prop)(env:Env)(σ:St)(a:Addr):Prop:=¬Bad a∧∀i:Nat,br env[i]? →σ[i]? ≠some (some (V.ref a))
def isW:HO→Prop
 | .lst _=>True
 | .dK _=>True
 | .dT _=>True
 |_=>False
def Wr(H:Hp)(a:Addr):Prop:=∃o,H a=some o∧isW o
def Ow(env:Env)(σ:St)(a:Addr):Prop:=∃i:Nat,isO env[i]? ∧σ[i]? =some (some (.ref a))
structure aG(K:aD)(H₀:Hp)(Bad:Addr→Prop)(env:Env)(σ:St)(H:Hp):Prop where
 same:c0 H₀ H
 len:env.length=σ.length
 bad:∀a,Bad a→H a≠none
 sh:∀(i:Nat) d,env[i]? =some (some (.sh d))→∃v,σ[i]? =some (some v)∧Rep K (Cln Bad env σ) H d v
 ow:∀(i:Nat) d,(env[i]? =some (some (.own d))∨env[i]? =some (some (.lok d)))→∃a,σ[i]? =some (some (.ref a))∧H₀ a=none∧¬Bad a∧Wr H a∧d.top=true∧Inn K (Cln Bad env σ) H d (.ref a)
 bo:∀(i:Nat) d,env[i]? =some (some (.bor d))→∃a,σ[i]? =some (some (.ref a))∧Wr H a∧d.top=true∧Inn K (Cln Bad env σ) H d (.ref a)
 dj:∀(i j:Nat) a,vC env[i]? →br env[j]? →σ[i]? =some (some (.ref a))→σ[j]? =some (some (.ref a))→i=j
structure Stp(env:Env)(σ:St)(H:Hp)(env' :Env)(σ' :St)(H' :Hp):Prop where
 keep:∀b o,H b=some o→¬Ow env σ b→H' b=some o
 ow:∀b,Ow env' σ' b→Ow env σ b∨H b=none
 lk:∀i:Nat,uk env'[i]? →env'[i]? =env[i]? ∧σ'[i]? =σ[i]?
theorem Stp.refl{env:Env}{σ:St}{H:Hp}:Stp env σ H env σ H:=⟨λ_ _ e _=>e,λ_ h=> .inl h,λ_ _=> ⟨rfl,rfl⟩⟩
theorem Stp.of_same{env:Env}{σ:St}{H H' :Hp}(s:c0 H H'):Stp env σ H env σ H' :=⟨λb o e _=>s b o e,λ_ h=> .inl h,λ_ _=> ⟨rfl,rfl⟩⟩
theorem Stp.trans{e1 e2 e3:Env}{s1 s2 s3:St}{H1 H2 H3:Hp}(a:Stp e1 s1 H1 e2 s2 H2)(b:Stp e2 s2 H2 e3 s3 H3):Stp e1 s1 H1 e3 s3 H3:=by
 refine⟨λc o e n=>b.keep c o (a.keep c o e n) λh=> ?_,λc h=> ?_,λi h=> ?_⟩
 ·rcases a.ow c h with q|q
  ·exact n q
  ·rw[e] at q;cases q
 ·rcases b.ow c h with q|q
  ·exact a.ow c q
  ·by_cases z:Ow e1 s1 c
   ·exact .inl z
   ·right
    cases e:H1 c with
    |none=>rfl
    |some o=>rw[a.keep c o e z] at q;cases q
 ·obtain⟨h1,h2⟩:=b.lk i h
  rw[h1] at h
  obtain⟨h3,h4⟩:=a.lk i h
  exact⟨h1.trans h3,h2.trans h4⟩
section
variable{K:aD}{H₀ H H' H1:Hp}{Bad:Addr→Prop}{env env' :Env}{σ σ' :St}{d:D}{v:V}{a:Addr}{i:Nat}
theorem Wr.same(s:c0 H H')(w:Wr H a):Wr H' a:=let⟨o,h1,h2⟩:=w;⟨o,s a o h1,h2⟩
theorem Wr.there(w:Wr H a):H a≠none:=let⟨o,h1,_⟩:=w;by rw[h1];simp
theorem aG.mono(E:aG K H₀ Bad env σ H)(s:c0 H H'):aG K H₀ Bad env σ H' where
 same:=E.same.trans s
 len:=E.len
 bad:=λa h e=>E.bad a h (s.free e)
 sh:=λi d e=>let⟨v,h1,h2⟩:=E.sh i d e;⟨v,h1,h2.same s⟩
 ow:=λi d e=>let⟨a,h1,h2,h3,h4,h5,h6⟩:=E.ow i d e;⟨a,h1,h2,h3,h4.same s,h5,h6.same s⟩
 bo:=λi d e=>let⟨a,h1,h2,h3,h4⟩:=E.bo i d e;⟨a,h1,h2.same s,h3,h4.same s⟩
 dj:=E.dj
theorem aG.Me(E:aG K H₀ Bad env σ H)(h:br env[i]?):∃d a,d.top=true∧σ[i]? =some (some (.ref a))∧Wr H a∧Inn K (Cln Bad env σ) H d (.ref a):=by
 match e:env[i]?,h with
 |some (some (.own d)),_=>obtain⟨a,h1,_,_,h4,h5,h6⟩:=E.ow i d (.inl e);exact⟨d,a,h5,h1,h4,h6⟩
 |some (some (.lok d)),_=>obtain⟨a,h1,_,_,h4,h5,h6⟩:=E.ow i d (.inr e);exact⟨d,a,h5,h1,h4,h6⟩
 |some (some (.bor d)),_=>obtain⟨a,h1,h4,h5,h6⟩:=E.bo i d e;exact⟨d,a,h5,h1,h4,h6⟩
theorem aG.Iy(E:aG K H₀ Bad env σ H)(h:br env[i]?)(e:σ[i]? =some (some (.ref a))):Wr H a:=by
 obtain⟨d,b,h1,h2,h3,h4⟩:=E.Me h
 rw[e] at h2;cases h2
 exact h3
theorem aG.nG(E:aG K H₀ Bad env σ H)(h:br env[i]?)(e:σ[i]? =some (some (.ref a))):H a≠none:=(E.Iy h e).there
theorem aG.um(E:aG K H₀ Bad env σ H)(h:H a=none):Cln Bad env σ a:=⟨λb=>E.bad a b h,λi t e=>E.nG t e h⟩
def jF(K:aD)(H₀:Hp)(Bad:Addr→Prop)(env:Env)(σ:St)(H H' :Hp)(r:RV)(v:V):Prop:=
 match r.k with
 | .c=>Rep K (Cln Bad env σ) H' r.d v
 | .tn=>∃a,v= .ref a∧H a=none∧Wr H' a∧r.d.top=true∧Inn K (λb=>Cln Bad env σ b∧b≠a) H' r.d v
 | .to=>∃a,v= .ref a∧H₀ a=none∧Wr H' a∧r.d.top=true∧Inn K (Cln Bad env σ) H' r.d v
 | .tb=>Inn K (Cln Bad env σ) H' r.d v∧∀a,v= .ref a→r.d.top=true→¬Ow env σ a
theorem jF.inn{r:RV}(h:jF K H₀ Bad env σ H H' r v):Inn K (Cln Bad env σ) H' r.d v:=by
 obtain⟨k,d⟩:=r
 cases k with
 |c=>exact Rep.inn h
 |tn=>obtain⟨_,_,_,_,_,h⟩:=h;exact h.imp λ_ z=>z.1
 |to=>obtain⟨_,_,_,_,_,h⟩:=h;exact h
 |tb=>exact h.1
theorem jF.rep{r:RV}(h:jF K H₀ Bad env σ H H' r v)(E:aG K H₀ Bad env σ H)(hf:r.free=true):Rep K (Cln Bad env σ) H' r.d v:=by
 obtain⟨k,d⟩:=r
 cases k with
 |c=>exact h
 |tn=>
  obtain⟨a,e,h1,_,_,h2⟩:=h
  exact(h2.imp λ_ z=>z.1).rep λb eb _=>by rw[e] at eb;cases eb;exact E.um h1
 |to=>simp[RV.free] at hf
 |tb=>simp[RV.free] at hf
theorem jF.same{r:RV}{H2:Hp}(h:jF K H₀ Bad env σ H H' r v)(s:c0 H' H2):jF K H₀ Bad env σ H H2 r v:=by
 obtain⟨k,d⟩:=r
 cases k with
 |c=>exact Rep.same s h
 |tn=>obtain⟨a,e,h1,w,t,h2⟩:=h;subst e;exact⟨a,rfl,h1,w.same s,t,h2.same s⟩
 |to=>obtain⟨a,e,h1,w,t,h2⟩:=h;subst e;exact⟨a,rfl,h1,w.same s,t,h2.same s⟩
 |tb=>exact⟨h.1.same s,h.2⟩
theorem jF.from{r:RV}(s:c0 H H1)(h:jF K H₀ Bad env σ H1 H' r v):jF K H₀ Bad env σ H H' r v:=by
 obtain⟨k,d⟩:=r
 cases k with
 |c=>exact h
 |tn=>obtain⟨a,e,h1,w,t,h2⟩:=h;exact⟨a,e,s.free h1,w,t,h2⟩
 |to=>exact h
 |tb=>exact h
def sV(K:aD)(H₀ H' :Hp)(d:D)(v:V):Prop:=
 (d.top=true→∃a,v= .ref a∧H₀ a=none∧Wr H' a)∧Inn K (λb=>H₀ b=none∧v≠ .ref b) H' d v
theorem sV.rv(E:aG K H₀ Bad env σ H)(h:sV K H H' d v):jF K H₀ Bad env σ H H' (jY d) v:=by
 obtain⟨h1,h2⟩:=h
 unfold jY
 by_cases t:d.top=true
 ·rw[Gag t]
  obtain⟨a,e,n,w⟩:=h1 t
  subst e
  exact⟨a,rfl,n,w,t,h2.imp λb z=> ⟨E.um z.1,λq=>z.2 (by rw[q])⟩⟩
 ·rw[Gae t]
  exact(h2.imp λb z=>E.um z.1).rep λ_ _ z=>absurd z t
end
open PySem PySem.Spec PyProof.Rows L2
noncomputable def tE(X:Cx)(f:DE):TE:=λσ H Q=>∃H₀ Bad env r,aG X.K H₀ Bad env σ H∧f env=some r∧∀v H',c0 H H' →jF X.K H₀ Bad env σ H H' r v→Q v H'
noncomputable def tT(X:Cx)(t:DT):TT:=λσ H Q=>∃H₀ Bad env b,aG X.K H₀ Bad env σ H∧t env=some b∧∀H',c0 H H' →Q b H'
noncomputable def tA(X:Cx)(a:DA):TA:=λσ H Q=>∃H₀ Bad env rs,aG X.K H₀ Bad env σ H∧a env=some rs∧∀vs H',c0 H H' →Paired (jF X.K H₀ Bad env σ H H') rs vs→Q vs H'
def Mf(X:Cx)(H₀:Hp)(Bad:Addr→Prop)(env:Env)(σ:St)(H:Hp)(E:Ends):Out→Prop
 | .nx e=>∀σ' H',aG X.K H₀ Bad e σ' H' →Stp env σ H e σ' H' →E.nx σ' H'
 | .bk e=>∀σ' H',aG X.K H₀ Bad e σ' H' →Stp env σ H e σ' H' →E.bk σ' H'
 | .ct e=>∀σ' H',aG X.K H₀ Bad e σ' H' →Stp env σ H e σ' H' →E.ct σ' H'
 | .ret d=>∀v H',c0 H₀ H' →sV X.K H₀ H' d v→E.rt v H'
noncomputable def tS(X:Cx)(f:DS):TS:=λE σ H=>∃H₀ Bad env o,aG X.K H₀ Bad env σ H∧f env=some o∧Mf X H₀ Bad env σ H E o
noncomputable def tG(X:Cx)(g:DG):TG:=λv σ H Q=>∃H₀ Bad env d env',aG X.K H₀ Bad env σ H∧g d env=some env' ∧Rep X.K (Cln Bad env σ) H d v∧∀σ' H',aG X.K H₀ Bad env' σ' H' →Stp env σ H env' σ' H' →Q σ' H'
abbrev PEd(X:Cx)(e:Expr)(f:DE):Prop:=PE X e (tE X f)
abbrev PTd(X:Cx)(e:Expr)(t:DT):Prop:=PT X e (tT X t)
abbrev PWd(X:Cx)(e:Expr)(t:DT):Prop:=PW X e (tT X t)
abbrev PAd(X:Cx)(es:List Expr)(a:DA):Prop:=PA X es (tA X a)
abbrev PSd(X:Cx)(st:Stmt)(f:DS):Prop:=PS X st (tS X f)
abbrev kK(X:Cx)(st:List Stmt)(f:DS):Prop:=PSs X st (tS X f)
abbrev PGd(X:Cx)(e:Expr)(g:DG):Prop:=PG X e (tG X g)
section
variable{X:Cx}{e a b c:Expr}{f g h:DE}{t u:DT}{pos:Pos}
theorem _root_.L2.PE.aS{t t' :TE}(h:PE X e t')(i:∀σ H Q,t σ H Q→t' σ H Q):PE X e t:=λpins s σ H Q I q=>h pins s σ H Q I (i σ H Q q)
theorem _root_.L2.PT.aS{t t' :TT}(h:PT X e t')(i:∀σ H Q,t σ H Q→t' σ H Q):PT X e t:=λpins s σ H Q I q=>h pins s σ H Q I (i σ H Q q)
theorem _root_.L2.PW.aS{t t' :TT}(h:PW X e t')(i:∀σ H Q,t σ H Q→t' σ H Q):PW X e t:=λwh pins s σ H Q I q=>h wh pins s σ H Q I (i σ H Q q)
theorem _root_.L2.PA.aS{es:List Expr}{t t' :TA}(h:PA X es t')(i:∀σ H Q,t σ H Q→t' σ H Q):PA X es t:=λpos pins s σ H Q I q=>h pos pins s σ H Q I (i σ H Q q)
theorem _root_.L2.PS.aS{st:Stmt}{t t' :TS}(h:PS X st t')(i:∀D σ H,t D σ H→t' D σ H):PS X st t:=λpins s σ H D I q=>h pins s σ H D I (i D σ H q)
theorem _root_.L2.PSs.aS{st:List Stmt}{t t' :TS}(h:PSs X st t')(i:∀D σ H,t D σ H→t' D σ H):PSs X st t:=λpins s σ H D I q=>h pins s σ H D I (i D σ H q)
theorem _root_.L2.PG.aS{t t' :TG}(h:PG X e t')(i:∀v σ H Q,t v σ H Q→t' v σ H Q):PG X e t:=λpins s σ H v u Q I r q=>h pins s σ H v u Q I r (i v σ H Q q)
theorem bZ{H:Hp}:c0 H H:=λ_ _ e=>e
theorem bind_some{α β:Type}{o:Option α}{k:α→Option β}{y:β}(h:o.bind k=some y):∃x,o=some x∧k x=some y:=Option.bind_eq_some_iff.mp h
theorem cR(i:Nat){x:Str}(hN:X.N[i]? =some x:=by rfl)(hv:Vis X.env.scope x:=by first|exact Or.inl rfl|exact Or.inr (Or.inl rfl)|exact Or.inr (Or.inr rfl))(hd:(x==("__debug__":Str))=false:=by decide)
  (hcd:(x==("__classdict__":Str))=false:=by decide):PEd X (.Name x pos) (vE i):=by
 refine(kL hN hv hd hcd).aS ?_
 rintro σ H Q ⟨H₀,Bad,env,r,E,e,k⟩
 unfold vE at e
 match q:env[i]?,e with
 |some (some (.sh d)),e=>
  cases e
  obtain⟨v,h1,h2⟩:=E.sh i d q
  exact⟨v,h1,k v H bZ h2⟩
 |some (some (.own d)),e=>
  cases e
  obtain⟨a,h1,h2,h3,h4,h5,h6⟩:=E.ow i d (.inl q)
  exact⟨_,h1,k _ H bZ ⟨a,rfl,h2,h4,h5,h6⟩⟩
 |some (some (.lok d)),e=>
  cases e
  obtain⟨a,h1,h2,h3,h4,h5,h6⟩:=E.ow i d (.inr q)
  refine⟨_,h1,k _ H bZ ⟨h6,λb eb _ ⟨j,ho,hj⟩=> ?_⟩⟩
  cases eb
  have:=E.dj j i a ho.ol (by rw[q];trivial) hj h1
  subst this
  rw[q] at ho;exact ho
 |some (some (.bor d)),e=>
  cases e
  obtain⟨a,h1,h4,h5,h6⟩:=E.bo i d q
  refine⟨_,h1,k _ H bZ ⟨h6,λb eb _ ⟨j,ho,hj⟩=> ?_⟩⟩
  cases eb
  have:=E.dj j i a ho.ol (by rw[q];trivial) hj h1
  subst this
  rw[q] at ho;exact ho
theorem a6{i:Int}{j:Nat}:PEd X (.Constant (.int i) j pos) (kE (.int i)):=Dq.aS λσ H Q ⟨_,_,_,_,_,e,k⟩=>by cases e;exact k _ H bZ (.int i)
theorem vD{b:Bool}{j:Nat}:PEd X (.Constant (.bool b) j pos) (kE (.bl b)):=L6.aS λσ H Q ⟨_,_,_,_,_,e,k⟩=>by cases e;exact k _ H bZ (.bl b)
theorem iQ{j:Nat}:PEd X (.Constant .none j pos) (kE .non):=IQ.aS λσ H Q ⟨_,_,_,_,_,e,k⟩=>by cases e;exact k _ H bZ .non
theorem bA{x:Str}{j:Nat}:PEd X (.Constant (.str x) j pos) (kE (.str x)):=IS.aS λσ H Q ⟨_,_,_,_,_,e,k⟩=>by cases e;exact k _ H bZ (.str x)
def RvN(K:aD)(F:Addr→Prop)(H H' :Hp)(r:RV)(v:V):Prop:=
 match r.k with
 | .c=>Rep K F H' r.d v
 | .tn=>∃a,v= .ref a∧H a=none∧Wr H' a∧r.d.top=true∧Inn K (λb=>F b∧b≠a) H' r.d v
 |_=>False
theorem RvN.ok{K:aD}{H₀ H H1 H' :Hp}{Bad:Addr→Prop}{env:Env}{σ:St}{r:RV}{v:V}(h:RvN K (Cln Bad env σ) H1 H' r v)(s:c0 H H1):jF K H₀ Bad env σ H H' r v:=by
 obtain⟨k,d⟩:=r
 cases k with
 |c=>exact h
 |tn=>obtain⟨a,e,h1,w,t,h2⟩:=h;exact⟨a,e,s.free h1,w,t,h2⟩
 |to=>exact(show False from h).elim
 |tb=>exact(show False from h).elim
def OpD(X:Cx)(o:D→D→Option RV)(r:R2):Prop:=∀(F:Addr→Prop) (H:Hp) (dx dy:D) (x y:V) (rv:RV) (Q:VK),Inn X.K F H dx x→Inn X.K F H dy y→o dx dy=some rv→
 (∀v H',c0 H H' →RvN X.K F H H' rv v→Q v H')→r x y H Q
theorem sW{op:Operator}{o:D→D→Option RV}{r:R2}(ho:OpR X (binaryOp op) r)(hd:OpD X o r)(ha:PEd X a f)(hb:PEd X b g):PEd X (.BinOp a op b pos) (opE o f g):=by
 refine(Lh ho ha hb).aS ?_
 rintro σ H Q ⟨H₀,Bad,env,rv,E,e,k⟩
 obtain⟨x,hx,e⟩:=bind_some e
 obtain⟨y,hy,e⟩:=bind_some e
 exact⟨H₀,Bad,env,x,E,hx,λvx H1 s1 R1=> ⟨H₀,Bad,env,y,E.mono s1,hy,λvy H2 s2 R2=>hd _ H2 x.d y.d vx vy rv Q (R1.inn.same s2) R2.inn e λv H3 s3 R3=>
  k v H3 (s1.trans (s2.trans s3)) (R3.ok (s1.trans s2))⟩⟩
theorem Jz{o:D→D→Option RV}{gi:Int→Int→Int}(h:∀dx dy rv,o dx dy=some rv→∃i j,dx= .int i∧dy= .int j∧rv=⟨.c,.int (gi i j)⟩):OpD X o (rI0 λi j=> .int (gi i j)):=by
 intro F H dx dy x y rv Q ix iy e k
 obtain⟨i,j,rfl,rfl,rfl⟩:=h dx dy rv e
 cases ix;cases iy
 exact⟨i,j,rfl,rfl,k _ H bZ (.int _)⟩
theorem Bi{o:D→D→Option RV}{C:Int→Int→Prop}{gi:Int→Int→Int}(h:∀dx dy rv,o dx dy=some rv→∃i j,dx= .int i∧dy= .int j∧C i j∧rv=⟨.c,.int (gi i j)⟩):OpD X o (rI C λi j=> .int (gi i j)):=by
 intro F H dx dy x y rv Q ix iy e k
 obtain⟨i,j,rfl,rfl,hc,rfl⟩:=h dx dy rv e
 cases ix;cases iy
 exact⟨i,j,rfl,rfl,hc,k _ H bZ (.int _)⟩
theorem GF:OpD X kJ (rI0 λi j=> .int (i -j)):=Jz λdx dy rv e=>by
 unfold kJ at e
 split at e
 ·cases e;exact⟨_,_,rfl,rfl,rfl⟩
 ·cases e
theorem GG:OpD X dR (rI Gh λi j=> .int (i*j)):=Bi λdx dy rv e=>by
 unfold dR at e
 split at e
 ·split at e
  ·rename_i i j q
   cases e
   refine⟨i,j,rfl,rfl, ?_,rfl⟩
   unfold ck at q
   rw[GaW] at q
   rcases q with q|q
   ·left;have:=Gaw q;omega
   ·right;have:=Gaw q;omega
  ·cases e
 ·cases e
theorem E5:OpD X mv (rI Lk λi j=> .int (i/j)):=Bi λdx dy rv e=>by
 unfold mv at e
 split at e
 ·split at e
  ·rename_i i j q
   cases e
   exact⟨i,j,rfl,rfl,q,rfl⟩
  ·cases e
 ·cases e
theorem GH:OpD X qA (rI (λ_ j=>0<j) λi j=> .int (i%j)):=Bi λdx dy rv e=>by
 unfold qA at e
 split at e
 ·split at e
  ·rename_i i j q
   cases e
   exact⟨i,j,rfl,rfl,q,rfl⟩
  ·cases e
 ·cases e
theorem GI:OpD X oB (rI Ll λi j=> .int (i^j.toNat)):=Bi λdx dy rv e=>by
 unfold oB at e
 split at e
 ·split at e
  ·rename_i i j q
   cases e
   exact⟨i,j,rfl,rfl,⟨q.1,by omega,by omega⟩,rfl⟩
  ·cases e
 ·cases e
noncomputable def Iz:R2:=λx y H Q=>∃l b xs zs,x= .ref l∧y= .ref b∧Rd H l (.lst xs)∧Rd H b (.lst zs)∧xs.length+zs.length≤sizeLine∧∀p,H p=none→Q (.ref p) (upd H p (.lst (xs++zs)))
theorem GJ:OpR X (binaryOp .Add) Iz:=by
 intro pins s σ H x y v u Q I rx ry h
 obtain⟨l,b,xs,zs,rfl,rfl,hH,hB,hz,q⟩:=h
 cases rx
 cases ry
 obtain⟨z,its,n,r,e⟩:=(show cx X.prog X.w H s.heap l (.lst xs) from hH.ok I.hok)
 obtain⟨z2,its2,n2,r2,e2⟩:=(show cx X.prog X.w H s.heap b (.lst zs) from hB.ok I.hok)
 have hl:=r.length
 have hl2:=r2.length
 refine PySem.P.add_list e e2 ?_ (by rw[Gan,Gan];omega)
 have ea:its.toArray++its2.toArray=(its++its2).toArray:=by simp
 rw[ea]
 exact⟨.ref _,_,I.NJ (t' :=s.toks) (r.append r2) (by rw[Gav];omega),rfl,q _ I.fresh⟩
theorem size_eq:ah=sizeLine:=by rw[GbA];rfl
theorem bK{H:Hp}{p:Addr}{o:HO}(n:H p=none):c0 H (upd H p o):=λb u e=>by rw[ax (dS e n)];exact e
theorem fN{K:aD}{F:Addr→Prop}{H:Hp}{p:Addr}{ds:List D}{vs:List V}(n:H p=none)(r:aX K F H ds vs):Rep K F (upd H p (.tup vs)) (.tup ds) (.ref p):=by
 have r2:=r.gen (F' :=F) (.of_same (bK (o:= .tup vs) n)) λ_ f _=>f
 exact .tup aK r2.1 r2.2
theorem iR{K:aD}{F:Addr→Prop}{H:Hp}{p:Addr}{ds:List D}{vs:List V}(n:H p=none)(r:aX K F H ds vs):Inn K (λb=>F b∧b≠p) (upd H p (.lst vs)) (.lst ds) (.ref p):=
 .lst (.inl aK) (r.gen (F' :=λb=>F b∧b≠p) (.of_same (bK (o:= .lst vs) n)) λb f hb=> ⟨f,λz=>hb (z▸n)⟩)
theorem qE{H:Hp}{p:Addr}{xs:List V}:Wr (upd H p (.lst xs)) p:=⟨_,aK,trivial⟩
noncomputable def IA(K:aD):R2:=λx y H Q=>rI0 (λi j=> .int (i+j)) x y H Q∨(∃i j,x= .str i∧y= .str j∧i.length+j.length≤sizeLine∧Q (.str (i++j)) H)∨Iz x y H Q∨Iq K x y H Q
theorem GK:OpR X (binaryOp .Add) (IA X.K):=J7.or (Ac.or (GJ.or Gu))
theorem aX.ne{K:aD}{F:Addr→Prop}{H:Hp}{ds:List D}{vs:List V}(r:aX K F H ds vs):vs=[]↔ds=[]:=by
 constructor
 ·intro z;subst z;exact List.eq_nil_of_length_eq_zero r.1
 ·intro z;subst z;exact r.cV
theorem GL:OpD X aQ (IA X.K):=by
 intro F H dx dy x y rv Q ix iy e k
 unfold aQ at e
 split at e
 ·cases e;cases ix;cases iy
  exact .inl ⟨_,_,rfl,rfl,k _ H bZ (.int _)⟩
 ·split at e
  ·rename_i q
   cases e;cases ix;cases iy
   exact .inr (.inl ⟨_,_,rfl,rfl,by rw[←size_eq];exact q,k _ H bZ (.str _)⟩)
  ·cases e
 ·split at e
  ·rename_i xs ys q
   cases e
   cases ix with
   |tup hx rx=>
    cases iy with
    |tup hy ry=>
     refine .inr (.inr (.inr ⟨_,_,_,_,rfl,rfl,SqT.of hx,SqT.of hy, ?_, ?_, ?_, ?_⟩))
     ·intro z
      have:=rx.ne.mp z
      subst this
      exact absurd q.2 (by simp)
     ·rw[←rx.1,←ry.1,←size_eq];exact q.1
     ·intro z
      have:=ry.ne.mp z
      subst this
      refine k _ H bZ ?_
      rw[Gbb]
      exact .tup hx rx.1 rx.2
     ·intro z p n
      exact k _ _ (bK n) (fN n (rx.append ry))
  ·cases e
 ·split at e
  ·rename_i xs ys q
   cases e
   cases ix with
   |lst hx rx=>
    cases iy with
    |lst hy ry=>
     refine .inr (.inr (.inl ⟨_,_,_,_,rfl,rfl,hx,hy,by rw[←rx.1,←ry.1,←size_eq];exact q,λp n=> ?_⟩))
     exact k _ _ (bK n) ⟨p,rfl,n,qE,rfl,iR n (rx.append ry)⟩
  ·cases e
 ·cases e
def UnD(X:Cx)(o:D→Option RV)(r:V→Hp→VK→Prop):Prop:=∀(F:Addr→Prop) (H:Hp) (dx:D) (x:V) (rv:RV) (Q:VK),Inn X.K F H dx x→o dx=some rv→(∀v H',c0 H H' →RvN X.K F H H' rv v→Q v H')→r x H Q
theorem Mg{op:UnaryOp}{o:D→Option RV}{r:V→Hp→VK→Prop}(ho:UnR X (unaryOp op) r)(hd:UnD X o r)(ha:PEd X a f):PEd X (.UnaryOp op a pos) (unE o f):=by
 refine(Li ho ha).aS ?_
 rintro σ H Q ⟨H₀,Bad,env,rv,E,e,k⟩
 obtain⟨x,hx,e⟩:=bind_some e
 exact⟨H₀,Bad,env,x,E,hx,λvx H1 s1 R1=>hd _ H1 x.d vx rv Q R1.inn e λv H3 s3 R3=>k v H3 (s1.trans s3) (R3.ok s1)⟩
theorem GN:UnD X Cn (rU λi=> .int (-i)):=by
 intro F H dx x rv Q ix e k
 unfold Cn at e
 split at e
 ·cases e;cases ix;exact⟨_,rfl,k _ H bZ (.int _)⟩
 ·cases e
theorem aC(ha:PEd X a f)(hb:PEd X b g):PEd X (.BinOp a .Add b pos) (opE aQ f g):=sW GK GL ha hb
theorem iU(ha:PEd X a f)(hb:PEd X b g):PEd X (.BinOp a .Sub b pos) (opE kJ f g):=sW J8 GF ha hb
theorem bB(ha:PEd X a f)(hb:PEd X b g):PEd X (.BinOp a .Mult b pos) (opE dR f g):=sW J9 GG ha hb
theorem lW(ha:PEd X a f)(hb:PEd X b g):PEd X (.BinOp a .FloorDiv b pos) (opE mv f g):=sW Gi E5 ha hb
theorem n4(ha:PEd X a f)(hb:PEd X b g):PEd X (.BinOp a .Mod b pos) (opE qA f g):=sW Ja GH ha hb
theorem kW(ha:PEd X a f)(hb:PEd X b g):PEd X (.BinOp a .Pow b pos) (opE oB f g):=sW Jb GI ha hb
theorem E9(ha:PEd X a f):PEd X (.UnaryOp .USub a pos) (unE Cn f):=Mg Jc GN ha
def OpB(X:Cx)(o:D→D→Option Bool)(r:R2):Prop:=∀(F:Addr→Prop) (H:Hp) (dx dy:D) (x y:V) (b:Bool) (Q:VK),Inn X.K F H dx x→Inn X.K F H dy y→o dx dy=some b→Q (.bl b) H→r x y H Q
theorem aU{op:CmpOp}{o:D→D→Option Bool}{r:R2}(ho:OpR X (compareOp op) r)(hd:OpB X o r)(ha:PEd X a f)(hb:PEd X b g)(hm:behindInMarks op b=false):PTd X (.Compare a [op] [b] pos) (bq o f g):=by
 refine(Gk ho ha hb hm).aS ?_
 rintro σ H Q ⟨H₀,Bad,env,bb,E,e,k⟩
 obtain⟨x,hx,e⟩:=bind_some e
 obtain⟨y,hy,e⟩:=bind_some e
 exact⟨H₀,Bad,env,x,E,hx,λvx H1 s1 R1=> ⟨H₀,Bad,env,y,E.mono s1,hy,λvy H2 s2 R2=>hd _ H2 x.d y.d vx vy bb _ (R1.inn.same s2) R2.inn e ⟨bb,rfl,k H2 (s1.trans s2)⟩⟩⟩
theorem uo{op:CmpOp}{o:D→D→Option Bool}{r:R2}(ho:OpR X (compareOp op) r)(hd:OpB X o r)(ha:PEd X a f)(hb:PEd X b g)(hm:behindInMarks op b=false):PEd X (.Compare a [op] [b] pos) (bE (bq o f g)):=by
 refine(Gj ho ha hb hm).aS ?_
 rintro σ H Q ⟨H₀,Bad,env,rv,E,e,k⟩
 obtain⟨bb,e',rfl⟩:=Gam.mp e
 clear e
 have e:=e'
 clear e'
 obtain⟨x,hx,e⟩:=bind_some e
 obtain⟨y,hy,e⟩:=bind_some e
 exact⟨H₀,Bad,env,x,E,hx,λvx H1 s1 R1=> ⟨H₀,Bad,env,y,E.mono s1,hy,λvy H2 s2 R2=>hd _ H2 x.d y.d vx vy bb _ (R1.inn.same s2) R2.inn e (k _ H2 (s1.trans s2) (.bl bb))⟩⟩
theorem Bj{o:D→D→Option Bool}{gb:Int→Int→Bool}(h:∀dx dy b,o dx dy=some b→∃i j,dx= .int i∧dy= .int j∧b=gb i j):OpB X o (rI0 λi j=> .bl (gb i j)):=by
 intro F H dx dy x y b Q ix iy e q
 obtain⟨i,j,rfl,rfl,rfl⟩:=h dx dy b e
 cases ix;cases iy
 exact⟨i,j,rfl,rfl,q⟩
theorem jZ:OpB X ltB (rI0 λi j=> .bl (decide (i<j))):=Bj λdx dy b e=>by
 unfold ltB at e;split at e<;>cases e;exact⟨_,_,rfl,rfl,rfl⟩
theorem Ao:OpB X leB (rI0 λi j=> .bl (decide (i≤j))):=Bj λdx dy b e=>by
 unfold leB at e;split at e<;>cases e;exact⟨_,_,rfl,rfl,rfl⟩
theorem kX:OpB X gtB (rI0 λi j=> .bl (decide (j<i))):=Bj λdx dy b e=>by
 unfold gtB at e;split at e<;>cases e;exact⟨_,_,rfl,rfl,rfl⟩
theorem JA:OpB X geB (rI0 λi j=> .bl (decide (j≤i))):=Bj λdx dy b e=>by
 unfold geB at e;split at e<;>cases e;exact⟨_,_,rfl,rfl,rfl⟩
theorem sX{K:aD}{F:Addr→Prop}{H:Hp}{d:D}{x:V}(h:Inn K F H d x):decide (x= .non)=dz d:=by
 cases h<;>simp[dz]
theorem uq:OpB X qB (λx y H Q=>y= .non∧Q (.bl (decide (x= .non))) H):=by
 intro F H dx dy x y b Q ix iy e q
 simp only[qB,kC] at e
 split at e
 ·rename_i h
  cases e
  cases iy<;>simp[dz] at h
  exact⟨rfl,by rw[sX ix];exact q⟩
 ·cases e
theorem qF:OpB X kC (λx y H Q=>y= .non∧Q (.bl (!decide (x= .non))) H):=by
 intro F H dx dy x y b Q ix iy e q
 simp only[qB,kC] at e
 split at e
 ·rename_i h
  cases e
  cases iy<;>simp[dz] at h
  exact⟨rfl,by rw[sX ix];exact q⟩
 ·cases e
theorem n5(h:PEd X e f)(he:∀whole,isTrue e X.env whole=(do let v←whole;standAt e.pos;holding [v] (truthy v)):=by intro _;rfl):PTd X e (vt f):=by
 refine(IT h he).aS ?_
 rintro σ H Q ⟨H₀,Bad,env,bb,E,e,k⟩
 obtain⟨x,hx,e⟩:=bind_some e
 split at e
 ·rename_i b hb
  cases e
  refine⟨H₀,Bad,env,x,E,hx,λvx H1 s1 R1=> ⟨bb, ?_,k H1 s1⟩⟩
  have i:=R1.inn
  rw[hb] at i
  cases i;rfl
 ·cases e
theorem i8(ha:PTd X a t):PWd X (.BoolOp .And [a] pos) t:=Gd ha
theorem ur(ha:PTd X a t):PWd X (.BoolOp .Or [a] pos) t:=IU ha
theorem k4{rest:List Expr}(ha:PTd X a t)(hb:PWd X (.BoolOp .And (b::rest) pos) u):PWd X (.BoolOp .And (a::b::rest) pos) (mY t u):=by
 refine(IV ha hb).aS ?_
 rintro σ H Q ⟨H₀,Bad,env,bb,E,e,k⟩
 obtain⟨x,hx,e⟩:=bind_some e
 refine⟨H₀,Bad,env,x,E,hx,λH1 s1=> ?_⟩
 cases x with
 |true=>rw[Gag rfl];rw[Gag rfl] at e;exact⟨H₀,Bad,env,bb,E.mono s1,e,λH2 s2=>k H2 (s1.trans s2)⟩
 |false=>rw[Gae GaA];rw[Gae GaA] at e;cases e;exact k H1 s1
theorem vF{rest:List Expr}(ha:PTd X a t)(hb:PWd X (.BoolOp .Or (b::rest) pos) u):PWd X (.BoolOp .Or (a::b::rest) pos) (orT t u):=by
 refine(L7 ha hb).aS ?_
 rintro σ H Q ⟨H₀,Bad,env,bb,E,e,k⟩
 obtain⟨x,hx,e⟩:=bind_some e
 refine⟨H₀,Bad,env,x,E,hx,λH1 s1=> ?_⟩
 cases x with
 |false=>rw[Gae GaA];rw[Gae GaA] at e;exact⟨H₀,Bad,env,bb,E.mono s1,e,λH2 s2=>k H2 (s1.trans s2)⟩
 |true=>rw[Gag rfl];rw[Gag rfl] at e;cases e;exact k H1 s1
theorem oE(ha:PTd X a t):PTd X (.UnaryOp .Not a pos) (ug t):=by
 refine(IW ha).aS ?_
 rintro σ H Q ⟨H₀,Bad,env,bb,E,e,k⟩
 obtain⟨x,hx,rfl⟩:=Gam.mp e
 exact⟨H₀,Bad,env,x,E,hx,λH1 s1=>k H1 s1⟩
theorem JB{op:BoolOp}(ha:PEd X a (bE t)):PEd X (.BoolOp op [a] pos) (bE t):=IY ha
theorem JC{rest:List Expr}(ha:PEd X a (bE t))(hb:PEd X (.BoolOp .And (b::rest) pos) (bE u)):PEd X (.BoolOp .And (a::b::rest) pos) (bE (mY t u)):=by
 refine(IZ ha hb).aS ?_
 rintro σ H Q ⟨H₀,Bad,env,rv,E,e,k⟩
 obtain⟨bb,e',rfl⟩:=Gam.mp e
 clear e
 have e:=e'
 clear e'
 obtain⟨x,hx,e⟩:=bind_some e
 refine⟨H₀,Bad,env,⟨.c,.bl x⟩,E,by unfold bE;rw[hx];rfl,λv H1 s1 R=> ?_⟩
 have R' :Inn X.K (Cln Bad env σ) H1 (.bl x) v:=R.inn
 cases R'
 refine⟨x,rfl, ?_⟩
 cases x with
 |true=>rw[Gag rfl];rw[Gag rfl] at e;exact⟨H₀,Bad,env,⟨.c,.bl bb⟩,E.mono s1,by unfold bE;rw[e];rfl,λv2 H2 s2 R2=>k v2 H2 (s1.trans s2) (R2.from s1)⟩
 |false=>rw[Gae GaA];rw[Gae GaA] at e;cases e;exact k _ H1 s1 (.bl false)
theorem JD(ha:PEd X a (bE t)):PEd X (.UnaryOp .Not a pos) (bE (ug t)):=by
 refine(J1 ha).aS ?_
 rintro σ H Q ⟨H₀,Bad,env,rv,E,e,k⟩
 obtain⟨bb,e',rfl⟩:=Gam.mp e
 clear e
 have e:=e'
 clear e'
 obtain⟨x,hx,rfl⟩:=Gam.mp e
 refine⟨H₀,Bad,env,⟨.c,.bl x⟩,E,by unfold bE;rw[hx];rfl,λv H1 s1 R=> ?_⟩
 have R' :Inn X.K (Cln Bad env σ) H1 (.bl x) v:=R.inn
 cases R'
 exact⟨x,rfl,k _ H1 s1 (.bl _)⟩
theorem Ea(hc:PTd X c t)(ha:PEd X a f)(hb:PEd X b g):PEd X (.IfExp c a b pos) (ifE t f g):=by
 refine(Dr hc ha hb).aS ?_
 rintro σ H Q ⟨H₀,Bad,env,rv,E,e,k⟩
 obtain⟨x,hx,e⟩:=bind_some e
 refine⟨H₀,Bad,env,x,E,hx,λH1 s1=> ?_⟩
 cases x with
 |true=>rw[Gag rfl];rw[Gag rfl] at e;exact⟨H₀,Bad,env,rv,E.mono s1,e,λv H2 s2 R=>k v H2 (s1.trans s2) (R.from s1)⟩
 |false=>rw[Gae GaA];rw[Gae GaA] at e;exact⟨H₀,Bad,env,rv,E.mono s1,e,λv H2 s2 R=>k v H2 (s1.trans s2) (R.from s1)⟩
theorem Eb{op op' :CmpOp}{o p:D→D→Option Bool}{r r' :R2}(ho:OpR X (compareOp op) r)(hd:OpB X o r)(ho' :OpR X (compareOp op') r')(hd' :OpB X p r')(ha:PEd X a f)(hb:PEd X b g)(hc:PEd X c h)
  (hm:lastMarks [op,op'] [b,c]=false:=by with_unfolding_all rfl):PTd X (.Compare a [op,op'] [b,c] pos) (DU o p f g h):=by
 refine(DB ho ho' ha hb hc hm).aS ?_
 rintro σ H Q ⟨H₀,Bad,env,bb,E,e,k⟩
 obtain⟨x,hx,e⟩:=bind_some e
 obtain⟨y,hy,e⟩:=bind_some e
 obtain⟨b1,h1,e⟩:=bind_some e
 refine⟨H₀,Bad,env,x,E,hx,λvx H1 s1 R1=> ⟨H₀,Bad,env,y,E.mono s1,hy,λvy H2 s2 R2=>hd _ H2 x.d y.d vx vy b1 _ (R1.inn.same s2) R2.inn h1 ⟨b1,rfl, ?_⟩⟩⟩
 cases b1 with
 |true=>
  rw[Gag rfl];rw[Gag rfl] at e
  obtain⟨z,hz,e⟩:=bind_some e
  exact⟨H₀,Bad,env,z,(E.mono s1).mono s2,hz,λvz H3 s3 R3=>hd' _ H3 y.d z.d vy vz bb _ (R2.inn.same s3) R3.inn e ⟨bb,rfl,k H3 (s1.trans (s2.trans s3))⟩⟩
 |false=>
  rw[Gae GaA];rw[Gae GaA] at e;cases e
  exact⟨false,rfl,k H2 (s1.trans s2)⟩
end
open PySem PySem.Spec PyProof.Rows L2
section
variable{X:Cx}{e a b c:Expr}{f g h:DE}{t u:DT}{pos:Pos}
theorem Scr.sq{K:aD}{H:Hp}{a:Addr}{ns:List Int}(h:Scr K H a ns):SqL K H a (ns.map V.int):=by
 rcases h with⟨o,h⟩|h
 ·exact .inl (.inr ⟨o,h⟩)
 ·exact .inr h
theorem Ec{K:aD}{F:Addr→Prop}{H:Hp}{ds:List D}{vs:List V}{i:Int}{d:D}(r:aX K F H ds vs)(e:atD ds i=some d):∃v,atI vs i=some v∧Rep K F H d v:=by
 unfold atD at e
 unfold atI ixN
 rw[←r.1]
 split at e
 ·rename_i h0
  obtain⟨v,h1,h2⟩:=r.get e
  have hi:=(Gac.mp e).1
  refine⟨v, ?_,h2⟩
  rw[Gag h0,Gag (by omega)]
  exact h1
 ·rename_i h0
  split at e
  ·rename_i h1
   obtain⟨v,h2,h3⟩:=r.get e
   refine⟨v, ?_,h3⟩
   rw[Gae h0,Gag h1]
   exact h2
  ·cases e
noncomputable def Mh:R2:=λx y H Q=>∃a v,x= .ref a∧pW H a y (some v)∧Q v H
theorem GO(hu:X.A.units+1<cLine):IxR X Mh:=by
 intro value slice pins s σ H x y v u Q I rx ry h hs
 obtain⟨a,z,rfl,g,q⟩:=h
 cases rx
 exact tail_any (vo I g) PySem.F.slot_dict_getitem.lookup (Ci hu I g ry λw' s3 I3 rw' => ⟨z,H,I3,rw',q⟩) hs
noncomputable def NU(K:aD):R2:=λx y H Q=>rIx K x y H Q∨Mh x y H Q
theorem GP(hu:X.A.units+1<cLine):IxR X (NU X.K):=Jl.or (GO hu)
theorem nH{κ:Type} [DecidableEq κ]{K:aD}{F:Addr→Prop}{H:Hp}:∀{kvs:List (κ×D)} {ws:List (κ×V)} {k:κ} {d:D},b7 K F H kvs ws→look kvs k=some d→∃v,gK ws k=some v∧Rep K F H d v
 |[],ws,k,d,_,e=>by simp[look] at e
 |p::kvs,[],k,d,r,_=>absurd r.1 (by simp)
 |p::kvs,q::ws,k,d,r,e=>by
  have h1:p.1=q.1∧kvs.map (·.1)=ws.map (·.1):=by have:=r.1;simpa using this
  have r2:b7 K F H kvs ws:=⟨h1.2,λi x y e1 e2=>r.2 (i+1) x y (by simpa using e1) (by simpa using e2)⟩
  by_cases z:p.1=k
  ·have e' :look (p::kvs) k=some p.2:=by simp[look,Gbv,z]
   rw[e'] at e;cases e
   exact⟨q.2,kN (h1.1.symm.trans z),r.2 0 p q rfl rfl⟩
  ·have e' :look (p::kvs) k=look kvs k:=by simp[look,Gbv,z]
   rw[e'] at e
   obtain⟨v,h3,h4⟩:=nH r2 e
   exact⟨v,by rw[iK (λw=>z (h1.1.trans w))];exact h3,h4⟩
theorem sY{κ:Type} [DecidableEq κ]{K:aD}{F:Addr→Prop}{H:Hp}:∀{kvs:List (κ×D)} {ws:List (κ×V)} {k:κ},b7 K F H kvs ws→look kvs k=none→gK ws k=none
 |[],[],k,_,_=>rfl
 |[],q::ws,k,r,_=>absurd r.1 (by simp)
 |p::kvs,[],k,r,_=>absurd r.1 (by simp)
 |p::kvs,q::ws,k,r,e=>by
  have h1:p.1=q.1∧kvs.map (·.1)=ws.map (·.1):=by have:=r.1;simpa using this
  have r2:b7 K F H kvs ws:=⟨h1.2,λi x y e1 e2=>r.2 (i+1) x y (by simpa using e1) (by simpa using e2)⟩
  by_cases z:p.1=k
  ·have e' :look (p::kvs) k=some p.2:=by simp[look,Gbv,z]
   rw[e'] at e;cases e
  ·have e' :look (p::kvs) k=look kvs k:=by simp[look,Gbv,z]
   rw[e'] at e
   rw[iK (λw=>z (h1.1.trans w))]
   exact sY r2 e
theorem oF{K:aD}{F:Addr→Prop}{H:Hp}{d:D}{x:V}{k:Key}(i:Inn K F H d x)(e:keyOf d=some k):x=kV k:=by
 unfold keyOf at e
 split at e<;>cases e<;>cases i<;>rfl
theorem jk{K:aD}{F:Addr→Prop}{H:Hp}:∀{ds:List D} {vs:List V} {ks:List Key},aX K F H ds vs→keysOf ds=some ks→vs=ks.map kV
 |[],vs,ks,r,e=>by cases e;rw[r.cV];rfl
 |d::ds,vs,ks,r,e=>by
  obtain⟨v,w,rfl,h1,h2⟩:=r.cons_inv
  unfold keysOf at e
  obtain⟨k,hk,e⟩:=bind_some e
  obtain⟨ks',hks,rfl⟩:=Gam.mp e
  rw[oF h1.inn hk,jk h2 hks]
  rfl
theorem uu{K:aD}{F:Addr→Prop}{H:Hp}{d k:D}{x y:V}(ix:Inn K F H d x)(iy:Inn K F H k y):
  (∀kvs key,d= .dK kvs→keyOf k=some key→∃a ws,x= .ref a∧b7 K F H kvs ws∧pW H a y (gK ws key))∧
  (∀kvs ks key,d= .dT kvs→k= .tup ks→keysOf ks=some key→∃a ws,x= .ref a∧b7 K F H kvs ws∧pW H a y (gK ws key)):=by
 refine⟨λkvs key ed ek=> ?_,λkvs ks key ed ek e=> ?_⟩
 ·subst ed
  cases ix with
  |dK h r=>exact⟨_,_,rfl,r,.inl ⟨_,key,.inl h,oF iy ek,rfl⟩⟩
 ·subst ed ek
  cases ix with
  |dT h r=>
   cases iy with
   |tup hy ry=>exact⟨_,_,rfl,r,.inr ⟨_,key,_,.inl h,rfl,by rw[←jk ry e];exact hy,rfl⟩⟩
theorem af(hu:X.A.units+1<cLine)(ha:PEd X a f)(hb:PEd X b g)(hs:B8 b:=by exactλ_ _=>rfl):PEd X (.Subscript a b pos) (ixE f g):=by
 refine(Ls (GP hu) ha hb hs).aS ?_
 rintro σ H Q ⟨H₀,Bad,env,rv,E,e,k⟩
 obtain⟨x,hx,e⟩:=bind_some e
 obtain⟨y,hy,e⟩:=bind_some e
 obtain⟨d,e',rfl⟩:=Gam.mp e
 clear e
 have e:=e'
 clear e'
 refine⟨H₀,Bad,env,x,E,hx,λvx H1 s1 R1=> ⟨H₀,Bad,env,y,E.mono s1,hy,λvy H2 s2 R2=> ?_⟩⟩
 have ix:=R1.inn.same s2
 have iy:=R2.inn
 have fin:∀v,Rep X.K (Cln Bad env σ) H2 d v→Q v H2:=λv r=>k v H2 (s1.trans s2) r
 generalize x.d=dx at ix e
 generalize y.d=dy at iy e
 unfold ixD at e
 split at e
 ·cases iy
  cases ix with
  |lst h r=>
   obtain⟨v,h1,h2⟩:=Ec r e
   exact .inl (.inl ⟨_,_,_,v,rfl,rfl,.inl h,h1,fin v h2⟩)
 ·cases iy
  cases ix with
  |tup h r=>
   obtain⟨v,h1,h2⟩:=Ec r e
   exact .inl (.inr (.inl ⟨_,_,_,v,rfl,rfl,SqT.of h,h1,fin v h2⟩))
 ·split at e
  ·rename_i hz
   obtain⟨ch,e',rfl⟩:=Gam.mp e
   clear e
   have e:=e'
   clear e'
   cases iy;cases ix
   refine .inl (.inr (.inr ⟨_,_,ch,rfl,rfl,by rw[←size_eq];exact hz, ?_,fin _ (.str _)⟩))
   unfold atD at e
   unfold atI ixN
   split at e
   ·rename_i h0
    have hi:=(Gac.mp e).1
    rw[Gag h0,Gag (by omega)]
    exact e
   ·rename_i h0
    split at e
    ·rename_i h1
     rw[Gae h0,Gag h1]
     exact e
    ·cases e
  ·cases e
 ·obtain⟨key,hk,e⟩:=bind_some e
  obtain⟨p,ws,rfl,r,dg⟩:=(uu ix iy).1 _ key rfl hk
  obtain⟨v,h1,h2⟩:=nH r e
  rw[h1] at dg
  exact .inr ⟨p,v,rfl,dg,fin v h2⟩
 ·obtain⟨key,hk,e⟩:=bind_some e
  obtain⟨p,ws,rfl,r,dg⟩:=(uu ix iy).2 _ _ key rfl rfl hk
  obtain⟨v,h1,h2⟩:=nH r e
  rw[h1] at dg
  exact .inr ⟨p,v,rfl,dg,fin v h2⟩
 ·obtain⟨n,e',rfl⟩:=Gam.mp e
  clear e
  have e:=e'
  clear e'
  cases iy
  cases ix with
  |scr h=>
   refine .inl (.inl ⟨_,_,_,.int n,rfl,rfl,h.sq, ?_,fin _ (.int n)⟩)
   unfold atD at e
   unfold atI ixN
   rw[Gah]
   split at e
   ·rename_i h0
    have hi:=(Gac.mp e).1
    rw[Gag h0,Gag (by omega)]
    show(List.map V.int _)[_]? =_
    rw[Gal,e];rfl
   ·rename_i h0
    split at e
    ·rename_i h1
     rw[Gae h0,Gag h1]
     show(List.map V.int _)[_]? =_
     rw[Gal,e];rfl
    ·cases e
 ·cases e
theorem aa:PAd X [] ao:=by
 refine Af.aS ?_
 rintro σ H Q ⟨H₀,Bad,env,rs,E,e,k⟩
 cases e
 exact k [] H bZ .nil
theorem pq{K:aD}{H₀ H H1 H' :Hp}{Bad:Addr→Prop}{env:Env}{σ:St}(s:c0 H H1):∀{rs:List RV} {vs:List V},Paired (jF K H₀ Bad env σ H1 H') rs vs→Paired (jF K H₀ Bad env σ H H') rs vs
 |_,_,.nil=> .nil
 |_,_,.cons h t=> .cons (h.from s) (pq s t)
theorem a4{es:List Expr}{r:DA}(ha:PEd X e f)(hr:PAd X es r)(hs:starEach (e::es) X.env=(false,eval e X.env)::starEach es X.env:=by rfl):PAd X (e::es) (a5 f r):=by
 refine(ud ha hr hs).aS ?_
 rintro σ H Q ⟨H₀,Bad,env,rs,E,e,k⟩
 obtain⟨x,hx,e⟩:=bind_some e
 obtain⟨xs,hxs,e⟩:=bind_some e
 cases e
 exact⟨H₀,Bad,env,x,E,hx,λvx H1 s1 R1=> ⟨H₀,Bad,env,xs,E.mono s1,hxs,λvs H2 s2 Rs=>k _ H2 (s1.trans s2) (.cons (R1.same s2) (pq s1 Rs))⟩⟩
theorem oG{K:aD}{H₀ H H' :Hp}{Bad:Addr→Prop}{env:Env}{σ:St}(E:aG K H₀ Bad env σ H):∀{rs:List RV} {vs:List V},Paired (jF K H₀ Bad env σ H H') rs vs→rs.all (·.free)=true→aX K (Cln Bad env σ) H' (rs.map (·.d)) vs
 |_,_,.nil,_=>aX.nil
 |r::rs,v::vs,.cons h t,f=>by
  rw[GbB,Gau] at f
  exact aX.cons (h.rep E f.1) (oG E t f.2)
theorem b4{es:List Expr}{r:DA}{j:Nat}(ha:PAd X es r):PEd X (.Tuple es j pos) (bI r):=by
 refine(Jf ha).aS ?_
 rintro σ H Q ⟨H₀,Bad,env,rv,E,e,k⟩
 obtain⟨rs,hr,e⟩:=bind_some e
 split at e
 ·rename_i q
  rw[Gau] at q
  cases e
  refine⟨H₀,Bad,env,rs,E,hr,λvs H1 s1 Rs=> ?_⟩
  have rep:=oG E Rs q.1
  refine⟨by rw[←rep.1,Gah,←size_eq];exact Gaw q.2,λp n=> ?_⟩
  exact k _ _ (s1.trans (bK n)) (fN n rep)
 ·cases e
theorem bJ{es:List Expr}{r:DA}(ha:PAd X es r):PEd X (.List es pos) (fT r):=by
 refine(DC ha).aS ?_
 rintro σ H Q ⟨H₀,Bad,env,rv,E,e,k⟩
 obtain⟨rs,hr,e⟩:=bind_some e
 split at e
 ·rename_i q
  rw[Gau] at q
  cases e
  refine⟨H₀,Bad,env,rs,E,hr,λvs H1 s1 Rs=> ?_⟩
  have rep:=oG E Rs q.1
  refine⟨by rw[←rep.1,Gah,←size_eq];exact Gaw q.2,λp n=> ?_⟩
  exact k _ _ (s1.trans (bK n)) ⟨p,rfl,s1.free n,qE,rfl,iR n rep⟩
 ·cases e
noncomputable def spD(K:aD)(np:Nat)(sp:List D→Option D):Sp:=λvs H Q _=>∃ds d,ds.length=np∧aX K (λ_=>True) H ds vs∧sp ds=some d∧∀v H',c0 H H' →sV K H H' d v→Q v H'
theorem sZ{K:aD}{H₀ H H' :Hp}{Bad:Addr→Prop}{env:Env}{σ:St}:∀{rs:List RV} {vs:List V},Paired (jF K H₀ Bad env σ H H') rs vs→aX K (λ_=>True) H' (rs.map (·.d)) vs
 |_,_,.nil=>aX.nil
 |r::rs,v::vs,.cons h t=>aX.cons h.inn.any (sZ t)
theorem GQ{CX:CXT}{k:Nat}{fa:Addr}{fd:FuncData}{ps:List Str}{np:Nat}{sp:List D→Option D}{x:Str}{p:Pos}{es:List Expr}{r:DA}{E:XK}(F:cC X.prog X.w X.K X.mg X.base CX k fa fd ps (spD X.K np sp))(hr:gV k X.A)(hg:Gl X x)
  (hm:X.mg x=some (.ref fa))(hk:PySem.W.keepIn X.K (.ref fa)=true)(hb:Binds X.K fd ps [])(hx:Passes CX X E)(ha:PAd X (e::es) r)(hl:∀env rs,r env=some rs→rs.length=np)
  (hdb:(x==("__debug__":Str))=false:=by decide)(he:starEach (e::es) X.env=(false,eval e X.env)::starEach es X.env:=by rfl)(hpl:(backTo pos (starEach es X.env)).any (·.1)=false:=by rfl):
  PEd X (.Call (.Name x p) (e::es) [] pos) (aH sp r):=by
 refine(Gn (dvs:=[]) F hr hg hm hk hb .nil hx ha hdb he hpl).aS ?_
 rintro σ H Q ⟨H₀,Bad,env,rv,E,e,k⟩
 obtain⟨rs,hrs,e⟩:=bind_some e
 obtain⟨d,hd,rfl⟩:=Gam.mp e
 refine⟨H₀,Bad,env,rs,E,hrs,λvs H1 s1 Rs=> ⟨rs.map (·.d),d,by rw[Gah];exact hl env rs hrs, ?_,hd,λv H2 s2 R2=>k v H2 (s1.trans s2) ((R2.rv (E.mono s1)).from s1)⟩⟩
 rw[Gbb]
 exact sZ Rs
def CallD(X:Cx)(o:List D→Option RV)(r:List V→Hp→VK→Prop):Prop:=∀(F:Addr→Prop) (H:Hp) (ds:List D) (vs:List V) (rv:RV) (Q:VK),Paired (Inn X.K F H) ds vs→o ds=some rv→(∀v H',c0 H H' →RvN X.K F H H' rv v→Q v H')→r vs H Q
theorem n6{K:aD}{H₀ H H' :Hp}{Bad:Addr→Prop}{env:Env}{σ:St}:∀{rs:List RV} {vs:List V},Paired (jF K H₀ Bad env σ H H') rs vs→Paired (Inn K (Cln Bad env σ) H') (rs.map (·.d)) vs
 |_,_,.nil=> .nil
 |_,_,.cons h t=> .cons h.inn (n6 t)
theorem bS{id:String}{o:List D→Option RV}{r:List V→Hp→VK→Prop}{x:Str}{p:Pos}{es:List Expr}{ra:DA}(hc:i4 X (.builtin id) r)(hd:CallD X o r)(hg:Gl X x)(hm:X.mg x=none)(hv:bootBuiltins x=some (.builtin id))(ha:PAd X (e::es) ra)
  (hn:x≠"__name__":=by decide)(hdb:(x==("__debug__":Str))=false:=by decide)(he:starEach (e::es) X.env=(false,eval e X.env)::starEach es X.env:=by rfl)(hpl:(backTo pos (starEach es X.env)).any (·.1)=false:=by rfl):
  PEd X (.Call (.Name x p) (e::es) [] pos) (dG o ra):=by
 refine(vg hc hg hm hv ha hn hdb he hpl).aS ?_
 rintro σ H Q ⟨H₀,Bad,env,rv,E,e,k⟩
 obtain⟨rs,hrs,e⟩:=bind_some e
 exact⟨H₀,Bad,env,rs,E,hrs,λvs H1 s1 Rs=>hd _ H1 _ vs rv Q (n6 Rs) e λv H2 s2 R2=>k v H2 (s1.trans s2) (R2.ok s1)⟩
theorem iV{T:String}{o:List D→Option RV}{r:List V→Hp→VK→Prop}{x:Str}{p:Pos}{es:List Expr}{ra:DA}(hc:i4 X (.type T) r)(hd:CallD X o r)(hg:Gl X x)(hm:X.mg x=none)(hv:bootBuiltins x=some (.type T))(ha:PAd X (e::es) ra)
  (hn:x≠"__name__":=by decide)(hdb:(x==("__debug__":Str))=false:=by decide)(he:starEach (e::es) X.env=(false,eval e X.env)::starEach es X.env:=by rfl)(hpl:(backTo pos (starEach es X.env)).any (·.1)=false:=by rfl):
  PEd X (.Call (.Name x p) (e::es) [] pos) (dG o ra):=by
 refine(Ce hc hg hm hv ha hn hdb he hpl).aS ?_
 rintro σ H Q ⟨H₀,Bad,env,rv,E,e,k⟩
 obtain⟨rs,hrs,e⟩:=bind_some e
 exact⟨H₀,Bad,env,rs,E,hrs,λvs H1 s1 Rs=>hd _ H1 _ vs rv Q (n6 Rs) e λv H2 s2 R2=>k v H2 (s1.trans s2) (R2.ok s1)⟩
theorem i9{R:D→V→Prop}{d:D}{vs:List V}(h:Paired R [d] vs):∃v,vs=[v]∧R d v:=by
 cases h with
 |cons h t=>cases t;exact⟨_,rfl,h⟩
theorem Bk{R:D→V→Prop}{d d2:D}{vs:List V}(h:Paired R [d,d2] vs):∃v w,vs=[v,w]∧R d v∧R d2 w:=by
 cases h with
 |cons h t=>cases t with
  |cons h2 t=>cases t;exact⟨_,_,rfl,h,h2⟩
theorem bV:i4 X (.builtin "len") (λxs H Q=>∃a kvs,xs=[.ref a]∧Rd H a (.dK kvs)∧Q (.int kvs.length) H):=by
 intro pins s σ H xs us Q I r h
 obtain⟨a,kvs,rfl,e,q⟩:=h
 obtain⟨u,rfl,rx⟩:=vals1 r
 cases rx
 exact Ly I e λt s' I' => ⟨.int kvs.length,H,I',⟨t,rfl⟩,q⟩
theorem bW:CallD X cM (λxs H Q=>(∃x n,xs=[x]∧Ln X.K x H n∧Q (.int n) H)∨(∃a kvs,xs=[.ref a]∧Rd H a (.dK kvs)∧Q (.int kvs.length) H)):=by
 intro F H ds vs rv Q ps e k
 unfold cM at e
 split at e
 ·cases e
  obtain⟨v,rfl,i⟩:=i9 ps
  cases i with
  |lst h r=>exact .inl ⟨_,_,rfl,.inl ⟨_,.inl h,r.1⟩,k _ H bZ (.int _)⟩
 ·cases e
  obtain⟨v,rfl,i⟩:=i9 ps
  cases i with
  |tup h r=>exact .inl ⟨_,_,rfl,.inr ⟨_,SqT.of h,r.1⟩,k _ H bZ (.int _)⟩
 ·split at e
  ·rename_i q
   cases e
   obtain⟨v,rfl,i⟩:=i9 ps
   cases i
   exact .inl ⟨_,_,rfl,⟨by rw[←size_eq];exact q,rfl⟩,k _ H bZ (.int _)⟩
  ·cases e
 ·cases e
  obtain⟨v,rfl,i⟩:=i9 ps
  cases i with
  |dK h r=>
   have hl:=congrArg List.length r.1
   rw[Gah,Gah] at hl
   exact .inr ⟨_,_,rfl,.inl h,by rw[←hl];exact k _ H bZ (.int _)⟩
 ·cases e
  obtain⟨v,rfl,i⟩:=i9 ps
  cases i with
  |scr h=>exact .inl ⟨_,_,rfl,.inl ⟨_,h.sq,by simp⟩,k _ H bZ (.int _)⟩
 ·cases e
theorem qG:CallD X nE (λxs H Q=>∃i j,xs=[.int i,.int j]∧Q (.int (if j<i then j else i)) H):=by
 intro F H ds vs rv Q ps e k
 unfold nE at e
 split at e
 ·cases e
  obtain⟨v,w,rfl,i1,i2⟩:=Bk ps
  cases i1;cases i2
  exact⟨_,_,rfl,k _ H bZ (.int _)⟩
 ·cases e
theorem Ap:CallD X sS (λxs H Q=>∃i j,xs=[.int i,.int j]∧Q (.int (if j>i then j else i)) H):=by
 intro F H ds vs rv Q ps e k
 unfold sS at e
 split at e
 ·cases e
  obtain⟨v,w,rfl,i1,i2⟩:=Bk ps
  cases i1;cases i2
  exact⟨_,_,rfl,k _ H bZ (.int _)⟩
 ·cases e
theorem dU:CallD X iL (λxs H Q=>∃p ys,xs=[.ref p]∧((SqL X.K H p ys∧∀l,H l=none→Q (.ref l) (upd H l (.tup ys)))∨(SqT X.K H p ys∧Q (.ref p) H))):=by
 intro F H ds vs rv Q ps e k
 unfold iL at e
 split at e
 ·cases e
  obtain⟨v,rfl,i⟩:=i9 ps
  cases i with
  |lst h r=>
   refine⟨_,_,rfl,.inl ⟨.inl h,λl n=> ?_⟩⟩
   exact k _ _ (bK n) (fN n r)
 ·cases e
  obtain⟨v,rfl,i⟩:=i9 ps
  cases i with
  |tup h r=>exact⟨_,_,rfl,.inr ⟨SqT.of h,k _ H bZ (.tup h r.1 r.2)⟩⟩
 ·cases e
end
open PySem PySem.Spec PyProof.Rows L2
section
variable{K:aD}{H₀ H H' :Hp}{Bad:Addr→Prop}{env env' :Env}{σ σ' :St}{d:D}{v:V}{a:Addr}{i:Nat}
theorem get_set{α:Type}{l:List α}{i j:Nat}{x y:α}(e:(l.set i x)[j]? =some y):(i=j∧y=x)∨(i≠j∧l[j]? =some y):=by
 by_cases h:i=j
 ·subst h
  have hi:i<l.length:=by have:=(Gac.mp e).1;simpa using this
  rw[GaN hi] at e
  cases e
  exact .inl ⟨rfl,rfl⟩
 ·rw[Gab h] at e
  exact .inr ⟨h,e⟩
theorem set_same{α:Type}{l:List α}{i:Nat}{x:α}(e:l[i]? =some x):l.set i x=l:=by
 apply GcU
 intro j
 by_cases h:i=j
 ·subst h
  rw[GaN (Gac.mp e).1,e]
 ·rw[Gab h]
theorem cA{α:Type}{l:List α}{i:Nat}{x:α}(h:i<l.length):(l.set i x)[i]? =some x:=GaN h
theorem gr{j:Nat}(h:br (env.set i (some (.sh d)))[j]?):i≠j∧br env[j]? :=by
 by_cases q:i=j
 ·subst q
  by_cases z:i<env.length
  ·rw[cA z] at h;exact h.elim
  ·rw[Gbn (by simpa using Nat.le_of_not_lt z)] at h;exact h.elim
 ·rw[Gab q] at h
  exact⟨q,h⟩
theorem aG.kY(E:aG K H₀ Bad env σ H)(r:Rep K (Cln Bad env σ) H d v):aG K H₀ Bad (env.set i (some (.sh d))) (σ.set i (some v)) H:=by
 have cln:∀b,Cln Bad env σ b→Cln Bad (env.set i (some (.sh d))) (σ.set i (some v)) b:=λb ⟨h1,h2⟩=> ⟨h1,λj t e=>by
  obtain⟨q,t⟩:=gr t
  rw[Gab q] at e
  exact h2 j t e⟩
 refine⟨E.same,by simp[E.len],E.bad,λj dj e=> ?_,λj dj e=> ?_,λj dj e=> ?_,λj k b t1 t2 e1 e2=> ?_⟩
 ·rcases get_set e with⟨q,e⟩| ⟨q,e⟩
  ·cases e
   subst q
   have hi:i<env.length:=by have:=(Gac.mp e);simpa using this.1
   exact⟨v,cA (by rw[←E.len];exact hi),r.imp cln⟩
  ·obtain⟨w,h1,h2⟩:=E.sh j dj e
   exact⟨w,by rw[Gab q];exact h1,h2.imp cln⟩
 ·have e' :i≠j∧(env[j]? =some (some (.own dj))∨env[j]? =some (some (.lok dj))):=by
   rcases e with e|e
   ·rcases get_set e with⟨q,e⟩| ⟨q,e⟩
    ·cases e
    ·exact⟨q,.inl e⟩
   ·rcases get_set e with⟨q,e⟩| ⟨q,e⟩
    ·cases e
    ·exact⟨q,.inr e⟩
  obtain⟨b,h1,h2,h3,h4,h5,h6⟩:=E.ow j dj e'.2
  exact⟨b,by rw[Gab e'.1];exact h1,h2,h3,h4,h5,h6.imp cln⟩
 ·rcases get_set e with⟨q,e⟩| ⟨q,e⟩
  ·cases e
  ·obtain⟨b,h1,hw,h2,h3⟩:=E.bo j dj e
   exact⟨b,by rw[Gab q];exact h1,hw,h2,h3.imp cln⟩
 ·obtain⟨q1,t1'⟩:=gr t1.top
  obtain⟨q2,t2⟩:=gr t2
  rw[Gab q1] at e1 t1
  rw[Gab q2] at e2
  exact E.dj j k b t1 t2 e1 e2
theorem Stp.kY:Stp env σ H (env.set i (some (.sh d))) (σ.set i (some v)) H:=⟨λ_ _ e _=>e,λb ⟨j,h,e⟩=>by
 have h' :br (env.set i (some (.sh d)))[j]? :=h.ol.top
 obtain⟨q,_⟩:=gr h'
 rw[Gab q] at h e
 exact .inl ⟨j,h,e⟩,λj h=>by
 obtain⟨q,_⟩:=gr h.top
 rw[Gab q,Gab q]
 exact⟨rfl,rfl⟩⟩
theorem jm{j:Nat}(h:br (env.set i (some (.own d)))[j]?)(hi:i<env.length):i=j∨(i≠j∧br env[j]?):=by
 by_cases q:i=j
 ·exact .inl q
 ·rw[Gab q] at h
  exact .inr ⟨q,h⟩
theorem aG.Ed(E:aG K H₀ Bad env σ H)(hi:i<env.length)(n0:H₀ a=none)(nb:¬Bad a)(w:Wr H' a)(t:d.top=true)(s:c0 H₀ H')(bd:∀b,Bad b→H' b≠none)
  (ne:∀j b,j≠i→br env[j]? →σ[j]? =some (some (.ref b))→b≠a∧H' b=H b)
  (inn:Inn K (Cln Bad (env.set i (some (.own d))) (σ.set i (some (.ref a)))) H' d (.ref a))
  (cln:∀b,Cln Bad env σ b→H b≠none→Cln Bad (env.set i (some (.own d))) (σ.set i (some (.ref a))) b)
  (dQ:iP (Cln Bad env σ) H H'):
  aG K H₀ Bad (env.set i (some (.own d))) (σ.set i (some (.ref a))) H' :=by
 have keep:∀{j:Nat} {b:Addr} {dj:D},j≠i→br env[j]? →σ[j]? =some (some (.ref b))→Inn K (Cln Bad env σ) H dj (.ref b)→Inn K (Cln Bad (env.set i (some (.own d))) (σ.set i (some (.ref a)))) H' dj (.ref b):=λ{j b dj} hj tj ej h=>
  h.gen dQ cln λb' eb _ o e=>by cases eb;rw[(ne j b hj tj ej).2];exact e
 refine⟨s,by simp[E.len],bd,λj dj e=> ?_,λj dj e=> ?_,λj dj e=> ?_,λj k b t1 t2 e1 e2=> ?_⟩
 ·rcases get_set e with⟨q,e⟩| ⟨q,e⟩
  ·cases e
  ·obtain⟨u,h1,h2⟩:=E.sh j dj e
   exact⟨u,by rw[Gab q];exact h1,h2.gen dQ cln⟩
 ·have e' :(i=j∧dj=d)∨(i≠j∧(env[j]? =some (some (.own dj))∨env[j]? =some (some (.lok dj)))):=by
   rcases e with e|e
   ·rcases get_set e with⟨q,e⟩| ⟨q,e⟩
    ·cases e;exact .inl ⟨q,rfl⟩
    ·exact .inr ⟨q,.inl e⟩
   ·rcases get_set e with⟨q,e⟩| ⟨q,e⟩
    ·cases e
    ·exact .inr ⟨q,.inr e⟩
  rcases e' with⟨q,rfl⟩| ⟨q,e'⟩
  ·subst q
   exact⟨a,cA (by rw[←E.len];exact hi),n0,nb,w,t,inn⟩
  ·obtain⟨b,h1,h2,h3,h4,h5,h6⟩:=E.ow j dj e'
   have tj:br env[j]? :=by rcases e' with e' |e' <;>rw[e']<;>trivial
   refine⟨b,by rw[Gab q];exact h1,h2,h3, ?_,h5,keep (GaZ q) tj h1 h6⟩
   unfold Wr
   rw[(ne j b (GaZ q) tj h1).2]
   exact h4
 ·rcases get_set e with⟨q,e⟩| ⟨q,e⟩
  ·cases e
  ·obtain⟨b,h1,hw,h2,h3⟩:=E.bo j dj e
   have tj:br env[j]? :=by rw[e];trivial
   refine⟨b,by rw[Gab q];exact h1, ?_,h2,keep (GaZ q) tj h1 h3⟩
   unfold Wr
   rw[(ne j b (GaZ q) tj h1).2]
   exact hw
 ·rcases jm t1.top hi with q1| ⟨q1,t1'⟩
  ·rcases jm t2 hi with q2| ⟨q2,t2'⟩
   ·rw[←q1,←q2]
   ·subst q1
    rw[cA (by rw[←E.len];exact hi)] at e1
    cases e1
    rw[Gab q2] at e2
    exact absurd rfl (ne k a (GaZ q2) t2' e2).1
  ·rcases jm t2 hi with q2| ⟨q2,t2'⟩
   ·subst q2
    rw[cA (by rw[←E.len];exact hi)] at e2
    cases e2
    rw[Gab q1] at e1
    exact absurd rfl (ne j a (GaZ q1) t1' e1).1
   ·rw[Gab q1] at e1 t1
    rw[Gab q2] at e2
    exact E.dj j k b t1 t2' e1 e2
theorem vG(hi:i<env.length)(hs:env.length=σ.length){b:Addr}(h:Cln Bad env σ b)(hb:b≠a):Cln Bad (env.set i (some (.own d))) (σ.set i (some (.ref a))) b:=⟨h.1,λj t e=>by
 rcases jm t hi with q| ⟨q,t⟩
 ·subst q
  rw[cA (by rw[←hs];exact hi)] at e
  cases e
  exact hb rfl
 ·rw[Gab q] at e
  exact h.2 j t e⟩
theorem aG.Aq(E:aG K H₀ Bad env σ H)(s:c0 H H')(hi:i<env.length)(n:H a=none)(w:Wr H' a)(t:d.top=true)(hin:Inn K (λb=>Cln Bad env σ b∧b≠a) H' d (.ref a)):
  aG K H₀ Bad (env.set i (some (.own d))) (σ.set i (some (.ref a))) H' :=by
 have cln:∀b,Cln Bad env σ b→b≠a→Cln Bad (env.set i (some (.own d))) (σ.set i (some (.ref a))) b:=λb h hb=>vG hi E.len h hb
 have cln' :∀b,Cln Bad env σ b→H b≠none→Cln Bad (env.set i (some (.own d))) (σ.set i (some (.ref a))) b:=λb h hb=>cln b h λz=>hb (z▸n)
 refine E.Ed (H' :=H') hi (E.same.free n) (λb=>E.bad a b n) w t (E.same.trans s) (λb h e=>E.bad b h (s.free e)) (λj b hj tj ej=> ?_) (hin.imp λb h=>cln b h.1 h.2) cln' (.of_same s)
 have hb:=E.nG tj ej
 refine⟨λz=>hb (z▸n), ?_⟩
 cases q:H b with
 |none=>exact absurd q hb
 |some o=>exact s b o q
theorem Stp.Aq(s:c0 H H')(hi:i<env.length)(hs:env.length=σ.length)(n:H a=none):Stp env σ H (env.set i (some (.own d))) (σ.set i (some (.ref a))) H' :=⟨λb o e _=>s b o e,λb ⟨j,h,e⟩=>by
 by_cases q:i=j
 ·subst q
  rw[cA (by rw[←hs];exact hi)] at e
  cases e
  exact .inr n
 ·rw[Gab q] at h e
  exact .inl ⟨j,h,e⟩,λj h=>by
 by_cases q:i=j
 ·subst q
  rw[cA hi] at h;exact h.elim
 ·rw[Gab q,Gab q]
  exact⟨rfl,rfl⟩⟩
theorem aG.change{d' :D}{o:HO}(E:aG K H₀ Bad env σ H)(e:env[i]? =some (some (.own d)))(ea:σ[i]? =some (some (.ref a)))(wo:isW o)(t:d'.top=true)
  (inn:Inn K (Cln Bad env σ) (upd H a o) d' (.ref a)):aG K H₀ Bad (env.set i (some (.own d'))) σ (upd H a o)∧Stp env σ H (env.set i (some (.own d'))) σ (upd H a o):=by
 have hi:i<env.length:=(Gac.mp e).1
 obtain⟨a',h1,h2,h3,h4,h5,h6⟩:=E.ow i d (.inl e)
 rw[ea] at h1;cases h1
 have hσ:σ.set i (some (.ref a))=σ:=set_same ea
 have tops:∀j,br (env.set i (some (.own d')))[j]? ↔br env[j]? :=λj=>by
  by_cases q:i=j
  ·subst q;rw[cA hi,e];exact⟨λ_=>trivial,λ_=>trivial⟩
  ·rw[Gab q]
 have clnE:∀b,Cln Bad env σ b→Cln Bad (env.set i (some (.own d'))) σ b:=λb h=> ⟨h.1,λj tj ej=>h.2 j ((tops j).mp tj) ej⟩
 have ca:∀b,Cln Bad env σ b→b≠a:=λb h z=>by subst z;exact h.2 i (by rw[e];trivial) ea
 have dQ:iP (Cln Bad env σ) H (upd H a o):=λb x hb q=>by
  have:b≠a:=by
   rintro rfl
   rcases q with q|q
   ·exact ca b q rfl
   ·obtain⟨y,hy,wy⟩:=h4
    rw[hb] at hy;cases hy
    cases x<;>simp[isT] at q<;>exact wy
  rw[ax this];exact hb
 have keepA:∀b x,H b=some x→b≠a→(upd H a o) b=some x:=λb x hb hn=>by rw[ax hn];exact hb
 refine⟨?_,⟨λb x hb n=>keepA b x hb λz=>n ⟨i,by rw[e];trivial,by rw[z];exact ea⟩,λb ⟨j,h,ej⟩=> .inl ?_,λj h=> ?_⟩⟩
 ·have:=E.Ed (H' :=upd H a o) (a:=a) (d:=d') hi h2 h3 ⟨o,aK,wo⟩ t (λb x hb=>keepA b x (E.same b x hb) λz=>by rw[z,h2] at hb;cases hb)
   (λb hb z=>by
    by_cases q:b=a
    ·subst q;rw[aK] at z;cases z
    ·rw[ax q] at z;exact E.bad b hb z)
   (λj b hj tj ej=>by
    have:b≠a:=by rintro rfl;exact hj (E.dj i j b (by rw[e];trivial) tj ea ej).symm
    exact⟨this,by rw[ax this]⟩)
   (by rw[hσ];exact inn.imp clnE) (λb h _=>by rw[hσ];exact clnE b h) dQ
  rw[hσ] at this
  exact this
 ·by_cases q:i=j
  ·subst q;exact⟨i,by rw[e];trivial,ej⟩
  ·rw[Gab q] at h;exact⟨j,h,ej⟩
 ·by_cases q:i=j
  ·subst q;rw[cA hi] at h;exact h.elim
  ·rw[Gab q];exact⟨rfl,rfl⟩
end
open PySem PySem.Spec PyProof.Rows L2
section
variable{X:Cx}{e a b c:Expr}{f g h:DE}{t u:DT}{pos:Pos}{st:Stmt}{rest:List Stmt}{s1 s2:DS}
theorem b8:kK X [] bg:=by
 refine Ge.aS ?_
 rintro D σ H ⟨H₀,Bad,env,o,E,e,k⟩
 cases e
 exact k σ H E .refl
theorem ae(h1:PSd X st s1)(h2:kK X rest s2):kK X (st::rest) (aE s1 s2):=by
 refine(nA h1 h2).aS ?_
 rintro D σ H ⟨H₀,Bad,env,o,E,e,k⟩
 obtain⟨o1,h1,e⟩:=bind_some e
 refine⟨H₀,Bad,env,o1,E,h1, ?_⟩
 cases o1 with
 |nx e1=>
  intro σ1 H1 E1 p1
  refine⟨H₀,Bad,e1,o,E1,e, ?_⟩
  cases o with
  |nx e2=>exactλσ2 H2 E2 p2=>k σ2 H2 E2 (p1.trans p2)
  |bk e2=>exactλσ2 H2 E2 p2=>k σ2 H2 E2 (p1.trans p2)
  |ct e2=>exactλσ2 H2 E2 p2=>k σ2 H2 E2 (p1.trans p2)
  |ret d=>exact k
 |bk e1=>cases e;exact k
 |ct e1=>cases e;exact k
 |ret d=>cases e;exact k
theorem aA(h1:PSd X st s1):kK X [st] s1:=u9 h1
theorem Ee:PSd X (.Break pos) bkS:=by
 refine Ds.aS ?_
 rintro D σ H ⟨H₀,Bad,env,o,E,e,k⟩
 cases e
 exact k σ H E .refl
theorem GR{K:aD}{F:Addr→Prop}{H₀ H' :Hp}{d:D}{v:V}(i:Inn K F H' d v)(hd:d.imm=true):sV K H₀ H' d v:=by
 refine⟨λt=> ?_,(i.imm hd).inn⟩
 cases d<;>simp[D.top] at t<;>simp[D.imm] at hd
theorem Mi{κ:Type}{K:aD}{F F' :Addr→Prop}{H:Hp}{kvs:List (κ×D)}{ws:List (κ×V)}(r:b7 K F H kvs ws)(h:aN (kvs.map (·.2))=true):b7 K F' H kvs ws:=
 ⟨r.1,λi p q e1 e2=>(r.2 i p q e1 e2).imm (qj h i p.2 (by rw[Gal,e1];rfl))⟩
theorem Bl{K:aD}{F:Addr→Prop}{H₀ H' :Hp}{d:D}{a:Addr}(i:Inn K F H' d (.ref a))(hd:d.ph=true)(n:H₀ a=none)(w:Wr H' a):sV K H₀ H' d (.ref a):=by
 refine⟨λ_=> ⟨a,rfl,n,w⟩, ?_⟩
 cases i with
 |tup h r=>exact(Inn.imm (.tup h r) (by exact hd)).inn
 |scr h=>exact .scr h
 |lst h r=>exact .lst h (r.imm hd)
 |dK h r=>exact .dK h (Mi r hd)
 |dT h r=>exact .dT h (Mi r hd)
theorem aY(he:PEd X e f):PSd X (.Return (some e) pos) (retS f):=by
 refine(Dt he).aS ?_
 rintro D σ H ⟨H₀,Bad,env,o,E,e,k⟩
 obtain⟨r,hr,e⟩:=bind_some e
 split at e
 ·rename_i ok
  cases e
  refine⟨H₀,Bad,env,r,E,hr,λv H1 s1 R=>k v H1 (E.same.trans s1) ?_⟩
  obtain⟨kd,d⟩:=r
  cases kd with
  |c=>exact GR R.inn ok
  |tn=>
   have ii:=R.inn
   obtain⟨a,rfl,n,w,t,i⟩:=R
   exact Bl ii ok (E.same.free n) w
  |to=>
   have ii:=R.inn
   obtain⟨a,rfl,n,w,t,i⟩:=R
   exact Bl ii ok n w
  |tb=>exact absurd (show false=true from ok) GaA
 ·cases e
theorem bL{xs ys:List Stmt}(hc:PTd X c t)(ha:kK X xs s1)(hb:kK X ys s2):PSd X (.If c xs ys pos) (ifS t s1 s2):=by
 refine(Lc hc ha hb).aS ?_
 rintro D σ H ⟨H₀,Bad,env,o,E,e,k⟩
 obtain⟨x,hx,e⟩:=bind_some e
 refine⟨H₀,Bad,env,x,E,hx,λH1 s1=> ?_⟩
 have st:Stp env σ H env σ H1:= .of_same s1
 have fin:∀{s:DS},s env=some o→tS X s D σ H1:=λ{s} e=> ⟨H₀,Bad,env,o,E.mono s1,e,by
  cases o with
  |nx e2=>exactλσ2 H2 E2 p2=>k σ2 H2 E2 (st.trans p2)
  |bk e2=>exactλσ2 H2 E2 p2=>k σ2 H2 E2 (st.trans p2)
  |ct e2=>exactλσ2 H2 E2 p2=>k σ2 H2 E2 (st.trans p2)
  |ret d=>exact k⟩
 dsimp only
 cases x with
 |true=>rw[Gag rfl];rw[Gag rfl] at e;exact fin e
 |false=>rw[Gae GaA];rw[Gae GaA] at e;exact fin e
theorem Ef{X:Cx}{Bad:Addr→Prop}{env:Env}{σ:St}{H:Hp}{i:Nat}{x:Str}(E:aG X.K H₀ Bad env σ H)(hl:σ.length=X.N.length)(hi:X.N[i]? =some x):i<env.length:=by
 rw[E.len,hl];exact(Gac.mp hi).1
theorem az{i:Nat}{x:Str}{pos' :Pos}(hN:X.N.Nodup)(hi:X.N[i]? =some x)(hx:Loc X.env.scope x)(he:PEd X e f)(hs:swapsWith e (some (.Name x pos')) pos.line X.env=pure false:=by rfl)
  (hf:X.fn x=true∨X.env.scope.names.lookup x=some .local:=by first|exact .inl rfl|exact .inr rfl|assumption):PSd X (.Assign [.Name x pos'] e pos) (aR i f):=by
 intro pins s σ H D I hw
 have hl:=I.len
 refine(A8 hN hi hx he hs hf) pins s σ H D I ?_
 obtain⟨H₀,Bad,env,o,E,e,k⟩:=hw
 obtain⟨r,hr,e⟩:=bind_some e
 obtain⟨e',hst,rfl⟩:=Gam.mp e
 have hie:i<env.length:=Ef E hl hi
 refine⟨H₀,Bad,env,r,E,hr,λv H1 s1 R=> ?_⟩
 have st:Stp env σ H env σ H1:= .of_same s1
 obtain⟨kd,d⟩:=r
 unfold stored at hst
 cases kd with
 |c=>
  cases hst
  exact k _ H1 ((E.mono s1).kY R) (st.trans .kY)
 |tn=>
  cases hst
  obtain⟨a,rfl,n,w,t,i⟩:=R
  exact k _ H1 (E.Aq s1 hie n w t i) (.Aq s1 hie E.len n)
 |to=>cases hst
 |tb=>cases hst
def Cu(K:aD)(F N:Addr→Prop)(J:It)(ds:List D)(H1:Hp):Prop:=
 ∀Hi:Hp,(∀b o,H1 b=some o→N b→Hi b=some o)→(∀(i:Nat) d,ds[i]? =some d→J.go i Hi∧∀x H2,J.yld i Hi x H2→c0 Hi H2∧Rep K F H2 d x)∧J.stop ds.length Hi
noncomputable def tI(X:Cx)(src:DI):TI:=λσ H R=>∃H₀ Bad env ds,aG X.K H₀ Bad env σ H∧src env=some ds∧∀J H',c0 H H' →Cu X.K (λb=>Cln Bad env σ b∧H' b≠none) (λb=>¬Ow env σ b) J ds H' →R J H'
abbrev PId(X:Cx)(tg iter:Expr)(src:DI):Prop:=PI X tg iter (tI X src)
theorem _root_.L2.PI.aS{tg iter:Expr}{w w' :TI}(h:PI X tg iter w')(i:∀σ H R,w σ H R→w' σ H R):PI X tg iter w:=λpins s σ H R I q=>h pins s σ H R I (i σ H R q)
theorem aG.lock{K:aD}{H₀:Hp}{Bad:Addr→Prop}{env:Env}{σ:St}{H:Hp}(E:aG K H₀ Bad env σ H)(l:Option Nat):aG K H₀ Bad (bR l env) σ H∧(∀b,Ow (bR l env) σ b→Ow env σ b)∧∀i:Nat,br (bR l env)[i]? ↔br env[i]? :=by
 cases l with
 |none=>exact⟨E,λ_ h=>h,λ_=>Iff.rfl⟩
 |some j=>
  unfold bR
  dsimp only
  split
  ·rename_i d q
   have hj:j<env.length:=(Gac.mp q).1
   have tops:∀i,br (env.set j (some (.lok d)))[i]? ↔br env[i]? :=λi=>by
    by_cases z:j=i
    ·subst z;rw[cA hj,q];exact⟨λ_=>trivial,λ_=>trivial⟩
    ·rw[Gab z]
   have cln:∀b,Cln Bad env σ b→Cln Bad (env.set j (some (.lok d))) σ b:=λb h=> ⟨h.1,λi t e=>h.2 i ((tops i).mp t) e⟩
   refine⟨⟨E.same,by simpa using E.len,E.bad,λi di e=> ?_,λi di e=> ?_,λi di e=> ?_,λi k b t1 t2 e1 e2=> ?_⟩,λb ⟨i,h,e⟩=> ?_,tops⟩
   ·rcases get_set e with⟨z,e⟩| ⟨z,e⟩
    ·cases e
    ·obtain⟨v,h1,h2⟩:=E.sh i di e;exact⟨v,h1,h2.imp cln⟩
   ·have e' :env[i]? =some (some (.own di))∨env[i]? =some (some (.lok di)):=by
     rcases e with e|e
     ·rcases get_set e with⟨z,e⟩| ⟨z,e⟩
      ·cases e
      ·exact .inl e
     ·rcases get_set e with⟨z,e⟩| ⟨z,e⟩
      ·cases e;subst z;exact .inl q
      ·exact .inr e
    obtain⟨b,h1,h2,h3,h4,h5,h6⟩:=E.ow i di e'
    exact⟨b,h1,h2,h3,h4,h5,h6.imp cln⟩
   ·rcases get_set e with⟨z,e⟩| ⟨z,e⟩
    ·cases e
    ·obtain⟨b,h1,hw,h2,h3⟩:=E.bo i di e;exact⟨b,h1,hw,h2,h3.imp cln⟩
   ·have t1' :vC env[i]? :=by
     by_cases z:j=i
     ·subst z;rw[q];trivial
     ·rw[Gab z] at t1;exact t1
    exact E.dj i k b t1' ((tops k).mp t2) e1 e2
   ·by_cases z:j=i
    ·subst z;rw[cA hj] at h;exact h.elim
    ·rw[Gab z] at h;exact⟨i,h,e⟩
  ·exact⟨E,λ_ h=>h,λ_=>Iff.rfl⟩
theorem aG.free{K:aD}{H₀:Hp}{Bad:Addr→Prop}{env:Env}{σ:St}{H:Hp}(E:aG K H₀ Bad env σ H)(l:Option Nat):aG K H₀ Bad (iM l env) σ H:=by
 cases l with
 |none=>exact E
 |some j=>
  unfold iM
  dsimp only
  split
  ·rename_i d q
   have hj:j<env.length:=(Gac.mp q).1
   have tops:∀i,br (env.set j (some (.own d)))[i]? ↔br env[i]? :=λi=>by
    by_cases z:j=i
    ·subst z;rw[cA hj,q];exact⟨λ_=>trivial,λ_=>trivial⟩
    ·rw[Gab z]
   have cln:∀b,Cln Bad env σ b→Cln Bad (env.set j (some (.own d))) σ b:=λb h=> ⟨h.1,λi t e=>h.2 i ((tops i).mp t) e⟩
   refine⟨E.same,by simpa using E.len,E.bad,λi di e=> ?_,λi di e=> ?_,λi di e=> ?_,λi k b t1 t2 e1 e2=> ?_⟩
   ·rcases get_set e with⟨z,e⟩| ⟨z,e⟩
    ·cases e
    ·obtain⟨v,h1,h2⟩:=E.sh i di e;exact⟨v,h1,h2.imp cln⟩
   ·have e' :env[i]? =some (some (.own di))∨env[i]? =some (some (.lok di)):=by
     rcases e with e|e
     ·rcases get_set e with⟨z,e⟩| ⟨z,e⟩
      ·cases e;subst z;exact .inr q
      ·exact .inl e
     ·rcases get_set e with⟨z,e⟩| ⟨z,e⟩
      ·cases e
      ·exact .inr e
    obtain⟨b,h1,h2,h3,h4,h5,h6⟩:=E.ow i di e'
    exact⟨b,h1,h2,h3,h4,h5,h6.imp cln⟩
   ·rcases get_set e with⟨z,e⟩| ⟨z,e⟩
    ·cases e
    ·obtain⟨b,h1,hw,h2,h3⟩:=E.bo i di e;exact⟨b,h1,hw,h2,h3.imp cln⟩
   ·have t1' :vC env[i]? :=by
     by_cases z:j=i
     ·subst z;rw[q];trivial
     ·rw[Gab z] at t1;exact t1
    exact E.dj i k b t1' ((tops k).mp t2) e1 e2
  ·exact E
end
open PySem PySem.Spec PyProof.Rows L2
section
variable{X:Cx}{e a b c:Expr}{f g h:DE}{t u:DT}{pos:Pos}{st:Stmt}{rest:List Stmt}{s1 s2:DS}
theorem vH{env:Env}{l:Option Nat}{i:Nat}(h:∀j,l=some j→j≠i):(bR l env)[i]? =env[i]? :=by
 unfold bR
 split
 ·rfl
 ·rename_i j
  split
  ·rw[Gab (h j rfl)]
  ·rfl
theorem Stp.loop{env envN:Env}{σ σN:St}{H HN:Hp}{l:Option Nat}(p:Stp (bR l env) σ H envN σN HN)(lo:∀b,Ow (bR l env) σ b→Ow env σ b):Stp env σ H (if qC l env then iM l envN else envN) σN HN:=by
 have same:qC l env=false→bR l env=env:=λh=>by
  unfold qC at h
  unfold bR
  split at h
  ·rfl
  ·split at h
   ·cases h
   ·rfl
 cases ho:qC l env with
 |false=>
  rw[Gae GaA]
  rw[same ho] at p
  exact p
 |true=>
  rw[Gag rfl]
  unfold qC at ho
  split at ho
  ·cases ho
  ·rename_i j
   split at ho
   ·rename_i d q
    have hj:j<env.length:=(Gac.mp q).1
    have lockj:(bR (some j) env)[j]? =some (some (.lok d)):=by unfold bR;simp only[q];exact cA hj
    have other:∀i,j≠i→(bR (some j) env)[i]? =env[i]? :=λi hi=>vH λk e=>by cases e;exact hi
    refine⟨λb o e n=>p.keep b o e λz=>n (lo b z),λb ⟨i,h,e⟩=> ?_,λi h=> ?_⟩
    ·by_cases z:j=i
     ·subst z
      unfold iM at h
      dsimp only at h
      split at h
      ·rename_i d' q'
       obtain⟨h1,h2⟩:=p.lk j (by rw[q'];trivial)
       rw[h2] at e
       exact .inl ⟨j,by rw[q];trivial,e⟩
      ·rcases p.ow b ⟨j,h,e⟩ with w|w
       ·exact .inl (lo b w)
       ·exact .inr w
     ·have h' :isO envN[i]? :=by
       unfold iM at h
       dsimp only at h
       split at h
       ·rw[Gab z] at h;exact h
       ·exact h
      rcases p.ow b ⟨i,h',e⟩ with w|w
      ·exact .inl (lo b w)
      ·exact .inr w
    ·by_cases z:j=i
     ·subst z
      unfold iM at h⊢
      dsimp only at h⊢
      split at h
      ·rename_i d' q'
       have hj' :j<envN.length:=(Gac.mp q').1
       rw[cA hj'] at h;exact h.elim
      ·rename_i q'
       obtain⟨h1,_⟩:=p.lk j h
       rw[lockj] at h1
       exact absurd h1 (q' d)
     ·have hN:(iM (some j) envN)[i]? =envN[i]? :=by
       unfold iM
       dsimp only
       split
       ·rw[Gab z]
       ·rfl
      rw[hN] at h⊢
      obtain⟨h1,h2⟩:=p.lk i h
      rw[other i z] at h1
      exact⟨h1,h2⟩
   ·cases ho
theorem t5{Bad:Addr→Prop}{env env' :Env}{σ σ' :St}{H H' :Hp}(p:Stp env σ H env' σ' H'){b:Addr}(h:Cln Bad env σ b)(hb:H b≠none):Cln Bad env' σ' b:=⟨h.1,λi t e=>by
 rcases sU t with o|o
 ·rcases p.ow b ⟨i,o,e⟩ with⟨j,w,ej⟩|w
  ·exact h.2 j w.ol.top ej
  ·exact hb w
 ·obtain⟨h1,h2⟩:=p.lk i o
  rw[h1] at t
  rw[h2] at e
  exact h.2 i t e⟩
theorem cy{tg iter:Expr}{body:List Stmt}{l:Option Nat}{src:DI}{gd:DG}{sb:DS}(hp:PassesOwn (model X.prog X.w) X.A X.env X.xe)(hc:X.calm=true)(hi:PId X tg iter src)(hg:PGd X tg gd)(hb:kK X body sb)
  (hs:∀x,foldedSetIterable iter X.env x=pure x:=by intro _;rfl):PSd X (.For tg iter body [] pos) (gW l src gd sb):=by
 refine(Dx hp hc hi hg hb hs).aS ?_
 rintro D σ H ⟨H₀,Bad,env,o,E,e,k⟩
 obtain⟨ds,hds,e⟩:=bind_some e
 obtain⟨o1,ho1,rfl⟩:=Gam.mp e
 obtain⟨EL,lo,_⟩:=E.lock l
 refine⟨H₀,Bad,bR l env,ds,EL,hds,λJ H1 sH it=> ?_⟩
 have E1:=EL.mono sH
 have st1:Stp env σ H env σ H1:= .of_same sH
 have nxOk:∀envN σN HN,o1= .nx envN→aG X.K H₀ Bad envN σN HN→Stp (bR l env) σ H1 envN σN HN→D.nx σN HN:=λenvN σN HN eo EN pN=>by
  subst eo
  refine k σN HN ?_ (st1.trans (pN.loop lo))
  show aG X.K H₀ Bad (if qC l env then iM l envN else envN) σN HN
  split
  ·exact EN.free l
  ·exact EN
 refine⟨λi m σ' H' =>m=ds.length -i∧i≤ds.length∧∃envi,aG X.K H₀ Bad envi σ' H' ∧Stp (bR l env) σ H1 envi σ' H' ∧forL gd sb (ds.drop i) envi=some o1,
  ⟨ds.length,by simp,GbI _,_,E1,.refl,by simpa using ho1⟩, ?_⟩
 rintro i m σ' H' ⟨rfl,hle,envi,Ei,pi,ei⟩
 obtain⟨items,stop⟩:=it H' λb o hb n=>pi.keep b o hb n
 by_cases hlt:i<ds.length
 ·obtain⟨go,yld⟩:=items i ds[i] (by simp[hlt])
  refine .inr ⟨go,λσ2 H2=>(ds.length -(i+1))=ds.length -(i+1)∧i+1≤ds.length∧∃envi,aG X.K H₀ Bad envi σ2 H2∧Stp (bR l env) σ H1 envi σ2 H2∧forL gd sb (ds.drop (i+1)) envi=some o1,λσ2 H2 q=> ⟨_,by omega,q⟩,λx H2 y=> ?_⟩
  obtain⟨s2,rep⟩:=yld x H2 y
  have hd:ds.drop i=ds[i]::ds.drop (i+1):=Gbw hlt
  rw[hd] at ei
  unfold forL at ei
  obtain⟨e2,hg2,ei⟩:=bind_some ei
  obtain⟨o2,hb2,ei⟩:=bind_some ei
  refine⟨H₀,Bad,envi,ds[i],e2,Ei.mono s2,hg2,rep.imp λb q=>t5 pi q.1 q.2,λσ3 H3 E3 p3=> ?_⟩
  have p3' :Stp (bR l env) σ H1 e2 σ3 H3:=(pi.trans (.of_same s2)).trans p3
  refine⟨H₀,Bad,e2,o2,E3,hb2, ?_⟩
  cases o2 with
  |nx e4=>exactλσ4 H4 E4 p4=> ⟨rfl,hlt,e4,E4,p3'.trans p4,ei⟩
  |ct e4=>exactλσ4 H4 E4 p4=> ⟨rfl,hlt,e4,E4,p3'.trans p4,ei⟩
  |bk e4=>
   cases ei
   exactλσ4 H4 E4 p4=>nxOk e4 σ4 H4 rfl E4 (p3'.trans p4)
  |ret d=>
   cases ei
   exact k
 ·have hi:i=ds.length:=by omega
  subst hi
  rw[GbM] at ei
  cases ei
  exact .inl ⟨stop,nxOk envi σ' H' rfl Ei pi⟩
theorem Eg{body:List Stmt}{sb:DS}(hp:PassesOwn (model X.prog X.w) X.A X.env X.xe)(hc:PTd X c t)(hb:kK X body sb):PSd X (.While c body [] pos) (ui t sb):=by
 refine(Dv hp hc hb).aS ?_
 rintro D σ H ⟨H₀,Bad,env,o,E,e,k⟩
 refine⟨λm σ' H' =>∃envi,aG X.K H₀ Bad envi σ' H' ∧Stp env σ H envi σ' H' ∧gX t sb m envi=some o,⟨100000,env,E,.refl,e⟩, ?_⟩
 rintro m σ' H' ⟨envi,Ei,pi,ei⟩
 cases m with
 |zero=>cases ei
 |succ m=>
  unfold gX at ei
  obtain⟨bb,hbb,ei⟩:=bind_some ei
  refine⟨H₀,Bad,envi,bb,Ei,hbb,λH1 s1=> ?_⟩
  have pi1:Stp env σ H envi σ' H1:=pi.trans (.of_same s1)
  dsimp only
  cases bb with
  |true=>
   rw[Gag rfl]
   rw[Gag rfl] at ei
   obtain⟨o2,hb2,ei⟩:=bind_some ei
   refine⟨λσ2 H2=>∃envi,aG X.K H₀ Bad envi σ2 H2∧Stp env σ H envi σ2 H2∧gX t sb m envi=some o,λσ2 H2 q=> ⟨m,by omega,q⟩,H₀,Bad,envi,o2,Ei.mono s1,hb2, ?_⟩
   cases o2 with
   |nx e4=>exactλσ4 H4 E4 p4=> ⟨e4,E4,pi1.trans p4,ei⟩
   |ct e4=>exactλσ4 H4 E4 p4=> ⟨e4,E4,pi1.trans p4,ei⟩
   |bk e4=>cases ei;exactλσ4 H4 E4 p4=>k σ4 H4 E4 (pi1.trans p4)
   |ret d=>cases ei;exact k
  |false=>
   rw[Gae GaA]
   rw[Gae GaA] at ei
   cases ei
   exact k σ' H1 (Ei.mono s1) pi1
theorem aG.fO{K:aD}{H₀:Hp}{Bad:Addr→Prop}{env:Env}{σ:St}{H:Hp}(E:aG K H₀ Bad env σ H){b:Addr}{o:HO}(h:Ow env σ b)(hb:H b=some o):¬isT o:=by
 intro q
 obtain⟨i,h1,h2⟩:=h
 obtain⟨y,hy,wy⟩:=E.Iy h1.ol.top h2
 rw[hb] at hy;cases hy
 cases o<;>simp[isT] at q<;>exact wy
theorem aG.lX{K:aD}{H₀:Hp}{Bad:Addr→Prop}{env:Env}{σ:St}{H Hi:Hp}{d:D}{v:V}(E:aG K H₀ Bad env σ H)(keep:∀b o,H b=some o→¬Ow env σ b→Hi b=some o)(r:Rep K (Cln Bad env σ) H d v):
  Rep K (λb=>Cln Bad env σ b∧H b≠none) Hi d v:=
 r.gen (λb o hb q=>keep b o hb (by
  rcases q with q|q
  ·exactλ⟨i,h1,h2⟩=>q.2 i h1.ol.top h2
  ·exactλw=>E.fO w hb q)) λb q hb=> ⟨q,hb⟩
noncomputable def NV(K:aD)(tl:TE):TI:=λσ H R=>tl σ H λx H1=>∃a,x= .ref a∧(((∃xs,SqL K H1 a xs)∧R (Itl K a) H1)∨((∃xs,SqT K H1 a xs)∧R (Itt K a) H1))
theorem Eh{tg l:Expr}{tl:TE}(hl:PE X l tl):PI X tg l (NV X.K tl):=by
 intro pins s σ H R I h
 refine thn (hl pins s σ H _ I h) λv s1 ⟨x,H1,I1,r1,q1⟩=> ?_
 obtain⟨a,e,q1⟩:=q1
 subst e
 cases r1
 have fp:∀b∈[s1.heap.objs.size],mV X pins H1 b:=λb hb=>by
  have e:b=s1.heap.objs.size:=by simpa using hb
  subst e
  exact I1.C5 (Gap _) (I1.hok.fresh (Gap _))
 rcases q1 with⟨⟨xs,hq⟩,q⟩| ⟨⟨xs,hq⟩,q⟩
 ·obtain⟨its,rv,p,hz⟩:=I1.list hq
  refine wpAny_pyIter_list p.isList ?_
  exact⟨s1.heap.objs.size,[s1.heap.objs.size],_,_,H1,rfl,I1.kept (t' :=s1.toks) λb o e=>Gaj _ e,C6 a _,⟨_,GaC _ rfl,rfl,rfl⟩,fp,q⟩
 ·obtain⟨its,rv,p,hz⟩:=I1.tuple hq
  refine GcN (show s1.heap.IsTuple a its.toArray from p) ?_
  exact⟨s1.heap.objs.size,[s1.heap.objs.size],_,_,H1,rfl,I1.kept (t' :=s1.toks) λb o e=>Gaj _ e,A9 a _,⟨_,GaC _ rfl,rfl,rfl⟩,fp,q⟩
theorem Bm{Bad:Addr→Prop}{env:Env}{σ:St}{H H1:Hp}{kd:Cls}{d:D}{v:V}(E:aG X.K H₀ Bad env σ H)(ht:d.top=true)(hk:kd≠ .to)(Rv:jF X.K H₀ Bad env σ H H1 ⟨kd,d⟩ v):∀a,v= .ref a→¬Ow env σ a:=λa ea=>by
 cases kd with
 |c=>
  have Rv' :Rep X.K (Cln Bad env σ) H1 d v:=Rv
  have fin:∀b,Cln Bad env σ b→¬Ow env σ b:=λb f ⟨i,h1,h2⟩=>f.2 i h1.ol.top h2
  cases Rv' with
  |tup h l r=>simp[D.top] at ht
  |lst f h l r=>cases ea;exact fin _ f
  |dK f h l r=>cases ea;exact fin _ f
  |dT f h l r=>cases ea;exact fin _ f
  |non=>cases ea
  |bl b=>cases ea
  |int i=>cases ea
  |str x=>cases ea
  |scr h=>simp[D.top] at ht
 |tn=>
  obtain⟨a',e',n,_⟩:=Rv
  rw[e'] at ea;cases ea
  exactλ⟨i,h1,h2⟩=>E.nG h1.ol.top h2 n
 |to=>exact absurd rfl hk
 |tb=>exact Rv.2 a ea ht
theorem fP{tg:Expr}(he:PEd X e f):PId X tg e (kS f):=by
 refine(Eh he).aS ?_
 rintro σ H R ⟨H₀,Bad,env,ds,E,hf,k⟩
 obtain⟨⟨kd,d⟩,hr,hf⟩:=bind_some hf
 split at hf
 ·cases hf
 rename_i hk
 refine⟨H₀,Bad,env,_,E,hr,λv H1 s1 Rv=> ?_⟩
 have ii:=Rv.inn
 have E1:=E.mono s1
 split at hf
 ·rename_i xs hd
  cases hf
  have hd' :d= .lst ds:=hd
  subst hd'
  have hno:=Bm E rfl hk Rv
  cases ii with
  | @lst la lv _ h r=>
   refine⟨_,rfl,.inl ⟨⟨_,.inl h⟩,k _ H1 s1 λHi keep=> ?_⟩⟩
   have hh:Rd Hi la (.lst lv):=by
    rcases h with h| ⟨o,h⟩
    ·exact .inl (keep _ _ h (hno _ rfl))
    ·exact .inr ⟨o,keep _ _ h (hno _ rfl)⟩
   refine⟨λi d hd=> ?_,⟨_,.inl hh,by rw[r.1];exact Gap _⟩⟩
   obtain⟨x,h1,h2⟩:=r.get hd
   refine⟨⟨_,x,.inl hh,h1⟩,λy H2 ⟨e2,e3⟩=> ?_⟩
   subst e2
   refine⟨bZ, ?_⟩
   have:=e3 _ (.inl hh)
   rw[h1] at this;cases this
   exact E1.lX keep h2
 ·rename_i xs hd
  cases hf
  have hd' :d= .tup ds:=hd
  subst hd'
  cases ii with
  | @tup la lv _ h r=>
   refine⟨_,rfl,.inr ⟨⟨_,SqT.of h⟩,k _ H1 s1 λHi keep=> ?_⟩⟩
   have hh:Hi la=some (.tup lv):=keep _ _ h λw=>E1.fO w h trivial
   refine⟨λi d hd=> ?_,⟨_,SqT.of hh,by rw[r.1];exact Gap _⟩⟩
   obtain⟨x,h1,h2⟩:=r.get hd
   refine⟨⟨_,x,SqT.of hh,h1⟩,λy H2 ⟨e2,e3⟩=> ?_⟩
   subst e2
   refine⟨bZ, ?_⟩
   have:=e3 _ (SqT.of hh)
   rw[h1] at this;cases this
   exact E1.lX keep h2
 ·rename_i ns hd
  cases hf
  have hd' :d= .scr ns:=hd
  subst hd'
  cases ii with
  | @scr la _ h=>
   refine⟨_,rfl,.inl ⟨⟨_,h.sq⟩,k _ H1 s1 λHi keep=> ?_⟩⟩
   have hh:Scr X.K Hi la ns:=by
    rcases h with⟨o,h⟩|h
    ·exact .inl ⟨o,keep _ _ h λw=>E1.fO w h trivial⟩
    ·exact .inr h
   refine⟨λi d hd=> ?_,⟨_,hh.sq,by simp⟩⟩
   rw[Gal] at hd
   cases q:ns[i]? with
   |none=>rw[q] at hd;cases hd
   |some n=>
    rw[q] at hd;cases hd
    refine⟨⟨_,.int n,hh.sq,by rw[Gal,q];rfl⟩,λy H2 ⟨e2,e3⟩=> ?_⟩
    subst e2
    have:=e3 _ hh.sq
    rw[Gal,q] at this;cases this
    exact⟨bZ,.int n⟩
 ·cases hf
theorem kM{lo:Int}{n:Nat}{F N:Addr→Prop}{H1:Hp}:Cu X.K F N (Itr lo n) (bx lo n) H1:=λHi _=>by
 refine⟨λi d hd=> ?_,by show n≤(bx lo n).length;simp[bx]⟩
 have hi:i<n:=by have:=(Gac.mp hd).1;simpa[bx] using this
 refine⟨hi,λx H2 ⟨e1,e2⟩=> ?_⟩
 subst e1 e2
 have:d= .int (lo+(i:Int)):=by
  unfold bx at hd
  rw[Gal,List.getElem?_range hi] at hd
  cases hd;rfl
 subst this
 exact⟨bZ,.int _⟩
theorem fQ{i:Int}(h:bU i=true): -(2^62)≤i∧i<2^62:=by
 unfold bU at h
 rw[Gau] at h
 have h1:=Gaw h.1
 have h2:=Gaw h.2
 omega
theorem f9{tg:Expr}{p:Pos}(hg:Gl X "range")(hm:X.mg "range"=none)(he:PEd X e f)(hs:starEach [e] X.env=[(false,eval e X.env)]:=by rfl):PId X tg (.Call (.Name "range" p) [e] [] pos) (gz f):=by
 refine(C7 hg hm (a4 he aa hs) hs).aS ?_
 rintro σ H R ⟨H₀,Bad,env,ds,E,hf,k⟩
 obtain⟨r,hr,hf⟩:=bind_some hf
 split at hf
 ·rename_i j hd
  split at hf
  ·rename_i hz
   cases hf
   refine⟨H₀,Bad,env,[r],E,by unfold a5 ao;rw[hr];rfl,λvs H1 s1 Rs=> ?_⟩
   cases Rs with
   |cons R1 t=>
    cases t
    have i:=R1.inn
    rw[hd] at i
    cases i
    exact⟨j,rfl,(fQ hz).1,(fQ hz).2,k _ H1 s1 kM⟩
  ·cases hf
 ·cases hf
theorem Cv{tg:Expr}{p:Pos}(hg:Gl X "range")(hm:X.mg "range"=none)(ha:PEd X a f)(hb:PEd X b g)(hs:starEach [a,b] X.env=[(false,eval a X.env),(false,eval b X.env)]:=by rfl)(hs2:starEach [b] X.env=[(false,eval b X.env)]:=by rfl):
  PId X tg (.Call (.Name "range" p) [a,b] [] pos) (Be f g):=by
 refine(C8 hg hm (a4 ha (a4 hb aa hs2) (by rw[hs,hs2])) hs hs2).aS ?_
 rintro σ H R ⟨H₀,Bad,env,ds,E,hf,k⟩
 obtain⟨r,hr,hf⟩:=bind_some hf
 obtain⟨r',hr',hf⟩:=bind_some hf
 split at hf
 ·rename_i i j hd hd'
  split at hf
  ·rename_i hz
   rw[Gau] at hz
   cases hf
   refine⟨H₀,Bad,env,[r,r'],E,by simp only[a5,ao,hr,hr'];rfl,λvs H1 s1 Rs=> ?_⟩
   cases Rs with
   |cons R1 t=>
    cases t with
    |cons R2 t=>
     cases t
     have i1:=R1.inn
     rw[hd] at i1
     cases i1
     have i2:=R2.inn
     rw[hd'] at i2
     cases i2
     exact⟨i,j,rfl,⟨(fQ hz.1).1,(fQ hz.1).2,(fQ hz.2).1,(fQ hz.2).2⟩,k _ H1 s1 kM⟩
  ·cases hf
 ·cases hf
theorem aP{i:Nat}{x:Str}(hN:X.N.Nodup)(hi:X.N[i]? =some x)(hx:Loc X.env.scope x)(hf:X.fn x=true∨X.env.scope.names.lookup x=some .local:=by first|exact .inl rfl|exact .inr rfl|assumption):PGd X (.Name x pos) (gN i):=by
 refine(B5 hN hi hx hf).aS ?_
 rintro v σ H Q ⟨H₀,Bad,env,d,env',E,hg,r,k⟩
 cases hg
 exact k _ H (E.kY r) .kY
noncomputable def tGs(X:Cx)(is:List Nat):TGs:=λvs σ H Q=>∃H₀ Bad env ds env',aG X.K H₀ Bad env σ H∧gNs is ds env=some env' ∧aX X.K (λb=>Cln Bad env σ b∧H b≠none) H ds vs∧∀σ' H',aG X.K H₀ Bad env' σ' H' →Stp env σ H env' σ' H' →Q σ' H'
theorem _root_.L2.PGs.aS{es:List Expr}{t t' :TGs}(h:PGs X es t')(i:∀v σ H Q,t v σ H Q→t' v σ H Q):PGs X es t:=λpins s σ H v u Q I r q=>h pins s σ H v u Q I r (i v σ H Q q)
theorem k5:PGs X [] (tGs X []):=by
 refine Gf.aS ?_
 rintro vs σ H Q ⟨H₀,Bad,env,ds,env',E,hg,r,k⟩
 cases ds with
 |nil=>cases hg;exact⟨r.cV,k σ H E .refl⟩
 |cons d ds=>cases hg
theorem cN{es:List Expr}{i:Nat}{is:List Nat}(h1:PGd X e (gN i))(h2:PGs X es (tGs X is))(hs:(assignEach (e::es) X.env).map (·.2)=assign e X.env::(assignEach es X.env).map (·.2):=by rfl):PGs X (e::es) (tGs X (i::is)):=by
 refine(Du h1 h2 hs).aS ?_
 rintro vs σ H Q ⟨H₀,Bad,env,ds,env',E,hg,r,k⟩
 cases ds with
 |nil=>cases hg
 |cons d ds=>
  obtain⟨v,vr,rfl,r1,r2⟩:=r.cons_inv
  refine⟨v,vr,rfl,H₀,Bad,env,d,_,E,rfl,r1.imp λ_ q=>q.1,λσ1 H1 E1 p1=> ?_⟩
  refine⟨H₀,Bad,_,ds,env',E1,hg,r2.gen (λb o hb q=>p1.keep b o hb (by
   rcases q with q|q
   ·exactλ⟨j,w1,w2⟩=>q.1.2 j w1.ol.top w2
   ·exactλw=>E.fO w hb q)) (λb q hb=> ⟨t5 p1 q.1 hb, ?_⟩),λσ2 H2 E2 p2=>k σ2 H2 E2 (p1.trans p2)⟩
  cases o:H b with
  |none=>exact absurd o hb
  |some x=>rw[p1.keep b x o λ⟨j,w1,w2⟩=>q.1.2 j w1.ol.top w2];simp
theorem Bn:∀{is:List Nat} {ds:List D} {env env' :Env},gNs is ds env=some env' →ds.length=is.length
 |[],[],_,_,_=>rfl
 |[],_::_,_,_,h=>by cases h
 |_::_,[],_,_,h=>by cases h
 |i::is,d::ds,env,env',h=>by
  have:=Bn (is:=is) (ds:=ds) h
  simp[this]
theorem n8{es:List Expr}{j n:Nat}{is:List Nat}(hc:X.calm=true)(h:PGs X es (tGs X is))(hn:(assignEach es X.env).length=n:=by rfl)(hst:(assignEach es X.env).findIdx? (·.1)=none:=by rfl)(hl:is.length=n:=by rfl):PGd X (.Tuple es j pos) (gT is):=by
 refine(J4 hc h hn hst).aS ?_
 rintro v σ H Q ⟨H₀,Bad,env,d,env',E,hg,r,k⟩
 unfold gT at hg
 split at hg
 ·rename_i ds
  cases r with
  |tup h l r=>
   refine⟨_,_,rfl,SqT.of h,by rw[←l,Bn hg,hl],H₀,Bad,env,ds,env',E,hg,⟨l,λi d v e1 e2=>(r i d v e1 e2).gen (.of_same bZ) λb q hb=> ⟨q,hb⟩⟩,k⟩
 ·cases hg
end
open PySem PySem.Spec PyProof.Rows L2
section
variable{X:Cx}{e a b c:Expr}{f g h:DE}{t u:DT}{pos:Pos}{st:Stmt}{rest:List Stmt}{s1 s2:DS}
theorem nI{i:Nat}{env:Env}{d:D}(h:ownAt i env=some d):env[i]? =some (some (.own d)):=by
 unfold ownAt at h
 split at h
 ·rename_i d' q;cases h;exact q
 ·cases h
theorem nJ{K:aD}{F:Addr→Prop}{H:Hp}{ds:List D}{a:Addr}(w:Wr H a)(i:Inn K F H (.lst ds) (.ref a)):∃vs,H a=some (.lst vs)∧aX K F H ds vs:=by
 cases i with
 |lst h r=>
  rcases h with h| ⟨o,h⟩
  ·exact⟨_,h,r⟩
  ·obtain⟨y,hy,wy⟩:=w
   rw[h] at hy;cases hy;exact wy.elim
theorem bN{i:Nat}{x:Str}{px apos cpos:Pos}(hN:X.N[i]? =some x)(hv:Vis X.env.scope x)(he:PEd X e f)(hd:(x==("__debug__":Str))=false:=by decide)(hcd:(x==("__classdict__":Str))=false:=by decide)
  (hs1:starEach [e] X.env=[(false,eval e X.env)]:=by rfl)
  (hbase:attributeBase (.Name x px) "append" X.env (eval (.Name x px) X.env)=eval (.Name x px) X.env:=by rfl)
  (hfew:((backTo cpos (starEach [e] X.env)).all (λx=> !x.1)&&(backToKw cpos (keywordEach [] X.env)).all (λx=>x.1.isSome)
   &&decide (([e]:List Expr).length+([]:List Keyword).length+(if([]:List Keyword).isEmpty then 0 else 1)<30))=true:=by rfl)
  (hline:(apos.endLine==cpos.line)=true:=by rfl)(hs:swapsWith (.Call (.Attribute (.Name x px) "append" apos) [e] [] cpos) none pos.line X.env=pure false:=by rfl):
  PSd X (.Expr (.Call (.Attribute (.Name x px) "append" apos) [e] [] cpos) pos) (kT i f):=by
 refine(qh (B9 Gcp PySem.F.slot_list_append PySem.F.type_list_append oA (kL hN hv hd hcd) (a4 he aa hs1) hbase hfew hline hs1 rfl) hs).aS ?_
 rintro D σ H ⟨H₀,Bad,env,o,E,e,k⟩
 obtain⟨r,hr,e⟩:=bind_some e
 obtain⟨d,hd,e⟩:=bind_some e
 have q:=nI hd
 split at e
 ·rename_i xs
  split at e
  ·rename_i z
   rw[Gau] at z
   cases e
   obtain⟨a,h1,h2,h3,h4,h5,h6⟩:=E.ow i _ (.inl q)
   obtain⟨vs,hH,rp⟩:=nJ h4 h6
   refine⟨_,h1,.inl ⟨rfl,vs,.inl (.inl hH)⟩,H₀,Bad,env,[r],E,by unfold a5 ao;rw[hr];rfl,λws H2 s2 Rs=> ?_⟩
   cases Rs with
   | @cons _ v _ _ R1 tl=>
    cases tl
    have hH2:=s2 _ _ hH
    refine⟨a,vs,v,rfl,rfl,hH2,by rw[←rp.1,←size_eq];exact Gaw z.2, ?_⟩
    have E2:=E.mono s2
    have rep1:=R1.rep E z.1
    have rp2:aX X.K (Cln Bad env σ) H2 (xs++[r.d]) (vs++[v]):=(rp.gen (.of_same s2) λ_ f _=>f).append (.cons rep1 .nil)
    obtain⟨E3,p3⟩:=E2.change (d' := .lst (xs++[r.d])) (o:= .lst (vs++[v])) q h1 trivial rfl (.lst (.inl aK) (rp2.gen (λb o hb w=>by
     have:b≠a:=by
      rintro rfl
      rcases w with w|w
      ·exact w.2 i (by rw[q];trivial) h1
      ·rw[hH2] at hb;cases hb;exact w
     rw[ax this];exact hb) λ_ f _=>f))
    exact k σ _ E3 ((Stp.of_same s2).trans p3)
  ·cases e
 ·cases e
theorem Cw{i:Nat}{x:Str}{px apos cpos:Pos}(hN:X.N[i]? =some x)(hv:Vis X.env.scope x)(he:PEd X e f)(hd:(x==("__debug__":Str))=false:=by decide)(hcd:(x==("__classdict__":Str))=false:=by decide)
  (hs1:starEach [e] X.env=[(false,eval e X.env)]:=by rfl)
  (hbase:attributeBase (.Name x px) "extend" X.env (eval (.Name x px) X.env)=eval (.Name x px) X.env:=by rfl)
  (hfew:((backTo cpos (starEach [e] X.env)).all (λx=> !x.1)&&(backToKw cpos (keywordEach [] X.env)).all (λx=>x.1.isSome)
   &&decide (([e]:List Expr).length+([]:List Keyword).length+(if([]:List Keyword).isEmpty then 0 else 1)<30))=true:=by rfl)
  (hline:(apos.endLine==cpos.line)=true:=by rfl)(hs:swapsWith (.Call (.Attribute (.Name x px) "extend" apos) [e] [] cpos) none pos.line X.env=pure false:=by rfl):
  PSd X (.Expr (.Call (.Attribute (.Name x px) "extend" apos) [e] [] cpos) pos) (LA i f):=by
 refine(qh (B9 Gcp PySem.F.slot_list_extend PySem.F.type_list_extend Cf (kL hN hv hd hcd) (a4 he aa hs1) hbase hfew hline hs1 rfl) hs).aS ?_
 rintro D σ H ⟨H₀,Bad,env,o,E,e,k⟩
 obtain⟨⟨kd,rd⟩,hr,e⟩:=bind_some e
 obtain⟨d,hd,e⟩:=bind_some e
 have q:=nI hd
 split at e
 ·rename_i xs ys hrd
  have hrd' :rd= .lst ys:=hrd
  subst hrd'
  split at e
  ·rename_i z
   rw[Gau] at z
   cases e
   have hk:kd= .tn:=by have:=z.1;simpa using this
   subst hk
   obtain⟨a,h1,h2,h3,h4,h5,h6⟩:=E.ow i _ (.inl q)
   obtain⟨vs,hH,rp⟩:=nJ h4 h6
   refine⟨_,h1,.inl ⟨rfl,vs,.inl (.inl hH)⟩,H₀,Bad,env,[⟨.tn,.lst ys⟩],E,by unfold a5 ao;rw[hr];rfl,λws H2 s2 Rs=> ?_⟩
   cases Rs with
   | @cons _ v _ _ R1 tl=>
    cases tl
    obtain⟨b,rfl,nb,wb,_,ib⟩:=R1
    obtain⟨us,hB,ru⟩:=nJ wb ib
    have hH2:=s2 _ _ hH
    refine⟨a,b,vs,us,rfl,rfl,hH2,hB,by rw[←rp.1,←ru.1,←size_eq];exact Gaw z.2, ?_⟩
    have E2:=E.mono s2
    have rp2:aX X.K (Cln Bad env σ) H2 (xs++ys) (vs++us):=(rp.gen (.of_same s2) λ_ f _=>f).append (ru.gen (.of_same bZ) λ_ f _=>f.1)
    obtain⟨E3,p3⟩:=E2.change (d' := .lst (xs++ys)) (o:= .lst (vs++us)) q h1 trivial rfl (.lst (.inl aK) (rp2.gen (λb o hb w=>by
     have:b≠a:=by
      rintro rfl
      rcases w with w|w
      ·exact w.2 i (by rw[q];trivial) h1
      ·rw[hH2] at hb;cases hb;exact w
     rw[ax this];exact hb) λ_ f _=>f))
    exact k σ _ E3 ((Stp.of_same s2).trans p3)
  ·cases e
 ·cases e
def NW(K:aD):List V→Hp→VK→Prop:=λxs H Q=>∃x T t b,xs=[x,.ty T]∧mW K H x (.type t)∧PySem.W.kitOne K (.type t) (.type T)=some b∧Q (.bl b) H
theorem Ej:i4 X (.builtin "isinstance") (NW X.K):=by
 intro pins s σ H xs us Q I r h
 obtain⟨x,T,t,bb,rfl,ty,hk,q⟩:=h
 obtain⟨u,w',rfl,r1,r2⟩:=vals2 r
 cases r2
 exact Cc I r1 ty hk λtk=> ⟨.bl bb,H,I.tok _,rfl,q⟩
def t6(K:aD)(T:String):Prop:=∀t∈["NoneType","bool","int","str","tuple","list","dict"],PySem.W.kitOne K (.type t) (.type T)=some (T==t||(t=="bool"&&T=="int"))
theorem GS{K:aD}{F:Addr→Prop}{H:Hp}{d:D}{x:V}(i:Inn K F H d x)(hs:kR d=false):∃t∈["NoneType","bool","int","str","tuple","list","dict"],mW K H x (.type t)∧∀S,jJ S d=(S==t||(t=="bool"&&S=="int")):=by
 have rdl:∀{a:Addr} {vs:List V},Rd H a (.lst vs)→mW K H (.ref a) (.type "list"):=λh=>by
  rcases h with h| ⟨o,h⟩
  ·exact .lst h
  ·exact .frz h
 cases i with
 |non=>exact⟨"NoneType",by simp,.non,λS=>by simp[jJ]⟩
 |bl b=>exact⟨"bool",by simp,.bl b,λS=>by simp[jJ]⟩
 |int i=>exact⟨"int",by simp,.int i,λS=>by simp[jJ]⟩
 |str x=>exact⟨"str",by simp,.str x,λS=>by simp[jJ]⟩
 |tup h r=>exact⟨"tuple",by simp,.tup h,λS=>by simp[jJ]⟩
 |lst h r=>exact⟨"list",by simp,rdl h,λS=>by simp[jJ]⟩
 |dK h r=>exact⟨"dict",by simp,.dK h,λS=>by simp[jJ]⟩
 |dT h r=>exact⟨"dict",by simp,.dT h,λS=>by simp[jJ]⟩
 |scr h=>cases hs
theorem qH{T:String}{x:Str}{p p2:Pos}(kit:t6 X.K T)(he:PEd X e f)(hg:Gl X "isinstance")(hm:X.mg "isinstance"=none)(hg2:Gl X x)(hm2:X.mg x=none)(hv2:bootBuiltins x=some (.type T))(hn2:x≠"__name__":=by decide)(hd2:(x==("__debug__":Str))=false:=by decide)
  (hs1:starEach [e,.Name x p2] X.env=(false,eval e X.env)::starEach [.Name x p2] X.env:=by rfl)(hs2:starEach [.Name x p2] X.env=(false,eval (.Name x p2) X.env)::starEach [] X.env:=by rfl)(hpl:(backTo pos (starEach [.Name x p2] X.env)).any (·.1)=false:=by rfl):
  PEd X (.Call (.Name "isinstance" p) [e,.Name x p2] [] pos) (bE (Co T f)):=by
 have ht:PE X (.Name x p2) (tC (.ty T)):=Gb hg2 hm2 hv2 rfl hn2 hd2
 refine(vg Ej hg hm (by decide+kernel) (ud he (ud ht Af hs2) hs1) (by decide) (by decide) hs1 hpl).aS ?_
 rintro σ H Q ⟨H₀,Bad,env,rv,E,e,k⟩
 obtain⟨bb,e',rfl⟩:=Gam.mp e
 clear e
 have e:=e'
 clear e'
 obtain⟨r,hr,e⟩:=bind_some e
 split at e
 ·cases e
 ·rename_i hs
  cases e
  refine⟨H₀,Bad,env,r,E,hr,λv H1 s1 R=> ?_⟩
  obtain⟨t,ht,ty,hb⟩:=GS R.inn (by simpa using hs)
  exact⟨v,T,t,_,rfl,ty,kit t ht,by rw[←hb T];exact k _ H1 s1 (.bl _)⟩
theorem au:∀env rs,ao env=some rs→rs.length=0:=λenv rs h=>by cases h;rfl
theorem a7{r:DA}{n:Nat}(h:∀env rs,r env=some rs→rs.length=n):∀env rs,a5 f r env=some rs→rs.length=n+1:=λenv rs e=>by
 obtain⟨x,_,e⟩:=bind_some e
 obtain⟨xs,hx,e⟩:=bind_some e
 cases e
 rw[GaF,h env xs hx]
theorem aG.start{K:aD}{H:Hp}{N:List Str}{ds:List D}{vs:List V}(hl:ds.length≤N.length)(r:aX K (λ_=>True) H ds vs):aG K H (λ_=>False) (bz N.length ds) (start N vs) H:=by
 have nt:∀i:Nat,¬br (bz N.length ds)[i]? :=λi h=>by
  unfold bz at h
  by_cases hi:i<ds.length
  ·rw[GaS (by simpa using hi),Gal] at h
   cases q:ds[i]? with
   |none=>rw[q] at h;exact h
   |some d=>rw[q] at h;exact h
  ·rw[GaM (by simpa using hi),Gcn] at h
   split at h<;>exact h
 have no:∀{i:Nat} {s:Slot},(bz N.length ds)[i]? =some (some s)→br (some (some s))→False:=λ{i s} e h=>nt i (by rw[e];exact h)
 refine⟨λ_ _ e=>e,by simp[bz,L2.start,r.1],λ_ h=>h.elim,λi d e=> ?_,λi d e=> ?_,λi d e=> ?_,λi j a t _ _ _=>(nt i t.top).elim⟩
 ·unfold bz at e
  by_cases hi:i<ds.length
  ·rw[GaS (by simpa using hi),Gal] at e
   cases q:ds[i]? with
   |none=>rw[q] at e;cases e
   |some d' =>
    rw[q] at e
    have e' :d' =d:=by simpa using e
    subst e'
    obtain⟨v,h1,h2⟩:=r.get q
    refine⟨v, ?_,h2.imp λb _=> ⟨λz=>z,λj t=>(nt j t).elim⟩⟩
    unfold L2.start
    rw[GaS (by rw[Gah,←r.1];exact hi),Gal,h1];rfl
  ·rw[GaM (by simpa using hi),Gcn] at e
   split at e<;>cases e
 ·rcases e with e|e
  ·exact(no e trivial).elim
  ·exact(no e trivial).elim
 ·exact(no e trivial).elim
theorem cU{P:Program}{w:World}{K:aD}{mg:Str→Option Value}{base:Heap}{x qual:Str}{sd:Stmt}{fa:Addr}{fd:FuncData}{N ps:List Str}{k np:Nat}{body:DS}(F:Fun K x qual sd fa fd)(S:aW N ps (aJ sd))(hnp:ps.length=np)
  (hbody:∀(cdv:Value) (A:Around) (outer:List PySem.Env) (s:Shared) (H:Hp) (E:XK),gV k (A.deeper (envOfC qual (aJ sd) s.heap.objs.size fa cdv))→
   kK (Ai CX0 P w K mg base N qual (aJ sd) fa cdv A outer s H E).nox (jh sd) body):cC P w K mg base CX0 (k+1) fa fd ps (spD K np (fw N.length np body)):=by
 refine F.ok S (λvs H Q E h=> ?_) λcdv A outer s H vs Q E hr h=> ⟨_,hbody cdv A outer s H E hr, ?_⟩
 ·obtain⟨ds,d,h1,h2,_⟩:=h
  rw[←h2.1,h1,hnp]
 ·obtain⟨ds,d,h1,h2,h3,k⟩:=h
  unfold fw at h3
  rw[Gag h1] at h3
  obtain⟨o,ho,h3⟩:=bind_some h3
  have hl:ds.length≤N.length:=by
   have:=congrArg List.length S.pre
   rw[Gcj] at this
   omega
  refine⟨H,λ_=>False,bz N.length ds,o,aG.start hl h2,ho, ?_⟩
  cases o with
  |ret d' =>cases h3;exactλv H' s' R=>k v H' s' R
  |nx e=>cases h3;exactλσ' H' E' p' =>k .non H' E'.same ⟨λt=>(by cases t),.non⟩
  |bk e=>cases h3
  |ct e=>cases h3
theorem JE{K:aD}{H:Hp}{a:Addr}{ns:List Int}{sp:List D→Option D}{E:XK}(hO:Gz H)(hS:SqL K H a (ns.map V.int))(h:sp [.scr ns]=some (.bl true)):spD K 1 sp [.ref a] H (λv _=>v= .bl true) E:=by
 refine⟨[.scr ns],.bl true,rfl,aX.cons (.scr ?_) .nil,h,λv H' _ R=> ?_⟩
 ·rcases hS with(z|z)|z
  ·rcases hO a with q| ⟨o,xs,q⟩<;>rw[z] at q<;>cases q
  ·exact .inl z
  ·exact .inr z
 ·have i:=R.2
  cases i;rfl
end
open PySem PySem.Spec PyProof.Rows L2
theorem plain_all{n:Nat}{ds:List D}(h:ds.all (ay n)=true){i:Nat}{d:D}(e:ds[i]? =some d):ay n d=true:=Gat.mp h d (GaL e)
theorem vI:∀(n:Nat) (d:D),ay n d=true→eqD d d=true:=by
 intro n
 induction n with
 |zero=>intro d h;cases d<;>simp[ay] at h<;>simp[eqD]
 |succ n ih=>
  have all:∀ds:List D,ds.all (ay n)=true→kP ds ds=true:=by
   intro ds
   induction ds with
   |nil=>intro _;rfl
   |cons d ds ih2=>
    intro h
    rw[GbB,Gau] at h
    simp[kP,ih d h.1,ih2 h.2]
  intro d h
  cases d<;>simp only[ay] at h<;>first
   |(simp[eqD];done)
   |(simp only[eqD];exact all _ h)
   |cases h
theorem kZ:∀{ds es:List D},ds.length≠es.length→kP ds es=false
 |[],[],h=>absurd rfl h
 |[],_::_,_=>rfl
 |_::_,[],_=>rfl
 |d::ds,e::es,h=>by
  unfold kP
  rw[kZ (by simpa using h),Gds]
theorem iW:∀{ds es:List D},ds.length=es.length→(List.range ds.length).all (λj=>eqD (ds.getD j .non) (es.getD j .non))=kP ds es
 |[],[],_=>rfl
 |[],_::_,h=>by simp at h
 |_::_,[],h=>by simp at h
 |d::ds,e::es,h=>by
  have ih:=iW (ds:=ds) (es:=es) (by simpa using h)
  unfold kP
  rw[GaF,List.range_succ_eq_map,GbB,Gby,←ih]
  rfl
section
variable{X:Cx}{pins:List (Addr×Obj)}{σ:St}{H:Hp}{s:Shared}
theorem Bo{K:aD}{F G:Addr→Prop}:∀(n:Nat) {d d' :D} {v:V},ay n d=true→ay n d' =true→Rep K F H d v→Rep K G H d' v→d=d' :=by
 intro n
 induction n with
 |zero=>intro d d' v h1 h2 r1 r2;cases r1<;>simp[ay] at h1<;>cases r2<;>simp[ay] at h2<;>rfl
 |succ n ih=>
  have all:∀{ds es:List D} {vs:List V},ds.all (ay n)=true→es.all (ay n)=true→ds.length=vs.length→es.length=vs.length→(∀(i:Nat) d v,ds[i]? =some d→vs[i]? =some v→Rep K F H d v)→(∀(i:Nat) d v,es[i]? =some d→vs[i]? =some v→Rep K G H d v)→ds=es:=by
   intro ds es vs p1 p2 l1 l2 r1 r2
   apply GcU
   intro i
   by_cases hi:i<vs.length
   ·have e1:ds[i]? =some ds[i]:=by simp[l1,hi]
    have e2:es[i]? =some es[i]:=by simp[l2,hi]
    have e3:vs[i]? =some vs[i]:=by simp[hi]
    rw[e1,e2,ih (plain_all p1 e1) (plain_all p2 e2) (r1 i _ _ e1 e3) (r2 i _ _ e2 e3)]
   ·rw[Gbn (by omega),Gbn (by omega)]
  intro d d' v h1 h2 r1 r2
  cases r1 with
  |non=>cases r2;rfl
  |bl b=>cases r2;rfl
  |int i=>cases r2;rfl
  |str x=>cases r2;rfl
  |scr h=>simp[ay] at h1
  |dK f h l r=>simp[ay] at h1
  |dT f h l r=>simp[ay] at h1
  |tup h l r=>
   cases r2 with
   |tup h' l' r' =>
    rw[h] at h';cases h'
    rw[all (by simpa[ay] using h1) (by simpa[ay] using h2) l l' r r']
   |lst f h' l' r' =>rcases h' with h' | ⟨o,h'⟩<;>rw[h] at h' <;>cases h'
   |scr h' =>simp[ay] at h2
   |dK f h' l r=>simp[ay] at h2
   |dT f h' l r=>simp[ay] at h2
  |lst f h l r=>
   cases r2 with
   |tup h' l' r' =>rcases h with h| ⟨o,h⟩<;>rw[h] at h' <;>cases h'
   |lst f' h' l' r' =>
    have:∀{xs ys:List V} {a:Addr},Rd H a (.lst xs)→Rd H a (.lst ys)→xs=ys:=λz1 z2=>by
     rcases z1 with z1| ⟨o,z1⟩<;>rcases z2 with z2| ⟨o',z2⟩<;>rw[z1] at z2<;>cases z2<;>rfl
    cases this h h'
    rw[all (by simpa[ay] using h1) (by simpa[ay] using h2) l l' r r']
   |scr h' =>simp[ay] at h2
   |dK f h' l r=>simp[ay] at h2
   |dT f h' l r=>simp[ay] at h2
theorem item_at{ds:List D}{vs:List V}{its:List Value}{K:aD}{F:Addr→Prop}(l:ds.length=vs.length)(r:∀(i:Nat) d v,ds[i]? =some d→vs[i]? =some v→Rep K F H d v)(rv:Vals vs its){j:Nat}(h:j<its.toArray.size):
  ∃d v,ds[j]? =some d∧ds.getD j .non=d∧Rep K F H d v∧RelV v its.toArray[j]:=by
 have hj:j<its.length:=by simpa using h
 have hv:j<vs.length:=by rw[rv.length];exact hj
 have hd:j<ds.length:=by rw[l];exact hv
 obtain⟨u,e1,e2⟩:=rv.get (i:=j) (x:=vs[j]) (by simp[hv])
 refine⟨ds[j],vs[j],by simp[hd],by simp[hd],r j _ _ (by simp[hd]) (by simp[hv]), ?_⟩
 have:its.toArray[j]=u:=by
  have:=e1
  simp[hj] at this
  simpa using this
 rw[this];exact e2
theorem in1_units{A:Around}{n:Nat}(h:A.units+(n+1)<cLine):A.in1.units+n<cLine:=by
 show A.units+1+n<_
 omega
theorem vJ(I:Inv X pins σ H s){F G:Addr→Prop}:∀(n:Nat) {dx dy:D} {x y:V} {v u:Value} {A:Around},ay n dx=true→ay n dy=true→Rep X.K F H dx x→Rep X.K G H dy y→RelV x v→RelV y u→A.units+n<cLine→SeqAt.EqAt A s v u (eqD dx dy):=by
 have flat:∀{dx dy:D} {x y:V} {v u:Value} {A:Around},Rep X.K F H dx x→Rep X.K G H dy y→RelV x v→RelV y u→sP x=true→sP y=true→SeqAt.EqAt A s v u (eqD dx dy):=by
  intro dx dy x y v u A r1 r2 rv ru fx fy
  have e:eqD dx dy=eqV x y:=by
   cases r1<;>cases r2<;>first|rfl|(simp[sP] at fx)|(simp[sP] at fy)
  rw[e]
  exact Jn rv ru fx fy
 intro n
 induction n with
 |zero=>
  intro dx dy x y v u A p1 p2 r1 r2 rv ru hu
  refine flat r1 r2 rv ru ?_ ?_
  ·cases r1<;>first|rfl|(simp[ay] at p1)
  ·cases r2<;>first|rfl|(simp[ay] at p2)
 |succ n ih=>
  intro dx dy x y v u A p1 p2 r1 r2 rv ru hu
  have hu0:A.units<cLine:=by omega
  cases r1 with
  |scr h=>simp[ay] at p1
  |dK f h l r=>simp[ay] at p1
  |dT f h l r=>simp[ay] at p1
  | @tup a vs1 ds1 h l r=>
   cases rv
   obtain⟨its,rvs,ht,_⟩:=I.tuple (SqT.of h)
   cases r2 with
   |scr h' =>simp[ay] at p2
   |dK f h' l r=>simp[ay] at p2
   |dT f h' l r=>simp[ay] at p2
   |non=>cases ru;exact SeqAt.EqAt.tuple_none ht hu0
   |bl b=>cases ru;exact SeqAt.EqAt.tuple_bool b ht hu0
   |int i=>obtain⟨t,rfl⟩:=ru;exact SeqAt.EqAt.tuple_int i t ht hu0
   |str z=>obtain⟨t,rfl⟩:=ru;exact SeqAt.EqAt.tuple_str z t ht hu0
   |lst f' h' l' r' =>
    cases ru
    obtain⟨its2,rvs2,pl,_⟩:=I.list (.inl h')
    exact SeqAt.EqAt.tuple_list ht pl.isList hu0
   | @tup b vs2 ds2 h' l' r' =>
    cases ru
    by_cases hab:a=b
    ·subst hab
     have:=Bo (n+1) p1 p2 (Rep.tup h l r) (Rep.tup h' l' r')
     rw[←this,vI _ _ p1]
     exact SeqAt.EqAt.same _
    ·obtain⟨its2,rvs2,ht2,_⟩:=I.tuple (SqT.of h')
     have hs1:its.toArray.size=ds1.length:=by rw[Gan,←rvs.length,l]
     have hs2:its2.toArray.size=ds2.length:=by rw[Gan,←rvs2.length,l']
     have key:=SeqAt.RcAt.tuples (e:=λj=>eqD (ds1.getD j .non) (ds2.getD j .non)) ht ht2 hu0 λj h1 h2=>by
      obtain⟨d1,v1,q1,q2,q3,q4⟩:=item_at l r rvs h1
      obtain⟨d2,v2,w1,w2,w3,w4⟩:=item_at l' r' rvs2 h2
      rw[q2,w2]
      exact ih (plain_all (by simpa[ay] using p1) q1) (plain_all (by simpa[ay] using p2) w1) q3 w3 q4 w4 (in1_units hu)
     refine SeqAt.EqAt.of_refs hab ?_
     show SeqAt.RcAt A s (.ref a) (.ref b) (kP ds1 ds2)
     rw[hs1,hs2] at key
     by_cases hl:ds1.length=ds2.length
     ·rw[←hl,GdA,iW hl] at key
      simpa using key
     ·rw[kZ hl]
      have:(ds1.length==ds2.length)=false:=by simpa using hl
      rw[this,Gds] at key
      exact key
  | @lst a vs1 ds1 f h l r=>
   cases rv
   obtain⟨its,rvs,pl,_⟩:=I.list (.inl h)
   have ht:=pl.isList
   cases r2 with
   |scr h' =>simp[ay] at p2
   |dK f h' l r=>simp[ay] at p2
   |dT f h' l r=>simp[ay] at p2
   |non=>cases ru;exact SeqAt.EqAt.list_none ht hu0
   |bl b=>cases ru;exact SeqAt.EqAt.list_bool b ht hu0
   |int i=>obtain⟨t,rfl⟩:=ru;exact SeqAt.EqAt.list_int i t ht hu0
   |str z=>obtain⟨t,rfl⟩:=ru;exact SeqAt.EqAt.list_str z t ht hu0
   |tup h' l' r' =>
    cases ru
    obtain⟨its2,rvs2,ht2,_⟩:=I.tuple (SqT.of h')
    exact SeqAt.EqAt.list_tuple ht ht2 hu0
   | @lst b vs2 ds2 f' h' l' r' =>
    cases ru
    by_cases hab:a=b
    ·subst hab
     have:=Bo (n+1) p1 p2 (Rep.lst f h l r) (Rep.lst f' h' l' r')
     rw[←this,vI _ _ p1]
     exact SeqAt.EqAt.same _
    ·obtain⟨its2,rvs2,pl2,_⟩:=I.list (.inl h')
     have ht2:=pl2.isList
     have hs1:its.toArray.size=ds1.length:=by rw[Gan,←rvs.length,l]
     have hs2:its2.toArray.size=ds2.length:=by rw[Gan,←rvs2.length,l']
     refine SeqAt.EqAt.of_refs hab ?_
     show SeqAt.RcAt A s (.ref a) (.ref b) (kP ds1 ds2)
     by_cases hl:ds1.length=ds2.length
     ·have key:=SeqAt.RcAt.lists (e:=λj=>eqD (ds1.getD j .non) (ds2.getD j .non)) ht ht2 (by rw[hs1,hs2,hl]) hu0 λj h1 h2=>by
       obtain⟨d1,v1,q1,q2,q3,q4⟩:=item_at l r rvs h1
       obtain⟨d2,v2,w1,w2,w3,w4⟩:=item_at l' r' rvs2 h2
       rw[q2,w2]
       exact ih (plain_all (by simpa[ay] using p1) q1) (plain_all (by simpa[ay] using p2) w1) q3 w3 q4 w4 (in1_units hu)
      rw[hs1,iW hl] at key
      exact key
     ·rw[kZ hl]
      exact SeqAt.RcAt.lists_lengths ht ht2 (by rw[hs1,hs2];simpa using hl) hu0
  |non=>
   cases rv
   cases r2 with
   |scr h' =>simp[ay] at p2
   |dK f h' l r=>simp[ay] at p2
   |dT f h' l r=>simp[ay] at p2
   |tup h' l' r' =>cases ru;obtain⟨its2,rvs2,ht2,_⟩:=I.tuple (SqT.of h');exact SeqAt.EqAt.none_tuple ht2 hu0
   |lst f' h' l' r' =>cases ru;obtain⟨its2,rvs2,pl2,_⟩:=I.list (.inl h');exact SeqAt.EqAt.none_list pl2.isList hu0
   |_=>exact flat .non (by first|exact .non|exact .bl _|exact .int _|exact .str _) rfl ru rfl rfl
  |bl b=>
   cases r2 with
   |scr h' =>simp[ay] at p2
   |dK f h' l r=>simp[ay] at p2
   |dT f h' l r=>simp[ay] at p2
   |tup h' l' r' =>cases rv;cases ru;obtain⟨its2,rvs2,ht2,_⟩:=I.tuple (SqT.of h');exact SeqAt.EqAt.bool_tuple b ht2 hu0
   |lst f' h' l' r' =>cases rv;cases ru;obtain⟨its2,rvs2,pl2,_⟩:=I.list (.inl h');exact SeqAt.EqAt.bool_list b pl2.isList hu0
   |_=>exact flat (.bl b) (by first|exact .non|exact .bl _|exact .int _|exact .str _) rv ru rfl rfl
  |int i=>
   cases r2 with
   |scr h' =>simp[ay] at p2
   |dK f h' l r=>simp[ay] at p2
   |dT f h' l r=>simp[ay] at p2
   |tup h' l' r' =>obtain⟨t,rfl⟩:=rv;cases ru;obtain⟨its2,rvs2,ht2,_⟩:=I.tuple (SqT.of h');exact SeqAt.EqAt.int_tuple i t ht2 hu0
   |lst f' h' l' r' =>obtain⟨t,rfl⟩:=rv;cases ru;obtain⟨its2,rvs2,pl2,_⟩:=I.list (.inl h');exact SeqAt.EqAt.int_list i t pl2.isList hu0
   |_=>exact flat (.int i) (by first|exact .non|exact .bl _|exact .int _|exact .str _) rv ru rfl rfl
  |str z=>
   cases r2 with
   |scr h' =>simp[ay] at p2
   |dK f h' l r=>simp[ay] at p2
   |dT f h' l r=>simp[ay] at p2
   |tup h' l' r' =>obtain⟨t,rfl⟩:=rv;cases ru;obtain⟨its2,rvs2,ht2,_⟩:=I.tuple (SqT.of h');exact SeqAt.EqAt.str_tuple z t ht2 hu0
   |lst f' h' l' r' =>obtain⟨t,rfl⟩:=rv;cases ru;obtain⟨its2,rvs2,pl2,_⟩:=I.list (.inl h');exact SeqAt.EqAt.str_list z t pl2.isList hu0
   |_=>exact flat (.str z) (by first|exact .non|exact .bl _|exact .int _|exact .str _) rv ru rfl rfl
theorem vK(I:Inv X pins σ H s){F G:Addr→Prop}{n:Nat}{dx dy:D}{x y:V}{v u:Value}{A:Around}(p1:ay n dx=true)(p2:ay n dy=true)(r1:Rep X.K F H dx x)(r2:Rep X.K G H dy y)(rv:RelV x v)(ru:RelV y u)(hu:A.units+n<cLine):
  SeqAt.RcAt A s v u (eqD dx dy)∧SeqAt.RcNeAt A s v u (!eqD dx dy):=by
 have hu0:A.units<cLine:=by omega
 have tupAt:∀{a:Addr} {vs:List V},H a=some (.tup vs)→∃its:List Value,s.heap.IsTuple a its.toArray:=λh=>let⟨its,_,ht,_⟩:=I.tuple (SqT.of h);⟨its,ht⟩
 have lstAt:∀{a:Addr} {vs:List V},Rd H a (.lst vs)→∃its:List Value,s.heap.IsList a its.toArray:=λh=>let⟨its,_,pl,_⟩:=I.list (.inl h);⟨its,pl.isList⟩
 cases r1 with
 |scr h=>cases n<;>simp[ay] at p1
 |dK f h l r=>cases n<;>simp[ay] at p1
 |dT f h l r=>cases n<;>simp[ay] at p1
 |non=>
  cases rv
  cases r2 with
  |scr h' =>cases n<;>simp[ay] at p2
  |dK f h' l r=>cases n<;>simp[ay] at p2
  |dT f h' l r=>cases n<;>simp[ay] at p2
  |non=>cases ru;exact⟨.none_none,.none_none⟩
  |bl b=>cases ru;exact⟨.none_bool b,.none_bool b⟩
  |int i=>obtain⟨t,rfl⟩:=ru;exact⟨.none_int i t,.none_int i t⟩
  |str z=>obtain⟨t,rfl⟩:=ru;exact⟨.none_str z t,.none_str z t⟩
  |tup h' l' r' =>cases ru;obtain⟨its,ht⟩:=tupAt h';exact⟨.none_tuple ht hu0,.none_tuple ht hu0⟩
  |lst f' h' l' r' =>cases ru;obtain⟨its,ht⟩:=lstAt h';exact⟨.none_list ht hu0,.none_list ht hu0⟩
 |bl b=>
  cases rv
  cases r2 with
  |scr h' =>cases n<;>simp[ay] at p2
  |dK f h' l r=>cases n<;>simp[ay] at p2
  |dT f h' l r=>cases n<;>simp[ay] at p2
  |non=>cases ru;exact⟨.bool_none b,.bool_none b⟩
  |bl b' =>cases ru;exact⟨.bool_bool b b',.bool_bool b b'⟩
  |int i=>obtain⟨t,rfl⟩:=ru;exact⟨.bool_int b i t,.bool_int b i t⟩
  |str z=>obtain⟨t,rfl⟩:=ru;exact⟨.bool_str b z t,.bool_str b z t⟩
  |tup h' l' r' =>cases ru;obtain⟨its,ht⟩:=tupAt h';exact⟨.bool_tuple b ht hu0,.bool_tuple b ht hu0⟩
  |lst f' h' l' r' =>cases ru;obtain⟨its,ht⟩:=lstAt h';exact⟨.bool_list b ht hu0,.bool_list b ht hu0⟩
 |int i=>
  obtain⟨t,rfl⟩:=rv
  cases r2 with
  |scr h' =>cases n<;>simp[ay] at p2
  |dK f h' l r=>cases n<;>simp[ay] at p2
  |dT f h' l r=>cases n<;>simp[ay] at p2
  |non=>cases ru;exact⟨.int_none i t,.int_none i t⟩
  |bl b' =>cases ru;exact⟨.int_bool i t b',.int_bool i t b'⟩
  |int j=>obtain⟨t',rfl⟩:=ru;exact⟨.int_int i t j t',.int_int i t j t'⟩
  |str z=>obtain⟨t',rfl⟩:=ru;exact⟨.int_str i t z t',.int_str i t z t'⟩
  |tup h' l' r' =>cases ru;obtain⟨its,ht⟩:=tupAt h';exact⟨.int_tuple i t ht hu0,.int_tuple i t ht hu0⟩
  |lst f' h' l' r' =>cases ru;obtain⟨its,ht⟩:=lstAt h';exact⟨.int_list i t ht hu0,.int_list i t ht hu0⟩
 |str z=>
  obtain⟨t,rfl⟩:=rv
  cases r2 with
  |scr h' =>cases n<;>simp[ay] at p2
  |dK f h' l r=>cases n<;>simp[ay] at p2
  |dT f h' l r=>cases n<;>simp[ay] at p2
  |non=>cases ru;exact⟨.str_none z t,.str_none z t⟩
  |bl b' =>cases ru;exact⟨.str_bool z t b',.str_bool z t b'⟩
  |int j=>obtain⟨t',rfl⟩:=ru;exact⟨.str_int z t j t',.str_int z t j t'⟩
  |str z' =>obtain⟨t',rfl⟩:=ru;exact⟨.str_str z t z' t',.str_str z t z' t'⟩
  |tup h' l' r' =>cases ru;obtain⟨its,ht⟩:=tupAt h';exact⟨.str_tuple z t ht hu0,.str_tuple z t ht hu0⟩
  |lst f' h' l' r' =>cases ru;obtain⟨its,ht⟩:=lstAt h';exact⟨.str_list z t ht hu0,.str_list z t ht hu0⟩
 | @tup a vs1 ds1 h l r=>
  cases n with
  |zero=>simp[ay] at p1
  |succ n=>
   cases rv
   obtain⟨its,rvs,ht,_⟩:=I.tuple (SqT.of h)
   cases r2 with
   |scr h' =>simp[ay] at p2
   |dK f h' l r=>simp[ay] at p2
   |dT f h' l r=>simp[ay] at p2
   |non=>cases ru;exact⟨.tuple_none ht hu0,.tuple_none ht hu0⟩
   |bl b=>cases ru;exact⟨.tuple_bool b ht hu0,.tuple_bool b ht hu0⟩
   |int i=>obtain⟨t,rfl⟩:=ru;exact⟨.tuple_int i t ht hu0,.tuple_int i t ht hu0⟩
   |str z=>obtain⟨t,rfl⟩:=ru;exact⟨.tuple_str z t ht hu0,.tuple_str z t ht hu0⟩
   |lst f' h' l' r' =>cases ru;obtain⟨its2,ht2⟩:=lstAt h';exact⟨.tuple_list ht ht2 hu0,.tuple_list ht ht2 hu0⟩
   | @tup b vs2 ds2 h' l' r' =>
    cases ru
    obtain⟨its2,rvs2,ht2,_⟩:=I.tuple (SqT.of h')
    have hs1:its.toArray.size=ds1.length:=by rw[Gan,←rvs.length,l]
    have hs2:its2.toArray.size=ds2.length:=by rw[Gan,←rvs2.length,l']
    have items:∀j (h1:j<its.toArray.size) (h2:j<its2.toArray.size),SeqAt.EqAt A.in1 s its.toArray[j] its2.toArray[j] ((λj=>eqD (ds1.getD j .non) (ds2.getD j .non)) j):=λj h1 h2=>by
     obtain⟨d1,v1,q1,q2,q3,q4⟩:=item_at l r rvs h1
     obtain⟨d2,v2,w1,w2,w3,w4⟩:=item_at l' r' rvs2 h2
     dsimp only
     rw[q2,w2]
     exact vJ I n (plain_all (by simpa[ay] using p1) q1) (plain_all (by simpa[ay] using p2) w1) q3 w3 q4 w4 (in1_units hu)
    have k1:=SeqAt.RcAt.tuples ht ht2 hu0 items
    have k2:=SeqAt.RcNeAt.tuples ht ht2 hu0 items
    have e:((List.range (min its.toArray.size its2.toArray.size)).all (λj=>eqD (ds1.getD j .non) (ds2.getD j .non))&&its.toArray.size==its2.toArray.size)=kP ds1 ds2:=by
     rw[hs1,hs2]
     by_cases hl:ds1.length=ds2.length
     ·rw[←hl,GdA,iW hl];simp
     ·rw[kZ hl]
      have:(ds1.length==ds2.length)=false:=by simpa using hl
      rw[this,Gds]
    rw[e] at k1 k2
    exact⟨k1,k2⟩
 | @lst a vs1 ds1 f h l r=>
  cases n with
  |zero=>simp[ay] at p1
  |succ n=>
   cases rv
   obtain⟨its,rvs,pl,_⟩:=I.list (.inl h)
   have ht:=pl.isList
   cases r2 with
   |scr h' =>simp[ay] at p2
   |dK f h' l r=>simp[ay] at p2
   |dT f h' l r=>simp[ay] at p2
   |non=>cases ru;exact⟨.list_none ht hu0,.list_none ht hu0⟩
   |bl b=>cases ru;exact⟨.list_bool b ht hu0,.list_bool b ht hu0⟩
   |int i=>obtain⟨t,rfl⟩:=ru;exact⟨.list_int i t ht hu0,.list_int i t ht hu0⟩
   |str z=>obtain⟨t,rfl⟩:=ru;exact⟨.list_str z t ht hu0,.list_str z t ht hu0⟩
   |tup h' l' r' =>cases ru;obtain⟨its2,ht2⟩:=tupAt h';exact⟨.list_tuple ht ht2 hu0,.list_tuple ht ht2 hu0⟩
   | @lst b vs2 ds2 f' h' l' r' =>
    cases ru
    obtain⟨its2,rvs2,pl2,_⟩:=I.list (.inl h')
    have ht2:=pl2.isList
    have hs1:its.toArray.size=ds1.length:=by rw[Gan,←rvs.length,l]
    have hs2:its2.toArray.size=ds2.length:=by rw[Gan,←rvs2.length,l']
    have items:∀j (h1:j<its.toArray.size) (h2:j<its2.toArray.size),SeqAt.EqAt A.in1 s its.toArray[j] its2.toArray[j] ((λj=>eqD (ds1.getD j .non) (ds2.getD j .non)) j):=λj h1 h2=>by
     obtain⟨d1,v1,q1,q2,q3,q4⟩:=item_at l r rvs h1
     obtain⟨d2,v2,w1,w2,w3,w4⟩:=item_at l' r' rvs2 h2
     dsimp only
     rw[q2,w2]
     exact vJ I n (plain_all (by simpa[ay] using p1) q1) (plain_all (by simpa[ay] using p2) w1) q3 w3 q4 w4 (in1_units hu)
    show SeqAt.RcAt A s (.ref a) (.ref b) (kP ds1 ds2)∧SeqAt.RcNeAt A s (.ref a) (.ref b) (!kP ds1 ds2)
    by_cases hl:ds1.length=ds2.length
    ·have k1:=SeqAt.RcAt.lists ht ht2 (by rw[hs1,hs2,hl]) hu0 items
     have k2:=SeqAt.RcNeAt.lists ht ht2 (by rw[hs1,hs2,hl]) hu0 items
     rw[hs1,iW hl] at k1 k2
     exact⟨k1,k2⟩
    ·rw[kZ hl]
     exact⟨SeqAt.RcAt.lists_lengths ht ht2 (by rw[hs1,hs2];simpa using hl) hu0,SeqAt.RcNeAt.lists_lengths ht ht2 (by rw[hs1,hs2];simpa using hl) hu0⟩
end
section
variable{X:Cx}
noncomputable def GU(K:aD)(neg:Bool):R2:=λx y H Q=>∃F dx dy,Inn K F H dx x∧Inn K F H dy y∧dx.plain=true∧dy.plain=true∧Q (.bl (if neg then !eqD dx dy else eqD dx dy)) H
theorem c9(hu:X.A.units+20<cLine):OpR X (compareOp .Eq) (GU X.K false):=by
 intro pins s σ H x y v u Q I rx ry h
 obtain⟨F,dx,dy,i1,i2,p1,p2,q⟩:=h
 exact(vK I (n:=20) p1 p2 i1.any i2.any rx ry hu).1 X.prog X.w _ _ ⟨.bl (eqD dx dy),H,I,rfl,q⟩
theorem Ek(hu:X.A.units+20<cLine):OpR X (compareOp .NotEq) (GU X.K true):=by
 intro pins s σ H x y v u Q I rx ry h
 obtain⟨F,dx,dy,i1,i2,p1,p2,q⟩:=h
 exact(vK I (n:=20) p1 p2 i1.any i2.any rx ry hu).2 X.prog X.w _ _ ⟨.bl (!eqD dx dy),H,I,rfl,q⟩
theorem cf:OpB X eqB (GU X.K false):=by
 intro F H dx dy x y b Q ix iy e q
 unfold eqB at e
 split at e
 ·rename_i z
  rw[Gau] at z
  cases e
  exact⟨F,dx,dy,ix,iy,z.1,z.2,q⟩
 ·cases e
theorem El:OpB X neB (GU X.K true):=by
 intro F H dx dy x y b Q ix iy e q
 unfold neB at e
 split at e
 ·rename_i z
  rw[Gau] at z
  cases e
  exact⟨F,dx,dy,ix,iy,z.1,z.2,q⟩
 ·cases e
theorem cg{A:Around}{k:Nat}(hr:gV k A):A.units+20<cLine:=GcM (Nat.add_le_add_left (by decide:20≤64) _) hr.units
theorem fW:bootBuiltins "len"=some (.builtin "len"):=by decide+kernel
theorem Em:bootBuiltins "min"=some (.builtin "min"):=by decide+kernel
theorem En:bootBuiltins "max"=some (.builtin "max"):=by decide+kernel
theorem JF:bootBuiltins "any"=some (.builtin "any"):=by decide+kernel
theorem fR:bootBuiltins "sorted"=some (.builtin "sorted"):=by decide+kernel
theorem JG:bootBuiltins "int"=some (.type "int"):=by decide+kernel
theorem GV:bootBuiltins "bool"=some (.type "bool"):=by decide+kernel
theorem JH:bootBuiltins "str"=some (.type "str"):=by decide+kernel
theorem gM:bootBuiltins "tuple"=some (.type "tuple"):=by decide+kernel
theorem GW:bootBuiltins "list"=some (.type "list"):=by decide+kernel
theorem uw:bootBuiltins "enumerate"=some (.type "enumerate"):=by decide+kernel
theorem GX{K:aD}:t6 K "int":=by
 intro t ht
 simp only[Gay,Gcl,or_false] at ht
 rcases ht with rfl|rfl|rfl|rfl|rfl|rfl|rfl<;>rfl
theorem GY{K:aD}:t6 K "str":=by
 intro t ht
 simp only[Gay,Gcl,or_false] at ht
 rcases ht with rfl|rfl|rfl|rfl|rfl|rfl|rfl<;>rfl
theorem kit_tuple{K:aD}:t6 K "tuple":=by
 intro t ht
 simp only[Gay,Gcl,or_false] at ht
 rcases ht with rfl|rfl|rfl|rfl|rfl|rfl|rfl<;>rfl
theorem Eo{K:aD}:t6 K "list":=by
 intro t ht
 simp only[Gay,Gcl,or_false] at ht
 rcases ht with rfl|rfl|rfl|rfl|rfl|rfl|rfl<;>rfl
theorem Ep{K:aD}:t6 K "bool":=by
 intro t ht
 simp only[Gay,Gcl,or_false] at ht
 rcases ht with rfl|rfl|rfl|rfl|rfl|rfl|rfl<;>rfl
end
open PySem PySem.Spec PyProof.Rows L2
section
variable{X:Cx}{sts:List Stmt}{f:DS}
theorem a8(i:Nat)(x:Str)(k:(∀pos,PEd X (.Name x pos) (vE i))→kK X sts f)(hN:X.N[i]? =some x:=by rfl)(hv:Vis X.env.scope x:=by first|exact Or.inl rfl|exact Or.inr (Or.inl rfl)|exact Or.inr (Or.inr rfl))(hd:(x==("__debug__":Str))=false:=by decide)
  (hcd:(x==("__classdict__":Str))=false:=by decide):kK X sts f:=k λ_=>cR i hN hv hd hcd
theorem ai(i:Nat)(x:Str)(k:Loc X.env.scope x→kK X sts f)(hx:Loc X.env.scope x:=by first|exact Or.inl rfl|exact Or.inr rfl):kK X sts f:=k hx
theorem dH(i:Nat)(x:Str)(k:Vis X.env.scope x→kK X sts f)(hv:Vis X.env.scope x:=by first|exact Or.inl rfl|exact Or.inr (Or.inl rfl)|exact Or.inr (Or.inr rfl)):kK X sts f:=k hv
theorem aB(x:Str)(k:Gl X x→kK X sts f)(hg:Gl X x:=by rfl):kK X sts f:=k hg
end
open PySem PySem.Spec PyProof.Rows L2
theorem n9{env:PySem.Env}:∀(names:List (Str×NameKind)),(∀y∈names,y.2= .free→∃c,env.cells.lookup y.1=some c)→∀(cs:List (Str×Addr)),(∀n c,cs.lookup n=some c→env.cells.lookup n=some c)→
  ∃cl:List (Str×Addr),(forIn names cs λx r=>(do
    if(x.2==NameKind.free)=true then pure (ForInStep.yield ((x.1,←cellOf env x.1)::r)) else pure (ForInStep.yield r):Sem (ForInStep (List (Str×Addr)))))=pure cl∧
   (∀n c,cl.lookup n=some c→env.cells.lookup n=some c)∧(∀y∈names,y.2= .free→∃c,cl.lookup y.1=some c)∧∀n c,cs.lookup n=some c→∃c',cl.lookup n=some c'
 |[],_,cs,h=>by
  refine⟨cs,rfl,h, ?_,λn c e=> ⟨c,e⟩⟩
  intro y hy;cases hy
 |(x,k)::names,hf,cs,h=>by
  by_cases hk:k= .free
  ·subst hk
   obtain⟨c,hc⟩:=hf (x,.free) Gak rfl
   have hcell:cellOf env x=pure c:=by unfold cellOf;rw[hc]<;>rfl
   obtain⟨cl,h1,h2,h3,h4⟩:=n9 names (λy hy=>hf y (Gaf _ hy)) ((x,c)::cs) (λn c' e=>by
    by_cases z:n=x
    ·subst z;simp[Gbd] at e;subst e;exact hc
    ·have z' :(n==x)=false:=by simpa using z
     simp[Gbd,z'] at e;exact h n c' e)
   refine⟨cl, ?_,h2,λy hy hyf=> ?_,λn c' e=> ?_⟩
   ·rw[List.forIn_cons]
    simp only[hcell]
    exact h1
   ·rcases Gay.mp hy with rfl|hy
    ·exact h4 x c (by simp[Gbd])
    ·exact h3 y hy hyf
   ·by_cases z:n=x
    ·subst z;exact h4 n c (by simp[Gbd])
    ·have z' :(n==x)=false:=by simpa using z
     exact h4 n c' (by simp[Gbd,z',e])
  ·have hk' :(k==NameKind.free)=false:=by simpa using hk
   obtain⟨cl,h1,h2,h3,h4⟩:=n9 names (λy hy=>hf y (Gaf _ hy)) cs h
   refine⟨cl, ?_,h2,λy hy hyf=> ?_,h4⟩
   ·rw[List.forIn_cons]
    simp only[hk']
    exact h1
   ·rcases Gay.mp hy with rfl|hy
    ·exact absurd hyf hk
    ·exact h3 y hy hyf
theorem mC{env:PySem.Env}{scope:Scope}(hf:∀y∈scope.names,y.2= .free→∃c,env.cells.lookup y.1=some c):
  ∃cl:List (Str×Addr),closureFor scope env=pure cl∧(∀n c,cl.lookup n=some c→env.cells.lookup n=some c)∧∀y∈scope.names,y.2= .free→∃c,cl.lookup y.1=some c:=by
 obtain⟨cl,h1,h2,h3,_⟩:=n9 scope.names hf [] (λn c e=>by simp at e)
 refine⟨cl, ?_,h2,h3⟩
 unfold closureFor
 exact(congrArg (λm=>m>>=pure) h1).trans (by rfl)
theorem mem_of_lookup{x:Str}{k:NameKind}:∀{l:List (Str×NameKind)},l.lookup x=some k→(x,k)∈l
 |[],h=>by simp at h
 |(n,k')::r,h=>by
  rw[Gbd] at h
  cases hx:x==n with
  |true=>rw[hx] at h;cases h;rw[GcE] at hx;subst hx;exact Gak
  |false=>rw[hx] at h;exact Gaf _ (mem_of_lookup h)
theorem nh{env:PySem.Env}{x:Str}:∀{names:List (Str×NameKind)},(∀y∈names,y.2≠ .cell)→((names.map λ(n,k)=>if(k==NameKind.free&&env.scope.kind== .function&&env.kindOf n==some .cell) then(n,NameKind.cell) else(n,k)).lookup x=some .cell∨
   (names.map λ(n,k)=>if(k==NameKind.free&&env.scope.kind== .function&&env.kindOf n==some .cell) then(n,NameKind.cell) else(n,k)).lookup x=some .free)→(x,NameKind.free)∈names
 |[],_,h=>by simp at h
 |(n,k)::r,hc,h=>by
  have hk:k≠ .cell:=hc (n,k) Gak
  rw[Gaq] at h
  dsimp only at h
  split at h
  ·rename_i q
   have q1:k= .free:=by
    rw[Gau,Gau] at q
    simpa using q.1.1
   subst q1
   rw[Gbd] at h
   cases hx:x==n with
   |true=>rw[GcE] at hx;subst hx;exact Gak
   |false=>rw[hx] at h;exact Gaf _ (nh (λy hy=>hc y (Gaf _ hy)) h)
  ·rw[Gbd] at h
   cases hx:x==n with
   |true=>
    rw[hx] at h
    rw[GcE] at hx;subst hx
    rcases h with h|h
    ·cases h;exact absurd rfl hk
    ·cases h;exact Gak
   |false=>rw[hx] at h;exact Gaf _ (nh (λy hy=>hc y (Gaf _ hy)) h)
theorem ie{env:PySem.Env}{x:Str}:∀{names:List (Str×NameKind)},names.lookup x=some .free→((names.map λ(n,k)=>if(k==NameKind.free&&env.scope.kind== .function&&env.kindOf n==some .cell) then(n,NameKind.cell) else(n,k)).lookup x=some .cell∨
   (names.map λ(n,k)=>if(k==NameKind.free&&env.scope.kind== .function&&env.kindOf n==some .cell) then(n,NameKind.cell) else(n,k)).lookup x=some .free)
 |[],h=>by simp at h
 |(n,k)::r,h=>by
  rw[Gbd] at h
  rw[Gaq]
  dsimp only
  cases hx:x==n with
  |true=>
   rw[hx] at h;cases h
   split
   ·left;rw[Gbd,hx]
   ·right;rw[Gbd,hx]
  |false=>
   rw[hx] at h
   split
   ·rw[Gbd,hx];exact ie h
   ·rw[Gbd,hx];exact ie h
noncomputable def blk(X:Cx)(scope:Scope)(cl:List (Str×Addr))(C:Addr)(N:List Str)(s:Shared)(H:Hp)(ex:List Addr):Cx:=
 {X with N:=N,s₀:=s,H₀:=H,env:=compEnvC scope cl C X.env,outer:=X.stack,ex:=ex,fn:=λ_=>false,pn:=[],xe:=λ_ _=>False}
noncomputable def Mj:Option NameKind→Bool
 |some .cell=>true
 |some .free=>true
 |_=>false
structure k6(X:Cx)(scope:Scope)(N:List Str)(n:Nat)(aT:List Nat):Prop where
 cell:(scope.names.all λy=>y.2 != .cell)=true
 kind:scope.kind= .function
 names:(scope.names.all λy=>y.2 != .local||scope.names.lookup y.1==some .local)=true
 free:(scope.names.all λy=>y.2 != .free||Mj (X.env.kindOf y.1))=true
 cap:N.drop n=aT.map λi=>(X.N[i]?).getD ("":Str)
 le:n≤N.length
 lt:(aT.all λi=>decide (i<X.N.length))=true
 fr:((N.drop n).all λx=>scope.names.lookup x==some .free)=true
def qk(X:Cx)(ifs:List Expr)(tt:TT):Prop:=∀(pins:List (Addr×Obj)) (s:Shared) (σ:St) (H:Hp) (Q:Bool→Hp→Prop),Inv X pins σ H s→tt σ H Q→
 wpAny (model X.prog X.w) X.A (forIn ifs true λc r=>if r=true then do let ok←isTrue c X.env (eval c X.env);pure (ForInStep.yield ok) else pure (ForInStep.yield r)) (TP X pins σ Q) X.xe s
theorem gw{X:Cx}:qk X [] (tT X gL):=λpins s σ H Q I ⟨_,_,_,_,_,e,k⟩=>by
 cases e
 exact wpAny_tests_nil ⟨H,I,k H bZ⟩
theorem t7{X:Cx}{c:Expr}{t:DT}(h:PTd X c t):qk X [c] (tT X t):=λpins s σ H Q I q=>wpAny_tests_one (h pins s σ H Q I q)
theorem ql{aT:List Nat}{n j:Nat}{α:Type}{f:Nat→Option α}{y:α}(h:(List.replicate n (none:Option α)++aT.map f)[j]? =some (some y)):∃i,aT[j -n]? =some i∧n≤j∧f i=some y:=by
 by_cases hj:j<n
 ·rw[GaS (by simpa using hj),Gcn] at h
  rw[Gag hj] at h;cases h
 ·rw[GaM (by simp;omega),Gdh,Gal] at h
  cases q:aT[j -n]? with
  |none=>rw[q] at h;cases h
  |some i=>rw[q] at h;simp only[GcI,Gcz] at h;exact⟨i,rfl,by omega,h⟩
theorem Er{aT:List Nat}{n j i:Nat}{α:Type}{f:Nat→Option α}(h1:aT[j -n]? =some i)(h2:n≤j):(List.replicate n (none:Option α)++aT.map f)[j]? =some (f i):=by
 rw[GaM (by simp;omega),Gdh,Gal,h1];rfl
noncomputable def lh(n:Nat)(aT:List Nat)(σ:St):St:=List.replicate n none++aT.map λi=>σ[i]?.getD none
def mD(Bad:Addr→Prop)(env:Env)(σ:St)(p:Addr):Addr→Prop:=λa=>a=p∨¬Cln Bad env σ a
theorem getD_some{α:Type}{o:Option (Option α)}{y:α}(h:o.getD none=some y):o=some (some y):=by
 cases o with
 |none=>cases h
 |some z=>simp only[Option.getD_some] at h;rw[h]
theorem vL{aT:List Nat}{n j:Nat}{env:Env}{sl:Slot}(e:(compEnv n aT env)[j]? =some (some sl)):∃i,aT[j -n]? =some i∧n≤j∧fJ (env[i]?.getD none)=some sl:=ql e
theorem Bp{aT:List Nat}{n j:Nat}{env:Env}{σ:St}{a:Addr}(t:br (compEnv n aT env)[j]?)(e:(lh n aT σ)[j]? =some (some (.ref a))):∃i:Nat,br env[i]? ∧σ[i]? =some (some (.ref a)):=by
 cases q:(compEnv n aT env)[j]? with
 |none=>rw[q] at t;exact t.elim
 |some z=>
  cases z with
  |none=>rw[q] at t;exact t.elim
  |some sl=>
   obtain⟨i,e1,e2,e3⟩:=vL q
   obtain⟨i',e1',_,e3'⟩:=ql e
   rw[e1] at e1';cases e1'
   refine⟨i, ?_,getD_some e3'⟩
   rw[q] at t
   cases r:env[i]? with
   |none=>rw[r] at e3;cases e3
   |some z=>cases z with
    |none=>rw[r] at e3;cases e3
    |some z=>
     rw[r] at e3
     cases z with
     |sh d=>cases e3;exact t.elim
     |own d=>trivial
     |lok d=>trivial
     |bor d=>trivial
theorem GZ{aT:List Nat}{n j:Nat}{env:Env}:¬isO (compEnv n aT env)[j]? :=λt=>by
 match q:(compEnv n aT env)[j]?,t with
 |some (some (.own d)),_=>
  obtain⟨i,_,_,e3⟩:=vL q
  cases q:env[i]?.getD none with
  |none=>rw[q] at e3;cases e3
  |some z=>rw[q] at e3;cases z<;>cases e3
theorem aG.block{K:aD}{H₀:Hp}{Bad:Addr→Prop}{env:Env}{σ:St}{H:Hp}(E:aG K H₀ Bad env σ H)(n:Nat)(aT:List Nat){p:Addr}(hp:H p=none):
  aG K H (mD Bad env σ p) (compEnv n aT env) (lh n aT σ) (upd H p (.lst [])):=by
 have sm:c0 H (upd H p (.lst [])):=bK hp
 have slot:∀(j:Nat) (sl:Slot),(compEnv n aT env)[j]? =some (some sl)→∃i,aT[j -n]? =some i∧n≤j∧fJ (env[i]?.getD none)=some sl:=λj sl e=>ql e
 have noO:∀(j:Nat) d,(compEnv n aT env)[j]? ≠some (some (.own d))∧(compEnv n aT env)[j]? ≠some (some (.lok d)):=λj d=>by
  constructor<;>
  ·intro e
   obtain⟨i,_,_,e3⟩:=slot j _ e
   cases q:env[i]?.getD none with
   |none=>rw[q] at e3;cases e3
   |some z=>rw[q] at e3;cases z<;>cases e3
 have topAd:∀(j:Nat) a,br (compEnv n aT env)[j]? →(lh n aT σ)[j]? =some (some (.ref a))→∃i:Nat,br env[i]? ∧σ[i]? =some (some (.ref a)):=λj a t e=>Bp t e
 have cln:∀b,Cln Bad env σ b→H b≠none→Cln (mD Bad env σ p) (compEnv n aT env) (lh n aT σ) b:=λb h hb=>by
  refine⟨λz=> ?_,λj t e=> ?_⟩
  ·rcases z with z|z
   ·subst z;exact hb hp
   ·exact z h
  ·obtain⟨i,t',e'⟩:=topAd j b t e
   exact h.2 i t' e'
 refine⟨sm, ?_, ?_, ?_, ?_, ?_, ?_⟩
 ·simp[compEnv,lh]
 ·intro a ha
  rcases ha with ha|ha
  ·subst ha;rw[aK];simp
  ·intro z
   refine ha ⟨λb=>E.bad a b (sm.free z),λi t e=>E.nG t e (sm.free z)⟩
 ·intro j d e
  obtain⟨i,e1,e2,e3⟩:=slot j _ e
  have q:env[i]? =some (some (.sh d)):=by
   cases r:env[i]? with
   |none=>rw[r] at e3;cases e3
   |some z=>cases z with
    |none=>rw[r] at e3;cases e3
    |some z=>rw[r] at e3;cases z<;>cases e3;rfl
  obtain⟨v,h1,h2⟩:=E.sh i d q
  refine⟨v, ?_,h2.gen (.of_same sm) cln⟩
  unfold lh
  rw[Er e1 e2,h1];rfl
 ·intro j d e
  rcases e with e|e
  ·exact absurd e (noO j d).1
  ·exact absurd e (noO j d).2
 ·intro j d e
  obtain⟨i,e1,e2,e3⟩:=slot j _ e
  have q:br env[i]? ∧(env[i]? =some (some (.own d))∨env[i]? =some (some (.lok d))∨env[i]? =some (some (.bor d))):=by
   cases r:env[i]? with
   |none=>rw[r] at e3;cases e3
   |some z=>cases z with
    |none=>rw[r] at e3;cases e3
    |some z=>
     rw[r] at e3
     cases z with
     |sh d=>cases e3
     |own d=>cases e3;exact⟨trivial,.inl rfl⟩
     |lok d=>cases e3;exact⟨trivial,.inr (.inl rfl)⟩
     |bor d=>cases e3;exact⟨trivial,.inr (.inr rfl)⟩
  have fact:∃a,σ[i]? =some (some (.ref a))∧Wr H a∧d.top=true∧Inn K (Cln Bad env σ) H d (.ref a):=by
   rcases q.2 with q|q|q
   ·obtain⟨a,h1,_,_,h4,h5,h6⟩:=E.ow i d (.inl q);exact⟨a,h1,h4,h5,h6⟩
   ·obtain⟨a,h1,_,_,h4,h5,h6⟩:=E.ow i d (.inr q);exact⟨a,h1,h4,h5,h6⟩
   ·exact E.bo i d q
  obtain⟨a,h1,h4,h5,h6⟩:=fact
  refine⟨a, ?_,h4.same sm,h5,h6.gen (.of_same sm) cln λ_ _ _ o e=>sm _ o e⟩
  unfold lh
  rw[Er e1 e2,h1];rfl
 ·intro j k a t
  exfalso
  cases q:(compEnv n aT env)[j]? with
  |none=>rw[q] at t;exact t
  |some z=>cases z with
   |none=>rw[q] at t;exact t
   |some z=>cases z with
    |sh d=>rw[q] at t;exact t
    |own d=>exact(noO j d).1 q
    |lok d=>exact(noO j d).2 q
    |bor d=>rw[q] at t;exact t
theorem aG.grow{K:aD}{H₀:Hp}{Bad:Addr→Prop}{env:Env}{σ:St}{H:Hp}{p:Addr}{vs us:List V}(E:aG K H₀ Bad env σ H)(hb:Bad p)(h0:H₀ p=none)(hp:H p=some (.lst vs))(hl:∀i:Nat,uk env[i]? →σ[i]? ≠some (some (.ref p))):aG K H₀ Bad env σ (upd H p (.lst us)):=by
 have dQ:iP (Cln Bad env σ) H (upd H p (.lst us)):=λb o e q=>by
  refine(ax ?_).trans e
  rintro rfl
  rcases q with q|q
  ·exact q.1 hb
  ·rw[hp] at e;cases e;exact q
 have wr:∀{a},Wr H a→Wr (upd H p (.lst us)) a:=λ{a} ⟨o,h1,h2⟩=>by
  by_cases z:a=p
  ·subst z;exact⟨_,aK,trivial⟩
  ·exact⟨o,(ax z).trans h1,h2⟩
 refine⟨λb o e=>(ax λz=>by subst z;rw[h0] at e;cases e).trans (E.same b o e),E.len,λa ha=> ?_,λi d e=> ?_,λi d e=> ?_,λi d e=> ?_,E.dj⟩
 ·by_cases z:a=p
  ·subst z;rw[aK];simp
  ·rw[ax z];exact E.bad a ha
 ·obtain⟨v,h1,h2⟩:=E.sh i d e
  exact⟨v,h1,h2.gen dQ λ_ f _=>f⟩
 ·obtain⟨a,h1,h2,h3,h4,h5,h6⟩:=E.ow i d e
  refine⟨a,h1,h2,h3,wr h4,h5,h6.gen dQ (λ_ f _=>f) λb eb _ o q=> ?_⟩
  cases eb
  exact(ax (λz:a=p=>h3 (by rw[z];exact hb))).trans q
 ·obtain⟨a,h1,h4,h5,h6⟩:=E.bo i d e
  refine⟨a,h1,wr h4,h5,h6.gen dQ (λ_ f _=>f) λb eb _ o q=> ?_⟩
  cases eb
  exact(ax (λz:a=p=>hl i (by rw[e];trivial) (by rw[←z];exact h1))).trans q
open PySem PySem.Spec PyProof.Rows L2
theorem ex7{a b c d e f g:Type}{P:a→b→c→d→e→f→g→Prop}{G:Prop}(h:∀x1 x2 x3 x4 x5 x6 x7,P x1 x2 x3 x4 x5 x6 x7→G):(∃x1 x2 x3 x4 x5 x6 x7,P x1 x2 x3 x4 x5 x6 x7)→G:=λ⟨x1,x2,x3,x4,x5,x6,x7,q⟩=>h x1 x2 x3 x4 x5 x6 x7 q
structure CoI(X:Cx)(scope:Scope)(cl:List (Str×Addr))(C:Addr)(N:List Str)(s:Shared)(H:Hp)(fp:List Addr)(tn:Nat→Heap→Prop)(Bad:Addr→Prop)(env:Env)(σ:St)(p:Addr)(gd:DG)(t:DT)(f:DE)(ds rs:List D)(m:Nat)(s' :Shared)(i:Nat)(σi:St)(Hi:Hp)(envi:Env)(vs:List V)(done rest:List D):Prop where
 em:m=ds.length -i
 hi:i≤ds.length
 Ii:Inv (blk X scope cl C N s H fp) [] σi Hi s'
 sti:tn i s'.heap
 fri:∀b∈fp,Hi b=none
 Ei:aG X.K H (mD Bad env σ p) envi σi Hi
 hpi:Hi p=some (.lst vs)
 ri:aX X.K (λb=>Cln Bad env σ b∧b≠p) Hi done vs
 owi:∀j:Nat,¬isO envi[j]?
 lbi:∀(j:Nat) a,uk envi[j]? →σi[j]? =some (some (.ref a))→¬Cln Bad env σ a
 dl:done.length≤i
 ci:cn gd t f (ds.drop i) envi=some rest
 eqi:done++rest=rs
section
variable{X:Cx}{pos:Pos}
theorem iX{env:PySem.Env}{scope:Scope}{x:Str}(h:scope.names.lookup x=some .local):(relabel scope env).names.lookup x=some .local:=lookup_relabel_local h
theorem bw{scope:Scope}{cl:List (Str×Addr)}{C:Addr}{N:List Str}{s:Shared}{H:Hp}{ex:List Addr}{x:Str}(h:scope.names.lookup x=some .local):Vis (blk X scope cl C N s H ex).env.scope x:= .inl (iX h)
theorem cE{scope:Scope}{cl:List (Str×Addr)}{C:Addr}{N:List Str}{s:Shared}{H:Hp}{ex:List Addr}{x:Str}(h:scope.names.lookup x=some .local):Loc (blk X scope cl C N s H ex).env.scope x:= .inl (iX h)
theorem vM{scope:Scope}{cl:List (Str×Addr)}{C:Addr}{N:List Str}{s:Shared}{H:Hp}{ex:List Addr}{x:Str}(h:scope.names.lookup x=some .free):Vis (blk X scope cl C N s H ex).env.scope x:= .inr (ie h)
theorem Cy{scope:Scope}{cl:List (Str×Addr)}{N:List Str}{n:Nat}{aT:List Nat}{pins:List (Addr×Obj)}{σ:St}{H:Hp}{s:Shared}{fp:List Addr}{h₁:Heap}{tk:Nat}{C:Addr}(S:k6 X scope N n aT)(I:Inv X pins σ H s)
  (hcl:∀x c,cl.lookup x=some c→X.env.cells.lookup x=some c)(hfr:∀y∈scope.names,y.2= .free→∃c,cl.lookup y.1=some c)(hf:∀b∈fp,mV X pins H b)(hfo:∀b∈fp,b<s.heap.objs.size)
  (hC:s.heap.objs.size+1=C)(hns:h₁.Ns C λ_=>none)(old:∀b o,s.heap.get? b=some o→h₁.get? b=some o)(hacc:h₁.get? s.heap.objs.size=some {cls:= .type "list",data:= .seq ([]:List Value).toArray}):
  Inv (blk X scope cl C N s H fp) [] (lh n aT σ) (upd H s.heap.objs.size (.lst [])) {s with heap:=h₁,toks:=tk}:=by
 have hpn:=I.fresh
 have hCn:H C=none:=I.hok.fresh (by omega)
 have hne:C≠s.heap.objs.size:=λz=>by rw[z] at hC;exact Nat.succ_ne_self _ hC
 have hcell:∀y∈scope.names,y.2≠ .cell:=λy hy z=>by
  have:=Gat.mp S.cell y hy
  rw[z] at this;simp at this
 have cells:∀x c,cl.lookup x=some c→∃v,s.heap.IsCell c v:=λx c e=>I.cell x c (hcl x c e)
 have cNe:∀x c,cl.lookup x=some c→c≠s.heap.objs.size:=λx c e z=>by
  obtain⟨v,q⟩:=cells x c e
  exact absurd q.lt (by rw[z];exact Gbz _)
 refine⟨⟨I.ok.mod,S.kind,I.ok.glob,I.ok.blt,by show s.heap.objs.size≤C;omega,λx y c e1 e2=>I.ok.inj x y c (hcl x c e1) (hcl y c e2),λx hx=> ?_,λx c e=>(by cases e),I.ok.hd,I.ok.frames,.inl rfl,λb hb=> ⟨?_,λx c e=>(hf b hb).2.2.2.2.1 x c (hcl x c e)⟩,
  I.bs,Gbt I.ok.bsz I.sz,λb o e hb=> ?_,λb hb hs=> ?_,I.stack,I.B3⟩,rfl,I.bare,Un.laid old (Gap _) hpn,⟨_,hns,λj x v e1 e2 e3=> ?_⟩,λx c e=> ?_,(ax hne).trans hCn,λx c e=>(ax (cNe x c e)).trans (I.jW x c (hcl x c e)),λp hp=> ?_, ?_, ?_⟩
 ·obtain⟨c,hc⟩:=hfr (x,.free) (nh hcell hx) rfl
  exact⟨c,hc⟩
 ·intro z
  have:=hfo b hb
  have z' :b=C:=z
  rw[z',←hC] at this
  exact Gbz _ (Nat.lt_of_succ_lt this)
 ·rcases(hf b hb).2.2.2.1 with z|z
  ·exact I.ok.G6 b o e z
  ·exact absurd (GaP (Gaz e) (Gbt I.ok.bsz z)) (Gbz _)
 ·have hs' :b∈frs X.stack:=hs
  rcases Gay.mp (I.A7 b hs') with z|z
  ·exact(hf b hb).2.1 z
  ·exact(hf b hb).2.2.1 z
 ·
  obtain⟨i,f1,f2,f3⟩:=ql e2
  have f3' :=getD_some f3
  have e1' :N[j]? =some x:=e1
  have hd:(N.drop n)[j -n]? =some x:=by rw[Gbh];rw[show n+(j -n)=j by omega];exact e1'
  have hxf:scope.names.lookup x=some .free:=by
   have:=Gat.mp S.fr x (GaL hd)
   simpa using this
  rw[S.cap,Gal,f1] at hd
  have hi:i<X.N.length:=Gaw (Gat.mp S.lt i (GaL f1))
  have hXN:X.N[i]? =some x:=by
   simp only[GcI,Gcz] at hd
   rw[Gaa hi] at hd⊢
   simpa using hd
  have hk:Mj (X.env.kindOf x)=true:=by
   have:=Gat.mp S.free (x,.free) (mem_of_lookup hxf)
   simpa using this
  have hk' :X.env.kindOf x=some .cell∨X.env.kindOf x=some .free:=by
   cases q:X.env.kindOf x with
   |none=>rw[q] at hk;cases hk
   |some z=>rw[q] at hk;cases z<;>first|(cases hk;done)|exact .inl rfl|exact .inr rfl
  obtain⟨m,hm,look⟩:=I.loc
  have hv:Vis X.env.scope x:= .inr hk'
  obtain⟨u,ru,l⟩:=look i x v hXN f3' hv
  refine⟨u,ru,.inr ⟨?_, ?_⟩⟩
  ·exact ie hxf
  ·rcases l with⟨l,_⟩| ⟨_,c,hc,o,ho,hdt⟩
   ·rcases hk' with z|z<;>rw[l] at z<;>cases z
   ·obtain⟨c',hc'⟩:=hfr (x,.free) (mem_of_lookup hxf) rfl
    have:=hcl x c' hc'
    rw[hc] at this;cases this
    exact⟨c,hc',o,old _ _ ho,hdt⟩
 ·obtain⟨v,o,ho,hdt⟩:=cells x c e
  exact⟨v,o,old _ _ ho,hdt⟩
 ·cases hp
 ·exact I.hok.laid old (Gap _) ⟨GbI _,[],0,.nil,hacc⟩
 ·show(lh n aT σ).length=N.length
  have:=congrArg List.length S.cap
  rw[GbV,Gah] at this
  have:=S.le
  simp[lh]
  omega
theorem H0{scope:Scope}{cl:List (Str×Addr)}{N:List Str}{C:Addr}{pins pins' :List (Addr×Obj)}{σ σ' :St}{H H' :Hp}{s s' :Shared}{fp:List Addr}(I:Inv X pins σ H s)(hf:∀b∈fp,mV X pins H b)
  (I' :Inv (blk X scope cl C N s H fp) pins' σ' H' s'):Inv X pins σ H' s' :=
 I.Im I'.os I'.base I'.hok I'.bare λb hb=> ⟨(hf b hb).2.2.2.1,(hf b hb).2.1,(hf b hb).2.2.2.2.1,(hf b hb).2.2.2.2.2⟩
def Mk(K:aD)(H H' :Hp)(F:Addr→Prop)(p:Addr)(rs:List D):Prop:=c0 H H' ∧H p=none∧∃vs,H' p=some (.lst vs)∧aX K (λb=>F b∧b≠p) H' rs vs
def t8(gd:DG):Prop:=∀d e e',gd d e=some e' →(∀j:Nat,¬isO e[j]?)→∀j:Nat,¬isO e'[j]?
theorem Bq{e:Env}{i:Nat}{d:D}(h:∀j:Nat,¬isO e[j]?):∀j:Nat,¬isO (e.set i (some (.sh d)))[j]? :=λj z=>by
 by_cases q:i=j
 ·subst q
  by_cases hl:i<e.length
  ·rw[GaN hl] at z;exact z
  ·rw[Gbn (by simp;omega)] at z;exact z
 ·rw[Gab q] at z;exact h j z
theorem jM{i:Nat}:t8 (gN i):=λd e e' h n=>by cases h;exact Bq n
theorem t9:∀(is:List Nat) (ds:List D) (e e' :Env),gNs is ds e=some e' →(∀j:Nat,¬isO e[j]?)→∀j:Nat,¬isO e'[j]?
 |[],[],e,e',h,n=>by cases h;exact n
 |i::is,d::ds,e,e',h,n=>t9 is ds _ e' h (Bq n)
 |[],_::_,_,_,h,_=>by cases h
 |_::_,[],_,_,h,_=>by cases h
theorem qI{is:List Nat}:t8 (gT is):=λd e e' h n=>by
 unfold gT at h
 split at h
 ·exact t9 is _ e e' h n
 ·cases h
theorem tf{scope:Scope}{cl:List (Str×Addr)}{N:List Str}{n:Nat}{aT:List Nat}{pins:List (Addr×Obj)}{σ:St}{H H₀:Hp}{s:Shared}{fp:List Addr}{it:Addr}{tn:Nat→Heap→Prop}{J:It}{tg iter elt:Expr}{ifs:List Expr}{E:Value→Shared→Prop}
  {gd:DG}{t:DT}{f:DE}{ds rs:List D}{Bad:Addr→Prop}{env:Env}{RR:Value→Addr→Result→Shared→Prop}(hc:X.calm=true)(S:k6 X scope N n aT)(I:Inv X pins σ H s)
  (hcl:∀x c,cl.lookup x=some c→X.env.cells.lookup x=some c)(hfr:∀y∈scope.names,y.2= .free→∃c,cl.lookup y.1=some c)(hf:∀b∈fp,mV X pins H b)(T:Turn X.prog X.w X.K tg J fp it tn)(st:tn 0 s.heap)
  (hg:∀C s' H',PGd (blk X scope cl C N s' H' fp) tg gd)(ht:∀C s' H',qk (blk X scope cl C N s' H' fp) ifs (tT X t))(he:∀C s' H',PEd (blk X scope cl C N s' H' fp) elt f)
  (EE:aG X.K H₀ Bad env σ H)(io:Cu X.K (λb=>Cln Bad env σ b∧H b≠none) (λb=>¬Ow env σ b) J ds H)(hgo:t8 gd)(hz:ds.length≤ah)(hl:cn gd t f ds (compEnv n aT env)=some rs)
  (hRR:∀p C s' H' m,Inv X pins σ H' s' →s'.heap.Ns C m→s.heap.objs.size≤C→mV X pins H' C→Mk X.K H H' (Cln Bad env σ) p rs→RR (.ref p) C (.ok .next) s'):
  wpAny (model X.prog X.w) X.A (newList []) (λacc s₃=>wpAny (model X.prog X.w) X.A (newFunctionEnv scope X.env.globals cl [] X.env.qual none .none (some X.env)) (λcenv s₄=>
   codeAny (model X.prog X.w) X.A (.compStart (.ListComp elt [⟨tg,iter,ifs,0⟩] scope pos) 0 (.ref it) acc {cenv with scope:=relabel scope X.env}) (RR acc cenv.locals) s₄) E s₃) E s:=by
 have hcell:∀y∈scope.names,y.2≠ .cell:=λy hy z=>by
  have:=Gat.mp S.cell y hy
  rw[z] at this;simp at this
 refine Gbe (wpAny_newFunctionEnv hcell (by intro y hy;simp at hy) (λh₁ hns₁ hsb₁=> ?_) S.kind)
 dsimp only at hns₁ hsb₁⊢
 generalize hH2:s.heap.push {cls:= .type "list",dict:=none,data:= .seq ([]:List Value).toArray}=H2 at hns₁ hsb₁⊢
 have hC:s.heap.objs.size+1=H2.objs.size:=by rw[←hH2,GcP]
 have hDC:s.heap.objs.size≠H2.objs.size:=by rw[←hC];exact GaO (Nat.lt_succ_self _)
 have hCle:s.heap.objs.size≤H2.objs.size:=by rw[←hC];exact GcZ _
 have old:∀b o,s.heap.get? b=some o→h₁.get? b=some o:=λb o e=>hsb₁.extBut b o (by rw[←hC];exact GaO (GcV (Gaz e))) (Gaj _ (hH2▸Gaj _ e))
 have hacc:h₁.get? s.heap.objs.size=some {cls:= .type "list",data:= .seq ([]:List Value).toArray}:=hsb₁.extBut _ _ hDC (Gaj _ (hH2▸GaC _ rfl))
 have hfo:∀b∈fp,b<s.heap.objs.size:=λb hb=>by obtain⟨o,e,_⟩:=T.obj 0 _ st b hb;exact Gaz e
 have st₁:tn 0 h₁:=T.keep 0 _ _ st λb _ o e=>old b o e
 have hpn:=I.fresh
 generalize hC' :H2.objs.size=C at*
 have I1:Inv (blk X scope cl C N s H fp) [] (lh n aT σ) (upd H s.heap.objs.size (.lst [])) {s with heap:=h₁,toks:=s.toks+([]:List (Str×Value)).length}:=Cy S I hcl hfr hf hfo hC (by
  have z:(λx:Str=>([]:List (Str×Value)).reverse.lookup x)=λ_=>none:=by funext x;rfl
  rw[z] at hns₁;exact hns₁) old hacc
 have E1:=EE.block n aT hpn
 generalize hp:s.heap.objs.size=p at*
 have loop:codeAny (model X.prog X.w) X.A (.compLoop (.ListComp elt [⟨tg,iter,ifs,0⟩] scope pos) 0 (.ref it) (.ref p) (compEnvC scope cl C X.env)) (RR (.ref p) C) {s with heap:=h₁,toks:=s.toks+([]:List (Str×Value)).length}:=by
  refine codeAny_loop rfl (λm s' =>∃i σi Hi envi vs done rest,CoI X scope cl C N s H fp tn Bad env σ p gd t f ds rs m s' i σi Hi envi vs done rest) ?_ ds.length ?_
  ·refineλm s' =>ex7 λi σi Hi envi vs done rest J0=> ?_
   have e0:=J0.em
   subst e0
   have hi:=J0.hi
   have Ii:=J0.Ii
   have sti:=J0.sti
   have fri:=J0.fri
   have Ei:=J0.Ei
   have hpi:=J0.hpi
   have ri:=J0.ri
   have owi:=J0.owi
   have lbi:=J0.lbi
   have dl:=J0.dl
   have ci:=J0.ci
   have eqi:=J0.eqi
   have hfi:∀{H' :Hp},(∀b∈fp,H' b=none)→∀b∈fp,mV (blk X scope cl C N s H fp) [] H' b:=λhn b hb=>by
    refine⟨hn b hb,(Ii.ok.exf b hb).1,Ii.ok.G7 b hb,.inl hb,(Ii.ok.exf b hb).2,λq hq=>(by cases hq)⟩
   have keepAll:∀b o,H b=some o→Hi b=some o:=Ei.same
   obtain⟨items,stop⟩:=io Hi λb o hb _=>keepAll b o hb
   show wpAny _ X.A ((compTurn (.ListComp elt [⟨tg,iter,ifs,0⟩] scope pos) 0 (.ref it) (.ref p) (compEnvC scope cl C X.env)).onRaise (λx=>do noteFrame x (compEnvC scope cl C X.env);theTreesLotGoes x)) _ _ s'
   refine wpAny_noted ?_
   rw[compTurn_list]
   refine Gad (wpAny_standAt (Gad ?_))
   by_cases hlt:i<ds.length
   ·obtain⟨go,yld⟩:=items i ds[i] (by simp[hlt])
    refine thn (T.item (blk X scope cl C N s H fp) rfl rfl rfl hc i [] s' σi Hi _ Ii (hfi fri) sti go) λr s4 ⟨u,hr,h4⟩=> ?_
    subst hr
    refine Gad (thn h4 λ_ s5 ⟨x,H5,I5,r5,y5,st5,fr5⟩=> ?_)
    obtain⟨s2,rep⟩:=yld x H5 y5
    have I5' :=I5.pinned (hfi fr5) (T.obj _ _ st5)
    have hd:ds.drop i=ds[i]::ds.drop (i+1):=Gbw hlt
    rw[hd] at ci
    unfold cn at ci
    obtain⟨e2,hg2,ci⟩:=bind_some ci
    obtain⟨bb,ht2,ci⟩:=bind_some ci
    have clnIn:∀b,Cln Bad env σ b∧H b≠none→Cln (mD Bad env σ p) envi σi b:=λb ⟨q1,q2⟩=>by
     refine⟨λz=>z.elim (λz=>q2 (by rw[z];exact hpn)) λz=>z q1,λj tj ej=> ?_⟩
     rcases sU tj with o|o
     ·exact owi j o
     ·exact lbi j b o ej q1
    refine Gad (thn (GbK (hg C s H _ s5 σi H5 x u (λσ6 H6=>aG X.K H (mD Bad env σ p) e2 σ6 H6∧Stp envi σi H5 e2 σ6 H6) I5' r5 ⟨H,mD Bad env σ p,envi,ds[i],e2,Ei.mono s2,hg2,rep.imp clnIn,λσ' H' E' p' => ⟨E',p'⟩⟩) (λ_ _ q=>q) λ_ _ q=>q.elim) λ_ s6 ⟨σ6,H6,I6,E6,p6⟩=> ?_)
    have noO6:=hgo _ _ _ hg2 owi
    have s56:c0 H5 H6:=λb o e=>p6.keep b o e λ⟨j,z,_⟩=>owi j z
    have lb6:∀(j:Nat) a,uk e2[j]? →σ6[j]? =some (some (.ref a))→¬Cln Bad env σ a:=λj a z ej=>by
     obtain⟨q1,q2⟩:=p6.lk j z
     rw[q1] at z;rw[q2] at ej
     exact lbi j a z ej
    have again:∀{H7:Hp} {s7:Shared} {vs' :List V} {done' rest' :List D},Inv (blk X scope cl C N s H fp) ([]++qv fp s5.heap) σ6 H7 s7→aG X.K H (mD Bad env σ p) e2 σ6 H7→H7 p=some (.lst vs')→aX X.K (λb=>Cln Bad env σ b∧b≠p) H7 done' vs' →
      done'.length≤i+1→cn gd t f (ds.drop (i+1)) e2=some rest' →done' ++rest' =rs→
      ∃m,m<ds.length -i∧∃i σi Hi envi vs done rest,CoI X scope cl C N s H fp tn Bad env σ p gd t f ds rs m s7 i σi Hi envi vs done rest:=by
     intro H7 s7 vs' done' rest' I7 E7 hp7 r7 dl7 c7 q7
     refine⟨ds.length -(i+1),by omega,i+1,σ6,H7,e2,vs',done',rest',⟨rfl,hlt,I7.nB,T.keep _ _ _ st5 λb hb o e=>(I7.pin (b,o) (Gba _ (Gba _ (jX hb e)))).1,λb hb=> ?_,E7,hp7,r7,noO6,lb6,dl7,c7,q7⟩⟩
     obtain⟨o,e,d⟩:=T.obj _ _ st5 b hb
     exact(I7.pin (b,o) (Gba _ (Gba _ (jX hb e)))).2.1
    refine Gad (thn (GbK (ht C s H _ s6 σ6 H6 (λb' H7=>b' =bb∧c0 H6 H7) I6 ⟨H,mD Bad env σ p,e2,bb,E6,ht2,λH' s' => ⟨rfl,s'⟩⟩) (λ_ _ q=>q) λ_ _ q=>q.elim) λok s7 ⟨H7,I7,hok,s67⟩=> ?_)
    subst hok
    have sAll:c0 Hi H7:=s2.trans (s56.trans s67)
    have E7:=E6.mono s67
    have hp7:H7 p=some (.lst vs):=sAll _ _ hpi
    have r7:=ri.gen (F' :=λb=>Cln Bad env σ b∧b≠p) (.of_same sAll) λ_ q _=>q
    cases ok with
    |false=>
     rw[Gae GaA] at ci
     exact Gar ⟨rfl,again I7 E7 hp7 r7 (Nat.le_succ_of_le dl) ci eqi⟩
    |true=>
     rw[Gag rfl] at ci
     obtain⟨r,hr,ci⟩:=bind_some ci
     split at ci
     ·rename_i hfree
      obtain⟨rest',c8,rfl⟩:=Gam.mp ci
      refine Gad (Gad (thn (GbK (he C s H _ s7 σ6 H7 (λv H8=>c0 H7 H8∧jF X.K H (mD Bad env σ p) e2 σ6 H7 H8 r v) I7 ⟨H,mD Bad env σ p,e2,r,E7,hr,λv H' s' R=> ⟨s',R⟩⟩) (λ_ _ q=>q) λ_ _ q=>q.elim) λy s8 ⟨v,H8,I8,ry,s78,R⟩=> ?_))
      have E8:=E7.mono s78
      have hp8:H8 p=some (.lst vs):=s78 _ _ hp7
      have r8:=(r7.gen (F' :=λb=>Cln Bad env σ b∧b≠p) (.of_same s78) λ_ q _=>q)
      have vr:Rep X.K (λb=>Cln Bad env σ b∧b≠p) H8 r.d v:=(R.rep E7 hfree).imp λb q=> ⟨Classical.byContradiction λz=>q.1 (.inr z),λz=>q.1 (.inl z)⟩
      have hlen:vs.length<sizeLine:=by
       rw[←size_eq,←ri.1];omega
      refine Gad (thn (GbK (oA (X:=blk X scope cl C N s H fp) _ s8 σ6 H8 (.ref p) [v] (.ref p) [y] (λ_ H9=>H9=upd H8 p (.lst (vs++[v]))) I8 rfl (.cons ry .nil) ⟨p,vs,v,rfl,rfl,hp8,hlen,rfl⟩) (λ_ _ q=>q) λ_ _ q=>q.elim) λ_ s9 ⟨_,H9,I9,_,h9⟩=> ?_)
      subst h9
      have lbp:∀j:Nat,uk e2[j]? →σ6[j]? ≠some (some (.ref p)):=λj z ej=>lb6 j p z ej (EE.um hpn)
      have dQ:iP (λb=>Cln Bad env σ b∧b≠p) H8 (upd H8 p (.lst (vs++[v]))):=λb o e q=>by
       refine(ax ?_).trans e
       rintro rfl
       rcases q with q|q
       ·exact q.2 rfl
       ·rw[hp8] at e;cases e;exact q
      refine Gar (Gar ⟨rfl,again I9 (E8.grow (.inl rfl) hpn hp8 lbp) aK ((r8.append (aX.cons vr .nil)).gen dQ λ_ q _=>q) (by simp;omega) c8 ?_⟩)
      rw[←eqi,Gas];rfl
     ·cases ci
   ·have hi' :i=ds.length:=by omega
    subst hi'
    rw[GbM] at ci
    cases ci
    rw[Gbb] at eqi
    subst eqi
    refine thn (T.done (blk X scope cl C N s H fp) rfl rfl rfl hc ds.length [] s' σi Hi _ Ii (hfi fri) sti stop) λr s4 ⟨hr,I4⟩=> ?_
    subst hr
    obtain⟨m,hm,_⟩:=I4.loc
    have IX:=H0 I hf I4
    exact Gar (hRR p C s4 Hi m IX hm hCle ⟨I4.free,(I.C5 (by rw[hp];exact hCle) (I.hok.fresh (by rw[hp];exact hCle))).2⟩ ⟨keepAll,hpn,vs,hpi,ri⟩)
  ·exact⟨0,_,_,_,[],[],rs,⟨by simp,GbI _,I1,st₁,λb hb=>(ax (by rintro rfl;exact Gbz _ (hfo _ hb))).trans (hf b hb).1,E1,aK,aX.nil,λj=>GZ,λj a z e=>by
    obtain⟨i,t1,t2⟩:=Bp z.top e
    exactλq=>q.2 i t1 t2,Gap _,by simpa using hl,rfl⟩⟩
 exact codeAny_compStart_list loop (T.self X.A 0 _ _ _ st₁ loop)
end
open PySem PySem.Spec PyProof.Rows L2
section
variable{X:Cx}{pos:Pos}
theorem ux{n:Nat}{aT:List Nat}{l:Option Nat}{env:Env}:compEnv n aT (bR l env)=compEnv n aT env:=by
 cases l with
 |none=>rfl
 |some j=>
  unfold bR
  dsimp only
  split
  ·rename_i d q
   unfold compEnv
   congr 1
   apply GaQ
   intro i _
   by_cases z:j=i
   ·subst z
    rw[GaN (Gac.mp q).1,q];rfl
   ·rw[Gab z]
  ·rfl
theorem k6.cells{scope:Scope}{N:List Str}{n:Nat}{aT:List Nat}{pins:List (Addr×Obj)}{σ:St}{H:Hp}{s:Shared}(S:k6 X scope N n aT)(I:Inv X pins σ H s):∀y∈scope.names,y.2= .free→∃c,X.env.cells.lookup y.1=some c:=λy hy hf=>by
 have hk:=Gat.mp S.free y hy
 rw[hf] at hk
 simp only[bne_self_eq_false,Bool.false_or] at hk
 refine I.ok.has y.1 ?_
 cases q:X.env.kindOf y.1 with
 |none=>rw[q] at hk;cases hk
 |some z=>rw[q] at hk;cases z<;>first|(cases hk;done)|exact .inl rfl|exact .inr rfl
theorem k6.Es{scope:Scope}{N:List Str}{n:Nat}{aT:List Nat}(S:k6 X scope N n aT):∀y∈scope.names,y.2= .local→scope.names.lookup y.1=some .local:=λy hy hl=>by
 have:=Gat.mp S.names y hy
 rw[hl] at this
 simpa using this
structure Blk(X:Cx)(scope:Scope)(N:List Str)(tg elt:Expr)(ifs:List Expr)(gd:DG)(t:DT)(f:DE):Prop where
 g:∀cl C s H ex,PGd (blk X scope cl C N s H ex) tg gd
 t:∀cl C s H ex,qk (blk X scope cl C N s H ex) ifs (tT X t)
 e:∀cl C s H ex,PEd (blk X scope cl C N s H ex) elt f
theorem _root_.L2.Inv.IB{pins:List (Addr×Obj)}{σ:St}{H:Hp}{s:Shared}{C:Addr}{h' :Heap}(I:Inv X pins σ H s)(F:mV X pins H C)(hs:Heap.SameBut C s.heap h'):Inv X pins σ H {s with heap:=h' }:=
 I.turned (t' :=s.toks) (λb o hb e=>(hs.2 b hb).trans e) F.1 F.2.1 F.2.2.2.1 F.2.2.2.2.1 F.2.2.2.2.2
theorem lY{tg iter elt:Expr}{ifs:List Expr}{scope:Scope}{N:List Str}{n:Nat}{aT:List Nat}{l:Option Nat}{src:DI}{gd:DG}{t:DT}{f:DE}(hc:X.calm=true)(S:k6 X scope N n aT)(hi:PId X tg iter src)(hgo:t8 gd)(B:Blk X scope N tg elt ifs gd t f)
  (hs:∀x,foldedSetIterable iter X.env x=pure x:=by intro _;rfl):PEd X (.ListComp elt [⟨tg,iter,ifs,0⟩] scope pos) (pj l n aT src gd t f):=by
 intro pins s σ H Q I hw
 obtain⟨H₀,Bad,env,r,E,e,k⟩:=hw
 unfold pj at e
 obtain⟨ds,hds,e⟩:=bind_some e
 split at e
 ·rename_i hz
  obtain⟨rs,hrs,rfl⟩:=Gam.mp e
  obtain⟨EL,lo,tops⟩:=E.lock l
  obtain⟨cl,h1,h2,h3⟩:=mC (S.cells I)
  rw[eval_ListComp]
  refine wpAny_comprehension_free (use:=none) rfl hs h1 S.kind S.Es ?_
  refine thn (hi pins s σ H (λJ H' =>c0 H H' ∧Cu X.K (λb=>Cln Bad (bR l env) σ b∧H' b≠none) (λb=>¬Ow (bR l env) σ b) J ds H') I ⟨H₀,Bad,bR l env,ds,EL,hds,λJ H' s' io=> ⟨s',io⟩⟩) λv s1 q1=>thn q1 λitv s2 q2=> ?_
  obtain⟨it,fp,tn,J,H2,e,I2,T,st2,f2,sH,io⟩:=q2
  subst e
  refine tf (RR:=λacc C=>compPost (model X.prog X.w) X.A X.xe none (EP X pins σ Q) acc C) hc S I2 h2 h3 f2 T st2 (λC s' H' =>B.g cl C s' H' fp) (λC s' H' =>B.t cl C s' H' fp) (λC s' H' =>B.e cl C s' H' fp) (EL.mono sH) io hgo hz (by rw[ux];exact hrs) ?_
  intro p C s' H' m IX hm hC hF G
  refine⟨m,hm,λh' hs' => ⟨.ref p,H',IX.IB hF hs',rfl, ?_⟩⟩
  obtain⟨g1,g2,vs,g3,g4⟩:=G
  exact k _ H' (sH.trans g1) ⟨p,rfl,sH.free g2,⟨_,g3,trivial⟩,rfl,.lst (.inl g3) (g4.gen (.of_same bZ) λb q _=> ⟨⟨q.1.1,λi ti ei=>q.1.2 i ((tops i).mpr ti) ei⟩,q.2⟩)⟩
 ·cases e
end
open PySem PySem.Spec PyProof.Rows L2
section
variable{X:Cx}{scope:Scope}{cl:List (Str×Addr)}{C:Addr}{N:List Str}{s:Shared}{H:Hp}{ex:List Addr}{x:Str}
theorem gY(h:N.Nodup):(blk X scope cl C N s H ex).N.Nodup:=h
theorem gZ(h:scope.names.lookup x=some .local):(blk X scope cl C N s H ex).fn x=true∨(blk X scope cl C N s H ex).env.scope.names.lookup x=some .local:= .inr (iX h)
end
open PySem PySem.Spec PyProof.Rows L2
section
variable{X:Cx}{e a b c:Expr}{f g h:DE}{pos:Pos}
noncomputable def tO(X:Cx)(o:DO):TO:=λσ H Q=>∃H₀ Bad env i,aG X.K H₀ Bad env σ H∧o env=some i∧∀H',c0 H H' →Q i H'
theorem _root_.L2.PO.aS{e:Option Expr}{t t' :TO}(h:PO X e t')(i:∀σ H Q,t σ H Q→t' σ H Q):PO X e t:=λpins s σ H Q I q=>h pins s σ H Q I (i σ H Q q)
theorem tm:PO X none (tO X noO):=Gr.aS λσ H Q ⟨_,_,_,_,_,e,k⟩=>by cases e;exact k H bZ
theorem tq(he:PEd X e f):PO X (some e) (tO X (DV f)):=by
 refine(Gs he).aS ?_
 rintro σ H Q ⟨H₀,Bad,env,o,E,ho,k⟩
 obtain⟨r,hr,ho⟩:=bind_some ho
 split at ho
 ·rename_i i hd
  cases ho
  refine⟨H₀,Bad,env,r,E,hr,λv H1 s1 R=> ?_⟩
  have q:=R.inn
  rw[hd] at q
  cases q
  exact⟨i,rfl,k H1 s1⟩
 ·cases ho
theorem uy(n d:Nat)(o:Option Int):HT.sIx n d o=sIx n d o:=by
 cases o<;>rfl
theorem qJ{K:aD}{F:Addr→Prop}{H:Hp}{ds:List D}{vs:List V}{lo hi:Option Int}(r:aX K F H ds vs):aX K F H (cutD ds lo hi) (vh vs lo hi):=by
 unfold cutD vh
 rw[uy,uy,←r.1]
 exact(r.drop _).take _
theorem vN{K:aD}{F:Addr→Prop}{H:Hp}:∀{ns:List Int},aX K F H (ns.map .int) (ns.map V.int)
 |[]=> .nil
 |n::ns=> .cons (.int n) vN
theorem vO{lo hi:Option Expr}{l u:DO}{p2:Pos}(he:PEd X e f)(hl:PO X lo (tO X l))(hu:PO X hi (tO X u)):PEd X (.Subscript e (.Slice lo hi none p2) pos) (slE f l u):=by
 refine(DF (Gw.or Ji) he hl hu).aS ?_
 rintro σ H Q ⟨H₀,Bad,env,rv,E,hf,k⟩
 obtain⟨r,hr,hf⟩:=bind_some hf
 obtain⟨lv,hlv,hf⟩:=bind_some hf
 obtain⟨uv,huv,hf⟩:=bind_some hf
 refine⟨H₀,Bad,env,r,E,hr,λv H1 s1 R=> ⟨H₀,Bad,env,lv,E.mono s1,hlv,λH2 s2=> ⟨H₀,Bad,env,uv,(E.mono s1).mono s2,huv,λH3 s3=> ?_⟩⟩⟩
 have i3:=(R.inn.same s2).same s3
 have s13:=s1.trans (s2.trans s3)
 unfold slD at hf
 split at hf
 ·rename_i xs hd
  cases hf
  rw[hd] at i3
  cases i3 with
  |lst hh rr=>exact .inl ⟨_,_,rfl,.inl hh,λp n=>k _ _ (s13.trans (bK n)) ⟨p,rfl,s13.free n,qE,rfl,iR n (qJ rr)⟩⟩
 ·rename_i xs hd
  split at hf
  ·cases hf
  ·rename_i hw
   cases hf
   rw[hd] at i3
   cases i3 with
   |tup hh rr=>exact .inr ⟨_,_,rfl,SqT.of hh,by rw[uy,uy,←rr.1];exact hw,λp n=>k _ _ (s13.trans (bK n)) (fN n (qJ rr))⟩
 ·rename_i ns hd
  cases hf
  rw[hd] at i3
  cases i3 with
  |scr hh=>exact .inl ⟨_,_,rfl,hh.sq,λp n=>k _ _ (s13.trans (bK n)) ⟨p,rfl,s13.free n,qE,rfl,iR n (qJ vN)⟩⟩
 ·cases hf
theorem vP{pins:List (Addr×Obj)}{σ:St}{H:Hp}{s:Shared}{p:Addr}{ys:List V}{Q:Value→Shared→Prop}{E:Value→Shared→Prop}(hc:X.calm=true)(I:Inv X pins σ H s)(h:SqL X.K H p ys∨SqT X.K H p ys)
  (k:∀(It:Addr) fp wr P St (s₂:Shared),Walks X.prog X.w X.A.in1 It fp wr ys.length P St→St 0 s₂.heap→(∀b∈fp,b<s₂.heap.objs.size)→(∀(i:Nat) v,P i v→∃y,ys[i]? =some y∧RelV y v)→
   (∀h' tk,(∀b o,b∉wr→s₂.heap.get? b=some o→h'.get? b=some o)→Inv X pins σ H {s₂ with heap:=h',toks:=tk})→Q (.ref It) s₂):wpAny (model X.prog X.w) X.A.in1 (pyIter (.ref p)) Q E s:=by
 have hh:X.A.in1.handled=none:=I.ok.hd hc
 have kept:∀{oi:Obj} {h' :Heap} {tk:Nat},(∀b o,b∉[s.heap.objs.size]→(s.heap.push oi).get? b=some o→h'.get? b=some o)→Inv X pins σ H {s with heap:=h',toks:=tk}:=λ{oi h' tk} hk=>
  I.kept λb o e=>hk b o (by simp only[Gct];exact GaO (Gaz e)) (Gaj _ e)
 have get:∀{its:List Value},Vals ys its→∀(i:Nat) v,its.toArray[i]? =some v→∃y,ys[i]? =some y∧RelV y v:=λ{its} r i v e=>by
  have e' :its[i]? =some v:=by simpa using e
  obtain⟨hi,_⟩:=Gac.mp e'
  have hi' :i<ys.length:=by rw[r.length];exact hi
  obtain⟨u,hu,ru⟩:=r.get (x:=ys[i]) (i:=i) (by simp[hi'])
  rw[e'] at hu;cases hu
  exact⟨ys[i],by simp[hi'],ru⟩
 have lts:∀{oi:Obj},p<s.heap.objs.size→∀b∈[s.heap.objs.size,p],b<(s.heap.push oi).objs.size:=λ{oi} hp b hb=>by
  rw[GcP]
  rcases Gay.mp hb with rfl|hb
  ·exact Nat.lt_succ_self _
  ·rcases Gay.mp hb with rfl|hb
   ·exact GcV hp
   ·cases hb
 rcases h with hq|hq
 ·obtain⟨its,rv,pl,hz⟩:=I.list hq
  have hlt:p<s.heap.objs.size:=by obtain⟨_,e,_⟩:=pl.isList;exact Gaz e
  have W:=Walks.list (prog:=X.prog) (w:=X.w) hh s.heap.objs.size p (GaO hlt) its.toArray
  have hsz:its.toArray.size=ys.length:=by rw[Gan,rv.length]
  rw[hsz] at W
  exact wpAny_pyIter_list pl.isList (k _ _ _ _ _ _ W ⟨⟨_,GaC _ rfl,rfl,rfl⟩,pl.isList.push _⟩ (lts hlt) (get rv) λh' tk hk=>kept hk)
 ·obtain⟨its,rv,pl,hz⟩:=I.tuple hq
  have pl' :s.heap.IsTuple p its.toArray:=pl
  have hlt:p<s.heap.objs.size:=by obtain⟨_,e,_⟩:=pl';exact Gaz e
  have W:=Walks.tuple (prog:=X.prog) (w:=X.w) hh s.heap.objs.size p (GaO hlt) its.toArray
  have hsz:its.toArray.size=ys.length:=by rw[Gan,rv.length]
  rw[hsz] at W
  exact GcN pl' (k _ _ _ _ _ _ W ⟨⟨_,GaC _ rfl,rfl,rfl⟩,pl'.at λo e=>Gaj _ e⟩ (lts hlt) (get rv) λh' tk hk=>kept hk)
theorem range_any(bs:List Bool):(List.range bs.length).any (λi=>bs[i]?.getD false)=bs.any id:=by
 rw[Bool.eq_iff_iff]
 simp only[List.any_eq_true,GbD,id]
 constructor
 ·rintro⟨i,hi,h⟩
  rw[Gaa hi] at h
  exact⟨bs[i],GaB hi,h⟩
 ·rintro⟨b,hb,h⟩
  obtain⟨i,hi,rfl⟩:=Gdq hb
  exact⟨i,hi,by rw[Gaa hi];exact h⟩
theorem vQ{A:Around}{P:Nat→Value→Prop}{bs:List Bool}(hP:∀(i:Nat) v,P i v→∃y,(bs.map V.bl)[i]? =some y∧RelV y v):TruthOf X.prog X.w A P (λi=>bs[i]?.getD false):=by
 intro i v s Q E p q
 obtain⟨y,hy,r⟩:=hP i v p
 rw[Gal] at hy
 cases hb:bs[i]? with
 |none=>rw[hb] at hy;cases hy
 |some b=>
  rw[hb] at hy;cases hy
  cases r
  refine GbF ?_
  have q' :Q (bs[i]?.getD false) s:=q
  rw[hb] at q';exact q'
theorem Cz(hc:X.calm=true):i4 X (.builtin "any") (λxs H Q=>∃(p:Addr) (bs:List Bool),xs=[.ref p]∧(SqL X.K H p (bs.map V.bl)∨SqT X.K H p (bs.map V.bl))∧Q (.bl (bs.any id)) H):=by
 intro pins s σ H xs us Q I rv h
 obtain⟨p,bs,rfl,hq,q⟩:=h
 obtain⟨u,rfl,ru⟩:=rv.one
 cases ru
 refine call_any_walk (vP hc I hq λIt fp wr P St s₂ W st lt hP kept=> ⟨It,fp,wr,_,P,St,_,rfl,W,st,vQ hP,λh' tk hk=> ?_⟩)
 rw[Gah,range_any]
 exact⟨.bl (bs.any id),H,kept h' tk hk,rfl,q⟩
noncomputable def uz(ns:List Int)(i:Nat):Int:=ns[i]?.getD 0
theorem vR{P:Nat→Value→Prop}{ns:List Int}(hP:∀(i:Nat) v,P i v→∃y,(ns.map V.int)[i]? =some y∧RelV y v):∀i v,P i v→∃t,v= .int (uz ns i) t:=by
 intro i v p
 obtain⟨y,hy,r⟩:=hP i v p
 rw[Gal] at hy
 cases hb:ns[i]? with
 |none=>rw[hb] at hy;cases hy
 |some n=>
  rw[hb] at hy;cases hy
  obtain⟨t,rfl⟩:=r
  exact⟨t,by unfold uz;rw[hb];rfl⟩
theorem CA{f:Int→Int→Int}{i:Int}{ns:List Int}{k:Nat}(hk:k<ns.length):(ns.take (k+1)).foldl f i=f ((ns.take k).foldl f i) (ns[k]):=by
 rw[GbN hk,List.foldl_append];rfl
theorem Et{n:Int}{ns:List Int}:∀k,k≤ns.length→uz (n::ns) (argBest (λi j=>decide (uz (n::ns) i>uz (n::ns) j)) k)=(ns.take k).foldl (λa b=>if b>a then b else a) n
 |0,_=>by simp[argBest,uz]
 |k+1,hk=>by
  have ih:= @Et n ns k (by omega)
  rw[CA (by omega),argBest]
  have e:uz (n::ns) (k+1)=ns[k]:=by simp[uz,show k<ns.length by omega]
  rw[ih,e]
  simp only[decide_eq_true_eq]
  split
  ·exact e
  ·exact ih
theorem vS{K:aD}{F:Addr→Prop}{H:Hp}:∀{ds:List D} {vs:List V} {bs:List Bool},aX K F H ds vs→uh ds=some bs→vs=bs.map V.bl
 |[],vs,bs,r,e=>by cases e;exact r.cV
 |d::ds,vs,bs,r,e=>by
  obtain⟨v,w,rfl,h1,h2⟩:=r.cons_inv
  cases d<;>try (cases e;done)
  obtain⟨bs',e',rfl⟩:=Gam.mp e
  cases h1
  rw[vS h2 e'];rfl
theorem Br{K:aD}{F:Addr→Prop}{H:Hp}:∀{ds:List D} {vs:List V} {bs:List Int},aX K F H ds vs→Bc ds=some bs→vs=bs.map V.int
 |[],vs,bs,r,e=>by cases e;exact r.cV
 |d::ds,vs,bs,r,e=>by
  obtain⟨v,w,rfl,h1,h2⟩:=r.cons_inv
  cases d<;>try (cases e;done)
  obtain⟨bs',e',rfl⟩:=Gam.mp e
  cases h1
  rw[Br h2 e'];rfl
theorem Ar{K:aD}{F:Addr→Prop}{H:Hp}{d:D}{v:V}{ds:List D}(i:Inn K F H d v)(e:kQ d=some ds):∃p vs,v= .ref p∧(SqL K H p vs∨SqT K H p vs)∧aX K F H ds vs:=by
 unfold kQ at e
 split at e
 ·cases e
  cases i with
  |lst h r=>exact⟨_,_,rfl,.inl (.inl h),r⟩
 ·cases e
  cases i with
  |tup h r=>exact⟨_,_,rfl,.inr (SqT.of h),r⟩
 ·rename_i ns
  cases e
  cases i with
  |scr h=>
   refine⟨_,_,rfl,.inl h.sq,by simp,λi d v e1 e2=> ?_⟩
   rw[Gal] at e1 e2
   cases q:ns[i]? with
   |none=>rw[q] at e1;cases e1
   |some n=>rw[q] at e1 e2;cases e1;cases e2;exact .int n
 ·cases e
theorem As{o:List D→Option RV}{ds:List D}{rv:RV}(h:one o ds=some rv):∃d xs,ds=[d]∧kQ d=some xs∧o xs=some rv:=by
 unfold one at h
 split at h
 ·obtain⟨xs,h1,h2⟩:=bind_some h
  exact⟨_,xs,rfl,h1,h2⟩
 ·cases h
theorem CB:CallD X anyS (λxs H Q=>∃(p:Addr) (bs:List Bool),xs=[.ref p]∧(SqL X.K H p (bs.map V.bl)∨SqT X.K H p (bs.map V.bl))∧Q (.bl (bs.any id)) H):=by
 intro F H ds vs rv Q ps e k
 obtain⟨d,xs,rfl,h1,h2⟩:=As e
 obtain⟨bs,hb,rfl⟩:=Gam.mp h2
 obtain⟨v,rfl,i⟩:=i9 ps
 obtain⟨p,vs,rfl,hs,r⟩:=Ar i h1
 rw[vS r hb] at hs
 exact⟨p,bs,rfl,hs,k _ H bZ (.bl _)⟩
end
open PySem PySem.Spec PyProof.Rows L2
section
variable{X:Cx}{e a b c:Expr}{f g h:DE}{pos:Pos}
theorem b7.cons{κ:Type}{K:aD}{F:Addr→Prop}{H:Hp}{kvs:List (κ×D)}{ws:List (κ×V)}{k:κ}{d:D}{v:V}(h:Rep K F H d v)(r:b7 K F H kvs ws):b7 K F H ((k,d)::kvs) ((k,v)::ws):=by
 refine⟨by simp[r.1],λi x u e1 e2=> ?_⟩
 cases i with
 |zero=>simp at e1 e2;subst e1;subst e2;exact h
 |succ i=>exact r.2 i x u (by simpa using e1) (by simpa using e2)
theorem b7.cons_inv{κ:Type}{K:aD}{F:Addr→Prop}{H:Hp}{kvs:List (κ×D)}{ws:List (κ×V)}{k:κ}{d:D}(h:b7 K F H ((k,d)::kvs) ws):∃v r,ws=(k,v)::r∧Rep K F H d v∧b7 K F H kvs r:=by
 cases ws with
 |nil=>exact absurd h.1 (by simp)
 |cons q r=>
  obtain⟨k',v⟩:=q
  have h1:k=k' ∧kvs.map (·.1)=r.map (·.1):=by have:=h.1;simpa using this
  obtain⟨rfl,h2⟩:=h1
  exact⟨v,r,rfl,h.2 0 (k,d) (k,v) rfl rfl,h2,λi x y e1 e2=>h.2 (i+1) x y (by simpa using e1) (by simpa using e2)⟩
theorem b7.nil{κ:Type}{K:aD}{F:Addr→Prop}{H:Hp}:b7 K F H ([]:List (κ×D)) []:=⟨rfl,λi p q e=>by simp at e⟩
theorem b7.cV{κ:Type}{K:aD}{F:Addr→Prop}{H:Hp}{ws:List (κ×V)}(h:b7 K F H [] ws):ws=[]:=by
 cases ws with
 |nil=>rfl
 |cons q r=>exact absurd h.1 (by simp)
theorem b7.len{κ:Type}{K:aD}{F:Addr→Prop}{H:Hp}{kvs:List (κ×D)}{ws:List (κ×V)}(h:b7 K F H kvs ws):kvs.length=ws.length:=by
 have:=congrArg List.length h.1
 simpa using this
theorem b7.over{κ:Type} [DecidableEq κ]{K:aD}{F:Addr→Prop}{H:Hp}{k:κ}{d:D}{v:V}(hv:Rep K F H d v):∀{kvs:List (κ×D)} {ws:List (κ×V)},b7 K F H kvs ws→
  b7 K F H (kvs.map λkv=>if kv.1=k then(kv.1,d) else kv) (ws.map λkv=>if kv.1=k then(kv.1,v) else kv)
 |[],ws,r=>by rw[r.cV];exact .nil
 |(k',d')::kvs,ws,r=>by
  obtain⟨v',w,rfl,h1,h2⟩:=r.cons_inv
  rw[Gaq,Gaq]
  dsimp only
  split
  ·exact .cons hv (b7.over hv h2)
  ·exact .cons h1 (b7.over hv h2)
theorem b7.snoc{κ:Type}{K:aD}{F:Addr→Prop}{H:Hp}{k:κ}{d:D}{v:V}(hv:Rep K F H d v):∀{kvs:List (κ×D)} {ws:List (κ×V)},b7 K F H kvs ws→b7 K F H (kvs++[(k,d)]) (ws++[(k,v)])
 |[],ws,r=>by rw[r.cV];exact .cons hv .nil
 |(k',d')::kvs,ws,r=>by
  obtain⟨v',w,rfl,h1,h2⟩:=r.cons_inv
  exact .cons h1 (b7.snoc hv h2)
theorem b7.any{κ:Type} [DecidableEq κ]{K:aD}{F:Addr→Prop}{H:Hp}{k:κ}:∀{kvs:List (κ×D)} {ws:List (κ×V)},b7 K F H kvs ws→(kvs.any λkv=>decide (kv.1=k))=(ws.any λkv=>decide (kv.1=k))
 |[],ws,r=>by rw[r.cV];rfl
 |(k',d')::kvs,ws,r=>by
  obtain⟨v',w,rfl,h1,h2⟩:=r.cons_inv
  rw[Gdb,Gdb,b7.any h2]
theorem b7.put{κ:Type} [DecidableEq κ]{K:aD}{F:Addr→Prop}{H:Hp}{kvs:List (κ×D)}{ws:List (κ×V)}{k:κ}{d:D}{v:V}(r:b7 K F H kvs ws)(hv:Rep K F H d v):b7 K F H (put kvs k d) (putK ws k v):=by
 unfold DL.put putK
 rw[r.any]
 split
 ·exact r.over hv
 ·exact r.snoc hv
theorem JI{K:aD}{F:Addr→Prop}{H:Hp}{kvs:List (Key×D)}{a:Addr}(i:Inn K F H (.dK kvs) (.ref a)):∃ws,H a=some (.dK ws)∧b7 K F H kvs ws:=by
 cases i with
 |dK h r=>exact⟨_,h,r⟩
theorem JJ{K:aD}{F:Addr→Prop}{H:Hp}{kvs:List (List Key×D)}{a:Addr}(i:Inn K F H (.dT kvs) (.ref a)):∃ws,H a=some (.dT ws)∧b7 K F H kvs ws:=by
 cases i with
 |dT h r=>exact⟨_,h,r⟩
def IC:V→V→V→Hp→(Hp→Prop)→Prop:=λo i v H Q=>Ir o i v H Q∨∃a H4,o= .ref a∧vn H a i v H4∧Q H4
theorem Ha(hu:X.A.units+1<cLine):Ld X IC:=by
 intro pins s σ H o i v ov iv u Q I ro ri rv h
 rcases h with h| ⟨a,H4,rfl,g,q⟩
 ·exact set_list pins s σ H o i v ov iv u Q I ro ri rv h
 ·cases ro
  exact Cj hu I g ri rv λs4 I4=> ⟨H4,I4,q⟩
noncomputable def NX(td ty tv:TE):TS:=λD σ H=>tv σ H λv H1=>td σ H1 λx H2=>ty σ H2 λy H3=>IC x y v H3 λH4=>D.nx σ H4
theorem JK{o i value:Expr}{td ty tv:TE}{pos' :Pos}(hu:X.A.units+1<cLine)(ho:PE X o td)(hi:PE X i ty)(hv:PE X value tv)(hs:swapsWith value (some (.Subscript o i pos')) pos.line X.env=pure false):PS X (.Assign [.Subscript o i pos'] value pos) (NX td ty tv):=by
 intro pins s σ H D I h
 refine wpAny_Assign_Subscript (thn (hv pins s σ H _ I h) λr s1 ⟨v,H1,I1,rv,q1⟩=>thn (ho pins s1 σ H1 _ I1 q1) λu s2 ⟨x,H2,I2,rx,q2⟩=>thn (hi pins s2 σ H2 _ I2 q2) λiv s3 ⟨y,H3,I3,ry,q3⟩=> ?_) hs
 exact thn (Ha hu pins s3 σ H3 x y v u iv r _ I3 rx ry rv q3) λ_ s4 ⟨H4,I4,q4⟩=> ⟨σ,H4,I4,q4⟩
theorem nK{Bad:Addr→Prop}{env:Env}{σ:St}{H:Hp}{i:Nat}{a:Addr}{d:D}{o o' :HO}(q:env[i]? =some (some (.own d)))(h1:σ[i]? =some (some (.ref a)))(hH:H a=some o')(hw:isW o'):iP (Cln Bad env σ) H (upd H a o):=λb x hb w=>by
 have:b≠a:=by
  rintro rfl
  rcases w with w|w
  ·exact w.2 i (by rw[q];trivial) h1
  ·rw[hH] at hb;cases hb
   cases o' <;>simp[isT] at w<;>exact hw
 rw[ax this];exact hb
theorem oH{i:Nat}{x:Str}{px pos' :Pos}{k value:Expr}{fk fv:DE}(hu:X.A.units+1<cLine)(hN:X.N[i]? =some x)(hv:Vis X.env.scope x)(hk:PEd X k fk)(he:PEd X value fv)(hd:(x==("__debug__":Str))=false:=by decide)(hcd:(x==("__classdict__":Str))=false:=by decide)
  (hs:swapsWith value (some (.Subscript (.Name x px) k pos')) pos.line X.env=pure false:=by rfl):PSd X (.Assign [.Subscript (.Name x px) k pos'] value pos) (vA i fk fv):=by
 refine(JK hu (kL hN hv hd hcd) hk he hs).aS ?_
 rintro D σ H ⟨H₀,Bad,env,o,E,e,kk⟩
 obtain⟨r,hr,e⟩:=bind_some e
 obtain⟨y,hy,e⟩:=bind_some e
 obtain⟨d,hd,e⟩:=bind_some e
 have q:=nI hd
 split at e
 ·rename_i hfree
  obtain⟨d',hp,rfl⟩:=Gam.mp e
  refine⟨H₀,Bad,env,r,E,hr,λv H1 s1 R=> ?_⟩
  have E1:=E.mono s1
  obtain⟨a,h1,h2,h3,h4,h5,h6⟩:=E1.ow i _ (.inl q)
  refine⟨_,h1,H₀,Bad,env,y,E1,hy,λvy H3 s3 Ry=> ?_⟩
  have E3:=E1.mono s3
  have rep:=(R.rep E hfree).same s3
  have i6:=h6.same s3
  have iy:=Ry.inn
  have fin:∀(o' :HO) (o'' :HO),H3 a=some o'' →isW o'' →isW o' →d'.top=true→Inn X.K (Cln Bad env σ) (upd H3 a o') d' (.ref a)→D.nx σ (upd H3 a o'):=λo' o'' hH hw hw' ht inn=>by
   obtain⟨E4,p4⟩:=E3.change (d' :=d') (o:=o') q h1 hw' ht inn
   exact kk σ _ E4 (((Stp.of_same s1).trans (.of_same s3)).trans p4)
  unfold putD at hp
  split at hp
  ·rename_i kvs
   split at hp
   ·rename_i hz
    obtain⟨key,hkey,rfl⟩:=Gam.mp hp
    obtain⟨ws,hH,rp⟩:=JI i6
    have hy' :=oF iy hkey
    subst hy'
    refine .inr ⟨a,_,rfl,vn.k hH (by rw[←rp.len,←size_eq];exact hz),fin _ _ hH trivial trivial rfl ?_⟩
    exact .dK aK ((rp.put rep).gen (nK q h1 hH trivial) λ_ f _=>f)
   ·cases hp
  ·rename_i kvs
   split at hp
   ·rename_i ks hks
    split at hp
    ·rename_i hz
     obtain⟨key,hkey,rfl⟩:=Gam.mp hp
     obtain⟨ws,hH,rp⟩:=JJ i6
     rw[hks] at iy
     cases iy with
     |tup hb rb=>
      have:=jk rb hkey
      subst this
      refine .inr ⟨a,_,rfl,vn.t hH hb (by rw[←rp.len,←size_eq];exact hz),fin _ _ hH trivial trivial rfl ?_⟩
      exact .dT aK ((rp.put rep).gen (nK q h1 hH trivial) λ_ f _=>f)
    ·cases hp
   ·cases hp
  ·rename_i xs
   split at hp
   ·rename_i j hj
    rw[hj] at iy
    cases iy
    obtain⟨vs,hH,rp⟩:=nJ (h4.same s3) i6
    split at hp
    ·rename_i hb
     cases hp
     refine .inl ⟨a,vs,j,j.toNat,rfl,rfl,hH, ?_,fin _ _ hH trivial trivial rfl ?_⟩
     ·unfold ixN
      rw[Gag hb.1,Gag (by rw[←rp.1];exact hb.2)]
     ·exact .lst (.inl aK) ((rp.set rep j.toNat).gen (nK q h1 hH trivial) λ_ f _=>f)
    ·split at hp
     ·rename_i hb
      cases hp
      refine .inl ⟨a,vs,j,(j+xs.length).toNat,rfl,rfl,hH, ?_,fin _ _ hH trivial trivial rfl ?_⟩
      ·unfold ixN
       rw[Gae (by omega),Gag (by rw[←rp.1];omega),rp.1]
      ·exact .lst (.inl aK) ((rp.set rep _).gen (nK q h1 hH trivial) λ_ f _=>f)
     ·cases hp
   ·cases hp
  ·cases hp
 ·cases e
theorem nL:PEd X (.Dict [] [] pos) qD:=vp.aS λσ H Q ⟨_,_,_,_,E,e,k⟩ p n=>by
 cases e
 exact k _ _ (bK n) ⟨p,rfl,n,⟨_,aK,trivial⟩,rfl,.dT aK .nil⟩
end
open PySem PySem.Spec PyProof.Rows L2
open PySem.W (KasT kas_rev kas_asc kas_desc kas_tail3 kas_descPart kas_count kas_place kas_bin kas_sort)
section
variable{rk:Nat→Int}{N:Nat}
def Asks(rk:Nat→Int)(N:Nat){α:Type}:KasT α→(α→Prop)→Prop
 | .ret a,Q=>Q a
 | .ask i j k,Q=>i<N∧j<N∧Asks rk N (k (decide (rk i<rk j))) Q
theorem Asks.mono{α:Type}{Q Q' :α→Prop}(hq:∀a,Q a→Q' a):∀(t:KasT α),Asks rk N t Q→Asks rk N t Q'
 | .ret a,h=>hq a h
 | .ask i j k,h=> ⟨h.1,h.2.1,Asks.mono hq _ h.2.2⟩
def Ord(N:Nat)(p:Array Nat):Prop:=p.toList.Perm (List.range N)
theorem Ord.size{p:Array Nat}(h:Ord N p):p.size=N:=by
 have:=List.Perm.length_eq h
 simpa using this
theorem Ord.lt{p:Array Nat}(h:Ord N p){i:Nat}(hN:0<N):p.getD i 0<N:=by
 by_cases hi:i<p.size
 ·have e:p.getD i 0=p[i]:=by simp[Array.getD,hi]
  rw[e]
  have m:p[i]∈p.toList:=by simp
  exact GbD.mp (h.mem_iff.mp m)
 ·have e:p.getD i 0=0:=by simp[Array.getD,hi]
  rw[e];exact hN
noncomputable def uA(rk:Nat→Int)(p:Array Nat)(i:Nat):Int:=rk (p.getD i 0)
def Up(rk:Nat→Int)(p:Array Nat)(k:Nat):Prop:=∀u v,u≤v→v<k→uA rk p u≤uA rk p v
def Down(rk:Nat→Int)(p:Array Nat)(k:Nat):Prop:=∀u v,u≤v→v<k→uA rk p v≤uA rk p u
theorem Down.snoc{p p' :Array Nat}{k:Nat}(hd:Down rk p k)(hk:1≤k)(e:∀i,uA rk p' i=uA rk p i)(c:uA rk p k≤uA rk p (k -1)):Down rk p' (k+1):=λu v huv hv=>by
 rw[e,e]
 rcases Nat.lt_or_ge v k with hvk|hvk
 ·exact hd u v huv hvk
 ·have ev:v=k:=by omega
  subst ev
  rcases Gdt huv with q|q
  ·subst q;exact GbC _
  ·exact Int.le_trans c (hd u (v -1) (by omega) (by omega))
end
open PySem PySem.Spec PyProof.Rows L2
def FO(h:Heap)(a:Addr)(T:String)(vs:Array Value):Prop:=∃o,h.get? a=some o∧o.cls= .type T∧o.data= .fields vs
def rZ(h:Heap)(d:Addr)(es:Array DictEntry)(ep:Nat):Prop:=∃o,h.get? d=some o∧o.ExactDict∧o.data= .dict es ep
theorem rZ.at{h h' :Heap}{d:Addr}{es:Array DictEntry}{ep:Nat}(x:rZ h d es ep)(e:∀o,h.get? d=some o→h'.get? d=some o):rZ h' d es ep:=let⟨o,ho,r⟩:=x;⟨o,e _ ho,r⟩
section
variable{prog:Program}{w:World}{A:Around}{E:Value→Shared→Prop}{z:Shared}
theorem rZ.ty{d:Addr}{es:Array DictEntry}{ep:Nat}(x:rZ z.heap d es ep):z.TypeIs (.ref d) "dict":=let⟨o,ho,hc,_⟩:=x;⟨o,ho,hc.1⟩
theorem Eu{d:Addr}{es:Array DictEntry}{ep:Nat}{p:Option Value}{Q:Array DictEntry→Shared→Prop}(x:rZ z.heap d es ep)(h:Q es z):wpAny (model prog w) A (dictEntries d p) Q E z:=let⟨_,ho,_,hd⟩:=x;wpAny_dictEntries ho hd h
theorem ID{d:Addr}{es:Array DictEntry}{ep:Nat}{p:Option Value}{Q:Nat→Shared→Prop}(x:rZ z.heap d es ep)(h:Q ep z):wpAny (model prog w) A (dictEpoch d p) Q E z:=let⟨_,ho,_,hd⟩:=x;wpAny_dictEpoch ho hd h
theorem FO.ty{a:Addr}{T:String}{vs:Array Value}(x:FO z.heap a T vs):z.TypeIs (.ref a) T:=let⟨o,ho,hc,_⟩:=x;⟨o,ho,hc⟩
theorem JL{a:Addr}{T:String}{vs:Array Value}{Q:Array Value→Shared→Prop}(x:FO z.heap a T vs)(h:Q vs z):wpAny (model prog w) A (fieldsOf (.ref a)) Q E z:=let⟨_,ho,_,hd⟩:=x;wpAny_fieldsOf ho hd h
theorem jG{a:Addr}{T:String}{vs:Array Value}{k:Nat}{x:Value}{Q:Unit→Shared→Prop}(f:FO z.heap a T vs)(h:∀h',FO h' a T (vs.setIfInBounds k x)∧Heap.SameBut a z.heap h' →Q () {z with heap:=h' })(hk:k<vs.size):
  wpAny (model prog w) A (setField (.ref a) k x) Q E z:=by
 obtain⟨⟨c,dc,dt,sl⟩,ho,hc,hd⟩:=f
 cases hc;cases hd
 exact wpAny_setField ho rfl hk (h _ ⟨⟨_,GbP _ ho rfl,rfl,rfl⟩,Heap.SameBut.update ..⟩)
theorem FO.at{h h' :Heap}{a:Addr}{T:String}{vs:Array Value}(x:FO h a T vs)(k:∀o,h.get? a=some o→h'.get? a=some o):FO h' a T vs:=let⟨o,q,r⟩:=x;⟨o,k o q,r⟩
theorem FO.lt{h:Heap}{a:Addr}{T:String}{vs:Array Value}(x:FO h a T vs):a<h.objs.size:=let⟨_,q,_⟩:=x;Gaz q
theorem k7{a:Addr}{T:String}{vs:Array Value}{i:Nat}{x:Value}{Q:Value→Shared→Prop}(f:FO z.heap a T vs)(e:vs[i]? =some x)(h:Q x z):wpAny (model prog w) A (field (.ref a) i) Q E z:=let⟨_,ho,_,hd⟩:=f;wpAny_field ho hd e h
theorem IE{α:Type}{Q:α→Shared→Prop}(hh:A.handled=none)(h:∀h' a,(∀b o,z.heap.get? b=some o→h'.get? b=some o)∧(∃o,h'.get? a=some o∧o.cls= .type "StopIteration")→E (.ref a) {z with heap:=h' }):
  wpAny (model prog w) A (newExc (.type "StopIteration") []>>=λe=>(raiseNew e:Sem α)) Q E z:=by
 obtain⟨hp,g,dr,tk,os⟩:=z
 wp_walk using Gbe
 ·unfold raiseNew
  wp_walk
  exact h _ _ ⟨λb o e=>Gaj _ (Gaj _ e),_,GaC _ rfl,rfl⟩
 all_goals size_fits
theorem Bs{e:Addr}{Q:Bool→Shared→Prop}(x:∃o,z.heap.get? e=some o∧o.cls= .type "StopIteration")(h:Q true z):wpAny (model prog w) A (isInstance (.ref e) (.type "StopIteration")) Q E z:=
 wpAny_isInstance (T:="StopIteration") x isSubtype_stop h
theorem Ml(es:Array DictEntry)(i:Nat):(if(i:Int)<0 then none else es[(i:Int).toNat]?)=es[i]? :=by simp;omega
def Emp(h:Heap)(S:Addr):Prop:=∃c,h.get? S=some {cls:= .type "list",data:= .seq #[] c}
theorem on{α:Type}{t:Sem α}{Q Q' :α→Shared→Prop}(h:wpAny (model prog w) A t Q E z)(k:∀a s,Q a s→Q' a s):wpAny (model prog w) A t Q' E z:=GbK h k λ_ _ x=>x
theorem touched{S:Addr}{Q:Unit→Shared→Prop}(e:Emp z.heap S)(h:∀h2,Emp h2 S∧(∀b o,b≠S→z.heap.get? b=some o→h2.get? b=some o)→Q () {z with heap:=h2}):wpAny (model prog w) A (Builtin.List.listTouch (.ref S)) Q E z:=by
 obtain⟨c,e⟩:=e
 have e1:=GbP (Obj.mapSeq (·.push Value.none)) e rfl
 refine Gad (wpAny_updateSeq e rfl (wpAny_updateSeq (hz:=by seq_fits) e1 rfl (h _ ⟨⟨_,GbP (Obj.mapSeq (·.pop)) e1 rfl⟩,λb o n k=> ?_⟩)))
 rw[GbH _ _ (GaZ n),GbH _ _ (GaZ n),k]
theorem Hb{c:Code}{Q:Value→Shared→Prop}(h:∀R:Result→Shared→Prop,(∀v s',Q v s' →R (.ok (.ret v)) s')→codeAny (model prog w) A c R z):wpAny (model prog w) A (runValue c) Q E z:=wpAny_runValue (h _ λ_ _ q=>q)
theorem gather{v:Value}{Q:List Value→Shared→Prop}
  (h:∀R:Result→Shared→Prop,(∀s' acc c,s'.heap.get? z.heap.objs.size=some {cls:= .type "list",dict:=none,data:= .seq acc c,slots:=#[]}→Q acc.toList s' →R (.ok (.ret (.ref z.heap.objs.size))) s')→
   wpAny (model prog w) A.in1 (Builtin.List.listExtendWith (.ref z.heap.objs.size) v (.ref z.heap.objs.size)) (λfin s' =>match fin with| .done f=>R (.ok f) s' | .again c' =>c'.quiet=true∧codeAny (model prog w) A c' R s') (λe s' =>R (.error e) s') {z with heap:=z.heap.push (seqObj "list" #[] 0)}):
  wpAny (model prog w) A (collect v) Q E z:=by
 unfold collect
 apply Gad
 apply Hb
 intro R r
 apply Gdn entry_proto_collect'
 apply Gad
 refine wpAny_newList (Gar ⟨Code.quiet_builtin _ (by decide+kernel), ?_⟩)
 apply Gdn entry_list_iadd'
 rw[Gdo (by decide+kernel:plainId "list.__iadd__"=true)]
 exact h R λs' acc c k q=>r _ _ (Gad (wpAny_load k (Gar q)))
def vT(h:Heap)(S:Addr)(acc:Array Value):Prop:=∃c,h.get? S=some {cls:= .type "list",dict:=none,data:= .seq acc c,slots:=#[]}
end
open PySem PySem.Spec PyProof.Rows L2
open PySem.W (KatLex KatTups kas_sort kas_ask kat_kind kat_lt kat_one kat_run kat_snds BoolBack kat_lt_int)
def FlV:D→Value→Prop
 | .non,v=>v= .none
 | .int i,v=>∃t,v= .int i t
 | .str x,v=>∃t,v= .str x t
 |_,_=>False
def nM(h:Heap):D→Value→Prop
 | .int i,v=>∃t,v= .int i t
 | .tup fs,v=>∃a o n us,v= .ref a∧h.get? a=some o∧o.cls= .type "tuple"∧o.data= .seq (List.toArray us) n∧Paired FlV fs us
 |_,_=>False
theorem nM.keep{h h' :Heap}{d:D}{v:Value}(k:nM h d v)(e:∀b o,h.get? b=some o→h'.get? b=some o):nM h' d v:=by
 cases d with
 |int i=>exact k
 |tup fs=>obtain⟨a,o,n,us,h1,h2,h3⟩:=k;exact⟨a,o,n,us,h1,e _ _ h2,h3⟩
 |_=>exact k
theorem pv{α β:Type}{R S:α→β→Prop}(h:∀a b,R a b→S a b):∀{xs:List α} {ys:List β},Paired R xs ys→Paired S xs ys
 |_,_,.nil=> .nil
 |_,_,.cons p t=> .cons (h _ _ p) (pv h t)
theorem Hc{xs ys:List Nat}(h:xs.map Int.ofNat=ys.map Int.ofNat):xs=ys:=by
 induction xs generalizing ys with
 |nil=>cases ys with
  |nil=>rfl
  |cons=>simp at h
 |cons x xs ih=>cases ys with
  |nil=>simp at h
  |cons y ys=>
   simp only[Gaq,List.cons.injEq] at h
   rw[ih h.2,Int.ofNat_inj.mp h.1]
theorem He{x y:Str}(h:x.cps.toList=y.cps.toList):x=y:=by
 cases x;cases y
 simp only at h
 rw[Gck.mp h]
theorem oI{a b:D}(ha:mj a=true)(hb:mj b=true)(h:aZ a=aZ b):a=b:=by
 cases a<;>cases b<;>simp[mj,tyD] at ha hb<;>simp[aZ] at h
 ·rfl
 ·rw[h]
 ·have:=He (Hc h)
  rw[this]
theorem tu:∀{as bs:List D},as.all mj=true→bs.all mj=true→as.map aZ=bs.map aZ→as=bs
 |[],[],_,_,_=>rfl
 |[],_::_,_,_,h=>by simp at h
 |_::_,[],_,_,h=>by simp at h
 |a::as,b::bs,ha,hb,h=>by
  rw[GbB,Gau] at ha hb
  simp only[Gaq,List.cons.injEq] at h
  rw[oI ha.1 hb.1 h.1,tu ha.2 hb.2 h.2]
theorem JM{a:D}{t:Nat}(h:(tyD a==t)=true)(ht:t≠3):mj a=true:=by
 unfold mj
 rw[GcE] at h
 rw[h]
 simpa using ht
theorem lZ{t:Nat}{d:D}(ht:t≠3)(h:mq t d=true):∃f r,d= .tup (f::r)∧tyD f=t∧(f::r).all mj=true:=by
 unfold mq at h
 split at h
 ·rename_i f r
  rw[Gau] at h
  refine⟨f,r,rfl,GcE.mp h.1, ?_⟩
  rw[GbB,Gau]
  exact⟨JM h.1 ht,h.2⟩
 ·cases h
theorem jN{d:D}(h:Cq d=true):∃i,d= .int i:=by
 unfold Cq at h
 split at h
 ·exact⟨_,rfl⟩
 ·cases h
theorem Ew{ds:List D}(h:keysOk ds=true):∀a∈ds,∀b∈ds,code a=code b→a=b:=by
 intro a ha b hb e
 unfold keysOk at h
 rw[GaW,Gau,GaW] at h
 have tup:∀t,t≠3→ds.all (mq t)=true→a=b:=λt ht hk=>by
  obtain⟨f,r,rfl,_,q1⟩:=lZ ht (Gat.mp hk a ha)
  obtain⟨f',r',rfl,_,q2⟩:=lZ ht (Gat.mp hk b hb)
  rw[tu q1 q2 e]
 rcases h with h| ⟨h|h,_⟩
 ·obtain⟨i,rfl⟩:=jN (Gat.mp h a ha)
  obtain⟨j,rfl⟩:=jN (Gat.mp h b hb)
  simp[code,aZ] at e
  rw[e]
 ·exact tup 1 (by decide) h
 ·exact tup 2 (by decide) h
theorem Bt{i j:Int}:fu ltI (aZ (.int i)) (aZ (.int j))=decide (i<j):=by
 unfold aZ
 simp only[fu,Gbq]
 by_cases e:i=j
 ·subst e;simp
 ·rw[Gae e];rfl
theorem Bu:∀(xs ys:List Nat),fu ltI (xs.map Int.ofNat) (ys.map Int.ofNat)=decide (xs<ys)
 |[],[]=>by simp[fu]
 |[],y::ys=>by simp[fu]
 |x::xs,[]=>by simp[fu]
 |x::xs,y::ys=>by
  simp only[Gaq,fu]
  by_cases e:x=y
  ·subst e
   rw[Gag rfl,Bu xs ys]
   simp[List.cons_lt_cons_iff]
  ·rw[Gae (λz:Int.ofNat x=Int.ofNat y=>e (Int.ofNat_inj.mp z))]
   have:(x::xs<y::ys)↔x<y:=by rw[List.cons_lt_cons_iff];simp[e]
   unfold ltI
   simp[this]
theorem Hg{x y:Str}:fu ltI (aZ (.str x)) (aZ (.str y))=decide (x.cps.toList<y.cps.toList):=by
 unfold aZ
 simp only[fu,Gbq]
 exact Bu _ _
section
variable{prog:Program}{w:World}{A:Around}{E:Value→Shared→Prop}{s:Shared}
theorem Mm{a b:D}{u v:Value}{Q:Bool→Shared→Prop}(ha:FlV a u)(hb:FlV b v)(ht:tyD a=tyD b)(h:Q (decide (aZ a=aZ b)) s):wpAny (model prog w) A (eqBool u v) Q E s:=by
 cases a<;>cases b<;>simp[tyD] at ht<;>try exact ha.elim
 ·cases ha;cases hb
  unfold eqBool
  refine GcF ?_
  simp only[aZ,decide_true] at h
  rw[Gag (by rfl)]
  exact Gad (Gce (Gar h))
 ·obtain⟨t,rfl⟩:=ha
  obtain⟨t',rfl⟩:=hb
  refine wpAny_eqBool_int ?_
  rename_i i j
  have e:decide (aZ (.int i)=aZ (.int j))=(i==j):=by
   simp only[aZ]
   by_cases q:i=j
   ·subst q;simp
   ·simp[q]
  rw[e] at h;exact h
 ·obtain⟨t,rfl⟩:=ha
  obtain⟨t',rfl⟩:=hb
  refine eqBool_str ?_
  rename_i i j
  have e:decide (aZ (.str i)=aZ (.str j))=(i==j):=by
   by_cases q:i=j
   ·subst q;simp
   ·have:¬aZ (.str i)=aZ (.str j):=λz=>q (by
     have:=oI (a:= .str i) (b:= .str j) rfl rfl z
     cases this;rfl)
    simp[q,this]
  rw[e] at h;exact h
theorem Mn{a b:D}{u v:Value}{one:Bool}{Q:Bool→Shared→Prop}(ha:FlV a u)(hb:FlV b v)(ht:tyD a=tyD b)(hk:tyD a=1∨tyD a=2)(h:Q (fu ltI (aZ a) (aZ b)) s):wpAny (model prog w) A (oneLt' one u v) Q E s:=by
 cases a<;>cases b<;>simp[tyD] at ht hk
 ·obtain⟨t,rfl⟩:=ha
  obtain⟨t',rfl⟩:=hb
  rw[Bt] at h
  cases one with
  |true=>exact oneLt_int h
  |false=>exact kat_one _ _ (PyProof.Rows.lt_int h)
 ·obtain⟨t,rfl⟩:=ha
  obtain⟨t',rfl⟩:=hb
  rw[Hg] at h
  cases one with
  |true=>exact oneLt_str h
  |false=>exact kat_one _ _ (PyProof.Rows.lt_str h)
theorem Ex{b fin:Bool}{Q:Bool→Shared→Prop}:∀{as bs:List D} {us vs:List Value} (i:Nat),Paired FlV as us→Paired FlV bs vs→mw as bs=true→fin=decide (as.length<bs.length)→Q (ltC (as.map aZ) (bs.map aZ)) s→KatLex prog w A b fin Q (us.zip vs) i s
 |[],[],_,_,i,.nil,.nil,_,hf,h=>by
  have h' :Q fin s:=by rw[hf];exact h
  exact h'
 |[],_::_,_,_,i,.nil,.cons _ _,_,hf,h=>by
  have h' :Q fin s:=by rw[hf,GaG (by simp)];exact h
  exact h'
 |_::_,[],_,_,i,.cons _ _,.nil,_,hf,h=>by
  have h' :Q fin s:=by rw[hf,GaH (by simp)];exact h
  exact h'
 |a::as,c::cs,_,_,i,.cons (b:=u) ha ta,.cons (b:=v) hb tb,hc,hf,h=>by
  unfold mw at hc
  have h0:ltC ((a::as).map aZ) ((c::cs).map aZ)=if aZ a=aZ c then ltC (as.map aZ) (cs.map aZ) else fu ltI (aZ a) (aZ c):=rfl
  rw[h0] at h
  have ht:tyD a=tyD c:=by
   split at hc
   ·rename_i e
    cases a<;>cases c<;>simp[aZ] at e<;>first|rfl|exact ha.elim|exact hb.elim
   ·rw[Gau] at hc;exact GcE.mp hc.1
  show wpAny _ _ (eqBool u v) _ _ s
  refine Mm ha hb ht ?_
  by_cases e:aZ a=aZ c
  ·rw[GaG e,Gag rfl]
   rw[Gag e] at h hc
   exact Ex (i+1) ta tb hc (by rw[hf];simp) h
  ·rw[GaH e,Gae GaA]
   rw[Gae e] at h hc
   rw[Gau,GaW] at hc
   exact Mn ha hb ht (hc.2.imp GcE.mp GcE.mp) h
theorem Ey{ds:List D}{vs:List Value}{κ:SortKind}(hK:Paired (nM s.heap) ds vs)(hok:keysOk ds=true)(hκ:(ds.all Cq=true∧κ=oneType')∨((ds.all (mq 1)||ds.all (mq 2))=true∧(ds.all λx=>ds.all λy=>vB x y)=true∧κ=tuples' true)):
  ∀i j C,i<ds.length→j<ds.length→C (decide (rank (ds.map code) i<rank (ds.map code) j)) s→kas_ask prog w A κ vs i j C s:=by
 intro i j C hi hj h
 have hl:=hK.length
 rw[Bf (by simpa using hi) (by simpa using hj)] at h
 simp only[GbX] at h
 unfold kas_ask
 have gi:vs.getD i Value.none=vs[i]:=by simp[←hl,hi]
 have gj:vs.getD j Value.none=vs[j]:=by simp[←hl,hj]
 rw[gi,gj]
 have at_:∀{ds:List D} {vs:List Value},Paired (nM s.heap) ds vs→∀(i:Nat) (h1:i<ds.length) (h2:i<vs.length),nM s.heap ds[i] vs[i]:=by
  intro ds vs hK
  induction hK with
  |nil=>intro i h1;simp at h1
  |cons h t ih=>
   intro i h1 h2
   cases i with
   |zero=>exact h
   |succ i=>exact ih i (by simpa using h1) (by simpa using h2)
 have ki:=at_ hK i hi (by omega)
 have kj:=at_ hK j hj (by omega)
 rcases hκ with⟨a1,rfl⟩| ⟨a1,a2,rfl⟩
 ·obtain⟨x,hx⟩:=jN (Gat.mp a1 ds[i] (GaB hi))
  obtain⟨y,hy⟩:=jN (Gat.mp a1 ds[j] (GaB hj))
  rw[hx] at ki h
  rw[hy] at kj h
  obtain⟨t,ei⟩:=ki
  obtain⟨t',ej⟩:=kj
  rw[ei,ej]
  refine kat_lt_int ?_
  have e:ltC (code (.int x)) (code (.int y))=decide (x<y):=by
   show fu (fu ltI) [aZ (.int x)] [aZ (.int y)]=_
   unfold fu
   split
   ·rename_i z
    have:=oI (a:= .int x) (b:= .int y) rfl rfl z
    cases this
    simp[fu]
   ·exact Bt
  rw[e] at h;exact h
 ·have tup:∀d∈ds,∃fs,d= .tup fs:=λd hd=>by
   rw[GaW] at a1
   rcases a1 with a1|a1
   ·obtain⟨f,r,e,_⟩:=lZ (by decide) (Gat.mp a1 d hd);exact⟨_,e⟩
   ·obtain⟨f,r,e,_⟩:=lZ (by decide) (Gat.mp a1 d hd);exact⟨_,e⟩
  have cm:=Gat.mp (Gat.mp a2 ds[i] (GaB hi)) ds[j] (GaB hj)
  obtain⟨xs,hx⟩:=tup ds[i] (GaB hi)
  obtain⟨ys,hy⟩:=tup ds[j] (GaB hj)
  rw[hx] at ki h cm
  rw[hy] at kj h cm
  obtain⟨a,o,n,us,ei,h1,h2,h3,h4⟩:=ki
  obtain⟨a',o',n',us',ej,h1',h2',h3',h4'⟩:=kj
  rw[ei,ej]
  refine kat_lt h1 h3 h1' h3' ?_
  exact Ex 0 h4 h4' cm (by rw[Gan,Gan,h4.length,h4'.length]) h
theorem oJ{t:Nat}(ht:t≠3):∀{ds:List D} {vs:List Value},Paired (nM s.heap) ds vs→ds.all (mq t)=true→∃fs:List Value,∃gs:List D,KatTups s.heap vs fs∧Paired FlV gs fs∧(∀g∈gs,tyD g=t)∧fs.length=vs.length
 |[],_,.nil,_=> ⟨[],[],trivial,.nil,(by intro g hg;cases hg),rfl⟩
 |d::ds,_,.cons h tl,hk=>by
  rw[GbB,Gau] at hk
  obtain⟨fs,gs,h1,h2,h3,h4⟩:=oJ ht tl hk.2
  obtain⟨f,r,rfl,q1,q2⟩:=lZ ht hk.1
  obtain⟨a,o,n,us,rfl,g1,g2,g3,g4⟩:=h
  cases g4 with
  |cons p t=>
   refine⟨_::fs,f::gs,KatTups.cons g1 g2 g3 (by simp) h1,.cons p h2,λg hg=> ?_,by simp[h4]⟩
   rcases Gay.mp hg with e|e
   ·subst e;exact q1
   ·exact h3 g e
theorem Bv{M:Model}{h:Heap}{d:D}{v:Value}{t:Nat}(hd:FlV d v)(ht:tyD d=t):(t=1→PySem.W.Looks M h (typeOf v) (.type "int"))∧(t=2→PySem.W.Looks M h (typeOf v) (.type "str")):=by
 subst ht
 cases d<;>simp[tyD]<;>try exact hd.elim
 ·obtain⟨u,rfl⟩:=hd
  exact PySem.W.Looks.of_pure rfl
 ·obtain⟨u,rfl⟩:=hd
  exact PySem.W.Looks.of_pure rfl
theorem CC{ds:List D}{vs:List Value}{Q:SortKind→Shared→Prop}(hK:Paired (nM s.heap) ds vs)(hok:keysOk ds=true)(h2:2≤ds.length)
  (h:∀κ,((ds.all Cq=true∧κ=oneType')∨((ds.all (mq 1)||ds.all (mq 2))=true∧(ds.all λx=>ds.all λy=>vB x y)=true∧κ=tuples' true))→Q κ s):wpAny (model prog w) A (keyKind' vs.toArray) Q E s:=by
 have hl:=hK.length
 unfold keysOk at hok
 rw[GaW,Gau] at hok
 rcases hok with hok| ⟨hok,hc⟩
 ·have ia:∀{ds:List D} {vs:List Value},Paired (nM s.heap) ds vs→ds.all Cq=true→∃ns,IntsAre vs ns:=by
   intro ds vs hK
   induction hK with
   |nil=>intro _;exact⟨[],.nil⟩
   |cons p t ih=>
    intro hk
    rw[GbB,Gau] at hk
    obtain⟨ns,q⟩:=ih hk.2
    obtain⟨i,rfl⟩:=jN hk.1
    obtain⟨u,rfl⟩:=p
    exact⟨i::ns,.cons i u q⟩
  obtain⟨ns,q⟩:=ia hK hok
  match vs,hl,q with
  |[],e,_=>rw[Gcs] at e;omega
  |[_],e,_=>rw[List.length_singleton] at e;omega
  |v1::v2::vr,_,q=>
   rw[keyKind_ints q]
   exact Gar (h _ (.inl ⟨hok,rfl⟩))
 ·have hok' :=hok
  rw[GaW] at hok'
  rcases hok' with a1|a1
  ·obtain⟨fs,gs,q1,q2,q3,q4⟩:=oJ (s:=s) (by decide) hK a1
   refine kat_kind (T:= .type "int") q1 (by rw[q4,←hl];omega) (λv hv=> ?_) (by rfl) (h _ (.inr ⟨hok,hc,rfl⟩))
   obtain⟨g,hg,hgv⟩:∃g∈gs,FlV g v:=by
    clear q1 q3 q4
    induction q2 with
    |nil=>cases hv
    |cons p t ih=>
     rcases Gay.mp hv with e|e
     ·subst e;exact⟨_,Gak,p⟩
     ·obtain⟨g,h1,h2⟩:=ih e;exact⟨g,Gaf _ h1,h2⟩
   exact(Bv hgv (q3 g hg)).1 rfl
  ·obtain⟨fs,gs,q1,q2,q3,q4⟩:=oJ (s:=s) (by decide) hK a1
   refine kat_kind (T:= .type "str") q1 (by rw[q4,←hl];omega) (λv hv=> ?_) (by rfl) (h _ (.inr ⟨hok,hc,rfl⟩))
   obtain⟨g,hg,hgv⟩:∃g∈gs,FlV g v:=by
    clear q1 q3 q4
    induction q2 with
    |nil=>cases hv
    |cons p t ih=>
     rcases Gay.mp hv with e|e
     ·subst e;exact⟨_,Gak,p⟩
     ·obtain⟨g,h1,h2⟩:=ih e;exact⟨g,Gaf _ h1,h2⟩
   exact(Bv hgv (q3 g hg)).2 rfl
theorem Ez(vs:List Value):(vs.toArray.zip vs.toArray).map (·.2)=vs.toArray:=by
 apply Gck.mp
 rw[Array.toList_map,Array.toList_zip]
 exact List.map_snd_zip (Gap _)
theorem Au{a:Addr}{vs:List Value}{n:Nat}{P:PySem.Fin→Shared→Prop}{Ok:Array Value→Prop}(ho:s.heap.get? a=some (seqObj "list" vs.toArray n))(sz:vs.length≤sizeLine)(one:vs.length<2→Ok vs.toArray)(len:∀out,Ok out→out.size=vs.length)
  (big:∀G:Heap,(∀b o,b≠a→s.heap.get? b=some o→G.get? b=some o)→2≤vs.length→wpAny (model prog w) A (keyKind' vs.toArray) (λκ s1=>wpAny (model prog w) A (sortRuns'.run (SortSt.mk' κ (vs.toArray.zip vs.toArray) #[] 7 none)) (λr s2=>s2={s with heap:=G}∧failedOf r.2=none∧Ok ((arrOf r.2).map (·.2))) E s1) E {s with heap:=G})
  (h:∀out,Ok out→P (.done (.ret .none)) {s with heap:=sortedHeap s.heap a vs out}):wpAny (model prog w) A (Builtin.«list.sort» ⟨[.ref a],[]⟩) P E s:=by
 have⟨ep,e1⟩:∃ep,(s.heap.update a (Obj.mapSeq λ_=>(#[]:Array Value))).get? a=some (seqObj "list" #[] ep):=⟨_,get?_update_seq ho _⟩
 rw[list_sort_plain]
 refine Gad (listItems_at ho rfl (Gad (listUpdate_at ho rfl (Gad (seqEpoch_at e1 rfl (Gad (wpAny_newTuple (Gad (wpAny_newList (GcF ?_) (GbI _))) sz)))) (by simpa using sz) (GbI _))))
 have e2:=Gaj (seqObj "list" #[] 0) (Gaj (seqObj "tuple" vs.toArray 0) e1)
 have last:∀st:SortSt,failedOf st=none→Ok ((arrOf st).map (·.2))→wpAny (model prog w) A (do
   let touched:=(←seqEpoch a) !=ep
   Builtin.List.listUpdate (.ref a) λ_=>(arrOf st).map (·.2)
   if let some e:=failedOf st then rule "list.sort.comparison-raised";throw e
   if touched then rule "list.sort.modified";raiseError "ValueError" "list modified during sort"
   ret .none) P E {s with heap:=((s.heap.update a (Obj.mapSeq λ_=>(#[]:Array Value))).push (seqObj "tuple" vs.toArray 0)).push (seqObj "list" #[] 0)}:=λst f ok=>by
  refine Gad (seqEpoch_at e2 rfl (Gad (listUpdate_at e2 rfl ?_ (GbI _) (by rw[len _ ok];omega))))
  rw[f]
  wp_walk
  exact h _ ok
 by_cases c:vs.length<2
 ·have c' :vs.toArray.size<2:=by simpa using c
  rw[Gag c',Gag c']
  refine Gad (Gar (Gad (Gar (last (SortSt.mk' general' (vs.toArray.zip vs.toArray) #[] 7 none) rfl ?_))))
  show Ok ((vs.toArray.zip vs.toArray).map (·.2))
  rw[Ez]
  exact one c
 ·have c' :¬vs.toArray.size<2:=by simpa using c
  rw[Gae c',Gae c']
  refine Gad (on (big _ (λb o n q=>Gaj _ (Gaj _ ((GbH _ _ (GaZ n)).trans q))) (by omega)) λκ s1 q=>Gad (on q ?_))
  rintro⟨⟨⟩,st⟩ s2 ⟨rfl,f,ok⟩
  exact last st f ok
def k8(cs:List (List (List Int)))(vs:List Value)(out:Array Value):Prop:=∃p:Array Nat,Ord vs.length p∧Up (rank cs) p vs.length∧out=List.toArray (p.toList.map λi=>vs.getD i Value.none)
theorem k8.len{cs:List (List (List Int))}{vs:List Value}{out:Array Value}(x:k8 cs vs out):out.size=vs.length:=by
 obtain⟨p,h1,_,rfl⟩:=x
 rw[Gan,Gah,GbT,h1.size]
theorem k8.one{cs:List (List (List Int))}{vs:List Value}(c:vs.length<2):k8 cs vs vs.toArray:=by
 refine⟨List.toArray (List.range vs.length),List.Perm.refl _,λu v q r=> ?_, ?_⟩
 ·rw[show u=v by omega];exact GbC _
 ·rcases vs with _| ⟨x,_| ⟨y,t⟩⟩
  ·rfl
  ·rfl
  ·exact absurd c (by simp)
def uB(prog:Program)(w:World)(A:Around)(E:Value→Shared→Prop)(s:Shared)(cs:List (List (List Int)))(vs:List Value):Prop:=
 2≤vs.length→∀Q:SortKind→Shared→Prop,(∀κ,(∀i j C,i<vs.length→j<vs.length→C (decide (rank cs i<rank cs j)) s→kas_ask prog w A κ vs i j C s)→Q κ s)→wpAny (model prog w) A (keyKind' vs.toArray) Q E s
theorem vU{l:Addr}{o:Obj}{vs:List Value}{n:Nat}{T:String}{Q:List Value→Shared→Prop}(ho:s.heap.get? l=some o)(hc:o.cls= .type T)(hT:T="list"∨T="tuple")(hd:o.data= .seq vs.toArray n)
  (h:Q vs {s with heap:=(s.heap.push (seqObj "list" #[] 0)).update s.heap.objs.size (Obj.mapSeq (· ++vs.toArray))})(hsz:vs.length≤sizeLine):wpAny (model prog w) A (collect (.ref l)) Q E s:=by
 have e0:(s.heap.push (seqObj "list" #[] 0)).get? s.heap.objs.size=some (seqObj "list" #[] 0):=GaC _ rfl
 have el:=Gaj (seqObj "list" #[] 0) ho
 have up:(#[]++vs.toArray:Array Value)=vs.toArray:=by simp
 have ek:((s.heap.push (seqObj "list" #[] 0)).update s.heap.objs.size (Obj.mapSeq (· ++vs.toArray))).get? s.heap.objs.size=some (seqObj "list" (#[]++vs.toArray) _):=get?_update_seq e0 _
 rw[up] at ek
 refine gather λR r=> ?_
 have c:(Builtin.List.listSameRef (.ref s.heap.objs.size) (.ref l)||Value.type T== .type "list"||Value.type T== .type "tuple")=true:=by rcases hT with rfl|rfl<;>rw[GaW,GaW]<;>simp
 exact Gad (wpAny_typeOf ⟨o,el,hc⟩ (wpAny_ite_true (by rw[c];rfl) (Gad (listItems_at el hd (Gad (listItems_at e0 rfl (wpAny_ite_false (by simp) (Gad (listUpdate_at e0 rfl (Gar (r _ vs.toArray _ ek h)) (GbI _) (by rw[up,Gan];omega))))))))))
end
section
variable{X:Cx}
theorem Mo{K:aD}{F:Addr→Prop}{H:Hp}{d:D}{v:V}{u:Value}(r:Rep K F H d v)(hf:mj d=true)(ru:RelV v u):FlV d u:=by
 cases r<;>simp[mj,tyD] at hf
 ·cases ru;rfl
 ·exact ru
 ·exact ru
theorem EA{K:aD}{F:Addr→Prop}{H:Hp}:∀{ds:List D} {vs:List V} {us:List Value},aX K F H ds vs→ds.all mj=true→Vals vs us→Paired FlV ds us
 |[],vs,us,r,_,ru=>by
  have:=r.cV
  subst this
  cases ru
  exact .nil
 |d::ds,vs,us,r,hf,ru=>by
  obtain⟨v,w,rfl,h1,h2⟩:=r.cons_inv
  rw[GbB,Gau] at hf
  cases ru with
  |cons r1 r2=>exact .cons (Mo h1 hf.1 r1) (EA h2 hf.2 r2)
noncomputable def isKey(d:D):Bool:=match d with
 | .int _=>true
 | .tup fs=>fs.all mj
 |_=>false
theorem mX{pins:List (Addr×Obj)}{σ:St}{F:Addr→Prop}{H:Hp}{s:Shared}{d:D}{v:V}{u:Value}(I:Inv X pins σ H s)(r:Rep X.K F H d v)(hk:isKey d=true)(ru:RelV v u):nM s.heap d u:=by
 cases r<;>simp[isKey] at hk
 ·exact ru
 ·rename_i a vs fs h l r
  cases ru
  obtain⟨its,rv,⟨o,h1,h2,n,h3⟩,_⟩:=I.tuple (SqT.of h)
  exact⟨a,o,n,its,rfl,h1,h2,h3,EA ⟨l,r⟩ (Gat.mpr hk) rv⟩
theorem Bw{pins:List (Addr×Obj)}{σ:St}{F:Addr→Prop}{H:Hp}{s:Shared}(I:Inv X pins σ H s):∀{ds:List D} {vs:List V} {us:List Value},aX X.K F H ds vs→ds.all isKey=true→Vals vs us→Paired (nM s.heap) ds us
 |[],vs,us,r,_,ru=>by
  have:=r.cV
  subst this
  cases ru
  exact .nil
 |d::ds,vs,us,r,hf,ru=>by
  obtain⟨v,w,rfl,h1,h2⟩:=r.cons_inv
  rw[GbB,Gau] at hf
  cases ru with
  |cons r1 r2=>exact .cons (mX I h1 hf.1 r1) (Bw I h2 hf.2 r2)
theorem EB{ds:List D}(h:keysOk ds=true):ds.all isKey=true:=by
 unfold keysOk at h
 rw[GaW,Gau,GaW] at h
 refine Gat.mpr λd hd=> ?_
 have tup:∀t,t≠3→ds.all (mq t)=true→isKey d=true:=λt ht hk=>by
  obtain⟨f,r,rfl,_,q1⟩:=lZ ht (Gat.mp hk d hd)
  exact q1
 rcases h with h| ⟨h|h,_⟩
 ·obtain⟨i,rfl⟩:=jN (Gat.mp h d hd);rfl
 ·exact tup 1 (by decide) h
 ·exact tup 2 (by decide) h
theorem range_getD{α:Type}{xs:List α}{d:α}:(List.range xs.length).map (λi=>xs.getD i d)=xs:=by
 apply List.ext_getElem
 ·simp
 ·intro i h1 h2
  simp[h2]
theorem qK{α:Type}{xs:List α}{d:α}{p:Array Nat}(h:Ord xs.length p):(p.toList.map λi=>xs.getD i d).Perm xs:=by
 have:=Gdc (λi=>xs.getD i d) h
 rw[range_getD] at this
 exact this
theorem EC{n:Nat}{p:Array Nat}(h:Ord n p){i:Nat}(hi:i<p.toList.length):p.toList[i]<n:=GbD.mp (h.mem_iff.mp (GaB hi))
theorem Av{ds:List D}{p:Array Nat}(h:Ord ds.length p)(hu:Up (rank (ds.map code)) p ds.length):fK (p.toList.map λi=>ds.getD i .non):=by
 refine Gcf.mpr λi j hi hj hij=> ?_
 rw[Gah] at hi hj
 rw[GbX,GbX]
 have bi:=EC h hi
 have bj:=EC h hj
 have hs:=h.size
 have hi' :i<p.size:=by simpa using hi
 have hj' :j<p.size:=by simpa using hj
 have u:=hu i j (Gdk hij) (by omega)
 unfold uA at u
 have ei:p.getD i 0=p.toList[i]:=by simp[Array.getD,hi']
 have ej:p.getD j 0=p.toList[j]:=by simp[Array.getD,hj']
 rw[ei,ej] at u
 have r:=Bf (cs:=ds.map code) (i:=p.toList[j]) (j:=p.toList[i]) (by simpa using bj) (by simpa using bi)
 rw[GaH (Int.not_lt.mpr u)] at r
 simp only[GbX] at r
 have gd:∀{k:Nat} (hk:k<ds.length),ds.getD k .non=ds[k]:=λ{k} hk=>by simp[hk]
 have gi:=gd bi
 have gj:=gd bj
 rw[gi,gj]
 exact r.symm
theorem ED{K:aD}{F:Addr→Prop}{H:Hp}{ds:List D}{vs:List V}{p:Array Nat}(h:Ord ds.length p)(r:aX K F H ds vs):aX K F H (p.toList.map λi=>ds.getD i .non) (p.toList.map λi=>vs.getD i .non):=by
 refine⟨by simp,λi d v e1 e2=> ?_⟩
 rw[Gal] at e1 e2
 cases q:p.toList[i]? with
 |none=>rw[q] at e1;cases e1
 |some k=>
  rw[q] at e1 e2
  have hk:k<ds.length:=GbD.mp (h.mem_iff.mp (GaL q))
  have hk2:k<vs.length:=by rw[←r.1];exact hk
  cases e1;cases e2
  exact r.2 k _ _ (by simp[hk]) (by simp[hk2])
theorem EF{vs:List V}{us:List Value}{p:Array Nat}(h:Ord vs.length p)(r:Vals vs us):Vals (p.toList.map λi=>vs.getD i .non) (p.toList.map λi=>us.getD i Value.none):=by
 have hl:=r.length
 have all:∀(l:List Nat),(∀i∈l,i<vs.length)→Vals (l.map λi=>vs.getD i .non) (l.map λi=>us.getD i Value.none):=by
  intro l
  induction l with
  |nil=>intro _;exact .nil
  |cons i l ih=>
   intro hm
   have hi:=hm i Gak
   obtain⟨u,hu,ru⟩:=r.get (x:=vs[i]) (i:=i) (by simp[hi])
   refine .cons ?_ (ih λj hj=>hm j (Gaf _ hj))
   have e1:vs.getD i .non=vs[i]:=by simp[hi]
   have e2:us.getD i Value.none=u:=by simp[hu]
   show RelV (vs.getD i .non) (us.getD i Value.none)
   rw[e1,e2];exact ru
 exact all _ λi hi=>GbD.mp (h.mem_iff.mp hi)
end
open PySem PySem.Spec PyProof.Rows L2
section
variable{X:Cx}{e a b c:Expr}{f g h:DE}{pos:Pos}
theorem _root_.L2.Inv.qL{pins:List (Addr×Obj)}{σ:St}{H:Hp}{s s' :Shared}{ch:List Addr}{T:Addr}{o:HO}(I:Inv X pins σ H s)(hf:∀b∈ch,mV X pins H b)(hos:s'.os=s.os)(hg:s'.gens=s.gens)
  (k:∀b u,b∉ch→s.heap.get? b=some u→s'.heap.get? b=some u)(hT:s.heap.objs.size≤T)(new:cx X.prog X.w (upd H T o) s'.heap T o):Inv X pins σ (upd H T o) s' :=by
 have hn:H T=none:=I.hok.fresh hT
 have ne:∀{b u},H b=some u→b≠T:=λ{b u} q=>dS q hn
 refine I.Im (ch:=ch) hos ⟨λb ob q _ _ hx=>k b ob hx q,λb ob q _ _ hx=> ⟨ob.slots,k b ob hx q⟩,λb ob q n _=> ?_,λb ob q hx=> ⟨ob,k b ob hx q⟩,λb xs q=> ?_,λb ob u q=> ?_,λb ps q=> ⟨#[], ?_⟩⟩ ?_ (by rw[hg];exact I.bare) λb hb=> ⟨(hf b hb).2.2.2.1,(hf b hb).2.1,(hf b hb).2.2.2.2.1,(hf b hb).2.2.2.2.2⟩
 ·rw[ax (GaO (GaP (Gaz q) hT))];exact n
 ·rw[ax (ne q)];exact q
 ·rw[ax (ne q)];exact q
 ·rw[ax (ne q),q];simp
 ·intro b u q
  by_cases hb:b=T
  ·subst hb;rw[aK] at q;cases q;exact new
  ·rw[ax hb] at q
   have tr:∀{c v},H c=some v→c∉ch:=λ{c v} z hc=>by rw[(hf c hc).1] at z;cases z
   refine(I.hok b u q).dQ (λc v hc z=>k c v ?_ z) (λc z=>by rw[ax (ne z)];exact z) λc xs z=>by rw[ax (ne z)];exact z
   rcases hc with hc|hc
   ·rw[hc];exact tr q
   ·exact tr hc
noncomputable def Ite(K:aD)(l:Addr):It:=
 ⟨λi H=>∃xs x,SqL K H l xs∧xs[i]? =some x,λi H x H' =>∃p y,H p=none∧x= .ref p∧H' =upd H p (.tup [.int i,y])∧∀xs,SqL K H l xs→xs[i]? =some y,λi H=>∃xs,SqL K H l xs∧xs.length≤i⟩
theorem CD{P:Program}{w:World}{K:aD}{elts:List Expr}{x1}{tp:Pos}(en it l:Addr)(hne:en≠it):Turn P w K (.Tuple elts x1 tp) (Ite K l) [en,it] en (λi h=>(∃old,IsEnum h en it i old)∧h.IsListIter it l i) where
 mem:=by simp
 obj:=λi h st b hb=>by
  obtain⟨⟨old,he⟩,o,e,c,d⟩:=st
  rcases Gay.mp hb with z|z
  ·subst z
   exact⟨_,he,λv z=>by
    have z' :Data.fields _=Data.cell v:=z
    cases z'⟩
  ·have z' :b=it:=by simpa using z
   subst z'
   exact⟨o,e,λv z=>by rw[d] at z;cases z⟩
 keep:=λi h h' st k=> ⟨let⟨old,he⟩:=st.1;⟨old,k en (by simp) _ he⟩,st.2.at λo e=>k it (by simp) o e⟩
 item:=by
  intro X hP hw hK hc i pins s σ H E I hf st hg
  subst hP hw hK
  obtain⟨⟨old,he⟩,hit⟩:=st
  obtain⟨xs,x,hq,hx⟩:=hg
  obtain⟨its,rv,p,hz⟩:=I.list hq
  obtain⟨u,hu,ru⟩:=rv.get hx
  refine wpAny_pyNext_enum_item he hit p.isList (x:=u) (by simpa using hu) hne λh' ho hit' hT hsz kk=> ⟨_,rfl, ?_⟩
  refine wpAny_letOwnedTupleGo_enum (s:={s with heap:=h',toks:=s.toks+1}) ho λh2 he2 sb=> ?_
  have hltE:en<s.heap.objs.size:=Gaz he
  have kept:∀b o,b∉[en,it]→s.heap.get? b=some o→h2.get? b=some o:=λb o hb e=>by
   have b1:b≠en:=λz=>hb (by simp[z])
   have b2:b≠it:=λz=>hb (by simp[z])
   exact(sb.2 b b1).trans (kk b o b1 b2 e)
  have hT2:h2.get? s.heap.objs.size=some {cls:= .type "tuple",data:= .seq #[.int i s.toks,u]}:=(sb.2 _ (GcJ hltE)).trans hT
  have I1:Inv X pins σ (upd H s.heap.objs.size (.tup [.int i,x])) {s with heap:=h2,toks:=s.toks+1}:=I.qL (ch:=[en,it]) hf rfl rfl kept (Gap _) (by
   refine⟨by simp[GbA],[.int i s.toks,u],.cons ⟨_,rfl⟩ (.cons ru .nil),_,hT2,rfl,0,rfl⟩)
  refine⟨.ref s.heap.objs.size,_,I1,rfl,⟨_,x,I.fresh,rfl,rfl,λys hy=>by rw[I.ve hy hq];exact hx⟩,⟨⟨u,by simpa using he2⟩,hit'.at λo e=>(sb.2 it (GaZ hne)).trans e⟩,λb hb=> ?_⟩
  obtain⟨o,ob,_⟩:∃o,s.heap.get? b=some o∧True:=by
   rcases Gay.mp hb with z|z
   ·subst z;exact⟨_,he,trivial⟩
   ·have z' :b=it:=by simpa using z
    subst z'
    obtain⟨o,e,_⟩:=hit
    exact⟨o,e,trivial⟩
  rw[ax (GaO (Gaz ob))]
  exact(hf b hb).1
 done:=by
  intro X hP hw hK hc i pins s σ H E I hf st hg
  subst hP hw hK
  obtain⟨⟨old,he⟩,hit⟩:=st
  obtain⟨xs,hq,hx⟩:=hg
  obtain⟨its,rv,p,hz⟩:=I.list hq
  obtain⟨f0,f1,f2,f3,f4,f5⟩:=hf it (by simp)
  have hl:=rv.length
  exact wpAny_pyNext_enum_end (I.ok.hd hc) he hit p.isList (by simp;omega) λh' eb=> ⟨rfl,I.turned (t' :=s.toks) (λb o hb e=>eb b o hb e) f0 f1 f3 f4 f5⟩
 self:=λ_ _ _ _ _ st h=>let⟨old,he⟩:=st.1;GcW he h
theorem qM{prog:Program}{w:World}{A:Around}{E:Value→Shared→Prop}{z:Shared}{it t:Addr}{i:Nat}{its:Array Value}{Q:Value→Shared→Prop}(hh:A.handled=none)(hit:z.heap.IsTupleIter it t i)(ht:z.heap.IsTuple t its)
  (hQ:∀x h',its[i]? =some x→h'.IsTupleIter it t (i+1)→Heap.SameBut it z.heap h' →Q x {z with heap:=h' })
  (hE:∀h' e,its[i]? =none→Heap.ExtBut it z.heap h' →(∃o,h'.get? e=some o∧o.cls= .type "StopIteration")→E (.ref e) {z with heap:=h' }):wpAny (model prog w) A (Builtin.SmallTypes.nextOf (.ref it)) Q E z:=by
 have f:FO z.heap it _ _:=hit
 obtain⟨ol,hol,_,nl,hdl⟩:=ht
 wp_walk using Gco f.ty F.slot_tuple_iterator_next,GbW F.slot_tuple_iterator_next f.ty F.entry_tuple_iterator_next (ha:=F.args_tuple_iterator_next_1 _),k7 (i:=0) (x:= .ref t) f rfl,k7 (i:=1) (x:= .int i 0) f rfl,wpAny_seqItems hol hdl
 rw[show its[(i:Int).toNat]? =its[i]? by simp]
 cases h:its[i]? with
 |some x=>
  wp_walk using jG f
  ·exactλh' k=>Gar ⟨_,rfl,Gar (hQ x h' h k.1 k.2)⟩
  ·show _<2;decide
 |none=>
  wp_walk using jG f
  ·exactλh1 k=>IE hh λh' a q=>hE h' a h (λb o n e=>q.1 b o (k.2.extBut b o n e)) q.2
  ·show _<2;decide
theorem CF{prog:Program}{w:World}{A:Around}(hh:A.handled=none)(it l:Addr)(hne:l≠it)(its:Array Value):Draws prog w A it [it,l] its.size (λi v=>its[i]? =some v) (λi h=>h.IsTupleIter it l i∧h.IsTuple l its) where
 live:=λ_ _ st=>let⟨o,ho,_⟩:=st.1;⟨o,ho⟩
 frame:=λ_ _ _ st hk=> ⟨st.1.at λo e=>hk it (by simp) o e,let⟨o,ho,r⟩:=st.2;⟨o,hk l (by simp) _ ho,r⟩⟩
 item:=λi z Q E hi st hQ=>qM hh st.1 st.2 (λx h' hx hit' hs' =>hQ x h' z.toks hx ⟨hit',let⟨o,ho,r⟩:=st.2;⟨o,hs'.extBut _ _ hne ho,r⟩⟩ hs') λ_ _ q=>absurd hi (by simpa using q)
 done:=λz Q E st hE=>qM hh st.1 st.2 (λ_ _ q=>absurd (GcG.mp q).1 (Gbz _)) λh' e _=>hE h' e
noncomputable def Mp(K:aD)(l:Addr):It:=
 ⟨λi H=>∃xs x,SqT K H l xs∧xs[i]? =some x,λi H x H' =>∃p y,H p=none∧x= .ref p∧H' =upd H p (.tup [.int i,y])∧∀xs,SqT K H l xs→xs[i]? =some y,λi H=>∃xs,SqT K H l xs∧xs.length≤i⟩
theorem Aw{P:Program}{w:World}{K:aD}{elts:List Expr}{x1}{tp:Pos}(en it l:Addr)(hne:en≠it)(hle:l≠en)(hli:l≠it):Turn P w K (.Tuple elts x1 tp) (Mp K l) [en,it] en (λi h=>(∃old,IsEnum h en it i old)∧h.IsTupleIter it l i) where
 mem:=by simp
 obj:=λi h st b hb=>by
  obtain⟨⟨old,he⟩,o,e,c,d⟩:=st
  rcases Gay.mp hb with z|z
  ·subst z
   exact⟨_,he,λv z=>by
    have z' :Data.fields _=Data.cell v:=z
    cases z'⟩
  ·have z' :b=it:=by simpa using z
   subst z'
   exact⟨o,e,λv z=>by rw[d] at z;cases z⟩
 keep:=λi h h' st k=> ⟨let⟨old,he⟩:=st.1;⟨old,k en (by simp) _ he⟩,st.2.at λo e=>k it (by simp) o e⟩
 item:=by
  intro X hP hw hK hc i pins s σ H E I hf st hg
  subst hP hw hK
  obtain⟨⟨old,he⟩,hit⟩:=st
  obtain⟨xs,x,hq,hx⟩:=hg
  obtain⟨its,rv,p,hz⟩:=I.tuple hq
  obtain⟨u,hu,ru⟩:=rv.get hx
  have hi:i<its.toArray.size:=by
   have:=(Gac.mp hu).1
   simpa using this
  refine wpAny_pyNext_enum_itemD (CF (A:=X.A.in1) (I.ok.hd hc) it l hli its.toArray) he ⟨hit,p⟩ hi hne (by simp[hne,GaZ hle]) λu' h' tk hu' ho hit' hT hsz kk=> ⟨_,rfl, ?_⟩
  have hit1:=hit'.1
  have eu:u' =u:=by
   have hu2:its.toArray[i]? =some u:=by simpa using hu
   rw[hu2] at hu';cases hu';rfl
  subst eu
  refine wpAny_letOwnedTupleGo_enum (s:={s with heap:=h',toks:=tk+1}) ho λh2 he2 sb=> ?_
  have hltE:en<s.heap.objs.size:=Gaz he
  have kept:∀b o,b∉[en,it]→s.heap.get? b=some o→h2.get? b=some o:=λb o hb e=>by
   have b1:b≠en:=λz=>hb (by simp[z])
   have b2:b≠it:=λz=>hb (by simp[z])
   exact(sb.2 b b1).trans (kk b o b1 b2 e)
  have hT2:h2.get? s.heap.objs.size=some {cls:= .type "tuple",data:= .seq #[.int i tk,u']}:=(sb.2 _ (GcJ hltE)).trans hT
  have I1:Inv X pins σ (upd H s.heap.objs.size (.tup [.int i,x])) {s with heap:=h2,toks:=tk+1}:=I.qL (ch:=[en,it]) hf rfl rfl kept (Gap _) (by
   refine⟨by simp[GbA],[.int i tk,u'],.cons ⟨_,rfl⟩ (.cons ru .nil),_,hT2,rfl,0,rfl⟩)
  refine⟨.ref s.heap.objs.size,_,I1,rfl,⟨_,x,I.fresh,rfl,rfl,λys hy=>by rw[I.sI hy hq];exact hx⟩,⟨⟨u',by simpa using he2⟩,hit1.at λo e=>(sb.2 it (GaZ hne)).trans e⟩,λb hb=> ?_⟩
  obtain⟨o,ob,_⟩:∃o,s.heap.get? b=some o∧True:=by
   rcases Gay.mp hb with z|z
   ·subst z;exact⟨_,he,trivial⟩
   ·have z' :b=it:=by simpa using z
    subst z'
    obtain⟨o,e,_⟩:=hit
    exact⟨o,e,trivial⟩
  rw[ax (GaO (Gaz ob))]
  exact(hf b hb).1
 done:=by
  intro X hP hw hK hc i pins s σ H E I hf st hg
  subst hP hw hK
  obtain⟨⟨old,he⟩,hit⟩:=st
  obtain⟨xs,hq,hx⟩:=hg
  obtain⟨its,rv,p,hz⟩:=I.tuple hq
  obtain⟨f0,f1,f2,f3,f4,f5⟩:=hf it (by simp)
  have hl:=rv.length
  have fe:FO s.heap en "enumerate" _:=⟨_,he,rfl,rfl⟩
  have pt:s.heap.IsTuple l its.toArray:=p
  wp_walk using Gco fe.ty F.slot_enumerate_next,GbW F.slot_enumerate_next fe.ty F.entry_enumerate_next (ha:=F.args_enumerate_next_1 _),k7 (i:=2) (x:= .ref it) fe rfl,qM (A:=X.A.in1) (I.ok.hd hc) hit pt
  ·exactλx h' q=>absurd (GcG.mp q).1 (by simp;omega)
  ·exactλh' e _ eb q=>Gad (Bs q (Gar ⟨rfl,I.turned (t' :=s.toks) (λb o hb e=>eb b o hb e) f0 f1 f3 f4 f5⟩))
 self:=λ_ _ _ _ _ st h=>let⟨old,he⟩:=st.1;GcW he h
theorem EG{prog:Program}{w:World}{A:Around}{E:Value→Shared→Prop}{z:Shared}{b:Bool}{Q:Bool→Shared→Prop}(h:∀b,Q b z):wpAny (model prog w) A (pure b) Q E z:=Gar (h b)
theorem vV(l:Addr)(items:Array Value):
  Meets (Builtin.«enumerate.__new__» ⟨[.type "enumerate",.ref l],[]⟩) (λ_ R s=>s.heap.IsTuple l items∧
   R (.ok (.ret (.ref (s.heap.objs.size+1)))) {s with heap:=(s.heap.push {cls:= .type "tuple_iterator",data:= .fields #[.ref l,.int 0 0]}).push {cls:= .type "enumerate",data:= .fields #[.none,.bool false,.ref s.heap.objs.size,rawInt 0,.none,.none]}}):=by
 apply Meets.of_wp
 rintro prog w A R s ⟨hl,h⟩
 have sub:=sub_enumerate
 wp_walk using GcN hl,wpAny_stack_any
 intro st
 refine EG λshort=> ?_
 have sz:(s.heap.push {cls:= .type "tuple_iterator",data:= .fields #[.ref l,.int 0 0]}).objs.size=s.heap.objs.size+1:=GcP ..
 rw[←sz] at h
 cases short<;>wp_walk using GcN hl<;>exact⟨_,rfl,h⟩
theorem Ax{prog:Program}{w:World}{A:Around}{E:Value→Shared→Prop}{z:Shared}{l:Addr}{items:Array Value}{Q:Value→Shared→Prop}(hL:z.heap.IsTuple l items)
  (h:∀h',IsEnum h' (z.heap.objs.size+1) z.heap.objs.size 0 .none→h'.IsTupleIter z.heap.objs.size l 0→(∀b o,z.heap.get? b=some o→h'.get? b=some o)→Q (.ref (z.heap.objs.size+1)) {z with heap:=h' }):
  wpAny (model prog w) A (call (.type "enumerate") [.ref l]) Q E z:=by
 have sz:(z.heap.push {cls:= .type "tuple_iterator",data:= .fields #[.ref l,.int 0 0]}).objs.size=z.heap.objs.size+1:=GcP ..
 have en:IsEnum ((z.heap.push {cls:= .type "tuple_iterator",data:= .fields #[.ref l,.int 0 0]}).push {cls:= .type "enumerate",data:= .fields #[.none,.bool false,.ref z.heap.objs.size,rawInt 0,.none,.none]}) (z.heap.objs.size+1) z.heap.objs.size 0 .none:=sz▸GaC _ rfl
 exact callType_new F.called_enumerate (by decide) (F.typeCall_enumerate_1 _) (F.newCall_enumerate_1 _) (λ_=>F.args_object_init_2 _ _) F.entry_enumerate_new (vV l items) ⟨hL,⟨_,en,rfl⟩,h _ en ⟨_,Gaj _ (GaC _ rfl),rfl,rfl⟩ λb o q=>Gaj _ (Gaj _ q)⟩
noncomputable def Mq(K:aD)(tl:TA):TI:=λσ H R=>tl σ H λvs H1=>∃l,vs=[.ref l]∧(((∃xs,SqL K H1 l xs)∧R (Ite K l) H1)∨((∃xs,SqT K H1 l xs)∧R (Mp K l) H1))
theorem Hh{elts:List Expr}{x1}{tp p:Pos}{ta:TA}(hg:Gl X "enumerate")(hm:X.mg "enumerate"=none)(ha:PA X [a] ta)(hs:starEach [a] X.env=[(false,eval a X.env)]:=by rfl):PI X (.Tuple elts x1 tp) (.Call (.Name "enumerate" p) [a] [] pos) (Mq X.K ta):=by
 intro pins s σ H R I h
 refine Call_ (mU I hg hm uw (GbY (thn (ha pos pins s σ H _ I h) λus s1 ⟨vs,H1,I1,r1,q1⟩=> ?_) hs rfl))
 obtain⟨l,e,q1⟩:=q1
 subst e
 cases r1 with
 |cons r rr=>
  cases rr
  cases r
  have fps:∀b∈[s1.heap.objs.size+1,s1.heap.objs.size],mV X pins H1 b:=λb hb=>by
   rcases Gay.mp hb with z|z
   ·subst z;exact I1.C5 (GcZ _) (I1.hok.fresh (GcZ _))
   ·have z' :b=s1.heap.objs.size:=by simpa using z
    subst z'
    exact I1.C5 (Gap _) (I1.hok.fresh (Gap _))
  rcases q1 with⟨⟨xs,hq⟩,q⟩| ⟨⟨xs,hq⟩,q⟩
  ·obtain⟨its,rv,pl,hz⟩:=I1.list hq
   refine call_enumerate_list pl.isList λh' he hit hsz kk=> ?_
   refine GcW (s:={s1 with heap:=h' }) he ?_
   exact⟨s1.heap.objs.size+1,[s1.heap.objs.size+1,s1.heap.objs.size],_,_,H1,rfl,I1.kept (t' :=s1.toks) kk,CD _ _ l (Nat.succ_ne_self _),⟨⟨.none,he⟩,hit⟩,fps,q⟩
  ·obtain⟨its,rv,pl,hz⟩:=I1.tuple hq
   have hlt:l<s1.heap.objs.size:=pl.lt
   refine Ax (show s1.heap.IsTuple l its.toArray from pl) λh' he hit kk=> ?_
   refine GcW (s:={s1 with heap:=h' }) he ?_
   exact⟨s1.heap.objs.size+1,[s1.heap.objs.size+1,s1.heap.objs.size],_,_,H1,rfl,I1.kept (t' :=s1.toks) kk,Aw _ _ l (Nat.succ_ne_self _) (GaO (GcV hlt)) (GaO hlt),⟨⟨.none,he⟩,hit⟩,fps,q⟩
theorem uC{elts:List Expr}{x1}{tp p:Pos}(hg:Gl X "enumerate")(hm:X.mg "enumerate"=none)(he:PEd X e f)(hs:starEach [e] X.env=[(false,eval e X.env)]:=by rfl):PId X (.Tuple elts x1 tp) (.Call (.Name "enumerate" p) [e] [] pos) (Bg f):=by
 refine(Hh hg hm (a4 he aa hs) hs).aS ?_
 rintro σ H R ⟨H₀,Bad,env,ds,E,hf,k⟩
 obtain⟨⟨kd,d⟩,hr,hf⟩:=bind_some hf
 split at hf
 ·cases hf
 rename_i hk
 split at hf
 ·rename_i xs hd
  have hd' :d= .lst xs:=hd
  subst hd'
  cases hf
  refine⟨H₀,Bad,env,[⟨kd,.lst xs⟩],E,by unfold a5 ao;rw[hr];rfl,λvs H1 s1 Rs=> ?_⟩
  cases Rs with
  |cons Rv tl=>
   cases tl
   have ii:=Rv.inn
   have hno:=Bm E rfl hk Rv
   have E1:=E.mono s1
   cases ii with
   | @lst la lv _ h r=>
    refine⟨_,rfl,.inl ⟨⟨_,.inl h⟩,k _ H1 s1 λHi keep=> ?_⟩⟩
    have hh:Rd Hi la (.lst lv):=by
     rcases h with h| ⟨o,h⟩
     ·exact .inl (keep _ _ h (hno _ rfl))
     ·exact .inr ⟨o,keep _ _ h (hno _ rfl)⟩
    refine⟨λi d hd=> ?_,⟨_,.inl hh,by rw[jK,r.1];exact Gap _⟩⟩
    rw[jL] at hd
    obtain⟨y,hy,rfl⟩:=Gam.mp hd
    obtain⟨v,h1,h2⟩:=r.get hy
    refine⟨⟨_,v,.inl hh,h1⟩,λz H2 ⟨p,w,hp,ez,eH,ew⟩=> ?_⟩
    subst ez eH
    have:=ew _ (.inl hh)
    rw[h1] at this;cases this
    refine⟨bK hp, ?_⟩
    have rp:=E1.lX keep h2
    rw[show(((0+i:Nat)):Int)=(i:Int) by simp]
    exact fN hp (.cons (.int _) (.cons rp .nil))
 ·rename_i xs hd
  have hd' :d= .tup xs:=hd
  subst hd'
  cases hf
  refine⟨H₀,Bad,env,[⟨kd,.tup xs⟩],E,by unfold a5 ao;rw[hr];rfl,λvs H1 s1 Rs=> ?_⟩
  cases Rs with
  |cons Rv tl=>
   cases tl
   have ii:=Rv.inn
   have E1:=E.mono s1
   cases ii with
   | @tup la lv _ h r=>
    refine⟨_,rfl,.inr ⟨⟨_,SqT.of h⟩,k _ H1 s1 λHi keep=> ?_⟩⟩
    have hh:Hi la=some (.tup lv):=keep _ _ h λw=>E1.fO w h trivial
    refine⟨λi d hd=> ?_,⟨_,SqT.of hh,by rw[jK,r.1];exact Gap _⟩⟩
    rw[jL] at hd
    obtain⟨y,hy,rfl⟩:=Gam.mp hd
    obtain⟨v,h1,h2⟩:=r.get hy
    refine⟨⟨_,v,SqT.of hh,h1⟩,λz H2 ⟨p,w,hp,ez,eH,ew⟩=> ?_⟩
    subst ez eH
    have:=ew _ (SqT.of hh)
    rw[h1] at this;cases this
    refine⟨bK hp, ?_⟩
    have rp:=E1.lX keep h2
    rw[show(((0+i:Nat)):Int)=(i:Int) by simp]
    exact fN hp (.cons (.int _) (.cons rp .nil))
 ·cases hf
end
open PySem PySem.Spec PyProof.Rows L2
open PySem PySem.Spec PyProof.Rows L2
namespace Fr
end Fr
def vW(h:Heap)(it a:Addr)(i:Int):Prop:=∃o,h.get? it=some o∧o.cls= .type "reversed"∧o.data= .fields #[.ref a,rawInt i]
section
variable{prog:Program}{w:World}{A:Around}{E:Value→Shared→Prop}{z:Shared}
theorem vW.ty{it a:Addr}{i:Int}(x:vW z.heap it a i):z.TypeIs (.ref it) "reversed":=let⟨o,ho,hc,_⟩:=x;⟨o,ho,hc⟩
theorem vW.at{h h' :Heap}{it a:Addr}{i:Int}(x:vW h it a i)(e:∀o,h.get? it=some o→h'.get? it=some o):vW h' it a i:=let⟨o,ho,r⟩:=x;⟨o,e _ ho,r⟩
end
open PySem PySem.Spec PyProof.Rows L2
section
variable{X:Cx}{e a b c:Expr}{f g h:DE}{pos:Pos}
theorem EH{xs:List V}{its:List Value}(r:Vals xs its){x:V}{u:Value}(hx:RelV x u)(j:Int):Vals (gq xs j x) (PySem.W.kl_ins its j u):=by
 have hl:=r.length
 unfold gq PySem.W.kl_ins
 rw[hl]
 have tk:∀{xs:List V} {its:List Value} (r:Vals xs its) (n:Nat),Vals (xs.take n) (its.take n):=by
  intro xs its r
  induction r with
  |nil=>intro n;simp;exact .nil
  |cons h t ih=>intro n;cases n with
   |zero=>exact .nil
   |succ n=>exact .cons h (ih n)
 have dr:∀{xs:List V} {its:List Value} (r:Vals xs its) (n:Nat),Vals (xs.drop n) (its.drop n):=by
  intro xs its r
  induction r with
  |nil=>intro n;simp;exact .nil
  |cons h t ih=>intro n;cases n with
   |zero=>exact .cons h t
   |succ n=>exact ih n
 exact(tk r _).append (.cons hx (dr r _))
def Hj:V→List V→Hp→VK→Prop:=λx vs H Q=>∃l xs j y,x= .ref l∧vs=[.int j,y]∧H l=some (.lst xs)∧xs.length<sizeLine∧-(2^62)≤j∧j<2^62∧Q .non (upd H l (.lst (gq xs j y)))
theorem CG:MtM X "list.insert" Hj:=by
 intro pins z σ H x vs v us Q I rx rv h
 obtain⟨l,xs,j,y,rfl,rfl,hH,hz,h1,h2,q⟩:=h
 cases rx
 cases rv with
 |cons r1 t1=>
  cases t1 with
  |cons r2 t2=>
   cases t2
   obtain⟨t,rfl⟩:=r1
   rename_i u
   obtain⟨_,its,n,r,hl,e⟩:=I.Gx hH
   have hfit:Builtin.List.listFitsIndex j=true:=by simp[Builtin.List.listFitsIndex];omega
   refine call_meets F.slot_list_insert ⟨_,e,rfl⟩ F.entry_list_insert (F.args_list_insert_3 _ _ _) (PySem.AutoSeq1.list_insert_list_int_val_1 l its.toArray n j t u (by simp[hfit]) (by rw[Gan];omega)) ⟨e, ?_⟩
   refine⟨.non,_,I.Jp (its' :=PySem.W.kl_ins its j u) hH e ?_ (EH r r2 j) ?_,rfl,q⟩
   ·show(its.toArray.extract 0 _).push u++its.toArray.extract _=_
    rw[PySem.W.kl_ins_eq]
    simp only[Gan]
    rfl
   ·rw[sT];omega
theorem CH{i:Nat}{x:Str}{px apos cpos:Pos}(hN:X.N[i]? =some x)(hv:Vis X.env.scope x)(he:PEd X e f)(ha:PEd X a g)(hd:(x==("__debug__":Str))=false:=by decide)(hcd:(x==("__classdict__":Str))=false:=by decide)
  (hs1:starEach [e,a] X.env=(false,eval e X.env)::starEach [a] X.env:=by rfl)(hs2:starEach [a] X.env=[(false,eval a X.env)]:=by rfl)
  (hbase:attributeBase (.Name x px) "insert" X.env (eval (.Name x px) X.env)=eval (.Name x px) X.env:=by rfl)
  (hfew:((backTo cpos (starEach [e,a] X.env)).all (λx=> !x.1)&&(backToKw cpos (keywordEach [] X.env)).all (λx=>x.1.isSome)
   &&decide (([e,a]:List Expr).length+([]:List Keyword).length+(if([]:List Keyword).isEmpty then 0 else 1)<30))=true:=by rfl)
  (hline:(apos.endLine==cpos.line)=true:=by rfl)(hs:swapsWith (.Call (.Attribute (.Name x px) "insert" apos) [e,a] [] cpos) none pos.line X.env=pure false:=by rfl):
  PSd X (.Expr (.Call (.Attribute (.Name x px) "insert" apos) [e,a] [] cpos) pos) (Ma i f g):=by
 refine(qh (B9 Gcp PySem.F.slot_list_insert PySem.F.type_list_insert CG (kL hN hv hd hcd) (a4 he (a4 ha aa hs2) hs1) hbase hfew hline hs1 (by rw[hs2];rfl)) hs).aS ?_
 rintro D σ H ⟨H₀,Bad,env,o,E,e,k⟩
 obtain⟨r,hr,e⟩:=bind_some e
 obtain⟨r2,hr2,e⟩:=bind_some e
 obtain⟨d,hd,e⟩:=bind_some e
 have q:=nI hd
 obtain⟨kd,rd⟩:=r
 split at e
 ·rename_i xs j hj
  have hj' :rd= .int j:=hj
  split at e
  ·rename_i z
   rw[Gau,Gau] at z
   obtain⟨z1,z2,z3⟩:=z
   cases e
   subst hj'
   obtain⟨a,h1,h2,h3,h4,h5,h6⟩:=E.ow i _ (.inl q)
   obtain⟨vs,hH,rp⟩:=nJ h4 h6
   refine⟨_,h1,.inl ⟨rfl,vs,.inl (.inl hH)⟩,H₀,Bad,env,[⟨kd,.int j⟩,r2],E,by unfold a5 ao;rw[hr,hr2];rfl,λws H2 s2 Rs=> ?_⟩
   cases Rs with
   | @cons _ v _ _ R1 tl=>
    cases tl with
    | @cons _ v2 _ _ R2 tl=>
    cases tl
    have i1:=R1.inn
    cases i1
    have hH2:=s2 _ _ hH
    have sj:=fQ z3
    refine⟨a,vs,j,v2,rfl,rfl,hH2,by rw[←rp.1,←size_eq];exact Gaw z2,sj.1,sj.2, ?_⟩
    have E2:=E.mono s2
    have rep1:=R2.rep E z1
    have rp1:aX X.K (Cln Bad env σ) H2 xs vs:=rp.gen (.of_same s2) λ_ f _=>f
    have rp2:aX X.K (Cln Bad env σ) H2 (gq xs j r2.d) (gq vs j v2):=by
     unfold gq
     rw[←rp1.1]
     exact(rp1.take _).append (.cons rep1 (rp1.drop _))
    obtain⟨E3,p3⟩:=E2.change (d' := .lst (gq xs j r2.d)) (o:= .lst (gq vs j v2)) q h1 trivial rfl (.lst (.inl aK) (rp2.gen (λb o hb w=>by
     have:b≠a:=by
      rintro rfl
      rcases w with w|w
      ·exact w.2 i (by rw[q];trivial) h1
      ·rw[hH2] at hb;cases hb;exact w
     rw[ax this];exact hb) λ_ f _=>f))
    exact k σ _ E3 ((Stp.of_same s2).trans p3)
  ·cases e
 ·cases e
theorem vX{K:aD}{F:Addr→Prop}{H:Hp}{α:Type}{dd:α→D}{vv:α→V}(h:∀n,Rep K F H (dd n) (vv n)):∀{l:List α},aX K F H (l.map dd) (l.map vv)
 |[]=> .nil
 |x::l=> .cons (h x) (vX h)
end
def JN(prog:Program)(w:World)(A:Around)(op:CmpOp)(G:Shared→Prop)(P:Nat→Value→Prop)(bt:Nat→Nat→Bool):Prop:=
 ∀i j vi vj (z:Shared) (Q:Value→Shared→Prop) (E:Value→Shared→Prop),G z→P i vi→P j vj→Q (.bool (bt i j)) z→wpAny (model prog w) A (richCompare op vi vj) Q E z
noncomputable def mmO(mx:Bool):CmpOp:=bif mx then .Gt else .Lt
noncomputable def mmN(mx:Bool):String:=bif mx then "max.loop" else "min.loop"
noncomputable def jO:Option Value→Array Value
 |none=>#[]
 |some v=>#[v,v]
section
variable{prog:Program}{w:World}{A:Around}{R:Result→Shared→Prop}{I B:Addr}{kw:List (Str×Value)}{z:Shared}
theorem uD{old:Option Value}{v:Option Value}{Q:Unit→Shared→Prop}{E:Value→Shared→Prop}(e:vT z.heap B (jO old))(h:∀h',vT h' B (jO v)→(∀b o,b≠B→z.heap.get? b=some o→h'.get? b=some o)→Q () {z with heap:=h' }):
  wpAny (model prog w) A (updateSeq B λ_=>jO v) Q E z:=by
 obtain⟨c,e⟩:=e
 have l1:(jO old).size≤2:=by cases old<;>simp[jO]
 have l2:(jO v).size≤2:=by cases v<;>simp[jO]
 have:=GbA
 refine wpAny_updateSeq e rfl (h _ ⟨_,GbP _ e rfl⟩ λb o n q=> ?_) (by omega) (by omega)
 rw[GbH _ _ (GaZ n),q]
theorem Bx(mx:Bool){old:Option Value}
  (h:wpAny (model prog w) A.in1 (pyNext (.ref I)) (λr s' =>vT s'.heap B (jO old)∧match r,old with
   |none,some v=>∀h',(∀b o,b≠B→s'.heap.get? b=some o→h'.get? b=some o)→R (.ok (.ret v)) {s' with heap:=h' }
   |none,none=>∃k d t,kw=(k,d)::t∧R (.ok (.ret d)) s'
   |some x,some v=>∃bt:Bool,(∀Q E,Q (.bool bt) s' →wpAny (model prog w) A.in1 (richCompare (mmO mx) x v) Q E s')∧∀h',vT h' B (jO (some (if bt then x else v)))→(∀b o,b≠B→s'.heap.get? b=some o→h'.get? b=some o)→codeAny (model prog w) A (.builtin (mmN mx) ⟨[.ref I,.none,.ref B],kw⟩) R {s' with heap:=h' }
   |some x,none=>∀h',vT h' B (jO (some x))→(∀b o,b≠B→s'.heap.get? b=some o→h'.get? b=some o)→codeAny (model prog w) A (.builtin (mmN mx) ⟨[.ref I,.none,.ref B],kw⟩) R {s' with heap:=h' }) (λ_ _=>False) z)(hB:vT z.heap B (jO old)):
  codeAny (model prog w) A (.builtin (mmN mx) ⟨[.ref I,.none,.ref B],kw⟩) R z:=by
 obtain⟨c,e⟩:=id hB
 have quiet:Code.quiet (.builtin (mmN mx) ⟨[.ref I,.none,.ref B],kw⟩)=true:=by cases mx<;>exact plainId_quiet (by decide+kernel) _
 cases mx
 all_goals
  first
  |(apply Gdn F.entry_min_loop;rw[Gdo F.plain_min_loop])
  |(apply Gdn F.entry_max_loop;rw[Gdo F.plain_max_loop])
  refine Gad (wpAny_seqItems e rfl (Gad (wpAny_tryCatch (GbK h (λr s' q=> ?_) λ_ _ q=>q.elim))))
  obtain⟨e',q⟩:=q
  rcases r with _|x<;>rcases old with _|v
  ·obtain⟨k,d,t,rfl,q⟩:=q
   exact Gad (Gce (Gar q))
  ·exact Gad (uD (v:=none) e' λh' _ k=>Gad (wpAny_letGo (Gar (q h' k))))
  ·exact Gad (Gar (Gad (uD (v:=some x) e' λh' l k=>Gar ⟨quiet,q h' l k⟩)))
  ·obtain⟨bt,q1,q2⟩:=q
   refine Gad (Gar (Gad (wpAny_tryCatch (GcF (Gad (q1 _ _ (Gad (GcF (GbF (Gad (wpAny_letGo (Gar ?_))))))))))))
   cases bt
   ·exact Gad (wpAny_letGo (Gar ⟨quiet,q2 _ e' λ_ _ _ k=>k⟩))
   ·exact Gad (uD (v:=some x) e' λh' l k=>Gad (wpAny_letGo (Gar ⟨quiet,q2 h' l k⟩)))
variable{fp wr:List Addr}{n:Nat}{P:Nat→Value→Prop}{St:Nat→Heap→Prop}{G:Shared→Prop}
theorem By(mx:Bool)(W:Walks prog w A.in1 I fp wr n P St)(bt:Nat→Nat→Bool)(hcmp:JN prog w A.in1 (mmO mx) G P bt)(hf:B∉fp)
  (hG:∀h' tk,(∀b o,b∉wr→b≠B→z.heap.get? b=some o→h'.get? b=some o)→G {z with heap:=h',toks:=tk})
  (hE:n=0→∃k d t,kw=(k,d)::t∧∀h' tk,(∀b o,b∉wr→b≠B→z.heap.get? b=some o→h'.get? b=some o)→R (.ok (.ret d)) {z with heap:=h',toks:=tk})
  (hR:0<n→∀v h' tk,P (argBest bt (n -1)) v→(∀b o,b∉wr→b≠B→z.heap.get? b=some o→h'.get? b=some o)→R (.ok (.ret v)) {z with heap:=h',toks:=tk}):
  ∀(k i:Nat) (old:Option Value) (h:Heap) (tk:Nat),i+k=n→St i h→vT h B (jO old)→(∀b o,b∉wr→b≠B→z.heap.get? b=some o→h.get? b=some o)→(match old with|none=>i=0|some v=>0<i∧P (argBest bt (i -1)) v)→
   codeAny (model prog w) A (.builtin (mmN mx) ⟨[.ref I,.none,.ref B],kw⟩) R {z with heap:=h,toks:=tk}
 |0,i,old,h,tk,hk,st,l,kp,ho=>by
  cases hk
  refine Bx mx (W.done {z with heap:=h,toks:=tk} _ _ st λh' tk' k=> ⟨let⟨c,e⟩:=l;⟨c,k B _ (λm=>hf (W.sub _ m)) e⟩, ?_⟩) l
  have kp' :∀b o,b∉wr→b≠B→z.heap.get? b=some o→h'.get? b=some o:=λb o q1 q2 q=>k b o q1 (kp b o q1 q2 q)
  cases old with
  |none=>
   obtain⟨a,d,t,q1,q2⟩:=hE ho
   exact⟨a,d,t,q1,q2 h' tk' kp'⟩
  |some v=>exactλh2 k2=>hR ho.1 v h2 tk' ho.2 λb o q1 q2 q=>k2 b o q2 (kp' b o q1 q2 q)
 |k+1,i,old,h,tk,hk,st,l,kp,ho=>by
  refine Bx mx (W.item i {z with heap:=h,toks:=tk} _ _ (by omega) st λx h' tk' hP st' k' => ⟨let⟨c,e⟩:=l;⟨c,k' B _ (λm=>hf (W.sub _ m)) e⟩, ?_⟩) l
  have kp' :∀b o,b∉wr→b≠B→z.heap.get? b=some o→h'.get? b=some o:=λb o q1 q2 q=>k' b o q1 (kp b o q1 q2 q)
  have go:∀v h2,vT h2 B (jO (some v))→(∀b o,b≠B→h'.get? b=some o→h2.get? b=some o)→P (argBest bt i) v→codeAny (model prog w) A (.builtin (mmN mx) ⟨[.ref I,.none,.ref B],kw⟩) R {z with heap:=h2,toks:=tk' }:=λv h2 l2 k2 hv=>
   By mx W bt hcmp hf hG hE hR k (i+1) (some v) h2 tk' (by omega) (W.frame _ _ _ st' λb m o q=>k2 b o (λe=>hf (e▸m)) q) l2 (λb o q1 q2 q=>k2 b o q2 (kp' b o q1 q2 q)) ⟨Nat.succ_pos _,hv⟩
  cases old with
  |none=>
   cases ho
   exactλh2 l2 k2=>go x h2 l2 k2 hP
  |some v=>
   obtain⟨pos,hv⟩:=ho
   obtain⟨j,rfl⟩:∃j,i=j+1:=⟨i -1,by omega⟩
   refine⟨bt (j+1) (argBest bt j),λQ E q=>hcmp _ _ x v _ Q E (hG h' tk' kp') hP hv q,λh2 l2 k2=>go _ h2 l2 k2 ?_⟩
   show P (if bt (j+1) (argBest bt j)=true then j+1 else argBest bt j) _
   split
   ·exact hP
   ·exact hv
theorem Ay(a d:Value):argsOk "min" ⟨[a],[(Str.ofString "default",d)]⟩:=by unfold argsOk;kernel_rfl
theorem Az(a d:Value):argsOk "max" ⟨[a],[(Str.ofString "default",d)]⟩:=by unfold argsOk;kernel_rfl
noncomputable def mmF(mx:Bool):String:=bif mx then "max" else "min"
theorem Hk(mx:Bool)(od:Option Value){x:Value}{E:Value→Shared→Prop}{Q:Value→Shared→Prop}
  (h:wpAny (model prog w) A.in1 (pyIter x) (λit s₂=>∃I fp wr n P St bt G,it= .ref I∧Walks prog w A.in1 I fp wr n P St∧St 0 s₂.heap∧(∀b∈fp,b<s₂.heap.objs.size)∧JN prog w A.in1 (mmO mx) G P bt∧
   (∀h' tk,(∀b o,b∉wr→s₂.heap.get? b=some o→h'.get? b=some o)→G {s₂ with heap:=h',toks:=tk})∧(n=0→∃d,od=some d∧∀h' tk,(∀b o,b∉wr→s₂.heap.get? b=some o→h'.get? b=some o)→Q d {s₂ with heap:=h',toks:=tk})∧
   (0<n→∀v h' tk,P (argBest bt (n -1)) v→(∀b o,b∉wr→s₂.heap.get? b=some o→h'.get? b=some o)→Q v {s₂ with heap:=h',toks:=tk})) E z):
  wpAny (model prog w) A (call (.builtin (mmF mx)) [x] (od.toList.map λd=>(Str.ofString "default",d))) Q E z:=by
 have fin:∀(it:Value) (s₂:Shared),(∃I fp wr n P St bt G,it= .ref I∧Walks prog w A.in1 I fp wr n P St∧St 0 s₂.heap∧(∀b∈fp,b<s₂.heap.objs.size)∧JN prog w A.in1 (mmO mx) G P bt∧
   (∀h' tk,(∀b o,b∉wr→s₂.heap.get? b=some o→h'.get? b=some o)→G {s₂ with heap:=h',toks:=tk})∧(n=0→∃d,od=some d∧∀h' tk,(∀b o,b∉wr→s₂.heap.get? b=some o→h'.get? b=some o)→Q d {s₂ with heap:=h',toks:=tk})∧
   (0<n→∀v h' tk,P (argBest bt (n -1)) v→(∀b o,b∉wr→s₂.heap.get? b=some o→h'.get? b=some o)→Q v {s₂ with heap:=h',toks:=tk}))→
   codeAny (model prog w) A (.builtin (mmN mx) ⟨[it,.none,.ref s₂.heap.objs.size],od.toList.map λd=>(Str.ofString "default",d)⟩) (λr s' =>match r with| .ok (.ret v)=>Q v s' | .ok _=>False| .error e=>E e s') {s₂ with heap:=s₂.heap.push {cls:= .type "list",data:= .seq #[]}}:=by
  rintro _ s₂ ⟨I,fp,wr,n,P,St,bt,G,rfl,W,st,lt,hc,hG,h0,hv⟩
  have up:∀{h' :Heap},(∀b o,b∉wr→b≠s₂.heap.objs.size→s₂.heap.get? b=some o→h'.get? b=some o)→∀b o,b∉wr→s₂.heap.get? b=some o→h'.get? b=some o:=λk b o q e=>k b o q (GaO (Gaz e)) e
  refine By (z:=s₂) mx W bt hc (λm=>Gbz _ (lt _ m)) (λh' tk k=>hG h' tk (up k)) (λn0=> ?_) (λp v h' tk hp k=>hv p v h' tk hp (up k)) n 0 none _ s₂.toks (GbJ _) (W.frame _ _ _ st λb _ o e=>Gaj _ e) ⟨0,GaC _ rfl⟩ (λb o _ _ e=>Gaj _ e) rfl
  obtain⟨d,rfl,hd⟩:=h0 n0
  exact⟨_,d,_,rfl,λh' tk k=>hd h' tk (up k)⟩
 have quiet:∀a,Code.quiet (.builtin (mmN mx) a)=true:=λa=>by cases mx<;>exact plainId_quiet (by decide+kernel) _
 cases mx<;>cases od
 ·exact GcB F.kind_min F.plain_min F.entry_min (F.args_min1 _) (Gad (wpAny_of_eq (a:=[none,none]) rfl (Gad (Gar (Gad (on h λit s q=>Gad (Gbe (Gar ⟨quiet _,fin it s q⟩))))))))
 ·exact GcB F.kind_min F.plain_min F.entry_min (Ay _ _) (Gad (wpAny_of_eq (a:=[none,some _]) rfl (Gad (Gar (Gad (on h λit s q=>Gad (Gbe (Gar ⟨quiet _,fin it s q⟩))))))))
 ·exact GcB F.kind_max F.plain_max F.entry_max (F.args_max1 _) (Gad (wpAny_of_eq (a:=[none,none]) rfl (Gad (Gar (Gad (on h λit s q=>Gad (Gbe (Gar ⟨quiet _,fin it s q⟩))))))))
 ·exact GcB F.kind_max F.plain_max F.entry_max (Az _ _) (Gad (wpAny_of_eq (a:=[none,some _]) rfl (Gad (Gar (Gad (on h λit s q=>Gad (Gbe (Gar ⟨quiet _,fin it s q⟩))))))))
end
section
variable{X:Cx}{e a b c:Expr}{f g h:DE}{pos:Pos}
noncomputable def JO(K:aD)(dv:V)(t:TA):TE:=λσ H Q=>t σ H λvs H1=>∃(p:Addr) (ns:List Int),vs=[.ref p]∧(SqL K H1 p (ns.map V.int)∨SqT K H1 p (ns.map V.int))∧Q (match ns with|[]=>dv|n::ns=> .int (pY n ns)) H1
theorem Hl{p pos kp:Pos}{dx:Expr}{dv:V}{t:TA}(hc:X.calm=true)(hg:Gl X "max")(hm:X.mg "max"=none)(ha:PA X [e] t)(hd:PE X dx (tC dv))(hs:starEach [e] X.env=[(false,eval e X.env)]:=by rfl):PE X (.Call (.Name "max" p) [e] [⟨some "default",dx,kp⟩] pos) (JO X.K dv t):=by
 intro pins z σ H Q I h
 refine GcK (mU I hg hm En ?_)
 refine PyProof.Rows.callWith_kw (thn (ha pos pins z σ H _ I h) λus s1 ⟨vs,H1,I1,r1,q1⟩=> ?_) (by rw[hs];rfl) (by rw[hs];rfl) rfl rfl
 obtain⟨l,ns,e1,hq,q⟩:=q1
 subst e1
 cases r1 with
 |cons r rr=>
  cases rr
  cases r
  refine PyProof.Rows.kws_cons (thn (hd pins s1 σ H1 (λv H2=>v=dv∧H2=H1) I1 ⟨rfl,rfl⟩) λdu s2 ⟨v,H2,I2,r2,e2,e3⟩=>PyProof.Rows.kws_nil ?_)
  subst e2 e3
  show wpAny _ _ (call (.builtin "max") [.ref l] [(Str.ofString "default",du)]) _ _ _
  refine Hk true (some du) (vP hc I2 hq λIt fp wr P St s₃ W st lt hP kept=> ⟨It,fp,wr,_,P,St,_,λ_=>True,rfl,W,st,lt,λi j vi vj zz Q' E' _ hi hj hq' =>CmpOf.ints_gt (uz ns) (vR hP) i j vi vj zz Q' E' hi hj hq',λ_ _ _=>trivial,λhn=> ⟨du,rfl,λh' tk hk=> ?_⟩,λhn u h' tk hu hk=> ?_⟩)
  ·cases ns with
   |nil=>exact⟨v,H2,kept h' tk hk,r2,q⟩
   |cons n ns=>simp at hn
  ·cases ns with
   |nil=>simp at hn
   |cons n ns=>
    obtain⟨t,rfl⟩:=vR hP _ _ hu
    rw[show((n::ns).map V.int).length -1=ns.length by simp,Et _ (Gap _),Gde]
    exact⟨.int (pY n ns),H2,kept h' tk hk,⟨t,rfl⟩,q⟩
theorem Hm{p pos kp:Pos}{dx:Expr}{dd:D}{dv:V}(hc:X.calm=true)(hg:Gl X "max")(hm:X.mg "max"=none)(he:PEd X e f)(hd:PE X dx (tC dv))(hdv:∀K F H,Inn K F H dd dv)(ht:dd.top=false)(hs:starEach [e] X.env=[(false,eval e X.env)]:=by rfl):PEd X (.Call (.Name "max" p) [e] [⟨some "default",dx,kp⟩] pos) (mmE pY dd f):=by
 refine(Hl hc hg hm (a4 he aa hs) hd hs).aS ?_
 rintro σ H Q ⟨H₀,Bad,env,rv,E,e,k⟩
 obtain⟨r,hr,e⟩:=bind_some e
 refine⟨H₀,Bad,env,[r],E,by unfold a5 ao;rw[hr];rfl,λvs H1 s1 Rs=> ?_⟩
 cases Rs with
 |cons R1 tl=>
  cases tl
  unfold mmD at e
  obtain⟨ds,h1,e⟩:=bind_some e
  obtain⟨ns,h2,e⟩:=Gam.mp e
  obtain⟨p,vs,rfl,hq,rr⟩:=Ar R1.inn h1
  rw[Br rr h2] at hq
  refine⟨p,ns,rfl,hq, ?_⟩
  subst e
  cases ns with
  |nil=>exact k _ _ s1 ((hdv _ _ _).rep λa _ w=>by rw[ht] at w;cases w)
  |cons n ns=>exact k _ _ s1 (.int _)
end
section
variable{X:Cx}{e a b c:Expr}{f g h:DE}{pos:Pos}
theorem Hn{K:aD}{F:Addr→Prop}{H:Hp}(k:Key):Rep K F H (Jy k) (kV k):=by
 cases k with
 |inl i=>exact .int i
 |inr x=>exact .str x
end
section
variable{X:Cx}{e a b c:Expr}{f g h:DE}{pos:Pos}
theorem JP{K:aD}{F:Addr→Prop}{H:Hp}{d:D}{v:V}{k:D}{o:Option D}(i:Inn K F H d v)(e:Ct d k=some o):∃p,v= .ref p∧IsD H p:=by
 unfold Ct at e
 split at e
 ·cases i with
  |dK h r=>exact⟨_,rfl,.inl ⟨_,.inl h⟩⟩
 ·cases i with
  |dT h r=>exact⟨_,rfl,.inr ⟨_,.inl h⟩⟩
 ·cases e
theorem EI{K:aD}{F:Addr→Prop}{H:Hp}{dx dy rd:D}{y vz:V}{p:Addr}{o' :Option D}(ix:Inn K F H dx (.ref p))(iy:Inn K F H dy y)(e:Ct dx dy=some o')(rz:Rep K F H rd vz):∃o,pW H p y o∧Rep K F H (o'.getD rd) (o.getD vz):=by
 obtain⟨g1,g2⟩:=uu ix iy
 have fin:∀{κ:Type} [DecidableEq κ] {kvs:List (κ×D)} {ws:List (κ×V)} {k:κ},b7 K F H kvs ws→Rep K F H ((look kvs k).getD rd) ((gK ws k).getD vz):=λ{κ _ kvs ws k} rp=>by
  cases z:look kvs k with
  |none=>rw[sY rp z];exact rz
  |some d=>obtain⟨v,h1,h2⟩:=nH rp z;rw[h1];exact h2
 unfold Ct at e
 split at e
 ·obtain⟨k',hk,rfl⟩:=Gam.mp e
  obtain⟨q,ws,eq,rp,gg⟩:=g1 _ k' rfl hk
  cases eq
  exact⟨_,gg,fin rp⟩
 ·obtain⟨k',hk,rfl⟩:=Gam.mp e
  obtain⟨q,ws,eq,rp,gg⟩:=g2 _ _ k' rfl rfl hk
  cases eq
  exact⟨_,gg,fin rp⟩
 ·cases e
theorem Bz{apos cpos:Pos}{o:Expr}(hu:X.A.units+1<cLine)(ho:PEd X o f)(he:PEd X a g)(hd:PEd X b h)(m:M2 X o "get" apos a b cpos):PEd X (.Call (.Attribute o "get" apos) [a,b] [] cpos) (GC f g h):=by
 refine(DQ hu ho he hd m).aS ?_
 rintro σ H Q ⟨H₀,Bad,env,rv,E,e,k⟩
 obtain⟨x,hx,e⟩:=bind_some e
 obtain⟨y,hy,e⟩:=bind_some e
 obtain⟨r,hr,e⟩:=bind_some e
 split at e
 ·rename_i hc
  obtain⟨o',e',rfl⟩:=Gam.mp e
  refine⟨H₀,Bad,env,x,E,hx,λvx H1 s1 R1=> ?_⟩
  obtain⟨p,rfl,hD⟩:=JP R1.inn e'
  refine⟨p,rfl,hD,H₀,Bad,env,y,E.mono s1,hy,λvy H2 s2 R2=> ⟨H₀,Bad,env,r,(E.mono s1).mono s2,hr,λvz H3 s3 R3=> ?_⟩⟩
  have rz:Rep X.K (Cln Bad env σ) H3 r.d vz:=R3.rep ((E.mono s1).mono s2) (by unfold RV.free;rw[hc])
  obtain⟨ov,gg,rp⟩:=EI ((R1.inn.same s2).same s3) (R2.inn.same s3) e' rz
  exact⟨ov,gg,k _ H3 (s1.trans (s2.trans s3)) rp⟩
 ·cases e
end
section
variable{prog:Program}{w:World}{A:Around}{E:Value→Shared→Prop}{s:Shared}
theorem pZ(d:Addr)(hd:(d==sysModules)=false):MeetsIn prog w (Builtin.«dict.items» ⟨[.ref d],[]⟩) (λ_ R s=>s.TypeIs (.ref d) "dict"∧R (.ok (.ret (.ref s.heap.objs.size))) {s with heap:=s.heap.push {cls:= .type "dict_items",data:= .fields #[.ref d]}}):=by
 apply MeetsIn.of_wp
 rintro A R s ⟨hm,h⟩
 wp_walk using wpAny_notOrdered_dict hm,Gbe
 ·exact⟨_,rfl,h⟩
 ·size_fits
theorem qN{v d:Addr}{es:Array DictEntry}{ep:Nat}{Q:Value→Shared→Prop}(hv:s.heap.IsItemsView v d)(hm:rZ s.heap d es ep)
  (hQ:Q (.ref s.heap.objs.size) {s with heap:=s.heap.push {cls:= .type "dict_itemiterator",data:= .fields #[.none,.bool false,.ref d,.int 0 0,.int es.size 0,.int ep 0,.none,.none]}}):wpAny (model prog w) A (pyIter (.ref v)) Q E s:=by
 have f:FO s.heap v _ _:=hv
 apply wpAny_pyIter_slot f.ty F.slot_dict_items_iter
 apply GbW F.slot_dict_items_iter f.ty F.entry_dict_items_iter (ha:=F.args_dict_items_iter_1 _)
 wp_walk using k7 (i:=0) (x:= .ref d) f rfl,Eu hm,ID hm,Gbe
 ·exact⟨_,rfl,_,_,⟨_,GaC _ rfl,rfl⟩,Gcy.lookup,hQ⟩
 ·simp[sizeOk,Builtin.Dict_items.ownsTuple,Builtin.Dict_items.ownedTupleFields,GbA]
abbrev ItI(h:Heap)(it d:Addr)(i n ep:Nat)(f0 f1 ok ov:Value):Prop:=FO h it "dict_itemiterator" #[f0,f1,.ref d,.int i 0,.int n 0,.int ep 0,ok,ov]
def Kept(h:Heap)(it:Addr)(f0 f1:Value):Prop:=f0= .none∨∃(a:Addr) (oa:Obj) (f:Bool),f0=rawInt a∧f1= .bool f∧h.get? a=some oa∧a≠it
theorem CI{it:Addr}{x2 x3 x4 x5 f0 f1 ok ov k v:Value}{Q:Value→Shared→Prop}(f:FO s.heap it "dict_itemiterator" #[f0,f1,x2,x3,x4,x5,ok,ov])(hf:Kept s.heap it f0 f1)
  (h:∀h' g0 g1 ok' ov',FO h' it "dict_itemiterator" #[g0,g1,x2,x3,x4,x5,ok',ov']→((f0= .none∧g0=rawInt s.heap.objs.size∧g1= .bool false)∨(f0≠ .none∧g0=f0∧g1= .bool true))→
   h'.get? s.heap.objs.size=some {cls:= .type "tuple",data:= .seq #[k,v]}→h'.objs.size=s.heap.objs.size+1→(∀b o,b≠it→s.heap.get? b=some o→h'.get? b=some o)→Q (.ref s.heap.objs.size) {s with heap:=h' }):
  wpAny (model prog w) A (Builtin.Dict_items.pairFromOwner (.ref it) 6 k v) Q E s:=by
 have ne:s.heap.objs.size≠it:=GcJ f.lt
 apply Gad
 refine wpAny_newTuple ?_
 have f2:=f.at λo=>Gaj {cls:= .type "tuple",data:= .seq #[k,v]}
 have t2:(s.heap.push {cls:= .type "tuple",data:= .seq #[k,v]}).get? s.heap.objs.size=_:=GaC _ rfl
 have k2:∀b o,s.heap.get? b=some o→(s.heap.push {cls:= .type "tuple",data:= .seq #[k,v]}).get? b=some o:=λb o=>Gaj _
 have z2:(s.heap.push {cls:= .type "tuple",data:= .seq #[k,v]}).objs.size=s.heap.objs.size+1:=GcP ..
 generalize s.heap.push {cls:= .type "tuple",data:= .seq #[k,v]}=p at*
 have fin:∀h',Heap.SameBut it p h' →h'.get? s.heap.objs.size=some {cls:= .type "tuple",data:= .seq #[k,v]}∧h'.objs.size=s.heap.objs.size+1∧∀b o,b≠it→s.heap.get? b=some o→h'.get? b=some o:=λh' sb=> ⟨sb.extBut _ _ ne t2,sb.1.trans z2,λb o n e=>sb.extBut b o n (k2 b o e)⟩
 rcases hf with rfl| ⟨a,oa,b,rfl,rfl,ha,hai⟩
 ·wp_walk using k7 (i:=0) (x:= .none) f2 rfl,k7 (i:=6) (x:=ok) f2 rfl,k7 (i:=7) (x:=ov) f2 rfl,jG f2
  ·rintro h3 ⟨f3,s3⟩
   refine Gad (jG f3 (λh4 ⟨f4,s4⟩=>Gad (jG f4 (λh5 ⟨f5,s5⟩=>Gad (jG f5 (λh6 ⟨f6,s6⟩=>Gad (wpAny_letGo (Gar ?_))) (by simp))) (by simp))) (by simp))
   obtain⟨q1,q2,q3⟩:=fin h6 (((s3.trans s4).trans s5).trans s6)
   exact h h6 _ _ _ _ f6 (.inl ⟨rfl,rfl,rfl⟩) q1 q2 q3
  ·show _<8;decide
 ·wp_walk using k7 (i:=0) (x:=rawInt a) f2 rfl,PySem.W.kdx_alive (k2 a oa ha),k7 (i:=1) (x:= .bool b) f2 rfl
  have q1:(Value.bool b !=Value.bool true)= !b:=by cases b<;>rfl
  rw[q1]
  have no:rawInt (a:Int)≠Value.none:=by simp[rawInt]
  cases b with
  |true=>
   wp_walk
   obtain⟨q1,q2,q3⟩:=fin p (Heap.SameBut.refl _ _)
   exact h p _ _ _ _ f2 (.inr ⟨no,rfl,rfl⟩) q1 q2 q3
  |false=>
   wp_walk using jG f2
   ·rintro h3 ⟨f3,s3⟩
    wp_walk
    obtain⟨q1,q2,q3⟩:=fin h3 s3
    exact h h3 _ _ _ _ f3 (.inr ⟨no,rfl,rfl⟩) q1 q2 q3
   ·show _<8;decide
theorem lj{it d:Addr}{i ep:Nat}{es:Array DictEntry}{f0 f1 ok ov:Value}{Q:Option Value→Shared→Prop}(hh:A.handled=none)(hit:ItI s.heap it d i es.size ep f0 f1 ok ov)(hm:rZ s.heap d es ep)(hf:Kept s.heap it f0 f1)
  (hQ:∀e h' g0 g1 ok' ov',es[i]? =some e→ItI h' it d (i+1) es.size ep g0 g1 ok' ov' →((f0= .none∧g0=rawInt s.heap.objs.size∧g1= .bool false)∨(f0≠ .none∧g0=f0∧g1= .bool true))→
   h'.get? s.heap.objs.size=some {cls:= .type "tuple",data:= .seq #[e.key,e.val]}→(∀b o,b≠it→s.heap.get? b=some o→h'.get? b=some o)→Q (some (.ref s.heap.objs.size)) {s with heap:=h' })
  (hE:∀h',es.size≤i→Heap.ExtBut it s.heap h' →Q none {s with heap:=h' }):wpAny (model prog w) A (pyNext (.ref it)) Q E s:=by
 have hT:=hit.ty
 wp_walk using Gco hT Gcy,GbW Gcy hT F.entry_dict_itemiterator_next (ha:=F.args_dict_itemiterator_next_1 _),Eu hm,ID hm,JL hit,Gcu hT
 rw[Ml]
 cases h:es[i]? with
 |some e=>
  wp_walk using Gcu hT,wpAny_isOneOf_itemiter hT,jG hit
  ·rintro h1 ⟨f,hs⟩
   replace f:ItI h1 it d (i+1) es.size ep f0 f1 ok ov:=f
   have kp:Kept h1 it f0 f1:=hf.imp id λ⟨a,o,b,q1,q2,q3,q4⟩=> ⟨a,o,b,q1,q2,hs.extBut a o q4 q3,q4⟩
   wp_walk using wpAny_isOneOf_itemiter f.ty,CI f kp
   intro h' g0 g1 ok' ov' f' g t _ k
   rw[show h1.objs.size=s.heap.objs.size from hs.1] at*
   exact Gar ⟨_,rfl,Gar (hQ e h' g0 g1 ok' ov' h f' g t λb o n q=>k b o n (hs.extBut b o n q))⟩
  ·show _<8;decide
 |none=>
  wp_walk using Gcu hT,jG hit
  ·rintro h' ⟨f,hs⟩
   exact IE hh λh2 a k=>Gad (Bs k.2 (Gar (hE h2 (by simpa using h) λb o n e=>k.1 b o (hs.extBut b o n e))))
  ·show _<8;decide
theorem EJ{elts:List Expr}{x1}{pos:Pos}{it d a:Addr}{i n ep:Nat}{f1 ok ov:Value}{Q:Unit→Shared→Prop}(he:ItI s.heap it d i n ep (rawInt a) f1 ok ov)
  (hQ:∀h',ItI h' it d i n ep .none f1 ok ov→Heap.SameBut it s.heap h' →Q () {s with heap:=h' }):
  wpAny (model prog w) A (letOwnedTupleGo (.Tuple elts x1 pos) (.ref it) (.ref a)) Q E s:=by
 obtain⟨⟨c,dc,dt,sl⟩,ho,hc,hd⟩:=id he
 cases hc;cases hd
 apply Gad
 apply wpAny_load ho
 apply wpAny_ite_split<;>intro hi
 ·exact Gad (Gce (jG he (λh' k=>hQ h' k.1 k.2) (by simp)))
 ·exact absurd (by simp) hi
end
section
variable{X:Cx}{e a b c:Expr}{f g h:DE}{pos:Pos}{pins:List (Addr×Obj)}{σ:St}{H:Hp}{s:Shared}
theorem _root_.L2.Inv.freeze{d:Addr}{kvs:List (List Key×V)}{o:Obj}(I:Inv X pins σ H s)(e:H d=some (.dT kvs))(ho:s.heap.get? d=some o):Inv X pins σ (upd H d (.frz o (.dT kvs))) s:=by
 have:=qi (t' :=s.toks) (h' :=s.heap) (ob:= .frz o (.dT kvs)) I (by rw[e];trivial) (Heap.SameBut.refl _ _) ⟨o,ho⟩
  ⟨ho,(I.hok d _ e).dQ (λb u _ q=>q) (λb q=>by rw[ax (B2 q e (by simp))];exact q) λb xs q=>by rw[ax (B2 q e (by simp))];exact q⟩
 exact this
theorem _root_.L2.Inv.JQ{d:Addr}{kvs:List (List Key×V)}{o:Obj}(I:Inv X pins σ H s)(e:H d=some (.frz o (.dT kvs)))(hn:∀o u,X.H₀ d≠some (.frz o u)):Inv X pins σ (upd H d (.dT kvs)) s:=by
 have ne:∀{b:Addr},H b=none→b≠d:=λq z=>by rw[z,e] at q;cases q
 have nt:∀{b:Addr} {u:HO},H b=some u→u≠ .frz o (.dT kvs)→b≠d:=λq hu z=>by rw[z,e] at q;cases q;exact hu rfl
 refine⟨I.ok,I.os,I.bare,⟨I.base.keep,I.base.slot,λb ob q n hx=> ?_,I.base.there,λb xs q=> ?_,λb ob u q=> ?_,λb ps q=> ?_⟩,I.loc,I.cell, ?_,λx c q=> ?_,λp hp=> ?_,λb u q=> ?_,I.len⟩
 ·have:=I.base.free b ob q n hx
  rw[ax (ne this)];exact this
 ·have:=I.base.p8 b xs q
  rw[ax (nt this (by simp))];exact this
 ·have:=I.base.nz b ob u q
  rw[ax (λz=>hn ob u (by rw[←z];exact q))];exact this
 ·obtain⟨more,q'⟩:=I.base.p9 b ps q
  exact⟨more,by rw[ax (nt q' (by simp))];exact q'⟩
 ·rw[ax (ne I.free)];exact I.free
 ·rw[ax (ne (I.jW x c q))];exact I.jW x c q
 ·obtain⟨h1,h2,h3⟩:=I.pin p hp
  exact⟨h1,by rw[ax (ne h2)];exact h2,h3⟩
 ·have st:∀{b:Addr} {u:HO},cx X.prog X.w H s.heap b u→cx X.prog X.w (upd H d (.dT kvs)) s.heap b u:=λx=>
   x.dQ (λ_ _ _ q=>q) (λc q=>by rw[ax (nt q (by simp))];exact q) λc xs q=>by rw[ax (nt q (by simp))];exact q
  by_cases hb:b=d
  ·subst hb
   rw[aK] at q;cases q
   exact st (I.hok b _ e).2
  ·rw[ax hb] at q
   exact st (I.hok b _ q)
theorem BA{d:Addr}{kvs:List (List Key×V)}{o:Obj}{es:Array DictEntry}{ep:Nat}(I:Inv X pins σ H s)(e:H d=some (.frz o (.dT kvs)))(hd:o.data= .dict es ep):rZ s.heap d es ep∧es.size=kvs.length∧
  ∀(i:Nat) p,kvs[i]? =some p→∃b en,es[i]? =some en∧en.key= .ref b∧H b=some (.tup (p.1.map kV))∧RelV p.2 en.val:=by
 obtain⟨ho,h1,h2,xs,kt,o',es',ep',ho',hx,hd',he,_⟩:=I.hok d _ e
 rw[ho] at ho';cases ho'
 rw[hd] at hd';cases hd'
 have hl:kvs.length=xs.length:=Paired.length kt
 have hs:es.size=xs.length:=by rw[←GbT,he,Gah]
 refine⟨⟨o,ho,hx,hd⟩,by omega,λi p hp=> ?_⟩
 have hi:i<xs.length:=by rw[←hl];exact(Gac.mp hp).1
 have rel:∀{l:List (List Key×V)} {m:List (List Key×Addr×Value)},Paired (λ(p:List Key×V) (q:List Key×Addr×Value)=>p.1=q.1∧H q.2.1=some (.tup (p.1.map kV))∧RelV p.2 q.2.2) l m→∀(i:Nat) p q,l[i]? =some p→m[i]? =some q→H q.2.1=some (.tup (p.1.map kV))∧RelV p.2 q.2.2:=by
  intro l m q
  induction q with
  |nil=>intro i p q h;simp at h
  |cons hq t ih=>
   intro i p' q' h1 h2
   cases i with
   |zero=>simp at h1 h2;subst h1 h2;exact hq.2
   |succ i=>exact ih i p' q' (by simpa using h1) (by simpa using h2)
 obtain⟨r1,r2⟩:=rel kt i p xs[i] hp (by simp[hi])
 refine⟨xs[i].2.1,entryOfKey (tupleKind (cz X.prog X.w)) xs[i], ?_,rfl,r1,r2⟩
 have:es.toList[i]? =some (entryOfKey (tupleKind (cz X.prog X.w)) xs[i]):=by rw[he,Gal];simp[hi]
 simpa using this
noncomputable def JR(d:Addr)(o:Obj)(kvs:List (List Key×V)):It:=
 ⟨λi H=>H d=some (.frz o (.dT kvs))∧i<kvs.length,λi H x H' =>∃p b q,kvs[i]? =some p∧H b=some (.tup (p.1.map kV))∧H q=none∧x= .ref q∧H' =upd H q (.tup [.ref b,p.2]),λi H=>H d=some (.frz o (.dT kvs))∧kvs.length≤i⟩
theorem AA{prog:Program}{w:World}{A:Around}{E:Value→Shared→Prop}{s:Shared}{it d:Addr}{i n ep:Nat}{f0 f1 ok ov:Value}{Q:Value→Shared→Prop}(hit:ItI s.heap it d i n ep f0 f1 ok ov)(h:Q (.ref it) s):wpAny (model prog w) A (pyIter (.ref it)) Q E s:=by
 have hT:=hit.ty
 apply wpAny_pyIter_slot hT GcQ
 apply GbW GcQ hT PySem.W.kcp_entry (ha:=PySem.F.args_dict_itemiterator_iter_1 _)
 exact Gar ⟨_,rfl,_,_,hT,PySem.F.slot_dict_itemiterator_next.lookup,h⟩
theorem AB{P:Program}{w:World}{K:aD}{elts:List Expr}{x1}{tp:Pos}(it d:Addr)(o:Obj)(kvs:List (List Key×V))(es:Array DictEntry)(ep:Nat)(hd:o.data= .dict es ep)(hne:d≠it):
  Turn P w K (.Tuple elts x1 tp) (JR d o kvs) [it] it (λi h=>∃f1 ok ov,ItI h it d i es.size ep .none f1 ok ov) where
 mem:=by simp
 obj:=λi h st b hb=>by
  have e:b=it:=by simpa using hb
  subst e
  obtain⟨f1,ok,ov,o,e,c,d⟩:=st
  exact⟨o,e,λv z=>by rw[d] at z;cases z⟩
 keep:=λi h h' st k=>let⟨f1,ok,ov,e⟩:=st;⟨f1,ok,ov,e.at (k it (by simp))⟩
 item:=by
  intro X hP hw hK hc i pins s σ H E I hf st hg
  subst hP hw hK
  obtain⟨he,hi⟩:=hg
  obtain⟨hr,hz,hx⟩:=BA I he hd
  obtain⟨f1,ok,ov,hit⟩:=st
  obtain⟨b,en,q1,q2,q3,q4⟩:=hx i kvs[i] (by simp[hi])
  refine lj (I.ok.hd hc) hit hr (.inl rfl) (λen' h' g0 g1 ok' ov' q1' hit' hg hT kk=> ⟨_,rfl, ?_⟩) λ_ hl _=>absurd hl (by omega)
  cases q1.symm.trans q1'
  have hg0:g0=rawInt s.heap.objs.size:=by
   rcases hg with⟨_,z,_⟩| ⟨z,_⟩
   ·exact z
   ·exact absurd rfl z
  subst hg0
  refine EJ (s:={s with heap:=h' }) hit' λh2 he2 sb=> ?_
  have hlt:it<s.heap.objs.size:=hit.lt
  have kept:∀b o,b∉[it]→s.heap.get? b=some o→h2.get? b=some o:=λb o hb e=>by
   have b1:b≠it:=λz=>hb (by simp[z])
   exact(sb.2 b b1).trans (kk b o b1 e)
  have hT2:h2.get? s.heap.objs.size=some {cls:= .type "tuple",data:= .seq #[en.key,en.val]}:=(sb.2 _ (GcJ hlt)).trans hT
  have I1:Inv X pins σ (upd H s.heap.objs.size (.tup [.ref b,kvs[i].2])) {s with heap:=h2}:=I.qL (ch:=[it]) hf rfl rfl kept (Gap _) (by
   refine⟨by simp[GbA],[en.key,en.val],.cons q2 (.cons q4 .nil),_,hT2,rfl,0,rfl⟩)
  refine⟨.ref s.heap.objs.size,_,I1,rfl,⟨kvs[i],b,_,by simp[hi],q3,I.fresh,rfl,rfl⟩,⟨_,_,_,he2⟩,λb' hb=> ?_⟩
  have z:b' =it:=by simpa using hb
  subst z
  rw[ax (GaO hlt)]
  exact(hf b' hb).1
 done:=by
  intro X hP hw hK hc i pins s σ H E I hf st hg
  subst hP hw hK
  obtain⟨he,hi⟩:=hg
  obtain⟨hr,hz,hx⟩:=BA I he hd
  obtain⟨f0,f1,f2,f3,f4,f5⟩:=hf it (by simp)
  obtain⟨f1',ok,ov,hit⟩:=st
  exact lj (I.ok.hd hc) hit hr (.inl rfl) (λ_ _ _ _ _ _ q=>absurd (GcG.mp q).1 (by omega)) λh' _ eb=> ⟨rfl,I.turned (t' :=s.toks) (λb o hb e=>eb b o hb e) f0 f1 f3 f4 f5⟩
 self:=λ_ _ _ _ _ st h=>let⟨_,_,_,e⟩:=st;AA e h
noncomputable def EK(X:Cx)(J:Addr→Obj→List (List Key×V)→It)(to:TE):TI:=λσ H R=>to σ H λx H1=>∃d kvs,x= .ref d∧H1 d=some (.dT kvs)∧∀o,(∀o u,X.H₀ d≠some (.frz o u))→R (J d o kvs) (upd H1 d (.frz o (.dT kvs)))
theorem vY{o:Expr}{elts:List Expr}{x1}{tp:Pos}{to:TE}{apos cpos:Pos}(ho:PE X o to)(hbase:attributeBase o "items" X.env (eval o X.env)=eval o X.env:=by rfl)(hline:(apos.endLine==cpos.line)=true:=by rfl):PI X (.Tuple elts x1 tp) (.Call (.Attribute o "items" apos) [] [] cpos) (EK X JR to):=by
 intro pins s σ H R I h
 refine wpAny_Call_method0_late hbase hline (thn (ho pins s σ H _ I h) λv s1 ⟨x,H1,I1,r1,d,kvs,ex,hd,q1⟩=> ?_)
 subst ex
 cases r1
 obtain⟨_,hds,xs,kt,ob,es,ep,hob,hx,hdt,he,_⟩:=DK I1.hok hd
 obtain⟨t1,t2,_⟩:=Am I1 (.inr ⟨kvs,.inl hd⟩)
 refine⟨"dict","dict.items",GcS,PySem.F.slot_dict_items,PySem.F.type_dict_items,t1,t2,Gcx rfl (PySem.evalArgs_none ?_)⟩
 refine call_meetsIn PySem.F.slot_dict_items t1 PySem.F.entry_dict_items (PySem.F.args_dict_items_1 _) (pZ d hds) ⟨t1, ?_⟩
 generalize hh1:s1.heap.push {cls:= .type "dict_items",data:= .fields #[.ref d]}=h1
 have hv:h1.IsItemsView s1.heap.objs.size d:=by rw[←hh1];exact⟨_,GaC _ rfl,rfl,rfl⟩
 have k1:∀b u,s1.heap.get? b=some u→h1.get? b=some u:=λb u q=>by rw[←hh1];exact Gaj _ q
 have I2:Inv X pins σ H1 {s1 with heap:=h1}:=I1.kept (t' :=s1.toks) k1
 refine qN (s:={s1 with heap:=h1}) hv ⟨ob,k1 _ _ hob,hx,hdt⟩ ?_
 have I3:Inv X pins σ H1 {s1 with heap:=h1.push {cls:= .type "dict_itemiterator",data:= .fields #[.none,.bool false,.ref d,.int 0 0,.int es.size 0,.int ep 0,.none,.none]}}:=I2.kept (t' :=s1.toks) λb u q=>Gaj _ q
 have I4:=I3.freeze hd (o:=ob) (Gaj _ (k1 _ _ hob))
 have hlt:d<h1.objs.size:=Gaz (k1 _ _ hob)
 have fresh:(upd H1 d (.frz ob (.dT kvs))) h1.objs.size=none:=by
  rw[ax (GcJ hlt)];exact I2.fresh
 refine⟨h1.objs.size,[h1.objs.size],_,_,_,rfl,I4,AB _ d ob kvs es ep hdt (GaO hlt),⟨_,_,_,_,GaC _ rfl,rfl,rfl⟩,λb hb=> ?_,q1 ob λo u z=> ?_⟩
 ·have z:b=h1.objs.size:=by simpa using hb
  subst z
  exact I2.C5 (Gap _) fresh
 ·have:=I1.base.nz d o u z
  rw[hd] at this;cases this
end
section
variable{X:Cx}{e a b c:Expr}{f g h:DE}{pos:Pos}
def AD(J:Addr→Obj→List (List Key×V)→It)(vw:List (List Key×D)→List D):Prop:=
 ∀{K:aD} {Hf:Hp} {a:Addr} {o:Obj} {ws:List (List Key×V)} {kvs:List (List Key×D)} {F F' Nn:Addr→Prop},Hf a=some (.frz o (.dT ws))→b7 K F Hf kvs ws→
  (∀b u,Hf b=some u→(F b∨isT u)→Nn b)→(∀b,F b→Hf b≠none→F' b)→Cu K F' Nn (J a o ws) (vw kvs) Hf
theorem tw{κ:Type}{K:aD}{F:Addr→Prop}{H:Hp}{kvs:List (κ×D)}{ws:List (κ×V)}(r:b7 K F H kvs ws):kvs.length=ws.length:=by
 have:=congrArg List.length r.1
 simpa using this
theorem CJ{κ:Type}{K:aD}{F:Addr→Prop}{H:Hp}{kvs:List (κ×D)}{ws:List (κ×V)}(r:b7 K F H kvs ws){i:Nat}{p:κ×D}(e:kvs[i]? =some p):∃q,ws[i]? =some q∧p.1=q.1∧Rep K F H p.2 q.2:=by
 have hi:i<ws.length:=by rw[←tw r];exact(Gac.mp e).1
 have hq:ws[i]? =some ws[i]:=Gaa hi
 refine⟨ws[i],hq, ?_,r.2 i p _ e hq⟩
 have:=congrArg (λl=>l[i]?) r.1
 simp only[Gal,e,hq,GcI,Gcz] at this
 exact this
theorem qO:AD JR bM:=by
 intro K Hf a o ws kvs F F' Nn hA r hN hF Hi keep
 have hAi:Hi a=some (.frz o (.dT ws)):=keep a _ hA (hN a _ hA (.inr trivial))
 have r' :b7 K F' Hi kvs ws:=r.gen (λb u hb q=>keep b u hb (hN b u hb q)) hF
 refine⟨λi d hd=> ?_,hAi,by unfold bM;rw[Gah,tw r];exact Gap _⟩
 unfold bM at hd
 rw[Gal] at hd
 obtain⟨p,hp,rfl⟩:=Gam.mp hd
 obtain⟨q,h1,h2,h3⟩:=CJ r' hp
 refine⟨⟨hAi,(Gac.mp h1).1⟩,λx H2 ⟨q',b,t,e2,e3,e4,e5,e6⟩=> ?_⟩
 subst e5 e6
 rw[h1] at e2;cases e2
 refine⟨bK e4,fN e4 (.cons ?_ (.cons h3 .nil))⟩
 have rs:aX K F' Hi (p.1.map Jy) (q.1.map kV):=by rw[h2];exact vX λk=>Hn k
 exact .tup e3 rs.1 rs.2
theorem Ho{tg iter:Expr}{J:Addr→Obj→List (List Key×V)→It}{vw:List (List Key×D)→List D}(hi:PI X tg iter (EK X J (tE X f)))(hv:AD J vw):PId X tg iter (DX vw f):=by
 refine hi.aS ?_
 rintro σ H R ⟨H₀,Bad,env,ds,E,hf,k⟩
 obtain⟨⟨kd,d⟩,hr,hf⟩:=bind_some hf
 split at hf
 ·rename_i hk
  have hk' :kd= .tn:=hk
  subst hk'
  split at hf
  ·rename_i kvs hd
   have hd' :d= .dT kvs:=hd
   subst hd'
   cases hf
   refine⟨H₀,Bad,env,⟨.tn,.dT kvs⟩,E,hr,λv H1 s1 Rv=> ?_⟩
   obtain⟨a,ev,hn,wr,_,ii⟩:=Rv
   subst ev
   cases ii with
   | @dT _ ws _ h r=>
    refine⟨a,ws,rfl,h,λo hnf=> ?_⟩
    have sm:c0 H (upd H1 a (.frz o (.dT ws))):=λb u q=>by
     rw[ax (dS q hn)];exact s1 b u q
    have E1:=E.mono sm
    refine k _ _ sm (hv aK (r.gen (λb u hb q=> ?_) λb q _=>q) (λb u hb q=> ?_) λb q hb=> ⟨q.1,hb⟩)
    ·have:b≠a:=by
      rcases q with q|q
      ·exact q.2
      ·intro z;subst z;rw[h] at hb;cases hb;exact q
     rw[ax this];exact hb
    ·rcases q with q|q
     ·exactλ⟨i,h1,h2⟩=>q.1.2 i h1.ol.top h2
     ·exactλw=>E1.fO w hb q
  ·cases hf
 ·cases hf
theorem EM{o:Expr}{elts:List Expr}{x1}{tp:Pos}{apos cpos:Pos}(ho:PEd X o f)(hbase:attributeBase o "items" X.env (eval o X.env)=eval o X.env:=by rfl)(hline:(apos.endLine==cpos.line)=true:=by rfl):PId X (.Tuple elts x1 tp) (.Call (.Attribute o "items" apos) [] [] cpos) (DX bM f):=Ho (vY ho hbase hline) qO
theorem jP{env:Env}{i j:Nat}{sl:Slot}(h:(env.set i none)[j]? =some (some sl)):j≠i∧env[j]? =some (some sl):=by
 by_cases z:i=j
 ·subst z
  rw[Gdx] at h
  simp at h
 ·rw[Gab z] at h
  exact⟨GaZ z,h⟩
theorem nN{env:Env}{i j:Nat}(h:br (env.set i none)[j]?):j≠i∧br env[j]? :=by
 by_cases z:i=j
 ·subst z
  rw[Gdx] at h
  split at h
  ·split at h<;>exact h.elim
  ·exact absurd rfl (by assumption)
 ·rw[Gab z] at h
  exact⟨GaZ z,h⟩
theorem vZ{env:Env}{i j:Nat}(h:vC (env.set i none)[j]?):j≠i∧vC env[j]? :=by
 by_cases z:i=j
 ·subst z
  rw[Gdx] at h
  split at h
  ·split at h<;>exact h.elim
  ·exact absurd rfl (by assumption)
 ·rw[Gab z] at h
  exact⟨GaZ z,h⟩
theorem aG.Mr{K:aD}{H₀:Hp}{Bad:Addr→Prop}{env:Env}{σ:St}{H:Hp}{i:Nat}{a:Addr}{o:Obj}{ws:List (List Key×V)}(E:aG K H₀ Bad env σ H)(ti:br env[i]?)(ea:σ[i]? =some (some (.ref a)))
  (sole:∀j:Nat,j≠i→br env[j]? →σ[j]? ≠some (some (.ref a)))(hH:H a=some (.dT ws)):
  aG K (λb=>if b=a then none else H₀ b) (λb=>Bad b∨b=a) (env.set i none) σ (upd H a (.frz o (.dT ws)))∧∀b,Cln (λb=>Bad b∨b=a) (env.set i none) σ b↔Cln Bad env σ b:=by
 have cl:∀b,Cln (λb=>Bad b∨b=a) (env.set i none) σ b↔Cln Bad env σ b:=λb=>by
  constructor
  ·intro q
   refine⟨λz=>q.1 (.inl z),λj tj ej=> ?_⟩
   by_cases z:j=i
   ·subst z;rw[ea] at ej;cases ej;exact q.1 (.inr rfl)
   ·exact q.2 j (by rw[Gab (GaZ z)];exact tj) ej
  ·intro q
   refine⟨λz=> ?_,λj tj ej=>q.2 j (nN tj).2 ej⟩
   rcases z with z|z
   ·exact q.1 z
   ·subst z;exact q.2 i ti ea
 have na:¬Cln Bad env σ a:=λq=>q.2 i ti ea
 have dQ:iP (Cln Bad env σ) H (upd H a (.frz o (.dT ws))):=λb u hb q=>by
  have:b≠a:=by
   rcases q with q|q
   ·intro z;subst z;exact na q
   ·intro z;subst z;rw[hH] at hb;cases hb;exact q
  rw[ax this];exact hb
 have hF:∀b,Cln Bad env σ b→H b≠none→Cln (λb=>Bad b∨b=a) (env.set i none) σ b:=λb q _=>(cl b).mpr q
 refine⟨⟨λb u q=> ?_,by rw[GcH];exact E.len,λb q=> ?_,λj d q=> ?_,λj d q=> ?_,λj d q=> ?_,λj k b tj tk ej ek=> ?_⟩,cl⟩
 ·by_cases z:b=a
  ·subst z;rw[Gag rfl] at q;cases q
  ·rw[Gae z] at q
   rw[ax z];exact E.same b u q
 ·rcases q with q|q
  ·by_cases z:b=a
   ·subst z;rw[aK];simp
   ·rw[ax z];exact E.bad b q
  ·subst q;rw[aK];simp
 ·obtain⟨v,h1,h2⟩:=E.sh j d (jP q).2
  exact⟨v,h1,h2.gen dQ hF⟩
 ·have q' :j≠i∧(env[j]? =some (some (.own d))∨env[j]? =some (some (.lok d))):=by
   rcases q with q|q
   ·exact⟨(jP q).1,.inl (jP q).2⟩
   ·exact⟨(jP q).1,.inr (jP q).2⟩
  have tj:br env[j]? :=by rcases q'.2 with z|z<;>rw[z]<;>trivial
  obtain⟨a',h1,h2,h3,h4,h5,h6⟩:=E.ow j d q'.2
  have ne:a' ≠a:=λz=>sole j q'.1 tj (by rw[h1,z])
  refine⟨a',h1,by rw[Gae ne];exact h2,λz=>z.elim h3 ne, ?_,h5,h6.gen dQ hF λb eb _ u hu=> ?_⟩
  ·obtain⟨u,hu,wu⟩:=h4
   exact⟨u,by rw[ax ne];exact hu,wu⟩
  ·cases eb;rw[ax ne];exact hu
 ·have q' :=jP q
  have tj:br env[j]? :=by rw[q'.2];trivial
  obtain⟨a',h1,h4,h5,h6⟩:=E.bo j d q'.2
  have ne:a' ≠a:=λz=>sole j q'.1 tj (by rw[h1,z])
  refine⟨a',h1, ?_,h5,h6.gen dQ hF λb eb _ u hu=> ?_⟩
  ·obtain⟨u,hu,wu⟩:=h4
   exact⟨u,by rw[ax ne];exact hu,wu⟩
  ·cases eb;rw[ax ne];exact hu
 ·exact E.dj j k b (vZ tj).2 (nN tk).2 ej ek
theorem Rep.JQ{K:aD}{F:Addr→Prop}{H:Hp}{a:Addr}{o:Obj}{ws:List (List Key×V)}{d:D}{v:V}(hH:H a=some (.frz o (.dT ws)))(nf:¬F a)(r:Rep K F H d v):Rep K F (upd H a (.dT ws)) d v:=by
 induction r with
 |non=>exact .non
 |bl b=>exact .bl b
 |int i=>exact .int i
 |str x=>exact .str x
 | @tup b vs ds h l r ih=>
  refine .tup ?_ l ih
  rw[ax λz=>by subst z;rw[hH] at h;cases h];exact h
 | @lst b vs ds f h l r ih=>
  have ne:b≠a:=λz=>by subst z;exact nf f
  refine .lst f ?_ l ih
  rcases h with h| ⟨o',h⟩
  ·exact .inl (by rw[ax ne];exact h)
  ·exact .inr ⟨o',by rw[ax ne];exact h⟩
 | @scr b ns h=>
  refine .scr ?_
  rcases h with⟨o',h⟩|h
  ·exact .inl ⟨o',by rw[ax λz=>by subst z;rw[hH] at h;cases h];exact h⟩
  ·exact .inr h
 | @dK b ws' kvs f h l r ih=>exact .dK f (by rw[ax λz=>by subst z;exact nf f];exact h) l ih
 | @dT b ws' kvs f h l r ih=>exact .dT f (by rw[ax λz=>by subst z;exact nf f];exact h) l ih
theorem IF{H:Hp}{a:Addr}{K:aD}{F:Addr→Prop}{kvs:List (List Key×D)}(ii:Inn K F H (.dT kvs) (.ref a)):∃ws,H a=some (.dT ws)∧b7 K F H kvs ws:=by
 cases ii with
 |dT h r=>exact⟨_,h,r⟩
theorem CK{K:aD}{H₀:Hp}{Bad:Addr→Prop}{env:Env}{σ:St}{H:Hp}{i:Nat}{kvs:List (List Key×D)}(E:aG K H₀ Bad env σ H)(e:dictAt i env=some kvs):
  ∃a ws,br env[i]? ∧σ[i]? =some (some (.ref a))∧(∀j:Nat,j≠i→br env[j]? →σ[j]? ≠some (some (.ref a)))∧H a=some (.dT ws)∧b7 K (Cln Bad env σ) H kvs ws:=by
 unfold dictAt at e
 have own:∀{d:D},(env[i]? =some (some (.own d))∨env[i]? =some (some (.lok d)))→d= .dT kvs→∃a ws,br env[i]? ∧σ[i]? =some (some (.ref a))∧(∀j:Nat,j≠i→br env[j]? →σ[j]? ≠some (some (.ref a)))∧H a=some (.dT ws)∧b7 K (Cln Bad env σ) H kvs ws:=by
  intro d q hd
  subst hd
  obtain⟨a,h1,h2,h3,h4,h5,h6⟩:=E.ow i _ q
  obtain⟨ws,g1,g2⟩:=IF h6
  refine⟨a,ws,by rcases q with z|z<;>rw[z]<;>trivial,h1,λj hj tj ej=>hj (E.dj i j a (by rcases q with z|z<;>rw[z]<;>trivial) tj h1 ej).symm,g1,g2⟩
 split at e
 ·rename_i q;cases e;exact own (.inl q) rfl
 ·rename_i q;cases e;exact own (.inr q) rfl
 ·rename_i q
  split at e
  ·rename_i hs
   cases e
   obtain⟨a,h1,h4,h5,h6⟩:=E.bo i _ q
   obtain⟨ws,g1,g2⟩:=IF h6
   refine⟨a,ws,by rw[q];trivial,h1,λj hj tj ej=> ?_,g1,g2⟩
   have hlt:j<env.length:=by
    rcases Nat.lt_or_ge j env.length with z|z
    ·exact z
    ·rw[Gbn z] at tj;exact tj.elim
   have hsj:=Gat.mp hs j (GbD.mpr hlt)
   cases hq:env[j]? with
   |none=>rw[hq] at tj;exact tj.elim
   |some sl=>
    cases sl with
    |none=>rw[hq] at tj;exact tj.elim
    |some sl=>
     cases sl with
     |sh d=>rw[hq] at tj;exact tj.elim
     |own d=>exact hj (E.dj j i a (by rw[hq];trivial) (by rw[q];trivial) ej h1)
     |lok d=>exact hj (E.dj j i a (by rw[hq];trivial) (by rw[q];trivial) ej h1)
     |bor d=>rw[hq] at hsj;simp[hj] at hsj
  ·cases e
 ·cases e
theorem EO{tg iter elt:Expr}{ifs:List Expr}{scope:Scope}{N:List Str}{n i:Nat}{aT:List Nat}{gd:DG}{t:DT}{f:DE}{J:Addr→Obj→List (List Key×V)→It}{vw:List (List Key×D)→List D}(hc:X.calm=true)(S:k6 X scope N n aT)
  (hi:PI X tg iter (EK X J (L5 i)))(hv:AD J vw)(hgo:t8 gd)(B:Blk X scope N tg elt ifs gd t f)
  (hs:∀x,foldedSetIterable iter X.env x=pure x:=by intro _;rfl):PEd X (.ListComp elt [⟨tg,iter,ifs,0⟩] scope pos) (oD vw i n aT gd t f):=by
 intro pins s σ H Q I hw
 obtain⟨H₀,Bad,env,r,E,e,k⟩:=hw
 unfold oD at e
 obtain⟨kvs,hk,e⟩:=bind_some e
 split at e
 ·rename_i hz
  obtain⟨rs,hrs,rfl⟩:=Gam.mp e
  obtain⟨a,ws,ti,ea,sole,hH,rp⟩:=CK E hk
  obtain⟨cl,h1,h2,h3⟩:=mC (S.cells I)
  rw[eval_ListComp]
  refine wpAny_comprehension_free (use:=none) rfl hs h1 S.kind S.Es ?_
  refine thn (hi pins s σ H (λJ' H' =>∃o,(∀o u,X.H₀ a≠some (.frz o u))∧J' =J a o ws∧H' =upd H a (.frz o (.dT ws))) I ⟨.ref a,ea,a,ws,rfl,hH,λo hnf=> ⟨o,hnf,rfl,rfl⟩⟩) λv s1 q1=>thn q1 λitv s2 q2=> ?_
  obtain⟨it,fp,tn,J2,H2,e,I2,T,st2,f2,o,hnf,eJ,eH⟩:=q2
  subst e eJ eH
  obtain⟨E2,cl2⟩:=E.Mr (o:=o) ti ea sole hH
  have na:¬Cln Bad env σ a:=λq=>q.2 i ti ea
  have dQ:iP (Cln Bad env σ) H (upd H a (.frz o (.dT ws))):=λb u hb q=>by
   have:b≠a:=by
    rcases q with q|q
    ·intro z;subst z;exact na q
    ·intro z;subst z;rw[hH] at hb;cases hb;exact q
   rw[ax this];exact hb
  have io:Cu X.K (λb=>Cln (λb=>Bad b∨b=a) (env.set i none) σ b∧(upd H a (.frz o (.dT ws))) b≠none) (λb=>¬Ow (env.set i none) σ b) (J a o ws) (vw kvs) (upd H a (.frz o (.dT ws))):=
   hv (F:=Cln (λb=>Bad b∨b=a) (env.set i none) σ) aK (rp.gen dQ λb q _=>(cl2 b).mpr q) (λb u hb q=>by
    rcases q with q|q
    ·exactλ⟨j,h1,h2⟩=>q.2 j h1.ol.top h2
    ·exactλw=>E2.fO w hb q) λb q hb=> ⟨q,hb⟩
  refine tf (RR:=λacc C=>compPost (model X.prog X.w) X.A X.xe none (EP X pins σ Q) acc C) hc S I2 h2 h3 f2 T st2 (λC s' H' =>B.g cl C s' H' fp) (λC s' H' =>B.t cl C s' H' fp) (λC s' H' =>B.e cl C s' H' fp) E2 io hgo hz hrs ?_
  intro p C s' H' m IX hm hC hF G
  obtain⟨g1,g2,vs,g3,g4⟩:=G
  have hA:H' a=some (.frz o (.dT ws)):=g1 a _ aK
  have hpa:p≠a:=λz=>by subst z;rw[aK] at g2;cases g2
  refine⟨m,hm,λh' hs' => ⟨.ref p,upd H' a (.dT ws),(IX.IB hF hs').JQ hA hnf,rfl, ?_⟩⟩
  have sm:c0 H (upd H' a (.dT ws)):=λb u q=>by
   by_cases z:b=a
   ·subst z;rw[aK,←q,hH]
   ·rw[ax z];exact g1 b u (by rw[ax z];exact q)
  have g3' :(upd H' a (.dT ws)) p=some (.lst vs):=by rw[ax hpa];exact g3
  refine k _ _ sm ⟨p,rfl,by rw[ax hpa] at g2;exact g2,⟨_,g3',trivial⟩,rfl,.lst (.inl g3') ⟨g4.1,λj d v e1 e2=> ?_⟩⟩
  have r1:=Rep.JQ hA (λq=>na ((cl2 a).mp q.1)) (g4.2 j d v e1 e2)
  exact r1.imp λb q=> ⟨(cl2 b).mp q.1,q.2⟩
 ·cases e
theorem k9{elts:List Expr}{x1}{tp:Pos}{elt:Expr}{ifs:List Expr}{scope:Scope}{N:List Str}{n i:Nat}{aT:List Nat}{gd:DG}{t:DT}{f:DE}{x:Str}{px apos cpos:Pos}(hN:X.N[i]? =some x)(hv:Vis X.env.scope x)(hc:X.calm=true)(S:k6 X scope N n aT)
  (hgo:t8 gd)(B:Blk X scope N (.Tuple elts x1 tp) elt ifs gd t f)(hd:(x==("__debug__":Str))=false:=by decide)(hcd:(x==("__classdict__":Str))=false:=by decide)
  (hbase:attributeBase (.Name x px) "items" X.env (eval (.Name x px) X.env)=eval (.Name x px) X.env:=by rfl)(hline:(apos.endLine==cpos.line)=true:=by rfl)
  (hs:∀y,foldedSetIterable (.Call (.Attribute (.Name x px) "items" apos) [] [] cpos) X.env y=pure y:=by intro _;rfl):
  PEd X (.ListComp elt [⟨.Tuple elts x1 tp,.Call (.Attribute (.Name x px) "items" apos) [] [] cpos,ifs,0⟩] scope pos) (oD bM i n aT gd t f):=EO hc S (vY (kL hN hv hd hcd) hbase hline) qO hgo B hs
end
section
variable{prog:Program}{w:World}{A:Around}{E:Value→Shared→Prop}{s:Shared}{es:Array DictEntry}{ep:Nat}
def Prs(es:Array DictEntry)(lo:Addr)(h:Heap)(as:List Addr):Prop:=as.Nodup∧∀(j:Nat) (a:Addr),as[j]? =some a→lo<a∧∃en,es[j]? =some en∧h.get? a=some {cls:= .type "tuple",data:= .seq #[en.key,en.val]}
theorem Prs.at{lo:Addr}{h h' :Heap}{as:List Addr}(x:Prs es lo h as)(k:∀a o,lo<a→h.get? a=some o→h'.get? a=some o):Prs es lo h' as:=
 ⟨x.1,λj a e=>let⟨l,en,q,r⟩:=x.2 j a e;⟨l,en,q,k a _ l r⟩⟩
theorem Prs.snoc{lo a:Addr}{h:Heap}{as:List Addr}{en:DictEntry}(x:Prs es lo h as)(e:es[as.length]? =some en)(l:lo<a)(n:a∉as)(t:h.get? a=some {cls:= .type "tuple",data:= .seq #[en.key,en.val]}):Prs es lo h (as++[a]):=by
 refine⟨by rw[GcX];exact⟨x.1,by simp,λb hb c hc q=>n (by simp at hc;rwa[←hc,←q])⟩,λj b hj=> ?_⟩
 rw[List.getElem?_append] at hj
 split at hj
 ·exact x.2 j b hj
 ·rw[List.getElem?_singleton] at hj
  split at hj
  ·cases hj
   have:j=as.length:=by omega
   exact⟨l,en,this▸e,t⟩
  ·cases hj
theorem Prs.lt{lo a:Addr}{h:Heap}{as:List Addr}(x:Prs es lo h as)(m:a∈as):a<h.objs.size:=by
 obtain⟨j,hj⟩:=Gbx.mp m
 obtain⟨_,_,_,q⟩:=x.2 j a hj
 exact Gaz q
end
open PySem.W (KatLex KatTups kas_sort kas_ask kat_kind kat_lt kat_one kat_run kat_snds BoolBack kat_lt_int)
structure qP(K:aD)(Bad:Addr→Prop)(env:Env)(σ:St)(H:Hp)(i:Nat)(p:Addr)(as:List Addr)(rows:List (List D)):Prop where
 at_:σ[i]? =some (some (.ref p))
 hid:env[i]? =some none
 top:H p=some (.lst (as.map V.ref))
 nd:(p::as).Nodup
 len:as.length=rows.length
 row:∀(k:Nat) a ds,as[k]? =some a→rows[k]? =some ds→∃vs,H a=some (.lst vs)∧aX K (Cln Bad env σ) H ds vs
 bad:∀b∈p::as,Bad b
structure Hq(as:List Addr)(env:Env)(σ:St)(H:Hp)(env' :Env)(σ' :St)(H' :Hp):Prop where
 keep:∀b o,H b=some o→¬Ow env σ b→b∉as→H' b=some o
 ow:∀b,Ow env' σ' b→Ow env σ b∨H b=none
 lk:∀i:Nat,uk env'[i]? →env'[i]? =env[i]? ∧σ'[i]? =σ[i]?
 th:∀b∈as,H' b≠none
section
variable{K:aD}{H₀ H H' H1:Hp}{Bad Bad' :Addr→Prop}{env env' :Env}{σ σ' :St}{d:D}{v:V}{a p:Addr}{i j:Nat}{as:List Addr}{rows:List (List D)}
theorem qP.mono(N:qP K Bad env σ H i p as rows)(s:c0 H H'):qP K Bad env σ H' i p as rows where
 at_:=N.at_
 hid:=N.hid
 top:=s _ _ N.top
 nd:=N.nd
 len:=N.len
 row:=λk a ds h1 h2=>let⟨vs,h3,h4⟩:=N.row k a ds h1 h2;⟨vs,s _ _ h3,h4.gen (.of_same s) λ_ f _=>f⟩
 bad:=N.bad
theorem CL{b:Addr}(h:Cln Bad env σ b):Cln Bad (env.set j (some (.sh d))) (σ.set j (some v)) b:=⟨h.1,λk t e=>by
 obtain⟨q,t⟩:=gr t
 rw[Gab q] at e
 exact h.2 k t e⟩
theorem qP.kY(N:qP K Bad env σ H i p as rows)(hij:i≠j):qP K Bad (env.set j (some (.sh d))) (σ.set j (some v)) H i p as rows where
 at_:=by rw[Gab (GaZ hij)];exact N.at_
 hid:=by rw[Gab (GaZ hij)];exact N.hid
 top:=N.top
 nd:=N.nd
 len:=N.len
 row:=λk a ds h1 h2=>let⟨vs,h3,h4⟩:=N.row k a ds h1 h2;⟨vs,h3,h4.gen (.of_same λ_ _ e=>e) λ_ f _=>CL f⟩
 bad:=N.bad
theorem qP.there(N:qP K Bad env σ H i p as rows):∀b∈as,H b≠none:=λb hb=>by
 obtain⟨k,hk⟩:=Gbx.mp hb
 have hk' :k<rows.length:=by rw[←N.len];exact(Gac.mp hk).1
 obtain⟨vs,h,_⟩:=N.row k b rows[k] hk (Gaa hk')
 rw[h];simp
theorem Hq.trans{e1 e2 e3:Env}{s1 s2 s3:St}{H1 H2 H3:Hp}(a:Hq as e1 s1 H1 e2 s2 H2)(b:Hq as e2 s2 H2 e3 s3 H3):Hq as e1 s1 H1 e3 s3 H3:=by
 refine⟨λc o e n na=>b.keep c o (a.keep c o e n na) (λh=> ?_) na,λc h=> ?_,λi h=> ?_,b.th⟩
 ·rcases a.ow c h with q|q
  ·exact n q
  ·rw[e] at q;cases q
 ·rcases b.ow c h with q|q
  ·exact a.ow c q
  ·by_cases z:Ow e1 s1 c
   ·exact .inl z
   ·right
    cases e:H1 c with
    |none=>rfl
    |some o=>
     by_cases m:c∈as
     ·exact absurd q (a.th c m)
     ·rw[a.keep c o e z m] at q;cases q
 ·obtain⟨h1,h2⟩:=b.lk i h
  rw[h1] at h
  obtain⟨h3,h4⟩:=a.lk i h
  exact⟨h1.trans h3,h2.trans h4⟩
theorem ER(nb:Bh env=true){k:Nat}(e:env[k]? =some (some (.bor d))):False:=by
 have:=Gat.mp nb _ (GaL e)
 cases this
theorem aG.ES{o o' :HO}(E:aG K H₀ Bad env σ H)(hb:Bad a)(h0:H₀ a=none)(h:H a=some o)(ho:¬isT o)(nb:Bh env=true):aG K H₀ Bad env σ (upd H a o'):=by
 have dQ:iP (Cln Bad env σ) H (upd H a o'):=λb x hx q=>by
  have:b≠a:=by
   rintro rfl
   rcases q with q|q
   ·exact q.1 hb
   ·rw[h] at hx;cases hx;exact ho q
  rw[ax this];exact hx
 refine⟨λb x hx=> ?_,E.len,λb q z=> ?_,λk dk e=> ?_,λk dk e=> ?_,λk dk e=>(ER nb e).elim,E.dj⟩
 ·have:b≠a:=by rintro rfl;rw[h0] at hx;cases hx
  rw[ax this];exact E.same b x hx
 ·by_cases m:b=a
  ·subst m;rw[aK] at z;cases z
  ·rw[ax m] at z;exact E.bad b q z
 ·obtain⟨u,h1,h2⟩:=E.sh k dk e
  exact⟨u,h1,h2.gen dQ λ_ f _=>f⟩
 ·obtain⟨b,h1,h2,h3,h4,h5,h6⟩:=E.ow k dk e
  have m:b≠a:=λz=>h3 (z▸hb)
  refine⟨b,h1,h2,h3, ?_,h5,h6.gen dQ (λ_ f _=>f) λc ec _ x hx=> ?_⟩
  ·unfold Wr;rw[ax m];exact h4
  ·cases ec;rw[ax m];exact hx
theorem qP.app{vs:List V}{ds:List D}{k:Nat}(N:qP K Bad env σ H i p as rows)(ha:as[k]? =some a)(hd:rows[k]? =some ds)(hv:H a=some (.lst vs))(rp:aX K (Cln Bad env σ) H (ds++[d]) (vs++[v])):qP K Bad env σ (upd H a (.lst (vs++[v]))) i p as (rows.set k (ds++[d])):=by
 have ba:Bad a:=N.bad a (Gaf _ (GaL ha))
 have dQ:iP (Cln Bad env σ) H (upd H a (.lst (vs++[v]))):=λb x hx q=>by
  have:b≠a:=by
   rintro rfl
   rcases q with q|q
   ·exact q.1 ba
   ·rw[hv] at hx;cases hx;exact q
  rw[ax this];exact hx
 have hpa:p≠a:=by
  rintro rfl
  exact(GbG.mp N.nd).1 (GaL ha)
 refine⟨N.at_,N.hid,by rw[ax hpa];exact N.top,N.nd,by rw[GcH];exact N.len,λk' a' ds' h1 h2=> ?_,N.bad⟩
 by_cases q:k=k'
 ·subst q
  rw[ha] at h1;cases h1
  rw[GaN (Gac.mp hd).1] at h2
  cases h2
  exact⟨_,aK,rp.gen dQ λ_ f _=>f⟩
 ·rw[Gab q] at h2
  obtain⟨us,h3,h4⟩:=N.row k' a' ds' h1 h2
  have na:a' ≠a:=by
   rintro rfl
   have l1:=(Gac.mp ha)
   have l2:=(Gac.mp h1)
   exact q ((List.getElem_inj (GbG.mp N.nd).2).mp (l1.2.trans l2.2.symm))
  exact⟨us,by rw[ax na];exact h3,h4.gen dQ λ_ f _=>f⟩
theorem aG.hide(E:aG K H₀ Bad env σ H)(i:Nat)(v:V):aG K H₀ Bad (env.set i none) (σ.set i (some v)) H:=by
 have tops:∀{k:Nat},br (env.set i none)[k]? →i≠k∧br env[k]? :=λ{k} t=>by
  by_cases q:i=k
  ·subst q
   by_cases z:i<env.length
   ·rw[cA z] at t;exact t.elim
   ·rw[Gbn (by simpa using Nat.le_of_not_lt z)] at t;exact t.elim
  ·rw[Gab q] at t
   exact⟨q,t⟩
 have cln:∀b,Cln Bad env σ b→Cln Bad (env.set i none) (σ.set i (some v)) b:=λb h=> ⟨h.1,λk t e=>by
  obtain⟨q,t⟩:=tops t
  rw[Gab q] at e
  exact h.2 k t e⟩
 refine⟨E.same,by simp[E.len],E.bad,λk dk e=> ?_,λk dk e=> ?_,λk dk e=> ?_,λk l b t1 t2 e1 e2=> ?_⟩
 ·rcases get_set e with⟨q,e⟩| ⟨q,e⟩
  ·cases e
  ·obtain⟨u,h1,h2⟩:=E.sh k dk e
   exact⟨u,by rw[Gab q];exact h1,h2.imp cln⟩
 ·have e' :i≠k∧(env[k]? =some (some (.own dk))∨env[k]? =some (some (.lok dk))):=by
   rcases e with e|e
   ·rcases get_set e with⟨q,e⟩| ⟨q,e⟩
    ·cases e
    ·exact⟨q,.inl e⟩
   ·rcases get_set e with⟨q,e⟩| ⟨q,e⟩
    ·cases e
    ·exact⟨q,.inr e⟩
  obtain⟨b,h1,h2,h3,h4,h5,h6⟩:=E.ow k dk e'.2
  exact⟨b,by rw[Gab e'.1];exact h1,h2,h3,h4,h5,h6.imp cln⟩
 ·rcases get_set e with⟨q,e⟩| ⟨q,e⟩
  ·cases e
  ·obtain⟨b,h1,hw,h2,h3⟩:=E.bo k dk e
   exact⟨b,by rw[Gab q];exact h1,hw,h2,h3.imp cln⟩
 ·obtain⟨q1,t1'⟩:=tops t1.top
  obtain⟨q2,t2⟩:=tops t2
  rw[Gab q1] at e1 t1
  rw[Gab q2] at e2
  exact E.dj k l b t1 t2 e1 e2
theorem aG.BB{New:Addr→Prop}(E:aG K H₀ Bad env σ H)(s:c0 H H')(h1:∀b,New b→H b=none)(h2:∀b,New b→H' b≠none):aG K H₀ (λb=>Bad b∨New b) env σ H' :=by
 have cln:∀b,Cln Bad env σ b→H b≠none→Cln (λb=>Bad b∨New b) env σ b:=λb h n=> ⟨λq=>q.elim h.1 λz=>n (h1 b z),h.2⟩
 refine⟨E.same.trans s,E.len,λb q z=>q.elim (λq=>E.bad b q (s.free z)) λq=>h2 b q z,λk dk e=> ?_,λk dk e=> ?_,λk dk e=> ?_,E.dj⟩
 ·obtain⟨u,q1,q2⟩:=E.sh k dk e
  exact⟨u,q1,q2.gen (.of_same s) cln⟩
 ·obtain⟨b,q1,q2,q3,q4,q5,q6⟩:=E.ow k dk e
  exact⟨b,q1,q2,λz=>z.elim q3 λz=>q4.there (h1 b z),q4.same s,q5,q6.gen (.of_same s) cln λc ec _ x hx=>s c x hx⟩
 ·obtain⟨b,q1,qw,q2,q3⟩:=E.bo k dk e
  exact⟨b,q1,qw.same s,q2,q3.gen (.of_same s) cln λc ec _ x hx=>s c x hx⟩
end
open PySem PyProof.Rows
noncomputable abbrev SM:=StateT SortSt Sem
noncomputable def kD:Bool→Keyed→Array Keyed→Nat→Nat→Nat→SM (Option Nat):=sortPriv%PySem.Builtin.gallop
noncomputable def Hr(far:Nat→SM (Option Bool))(n l0 r0:Nat):SM (Option Nat):=do
 let mut lo:=l0
 let mut hi:=r0
 for _ in [0:n] do
  if lo≥hi then break
  let md:=lo+(hi -lo)/2
  let some mo←far md|return none
  if mo then lo:=md+1 else hi:=md
 return some hi
noncomputable def JS(far:Nat→SM (Option Bool))(n h0:Nat):SM (Option Nat):=do
 let some rt←far h0|return none
 if rt then
  let mut lst:=0
  let mut nxt:=1
  for _ in [0:n] do
   if nxt≥n -h0 then break
   let some mo←far (h0+nxt)|return none
   if !mo then break
   lst:=nxt
   nxt:=2*nxt+1
  Hr far n (h0+lst+1) (h0+min nxt (n -h0))
 else
  let mut lst:=0
  let mut nxt:=1
  for _ in [0:n] do
   if nxt≥h0+1 then break
   let some fd←far (h0 -nxt)|return none
   if fd then break
   lst:=nxt
   nxt:=2*nxt+1
  Hr far n (h0+1 -min nxt (h0+1)) (h0 -lst)
noncomputable def IG(lf:Bool)(kx:Keyed)(xs:Array Keyed)(b0 u:Nat):SM (Option Bool):=do
 let y←elem' xs (b0+u)
 if lf then lt' y kx else return(←lt' kx y).map (!·)
theorem ET(lf:Bool)(kx:Keyed)(xs:Array Keyed)(b0 n h0:Nat):kD lf kx xs b0 n h0=JS (IG lf kx xs b0) n h0:=rfl
theorem dI{M:Model}{A:Around}{E:Value→Shared→Prop}{s:Shared}{σ α:Type}{c:Prop}{_:Decidable c}{x y:StateT σ Sem α}{Q:α→σ→Prop}{st:σ}(h1:c→wpS M A E s x Q st)(h2:¬c→wpS M A E s y Q st):wpS M A E s (if c then x else y) Q st:=by
 by_cases h:c
 ·rw[Gag h];exact h1 h
 ·rw[Gae h];exact h2 h
section
variable{M:Model}{A:Around}{E:Value→Shared→Prop}{s:Shared}{st:SortSt}{far:Nat→SM (Option Bool)}{n:Nat}{B:Nat→Bool}{Q:Option Nat→SortSt→Prop}
def Cut(B:Nat→Bool)(n k:Nat):Prop:=k≤n∧(∀u,u<k→B u=true)∧∀u,k≤u→u<n→B u=false
theorem BC{lo hi:Nat}(hf:∀u,u<n→∀R:Option Bool→SortSt→Prop,R (some (B u)) st→wpS M A E s (far u) R st)(mB:∀u v,u≤v→v<n→B v=true→B u=true)(h1:lo≤hi)(h2:hi≤n)
  (hlo:∀u,u<lo→B u=true)(hhi:∀u,hi≤u→u<n→B u=false)(h:∀k,Cut B n k→Q (some k) st):wpS M A E s (Hr far n lo hi) Q st:=by
 unfold Hr
 refine Gai (Gbr (Gbf (I:=λi c z=>z=st∧∃lo hi,c=(none,lo,hi)∧lo≤hi∧hi≤n∧hi -lo≤n -i∧(∀u,u<lo→B u=true)∧(∀u,hi≤u→u<n→B u=false))
  (Q:=λc z=>z=st∧∃lo hi,c=(none,lo,hi)∧Cut B n hi) ?step ?fin ⟨rfl,lo,hi,rfl,h1,h2,by omega,hlo,hhi⟩) ?post)
 case fin=>
  rintro c z ⟨rfl,lo,hi,rfl,q1,q2,q3,q4,q5⟩
  have:lo=hi:=by
   have:max 0 n=n:=by omega
   omega
  subst this
  exact⟨rfl,_,_,rfl,q2,q4,q5⟩
 case step=>
  rintro i c z _ hi' ⟨rfl,lo,hi,rfl,q1,q2,q3,q4,q5⟩
  dsimp only
  by_cases g:lo≥hi
  ·rw[Gag g]
   have:lo=hi:=by omega
   subst this
   exact Gao ⟨rfl,_,_,rfl,q2,q4,q5⟩
  ·rw[Gae g]
   refine Gai (hf _ (by omega) _ ?_)
   dsimp only
   cases b:B (lo+(hi -lo)/2) with
   |true=>
    simp only[Gbq]
    exact Gao ⟨rfl,_,_,rfl,by omega,q2,by omega,λu hu=>mB u _ (by omega) (by omega) b,q5⟩
   |false=>
    simp only[GaD,Gbg]
    refine Gao ⟨rfl,_,_,rfl,by omega,by omega,by omega,q4,λu hu hn=> ?_⟩
    cases b' :B u with
    |false=>rfl
    |true=>rw[mB _ u hu hn b'] at b;cases b
 case post=>
  rintro c z ⟨rfl,lo,hi,rfl,q⟩
  exact Gao (h hi q)
theorem Hs{h0:Nat}(hf:∀u,u<n→∀R:Option Bool→SortSt→Prop,R (some (B u)) st→wpS M A E s (far u) R st)(mB:∀u v,u≤v→v<n→B v=true→B u=true)(hh:h0<n)
  (h:∀k,Cut B n k→Q (some k) st):wpS M A E s (JS far n h0) Q st:=by
 unfold JS
 refine Gai (hf _ hh _ ?_)
 dsimp only
 cases b:B h0 with
 |true=>
  simp only[Gbq]
  refine Gai (Gbr (Gbf (I:=λi c z=>z=st∧∃l o,c=(none,l,o)∧l<o∧l<n -h0∧i+1≤o∧B (h0+l)=true)
   (Q:=λc z=>z=st∧∃l o,c=(none,l,o)∧l<o∧l<n -h0∧B (h0+l)=true∧(o≥n -h0∨B (h0+o)=false)) ?step ?fin ⟨rfl,0,1,rfl,by omega,by omega,by omega,b⟩) ?post)
  case fin=>
   rintro c z ⟨rfl,l,o,rfl,q1,q2,q3,q4⟩
   exact⟨rfl,l,o,rfl,q1,q2,q4,.inl (by omega)⟩
  case step=>
   rintro i c z _ hi' ⟨rfl,l,o,rfl,q1,q2,q3,q4⟩
   dsimp only
   by_cases g:o≥n -h0
   ·rw[Gag g]
    exact Gao ⟨rfl,l,o,rfl,q1,q2,q4,.inl g⟩
   ·rw[Gae g]
    refine Gai (hf _ (by omega) _ ?_)
    dsimp only
    cases b' :B (h0+o) with
    |false=>
     simp only[Bool.not_false,Gbq]
     exact Gao ⟨rfl,l,o,rfl,q1,q2,q4,.inr b'⟩
    |true=>
     simp only[Gdd,GaD,Gbg]
     exact Gao ⟨rfl,o,2*o+1,rfl,by omega,by omega,by omega,b'⟩
  case post=>
   rintro c z ⟨rfl,l,o,rfl,q1,q2,q3,q4⟩
   dsimp only
   refine BC hf mB (by omega) (by omega) (λu hu=>mB u (h0+l) (by omega) (by omega) q3) (λu hu hn=> ?_) h
   rcases q4 with q4|q4
   ·omega
   ·by_cases w:o≥n -h0
    ·omega
    ·cases b' :B u with
     |false=>rfl
     |true=>rw[mB (h0+o) u (by omega) hn b'] at q4;cases q4
 |false=>
  simp only[GaD,Gbg]
  refine Gai (Gbr (Gbf (I:=λi c z=>z=st∧∃l o,c=(none,l,o)∧l<o∧l<h0+1∧i+1≤o∧B (h0 -l)=false)
   (Q:=λc z=>z=st∧∃l o,c=(none,l,o)∧l<o∧l<h0+1∧B (h0 -l)=false∧(o≥h0+1∨B (h0 -o)=true)) ?step ?fin ⟨rfl,0,1,rfl,by omega,by omega,by omega,b⟩) ?post)
  case fin=>
   rintro c z ⟨rfl,l,o,rfl,q1,q2,q3,q4⟩
   exact⟨rfl,l,o,rfl,q1,q2,q4,.inl (by omega)⟩
  case step=>
   rintro i c z _ hi' ⟨rfl,l,o,rfl,q1,q2,q3,q4⟩
   dsimp only
   by_cases g:o≥h0+1
   ·rw[Gag g]
    exact Gao ⟨rfl,l,o,rfl,q1,q2,q4,.inl g⟩
   ·rw[Gae g]
    refine Gai (hf _ (by omega) _ ?_)
    dsimp only
    cases b' :B (h0 -o) with
    |true=>
     simp only[Gbq]
     exact Gao ⟨rfl,l,o,rfl,q1,q2,q4,.inr b'⟩
    |false=>
     simp only[GaD,Gbg]
     exact Gao ⟨rfl,o,2*o+1,rfl,by omega,by omega,by omega,b'⟩
  case post=>
   rintro c z ⟨rfl,l,o,rfl,q1,q2,q3,q4⟩
   dsimp only
   refine BC hf mB (by omega) (by omega) (λu hu=> ?_) (λu hu hn=> ?_) h
   ·rcases q4 with q4|q4
    ·omega
    ·by_cases w:o≥h0+1
     ·omega
     ·exact mB u (h0 -o) (by omega) (by omega) q4
   ·cases b' :B u with
    |false=>rfl
    |true=>rw[mB (h0 -l) u (by omega) hn b'] at q3;cases q3
end
open PySem.W (kas_item)
noncomputable def qQ:Nat→SM Unit:=sortPriv%PySem.Builtin.setMinGallop
theorem nO(g:Nat):qQ g=modify (λz=>SortSt.mk' (kindOf z) (arrOf z) (pendingOf z) g (failedOf z)):=rfl
def Srt(rk:Nat→Int)(p:List Nat):Prop:=p.Pairwise λx y=>rk x≤rk y
def i5(prog:Program)(w:World)(A:Around)(s:Shared)(κ:SortKind)(it:Array Keyed)(rk:Nat→Int):Prop:=
 ∀i j,i<it.size→j<it.size→∀C:Bool→Shared→Prop,C (decide (rk i<rk j)) s→wpAny (model prog w) A (keyLt' κ (kas_item it i).1 (kas_item it j).1) C (λ_ _=>False) s
def b9(it:Array Keyed)(a:Array Keyed)(p:List Nat):Prop:=a=(p.map (kas_item it)).toArray∧∀i∈p,i<it.size
def bD(z z' :SortSt):Prop:=kindOf z' =kindOf z∧arrOf z' =arrOf z∧pendingOf z' =pendingOf z∧failedOf z' =failedOf z
theorem bD.refl{z:SortSt}:bD z z:=⟨rfl,rfl,rfl,rfl⟩
theorem bD.trans{x y z:SortSt}(a:bD x y)(b:bD y z):bD x z:=⟨b.1.trans a.1,b.2.1.trans a.2.1,b.2.2.1.trans a.2.2.1,b.2.2.2.trans a.2.2.2⟩
section
variable{it:Array Keyed}{a b:Array Keyed}{p q:List Nat}
theorem b9.size(R:b9 it a p):a.size=p.length:=by rw[R.1];simp
theorem b9.get{k i:Nat}(R:b9 it a p)(h:p[k]? =some i):a[k]? =some (kas_item it i):=by rw[R.1];simp[h]
theorem b9.lt{k i:Nat}(R:b9 it a p)(h:p[k]? =some i):i<it.size:=R.2 i (GaL h)
theorem b9.push{i:Nat}(R:b9 it a p)(hi:i<it.size):b9 it (a.push (kas_item it i)) (p++[i]):=⟨by rw[R.1];simp,λj hj=>by
 rcases Gax.mp hj with h|h
 ·exact R.2 j h
 ·simp at h;subst h;exact hi⟩
theorem b9.append(R:b9 it a p)(S:b9 it b q):b9 it (a++b) (p++q):=⟨by rw[R.1,S.1];simp,λj hj=>(Gax.mp hj).elim (R.2 j) (S.2 j)⟩
theorem b9.sub(R:b9 it a p){l:List Nat}(h:∀x∈l,x∈p){c:Array Keyed}(e:c=(l.map (kas_item it)).toArray):b9 it c l:=⟨e,λj hj=>R.2 j (h j hj)⟩
theorem b9.extract(R:b9 it a p)(i j:Nat):b9 it (a.extract i j) ((p.drop i).take (j -i)):=by
 refine R.sub (λx hx=>Gbs (Gbm hx)) ?_
 apply Gck.mp
 rw[R.1]
 simp[List.map_take,Gdv,List.extract_eq_take_drop]
theorem b9.drop(R:b9 it a p)(i:Nat):b9 it (a.extract i a.size) (p.drop i):=by
 have:=R.extract i a.size
 rw[R.size,Gbu (by simp)] at this
 rw[R.size];exact this
theorem b9.reverse(R:b9 it a p):b9 it a.reverse p.reverse:=by
 refine R.sub (λx hx=>GbO.mp hx) ?_
 rw[R.1];simp
end
section
variable{prog:Program}{w:World}{A:Around}{E:Value→Shared→Prop}{s:Shared}{st:SortSt}{κ:SortKind}{it:Array Keyed}{rk:Nat→Int}
theorem w6{i j:Nat}{Q:Option Bool→SortSt→Prop}(hA:i5 prog w A s κ it rk)(hk:kindOf st=κ)(hi:i<it.size)(hj:j<it.size)(h:Q (some (decide (rk i<rk j))) st):wpS (model prog w) A E s (lt' (kas_item it i) (kas_item it j)) Q st:=by
 rw[lt'_eq]
 refine Gai (GcC ?_)
 rw[hk]
 refine Gai (wpS_lift (wpAny_attempt (GbK (hA i j hi hj (λb z=>z=s∧b=decide (rk i<rk j)) ⟨rfl,rfl⟩) (λb z hb=> ⟨hb.1, ?_⟩) λ_ _ f=>f.elim)))
 rw[hb.2]
 exact Gao h
theorem bF{a:Array Keyed}{p:List Nat}{k i:Nat}{Q:Keyed→SortSt→Prop}(R:b9 it a p)(hk:p[k]? =some i)(h:Q (kas_item it i) st):wpS (model prog w) A E s (elem' a k) Q st:=by
 rw[elem'_eq,R.get hk]
 exact Gao h
theorem qp{l:List Nat}(h:Srt rk l):∀{u v x y:Nat},u≤v→l[u]? =some x→l[v]? =some y→rk x≤rk y:=by
 intro u v x y huv hx hy
 rcases Nat.lt_or_ge u v with c|c
 ·obtain⟨h1,rfl⟩:=Gac.mp hx
  obtain⟨h2,rfl⟩:=Gac.mp hy
  exact Gcf.mp h u v h1 h2 c
 ·have:u=v:=by omega
  subst this
  rw[hx] at hy;cases hy;exact GbC _
theorem oK{lf:Bool}{xs:Array Keyed}{ps:List Nat}{ik b0 n h0:Nat}{Q:Option Nat→SortSt→Prop}(hA:i5 prog w A s κ it rk)(hk:kindOf st=κ)(R:b9 it xs ps)(hi:ik<it.size)(hn:b0+n≤ps.length)(hs:Srt rk ((ps.drop b0).take n))(hh:h0<n)
  (h:∀k,k≤n→(∀x∈((ps.drop b0).take n).take k,if lf=true then rk x<rk ik else rk x≤rk ik)→(∀x∈((ps.drop b0).take n).drop k,if lf=true then rk ik≤rk x else rk ik<rk x)→Q (some k) st):
  wpS (model prog w) A E s (kD lf (kas_item it ik) xs b0 n h0) Q st:=by
 rw[ET]
 have len:((ps.drop b0).take n).length=n:=by simp;omega
 have at_:∀u,u<n→∃x,((ps.drop b0).take n)[u]? =some x∧ps[b0+u]? =some x:=λu hu=>by
  have h1:u<((ps.drop b0).take n).length:=by rw[len];exact hu
  refine⟨((ps.drop b0).take n)[u],Gaa h1, ?_⟩
  have:=Gaa h1
  rw[GaT hu,Gbh] at this
  exact this
 have fin:∀B:Nat→Bool,(∀u x,((ps.drop b0).take n)[u]? =some x→B u=if lf=true then decide (rk x<rk ik) else !decide (rk ik<rk x))→∀k,Cut B n k→Q (some k) st:=by
  intro B hB k ⟨c1,c2,c3⟩
  refine h k c1 (λx hx=> ?_) (λx hx=> ?_)
  ·obtain⟨u,hu⟩:=Gbx.mp hx
   have hu' :u<k:=by have:=(Gac.mp hu).1;simp at this;omega
   rw[GaT hu'] at hu
   have b:=c2 u hu'
   rw[hB u x hu] at b
   cases lf with
   |true=>simpa using b
   |false=>simpa using b
  ·obtain⟨u,hu⟩:=Gbx.mp hx
   rw[Gbh] at hu
   have hu' :k+u<n:=by have:=(Gac.mp hu).1;rw[len] at this;exact this
   have b:=c3 (k+u) (by omega) hu'
   rw[hB _ x hu] at b
   cases lf with
   |true=>simpa using b
   |false=>simpa using b
 refine Hs (B:=λu=>if lf=true then decide (rk (((ps.drop b0).take n).getD u 0)<rk ik) else !decide (rk ik<rk (((ps.drop b0).take n).getD u 0))) (λu hu R' hR=> ?_) (λu v huv hv b=> ?_) hh (fin _ λu x hx=>by simp[List.getD,hx])
 ·obtain⟨x,h1,h2⟩:=at_ u hu
  have e:((ps.drop b0).take n).getD u 0=x:=by simp[List.getD,h1]
  simp only[e] at hR
  unfold IG
  refine Gai (bF R h2 ?_)
  cases lf with
  |true=>
   simp only[Gbq] at hR⊢
   exact w6 hA hk (R.lt h2) hi hR
  |false=>
   simp only[GaD,Gbg] at hR⊢
   exact Gai (w6 hA hk hi (R.lt h2) (Gao hR))
 ·obtain⟨x,h1,_⟩:=at_ u (by omega)
  obtain⟨y,h2,_⟩:=at_ v hv
  have e1:((ps.drop b0).take n).getD u 0=x:=by simp[List.getD,h1]
  have e2:((ps.drop b0).take n).getD v 0=y:=by simp[List.getD,h2]
  have le:=qp hs huv h1 h2
  simp only[e1,e2] at b⊢
  cases lf with
  |true=>simp at b⊢;omega
  |false=>simp at b⊢;omega
end
noncomputable def JT:Array Keyed→Array Keyed→SM (Array Keyed):=sortPriv%PySem.Builtin.mergeLo
theorem Ht(a b:Array Keyed):JT a b=(do
 rule "list.sort.merge-lo"
 let tot:=a.size+b.size
 let fin (o:Array Keyed) (u v:Nat):=o++a.extract u a.size++b.extract v b.size
 let las (o:Array Keyed) (u v:Nat):=o++b.extract v b.size++a.extract u a.size
 let mut o:Array Keyed:=#[←elem' b 0]
 let mut u:=0
 let mut v:=1
 if v==b.size then return fin o u v
 if u+1==a.size then return las o u v
 let mut mg:=gallopOf (←get)
 for _ in [0:tot] do
  let mut ca:=0
  let mut cb:=0
  for _ in [0:tot] do
   let some w←lt' (←elem' b v) (←elem' a u)|return fin o u v
   if w then
    o:=o.push (←elem' b v);v:=v+1;cb:=cb+1;ca:=0
    if v==b.size then return fin o u v
    if cb≥mg then break
   else
    o:=o.push (←elem' a u);u:=u+1;ca:=ca+1;cb:=0
    if u+1==a.size then return las o u v
    if ca≥mg then break
  rule "list.sort.gallop"
  mg:=mg+1
  for _ in [0:tot] do
   if mg>1 then mg:=mg -1
   qQ mg
   let some k←kD false (←elem' b v) a u (a.size -u) 0|return fin o u v
   ca:=k
   if k>0 then
    o:=o++a.extract u (u+k);u:=u+k
    if u+1==a.size then return las o u v
    if u==a.size then return fin o u v
   o:=o.push (←elem' b v);v:=v+1
   if v==b.size then return fin o u v
   let some k←kD true (←elem' a u) b v (b.size -v) 0|return fin o u v
   cb:=k
   if k>0 then
    o:=o++b.extract v (v+k);v:=v+k
    if v==b.size then return fin o u v
   o:=o.push (←elem' a u);u:=u+1
   if u+1==a.size then return las o u v
   if ca<7&&cb<7 then break
  mg:=mg+1
  qQ mg
 unsupported "internal:list.sort.merge-bound"):=rfl
noncomputable abbrev AE:=Option (Array Keyed)×Array Keyed×Nat×Nat×Nat×Nat×Nat
noncomputable def loC(a b:Array Keyed)(mg ca cb:Nat)(o:Array Keyed)(u v:Nat):SM (ForInStep AE):=do
 let e←elem' a u
 if(u+1+1==a.size)=true then pure (.done (some (o.push e++b.extract v b.size++a.extract (u+1) a.size),o.push e,u+1,v,mg,ca,cb))
 else if(decide (ca<7)&&decide (cb<7))=true then pure (.done (none,o.push e,u+1,v,mg,ca,cb))
 else pure (.yield (none,o.push e,u+1,v,mg,ca,cb))
noncomputable def loB(a b:Array Keyed)(mg ca cb:Nat)(o:Array Keyed)(u v:Nat):SM (ForInStep AE):=do
 let e←elem' b v
 if(v+1==b.size)=true then pure (.done (some (o.push e++a.extract u a.size++b.extract (v+1) b.size),o.push e,u,v+1,mg,ca,cb))
 else do
  let e2←elem' a u
  let f←kD true e2 b (v+1) (b.size -(v+1)) 0
  match f with
  |some k=>
   if k>0 then
    if(v+1+k==b.size)=true then pure (.done (some (o.push e++b.extract (v+1) (v+1+k)++a.extract u a.size++b.extract (v+1+k) b.size),o.push e++b.extract (v+1) (v+1+k),u,v+1+k,mg,ca,k))
    else loC a b mg ca k (o.push e++b.extract (v+1) (v+1+k)) u (v+1+k)
   else loC a b mg ca k (o.push e) u (v+1)
  |_=>pure (.done (some (o.push e++a.extract u a.size++b.extract (v+1) b.size),o.push e,u,v+1,mg,ca,cb))
noncomputable def loA(a b:Array Keyed)(mg ca cb:Nat)(o:Array Keyed)(u v:Nat):SM (ForInStep AE):=do
 qQ mg
 let e←elem' b v
 let f←kD false e a u (a.size -u) 0
 match f with
 |some k=>
  if k>0 then
   if(u+k+1==a.size)=true then pure (.done (some (o++a.extract u (u+k)++b.extract v b.size++a.extract (u+k) a.size),o++a.extract u (u+k),u+k,v,mg,k,cb))
   else if(u+k==a.size)=true then pure (.done (some (o++a.extract u (u+k)++a.extract (u+k) a.size++b.extract v b.size),o++a.extract u (u+k),u+k,v,mg,k,cb))
   else loB a b mg k cb (o++a.extract u (u+k)) (u+k) v
  else loB a b mg k cb o u v
 |_=>pure (.done (some (o++a.extract u a.size++b.extract v b.size),o,u,v,mg,ca,cb))
structure LoI(rk:Nat→Int)(p q o:List Nat)(u v:Nat):Prop where
 pm:o.Perm (p.take u++q.take v)
 so:Srt rk o
 oa:∀x∈o,∀y∈p.drop u,rk x≤rk y
 ob:∀x∈o,∀y∈q.drop v,rk x≤rk y
section
variable{rk:Nat→Int}{p q o:List Nat}{u v k:Nat}
theorem dJ{l m:List Nat}(h:Srt rk l)(h2:Srt rk m)(h3:∀x∈l,∀y∈m,rk x≤rk y):Srt rk (l++m):=List.pairwise_append.mpr ⟨h,h2,h3⟩
theorem fB{l:List Nat}(h:Srt rk l)(n:Nat):Srt rk (l.drop n):=h.sublist (List.drop_sublist _ _)
theorem fX{l:List Nat}(h:Srt rk l)(n:Nat):Srt rk (l.take n):=h.sublist (List.take_sublist _ _)
theorem qq{l:List Nat}(h:Srt rk l)(n:Nat):∀x∈l.take n,∀y∈l.drop n,rk x≤rk y:=by
 have:=h
 rw[←Gbc n l] at this
 exact(List.pairwise_append.mp this).2.2
theorem CM{l:List Nat}{n k:Nat}{x:Nat}(h:x∈l.drop (n+k)):x∈l.drop n:=by
 rw[←GbQ] at h
 exact Gbs h
theorem LoI.AF(I:LoI rk p q o u v)(sp:Srt rk p)(h:∀x∈(p.drop u).take k,∀y∈q.drop v,rk x≤rk y):LoI rk p q (o++(p.drop u).take k) (u+k) v:=by
 refine⟨?_,dJ I.so (fX (fB sp u) k) λx hx y hy=>I.oa x hx y (Gbm hy),λx hx y hy=> ?_,λx hx y hy=> ?_⟩
 ·rw[List.take_add]
  refine(I.pm.append_right _).trans ?_
  rw[Gas,Gas]
  exact Gbj.append_left _
 ·rcases Gax.mp hx with hx|hx
  ·exact I.oa x hx y (CM hy)
  ·rw[←GbQ] at hy
   exact qq (fB sp u) k x hx y hy
 ·rcases Gax.mp hx with hx|hx
  ·exact I.ob x hx y hy
  ·exact h x hx y hy
theorem LoI.swap(I:LoI rk p q o u v):LoI rk q p o v u:=⟨I.pm.trans Gbj,I.so,I.ob,I.oa⟩
theorem LoI.JU(I:LoI rk p q o u v)(sq:Srt rk q)(h:∀x∈(q.drop v).take k,∀y∈p.drop u,rk x≤rk y):LoI rk p q (o++(q.drop v).take k) u (v+k):=(I.swap.AF sq h).swap
theorem take1{l:List Nat}{n x:Nat}(h:l[n]? =some x):(l.drop n).take 1=[x]:=by
 obtain⟨h1,rfl⟩:=Gac.mp h
 rw[Gbw h1]
 rfl
theorem LoI.qR{x:Nat}(I:LoI rk p q o u v)(sp:Srt rk p)(hx:p[u]? =some x)(h:∀y∈q.drop v,rk x≤rk y):LoI rk p q (o++[x]) (u+1) v:=by
 have:=I.AF (k:=1) sp (by rw[take1 hx];intro z hz;simp at hz;subst hz;exact h)
 rw[take1 hx] at this
 exact this
theorem LoI.w9{x:Nat}(I:LoI rk p q o u v)(sq:Srt rk q)(hx:q[v]? =some x)(h:∀y∈p.drop u,rk x≤rk y):LoI rk p q (o++[x]) u (v+1):=(I.swap.qR sq hx h).swap
theorem LoI.done(I:LoI rk p q o u v)(sp:Srt rk p)(sq:Srt rk q)(h:v=q.length∨u=p.length):(o++p.drop u++q.drop v).Perm (p++q)∧Srt rk (o++p.drop u++q.drop v):=by
 constructor
 ·refine(GaY _ (GaY _ I.pm)).trans ?_
  have e:p++q=(p.take u++p.drop u)++(q.take v++q.drop v):=by rw[Gbc,Gbc]
  rw[e,Gas,Gas,Gas]
  refine Gbo _ ?_
  rw[←Gas,←Gas]
  exact GaY _ Gbj
 ·rcases h with rfl|rfl
  ·rw[GbM,Gbb]
   exact dJ I.so (fB sp u) I.oa
  ·rw[GbM,Gbb]
   exact dJ I.so (fB sq v) I.ob
theorem LoI.last(I:LoI rk p q o u v)(sq:Srt rk q)(h:u+1=p.length)(hl:∀x,p[u]? =some x→∀y∈q,rk y≤rk x):(o++q.drop v++p.drop u).Perm (p++q)∧Srt rk (o++q.drop v++p.drop u):=by
 have hu:u<p.length:=by omega
 have e:p.drop u=[p[u]]:=by rw[Gbw hu,h,GbM]
 constructor
 ·have pm:=I.pm
  refine(GaY _ (GaY _ pm)).trans ?_
  rw[Gas,Gas,←Gas (List.take v q),Gbc]
  refine(Gbo _ Gbj).trans ?_
  rw[←Gas,Gbc]
 ·refine dJ (dJ I.so (fB sq v) I.ob) (by rw[e];exact GbS _ _) λx hx y hy=> ?_
  rw[e] at hy
  simp at hy
  subst hy
  rcases Gax.mp hx with hx|hx
  ·exact I.oa x hx _ (by rw[e];simp)
  ·exact hl _ (Gaa hu) x (Gbs hx)
end
section
variable{prog:Program}{w:World}{A:Around}{E:Value→Shared→Prop}{s:Shared}{st:SortSt}{κ:SortKind}{it:Array Keyed}{rk:Nat→Int}{a b:Array Keyed}{p q:List Nat}
def dA(it:Array Keyed)(rk:Nat→Int)(p q:List Nat)(r:Array Keyed):Prop:=∃l,b9 it r l∧l.Perm (p++q)∧Srt rk l
theorem m6{l:List Nat}{x y n:Nat}(h:Srt rk l)(hx:l[n]? =some x)(hy:y∈l.drop n):rk x≤rk y:=by
 obtain⟨k,hk⟩:=Gbx.mp hy
 rw[Gbh] at hk
 exact qp h (by omega) hx hk
structure LoP(it:Array Keyed)(rk:Nat→Int)(p q:List Nat)(o:Array Keyed)(u v:Nat):Prop where
 ex:∃l,b9 it o l∧LoI rk p q l u v
 bu:u+1<p.length
 bv:v<q.length
def BD(it:Array Keyed)(rk:Nat→Int)(p q:List Nat)(N:Nat):ForInStep AE→Prop
 | .done c=>(∃r t,c=(some r,t)∧dA it rk p q r)∨∃o u v mg ca cb,c=(none,o,u,v,mg,ca,cb)∧LoP it rk p q o u v∧N≤u+v
 | .yield c=>∃o u v mg ca cb,c=(none,o,u,v,mg,ca,cb)∧LoP it rk p q o u v∧N≤u+v
structure LoX(prog:Program)(w:World)(A:Around)(s:Shared)(κ:SortKind)(it:Array Keyed)(rk:Nat→Int)(a b:Array Keyed)(p q:List Nat):Prop where
 hA:i5 prog w A s κ it rk
 Ra:b9 it a p
 Rb:b9 it b q
 sp:Srt rk p
 sq:Srt rk q
 hl:∀x,p[p.length -1]? =some x→∀y∈q,rk y≤rk x
theorem LoX.done{o:Array Keyed}{l:List Nat}{u v:Nat}(X:LoX prog w A s κ it rk a b p q)(Ro:b9 it o l)(I:LoI rk p q l u v)(hh:v=q.length∨u=p.length):dA it rk p q (o++a.extract u a.size++b.extract v b.size):=
 ⟨_,(Ro.append (X.Ra.drop _)).append (X.Rb.drop _),(I.done X.sp X.sq hh).1,(I.done X.sp X.sq hh).2⟩
theorem LoX.last{o:Array Keyed}{l:List Nat}{u v:Nat}(X:LoX prog w A s κ it rk a b p q)(Ro:b9 it o l)(I:LoI rk p q l u v)(hh:u+1=p.length):dA it rk p q (o++b.extract v b.size++a.extract u a.size):=by
 have hl' :∀x,p[u]? =some x→∀y∈q,rk y≤rk x:=by
  have:=X.hl
  rw[show p.length -1=u by omega] at this;exact this
 exact⟨_,(Ro.append (X.Rb.drop _)).append (X.Ra.drop _),(I.last X.sq hh hl').1,(I.last X.sq hh hl').2⟩
theorem EU{mg ca cb u v N:Nat}{o:Array Keyed}{l:List Nat}{R:ForInStep AE→SortSt→Prop}(X:LoX prog w A s κ it rk a b p q)(Ro:b9 it o l)(I:LoI rk p q l u v)(bu:u+1<p.length)(bv:v<q.length)
  (hx:∀x,p[u]? =some x→∀y∈q.drop v,rk x≤rk y)(hN:N≤u+v+1)(h:∀r,BD it rk p q N r→R r st):wpS (model prog w) A E s (loC a b mg ca cb o u v) R st:=by
 have sza:=X.Ra.size
 unfold loC
 obtain⟨x,ex⟩:∃x,p[u]? =some x:=⟨_,Gaa (by omega)⟩
 refine Gai (bF X.Ra ex ?_)
 have I' :=I.qR X.sp ex (hx x ex)
 have Ro' :=Ro.push (X.Ra.lt ex)
 by_cases e:(u+1+1==a.size)=true
 ·rw[Gag e]
  have:u+1+1=a.size:=by simpa using e
  exact Gao (h _ (.inl ⟨_,_,rfl,X.last Ro' I' (by omega)⟩))
 ·rw[Gae e]
  have e' :u+1+1≠a.size:=by simpa using e
  by_cases e2:(decide (ca<7)&&decide (cb<7))=true
  ·rw[Gag e2]
   exact Gao (h _ (.inr ⟨_,_,_,_,_,_,rfl,⟨⟨_,Ro',I'⟩,by omega,bv⟩,by omega⟩))
  ·rw[Gae e2]
   exact Gao (h _ ⟨_,_,_,_,_,_,rfl,⟨⟨_,Ro',I'⟩,by omega,bv⟩,by omega⟩)
theorem EV{mg ca cb u v N:Nat}{o:Array Keyed}{l:List Nat}{R:ForInStep AE→SortSt→Prop}(X:LoX prog w A s κ it rk a b p q)(hk:kindOf st=κ)(Ro:b9 it o l)(I:LoI rk p q l u v)(bu:u+1<p.length)(bv:v<q.length)
  (hx:∀x,q[v]? =some x→∀y∈p.drop u,rk x≤rk y)(hN:N≤u+v+2)(h:∀r,BD it rk p q N r→R r st):wpS (model prog w) A E s (loB a b mg ca cb o u v) R st:=by
 have szb:=X.Rb.size
 unfold loB
 obtain⟨y,ey⟩:∃x,q[v]? =some x:=⟨_,Gaa bv⟩
 obtain⟨x,ex⟩:∃x,p[u]? =some x:=⟨_,Gaa (by omega)⟩
 refine Gai (bF X.Rb ey ?_)
 have I1:=I.w9 X.sq ey (hx y ey)
 have Ro1:=Ro.push (X.Rb.lt ey)
 by_cases e:(v+1==b.size)=true
 ·rw[Gag e]
  have:v+1=b.size:=by simpa using e
  exact Gao (h _ (.inl ⟨_,_,rfl,X.done Ro1 I1 (.inl (by omega))⟩))
 rw[Gae e]
 have e' :v+1≠b.size:=by simpa using e
 refine Gai (bF X.Ra ex ?_)
 have full:(q.drop (v+1)).take (b.size -(v+1))=q.drop (v+1):=Gbu (by simp;omega)
 refine Gai (oK X.hA hk X.Rb (X.Ra.lt ex) (by omega) (by rw[full];exact fB X.sq _) (by omega) λk hk1 t1 t2=> ?_)
 rw[full] at t1 t2
 simp only[Gbq] at t1 t2
 dsimp only
 have I2:=I1.JU (k:=k) X.sq λz hz t ht=>by have:=t1 z hz;have:=m6 X.sp ex ht;omega
 have Ro2:=Ro1.append (X.Rb.extract (v+1) (v+1+k))
 rw[show v+1+k -(v+1)=k by omega] at Ro2
 have hx2:∀z,p[u]? =some z→∀t∈q.drop (v+1+k),rk z≤rk t:=λz hz t ht=>by
  rw[ex] at hz;cases hz
  rw[←GbQ] at ht
  exact t2 t ht
 by_cases g:k>0
 ·rw[Gag g]
  by_cases e2:(v+1+k==b.size)=true
  ·rw[Gag e2]
   have:v+1+k=b.size:=by simpa using e2
   exact Gao (h _ (.inl ⟨_,_,rfl,X.done Ro2 I2 (.inl (by omega))⟩))
  ·rw[Gae e2]
   have e2' :v+1+k≠b.size:=by simpa using e2
   exact EU X Ro2 I2 bu (by omega) hx2 (by omega) h
 ·rw[Gae g]
  have k0:k=0:=by omega
  subst k0
  exact EU X Ro1 I1 bu (by omega) hx2 (by omega) h
theorem JV{mg ca cb u v N:Nat}{o:Array Keyed}{l:List Nat}{R:ForInStep AE→SortSt→Prop}(X:LoX prog w A s κ it rk a b p q)(hk:kindOf st=κ)(Ro:b9 it o l)(I:LoI rk p q l u v)(bu:u+1<p.length)(bv:v<q.length)
  (hN:N≤u+v+2)(h:∀r z,bD st z→BD it rk p q N r→R r z):wpS (model prog w) A E s (loA a b mg ca cb o u v) R st:=by
 have sza:=X.Ra.size
 unfold loA
 rw[nO]
 refine Gai (GbL ?_)
 generalize hz:SortSt.mk' (kindOf st) (arrOf st) (pendingOf st) mg (failedOf st)=z
 have sz:bD st z:=by rw[←hz];exact⟨rfl,rfl,rfl,rfl⟩
 have hkz:kindOf z=κ:=sz.1.trans hk
 have h' :∀r,BD it rk p q N r→R r z:=λr hr=>h r z sz hr
 obtain⟨y,ey⟩:∃x,q[v]? =some x:=⟨_,Gaa bv⟩
 refine Gai (bF X.Rb ey ?_)
 have full:(p.drop u).take (a.size -u)=p.drop u:=Gbu (by simp;omega)
 refine Gai (oK X.hA hkz X.Ra (X.Rb.lt ey) (by omega) (by rw[full];exact fB X.sp _) (by omega) λk hk1 t1 t2=> ?_)
 rw[full] at t1 t2
 simp only[GaD,Gbg] at t1 t2
 dsimp only
 have I1:=I.AF (k:=k) X.sp λz hz t ht=>by have:=t1 z hz;have:=m6 X.sq ey ht;omega
 have Ro1:=Ro.append (X.Ra.extract u (u+k))
 rw[show u+k -u=k by omega] at Ro1
 have hx:∀z,q[v]? =some z→∀t∈p.drop (u+k),rk z≤rk t:=λz hz t ht=>by
  rw[ey] at hz;cases hz
  rw[←GbQ] at ht
  have:=t2 t ht;omega
 by_cases g:k>0
 ·rw[Gag g]
  by_cases e1:(u+k+1==a.size)=true
  ·rw[Gag e1]
   have:u+k+1=a.size:=by simpa using e1
   exact Gao (h' _ (.inl ⟨_,_,rfl,X.last Ro1 I1 (by omega)⟩))
  rw[Gae e1]
  have e1' :u+k+1≠a.size:=by simpa using e1
  by_cases e2:(u+k==a.size)=true
  ·rw[Gag e2]
   have:u+k=a.size:=by simpa using e2
   exact Gao (h' _ (.inl ⟨_,_,rfl,X.done Ro1 I1 (.inr (by omega))⟩))
  rw[Gae e2]
  have e2' :u+k≠a.size:=by simpa using e2
  exact EV X hkz Ro1 I1 (by omega) bv hx (by omega) h'
 ·rw[Gae g]
  have k0:k=0:=by omega
  subst k0
  exact EV X hkz Ro I bu bv hx (by omega) h'
theorem Hu{G:Nat→Option (Array Keyed)×Array Keyed×Nat×Nat×Nat→SortSt→Prop}{n m:Nat}(h:∀i z o u v mg l,i<m→bD st z→b9 it o l→LoI rk p q l u v→u+1<p.length→v<q.length→i+1≤u+v→G i (none,o,u,v,mg) z):∀i c z,n≤i→i<m→(bD st z∧∃o u v mg l,c=(none,o,u,v,mg)∧b9 it o l∧LoI rk p q l u v∧u+1<p.length∧v<q.length∧i+1≤u+v)→G i c z:=by
 rintro i c z _ hi ⟨hz,o,u,v,mg,l,rfl,Ro,I,g1,g2,g3⟩
 exact h i z o u v mg l hi hz Ro I g1 g2 g3
theorem Ms{G:Nat→Option (Array Keyed)×Array Keyed×Nat×Nat×Nat×Nat→SortSt→Prop}{n m t:Nat}{z:SortSt}(h:∀j o u v ca cb l,j<m→b9 it o l→LoI rk p q l u v→u+1<p.length→v<q.length→t+j≤u+v→G j (none,o,u,v,ca,cb) z):∀j c z',n≤j→j<m→(z' =z∧∃o u v ca cb l,c=(none,o,u,v,ca,cb)∧b9 it o l∧LoI rk p q l u v∧u+1<p.length∧v<q.length∧t+j≤u+v)→G j c z' :=by
 rintro j c z' _ hj ⟨rfl,o,u',v',ca,cb,l,rfl,Ro,I,k1,k2,k3⟩
 exact h j o u' v' ca cb l hj Ro I k1 k2 k3
theorem Mt{G:Option (Array Keyed)×Array Keyed×Nat×Nat×Nat×Nat→SortSt→Prop}{n:Nat}{z:SortSt}(h1:∀r t,dA it rk p q r→G (some r,t) z)(h2:∀o u v ca cb l,b9 it o l→LoI rk p q l u v→u+1<p.length→v<q.length→n≤u+v→G (none,o,u,v,ca,cb) z):∀c z',(z' =z∧((∃r t,c=(some r,t)∧dA it rk p q r)∨∃o u v ca cb l,c=(none,o,u,v,ca,cb)∧b9 it o l∧LoI rk p q l u v∧u+1<p.length∧v<q.length∧n≤u+v))→G c z' :=by
 rintro c z' ⟨rfl,⟨r,t,rfl,g⟩| ⟨o1,u1,v1,ca1,cb1,l1,rfl,Ro1,I1,k1,k2,k3⟩⟩
 ·exact h1 r t g
 ·exact h2 o1 u1 v1 ca1 cb1 l1 Ro1 I1 k1 k2 k3
theorem Mu{G:Nat→Option (Array Keyed)×Array Keyed×Nat×Nat×Nat×Nat×Nat→SortSt→Prop}{n m t:Nat}(h:∀j y o u v mg ca cb l,j<m→bD st y→b9 it o l→LoI rk p q l u v→u+1<p.length→v<q.length→t+j≤u+v→G j (none,o,u,v,mg,ca,cb) y):∀j c y,n≤j→j<m→(bD st y∧∃o u v mg ca cb l,c=(none,o,u,v,mg,ca,cb)∧b9 it o l∧LoI rk p q l u v∧u+1<p.length∧v<q.length∧t+j≤u+v)→G j c y:=by
 rintro j c y _ hj ⟨hy,o,u',v',mg',ca,cb,l,rfl,Ro,I,n1,n2,n3⟩
 exact h j y o u' v' mg' ca cb l hj hy Ro I n1 n2 n3
theorem Mv{G:Option (Array Keyed)×Array Keyed×Nat×Nat×Nat×Nat×Nat→SortSt→Prop}{n:Nat}(h1:∀y r t,bD st y→dA it rk p q r→G (some r,t) y)(h2:∀y o u v mg ca cb l,bD st y→b9 it o l→LoI rk p q l u v→u+1<p.length→v<q.length→n≤u+v→G (none,o,u,v,mg,ca,cb) y):∀c y,(bD st y∧((∃r t,c=(some r,t)∧dA it rk p q r)∨∃o u v mg ca cb l,c=(none,o,u,v,mg,ca,cb)∧b9 it o l∧LoI rk p q l u v∧u+1<p.length∧v<q.length∧n≤u+v))→G c y:=by
 rintro c y ⟨hy,⟨r,t,rfl,g⟩| ⟨o1,u1,v1,mg1,ca1,cb1,l1,rfl,Ro1,I1,k1,k2,k3⟩⟩
 ·exact h1 y r t hy g
 ·exact h2 y o1 u1 v1 mg1 ca1 cb1 l1 hy Ro1 I1 k1 k2 k3
theorem Mw{Q:Array Keyed→SortSt→Prop}(hA:i5 prog w A s κ it rk)(hk:kindOf st=κ)(Ra:b9 it a p)(Rb:b9 it b q)(sp:Srt rk p)(sq:Srt rk q)(hp:0<p.length)(hq:0<q.length)
  (h0:∀x,q[0]? =some x→∀y∈p,rk x≤rk y)(hl:∀x,p[p.length -1]? =some x→∀y∈q,rk y≤rk x)(h:∀r z,bD st z→dA it rk p q r→Q r z):wpS (model prog w) A E s (JT a b) Q st:=by
 rw[Ht]
 refine Gai (wpS_lift (Gce ⟨rfl, ?_⟩))
 obtain⟨x0,hx0⟩:∃x,q[0]? =some x:=⟨_,Gaa hq⟩
 refine Gai (bF Rb hx0 ?_)
 have I0:LoI rk p q [x0] 0 1:=by
  refine⟨?_,GbS _ _,λx hx y hy=> ?_,λx hx y hy=> ?_⟩
  ·have:=take1 hx0
   rw[GbE] at this
   rw[this];simp
  ·simp at hx;subst hx;exact h0 _ hx0 y (Gbs hy)
  ·simp at hx;subst hx;exact m6 sq hx0 (Gbs hy)
 have R0:b9 it #[kas_item it x0] [x0]:=⟨rfl,λj hj=>by simp at hj;subst hj;exact Rb.lt hx0⟩
 have sza:=Ra.size
 have szb:=Rb.size
 have X:LoX prog w A s κ it rk a b p q:=⟨hA,Ra,Rb,sp,sq,hl⟩
 refine dI (λc1=> ?_) λc1=> ?_
 ·have:1=b.size:=by simpa using c1
  exact Gao (h _ _ .refl (X.done R0 I0 (.inl (by omega))))
 have c1' :1≠b.size:=by simpa using c1
 refine dI (λc2=> ?_) λc2=> ?_
 ·have:0+1=a.size:=by simpa using c2
  exact Gao (h _ _ .refl (X.last R0 I0 (by omega)))
 have c2' :0+1≠a.size:=by simpa using c2
 refine Gai (GcC ?_)
 refine Gai (Gbr (Gbf (I:=λi c z=>bD st z∧∃o u v mg l,c=(none,o,u,v,mg)∧b9 it o l∧LoI rk p q l u v∧u+1<p.length∧v<q.length∧i+1≤u+v)
  (Q:=λc z=>bD st z∧∃r t,c=(some r,t)∧dA it rk p q r) ?step ?fin ⟨.refl,_,0,1,_,[x0],rfl,R0,I0,by omega,by omega,by omega⟩) ?post)
 case fin=>
  rintro c z ⟨_,o,u,v,mg,l,rfl,_,_,g1,g2,g3⟩
  exfalso
  omega
 case post=>
  rintro c z ⟨hz,r,t,rfl,g⟩
  exact Gao (h r z hz g)
 case step=>
  refine Hu λi z o u v mg l hi hz Ro I g1 g2 g3=> ?_
  have hkz:kindOf z=κ:=hz.1.trans hk
  refine Gai (Gbr (Gbf (I:=λj c z' =>z' =z∧∃o u' v' ca cb l,c=(none,o,u',v',ca,cb)∧b9 it o l∧LoI rk p q l u' v' ∧u' +1<p.length∧v' <q.length∧u+v+j≤u' +v')
   (Q:=λc z' =>z' =z∧((∃r t,c=(some r,t)∧dA it rk p q r)∨∃o u' v' ca cb l,c=(none,o,u',v',ca,cb)∧b9 it o l∧LoI rk p q l u' v' ∧u' +1<p.length∧v' <q.length∧u+v+1≤u' +v')) ?s1 ?f1 ⟨rfl,o,u,v,0,0,l,rfl,Ro,I,g1,g2,by omega⟩) ?p1)
  case f1=>
   rintro c z' ⟨_,o,u',v',ca,cb,l,rfl,_,_,k1,k2,k3⟩
   exfalso
   omega
  case s1=>
   refine Ms λj o u' v' ca cb l hj Ro I k1 k2 k3=> ?_
   obtain⟨y,hy⟩:∃x,q[v']? =some x:=⟨_,Gaa k2⟩
   obtain⟨x,hx⟩:∃x,p[u']? =some x:=⟨_,Gaa (by omega)⟩
   refine Gai (bF Rb hy (Gai (bF Ra hx (Gai (w6 hA hkz (Rb.lt hy) (Ra.lt hx) ?_)))))
   dsimp only
   refine dI (λlt=> ?_) λlt=> ?_
   ·replace lt:=Gaw lt
    refine Gai (bF Rb hy ?_)
    have I' :=I.w9 sq hy λt ht=>by have:=m6 sp hx ht;omega
    have Ro' :=Ro.push (Rb.lt hy)
    refine dI (λe=> ?_) λe=> ?_
    ·have:v' +1=b.size:=by simpa using e
     exact Gao ⟨rfl,.inl ⟨_,_,rfl,X.done Ro' I' (.inl (by omega))⟩⟩
    ·have e' :v' +1≠b.size:=by simpa using e
     refine dI (λe2=> ?_) λe2=> ?_
     ·exact Gao ⟨rfl,.inr ⟨_,_,_,_,_,_,rfl,Ro',I',k1,by omega,by omega⟩⟩
     ·exact Gao ⟨rfl,_,_,_,_,_,_,rfl,Ro',I',k1,by omega,by omega⟩
   ·replace lt:=of_decide_eq_false (Bool.eq_false_iff.mpr lt)
    refine Gai (bF Ra hx ?_)
    have I' :=I.qR sp hx λt ht=>by have:=m6 sq hy ht;omega
    have Ro' :=Ro.push (Ra.lt hx)
    refine dI (λe=> ?_) λe=> ?_
    ·have:u' +1+1=a.size:=by simpa using e
     exact Gao ⟨rfl,.inl ⟨_,_,rfl,X.last Ro' I' (by omega)⟩⟩
    ·have e' :u' +1+1≠a.size:=by simpa using e
     refine dI (λe2=> ?_) λe2=> ?_
     ·exact Gao ⟨rfl,.inr ⟨_,_,_,_,_,_,rfl,Ro',I',by omega,k2,by omega⟩⟩
     ·exact Gao ⟨rfl,_,_,_,_,_,_,rfl,Ro',I',by omega,k2,by omega⟩
  case p1=>
   refine Mt (λr t g=>Gao ⟨hz,r,_,rfl,g⟩) λo1 u1 v1 ca1 cb1 l1 Ro1 I1 k1 k2 k3=> ?_
   refine Gai (wpS_lift (Gce ⟨rfl, ?_⟩))
   refine Gai (Gbr (Gbf (I:=λj c y=>bD st y∧∃o u' v' mg ca cb l,c=(none,o,u',v',mg,ca,cb)∧b9 it o l∧LoI rk p q l u' v' ∧u' +1<p.length∧v' <q.length∧u1+v1+j≤u' +v')
    (Q:=λc y=>bD st y∧((∃r t,c=(some r,t)∧dA it rk p q r)∨∃o u' v' mg ca cb l,c=(none,o,u',v',mg,ca,cb)∧b9 it o l∧LoI rk p q l u' v' ∧u' +1<p.length∧v' <q.length∧u1+v1≤u' +v')) ?s2 ?f2 ⟨hz,o1,u1,v1,_,ca1,cb1,l1,rfl,Ro1,I1,k1,k2,by omega⟩) ?p2)
   case f2=>
    rintro c y ⟨_,o,u',v',mg,ca,cb,l,rfl,_,_,n1,n2,n3⟩
    exfalso
    omega
   case p2=>
    refine Mv (λy r t hy g=>Gao ⟨hy,r,_,rfl,g⟩) λy o2 u2 v2 mg2 ca2 cb2 l2 hy Ro2 I2 n1 n2 n3=> ?_
    dsimp only
    rw[nO]
    refine Gai (GbL (Gao ⟨hy.trans ⟨rfl,rfl,rfl,rfl⟩,o2,u2,v2,_,l2,rfl,Ro2,I2,n1,n2,by omega⟩))
   case s2=>
    refine Mu λj y o u' v' mg' ca cb l hj hy Ro I n1 n2 n3=> ?_
    have fin:∀g,wpS (model prog w) A E s (loA a b g ca cb o u' v') (λr y' =>match r with
      | .done c=>bD st y' ∧((∃r t,c=(some r,t)∧dA it rk p q r)∨∃o u' v' mg ca cb l,c=(none,o,u',v',mg,ca,cb)∧b9 it o l∧LoI rk p q l u' v' ∧u' +1<p.length∧v' <q.length∧u1+v1≤u' +v')
      | .yield c=>bD st y' ∧∃o u' v' mg ca cb l,c=(none,o,u',v',mg,ca,cb)∧b9 it o l∧LoI rk p q l u' v' ∧u' +1<p.length∧v' <q.length∧u1+v1+(j+1)≤u' +v') y:=λg=>by
     refine JV X (hy.1.trans hk) Ro I n1 n2 (N:=u' +v' +2) (Gap _) λr z' sz hr=> ?_
     cases r with
     |done c=>
      rcases hr with hr| ⟨o,u,v,mg,ca,cb,e,P,hn⟩
      ·exact⟨hy.trans sz,.inl hr⟩
      ·obtain⟨l,h1,h2⟩:=P.ex
       exact⟨hy.trans sz,.inr ⟨o,u,v,mg,ca,cb,l,e,h1,h2,P.bu,P.bv,by omega⟩⟩
     |yield c=>
      obtain⟨o,u,v,mg,ca,cb,e,P,hn⟩:=hr
      obtain⟨l,h1,h2⟩:=P.ex
      exact⟨hy.trans sz,o,u,v,mg,ca,cb,l,e,h1,h2,P.bu,P.bv,by omega⟩
    show wpS (model prog w) A E s (if mg' >1 then loA a b (mg' -1) ca cb o u' v' else loA a b mg' ca cb o u' v') _ y
    split
    ·exact Gbr (fin _) λr y' hr=>by cases r<;>exact hr
    ·exact Gbr (fin _) λr y' hr=>by cases r<;>exact hr
end
noncomputable def JW:Array Keyed→Array Keyed→SM (Array Keyed):=sortPriv%PySem.Builtin.mergeHi
theorem Hv(a b:Array Keyed):JW a b=(do
 rule "list.sort.merge-hi"
 let tot:=a.size+b.size
 let fin (o:Array Keyed) (u v:Nat):=a.extract 0 u++b.extract 0 v++o.reverse
 let fst (o:Array Keyed) (u v:Nat):=b.extract 0 v++a.extract 0 u++o.reverse
 let mut u:=a.size -1
 let mut v:=b.size
 let mut o:Array Keyed:=#[←elem' a u]
 if u==0 then return fin o u v
 if v==1 then return fst o u v
 let mut mg:=gallopOf (←get)
 for _ in [0:tot] do
  let mut ca:=0
  let mut cb:=0
  for _ in [0:tot] do
   let some w←lt' (←elem' b (v -1)) (←elem' a (u -1))|return fin o u v
   if w then
    u:=u -1;o:=o.push (←elem' a u);ca:=ca+1;cb:=0
    if u==0 then return fin o u v
    if ca≥mg then break
   else
    v:=v -1;o:=o.push (←elem' b v);cb:=cb+1;ca:=0
    if v==1 then return fst o u v
    if cb≥mg then break
  rule "list.sort.gallop"
  mg:=mg+1
  for _ in [0:tot] do
   if mg>1 then mg:=mg -1
   qQ mg
   let some c←kD false (←elem' b (v -1)) a 0 u (u -1)|return fin o u v
   let k:=u -c
   ca:=k
   if k>0 then
    o:=o++(a.extract c u).reverse;u:=c
    if u==0 then return fin o u v
   v:=v -1;o:=o.push (←elem' b v)
   if v==1 then return fst o u v
   let some c←kD true (←elem' a (u -1)) b 0 v (v -1)|return fin o u v
   let k:=v -c
   cb:=k
   if k>0 then
    o:=o++(b.extract c v).reverse;v:=c
    if v==1 then return fst o u v
    if v==0 then return fin o u v
   u:=u -1;o:=o.push (←elem' a u)
   if u==0 then return fin o u v
   if ca<7&&cb<7 then break
  mg:=mg+1
  qQ mg
 unsupported "internal:list.sort.merge-bound"):=rfl
noncomputable abbrev AG:=Option (Array Keyed)×Nat×Nat×Array Keyed×Nat×Nat×Nat
noncomputable def hiC(a b:Array Keyed)(mg ca cb:Nat)(o:Array Keyed)(u v:Nat):SM (ForInStep AG):=do
 let e←elem' a (u -1)
 if(u -1==0)=true then pure (.done (some (a.extract 0 (u -1)++b.extract 0 v++(o.push e).reverse),u -1,v,o.push e,mg,ca,cb))
 else if(decide (ca<7)&&decide (cb<7))=true then pure (.done (none,u -1,v,o.push e,mg,ca,cb))
 else pure (.yield (none,u -1,v,o.push e,mg,ca,cb))
noncomputable def hiB(a b:Array Keyed)(mg ca cb:Nat)(o:Array Keyed)(u v:Nat):SM (ForInStep AG):=do
 let e←elem' b (v -1)
 if(v -1==1)=true then pure (.done (some (b.extract 0 (v -1)++a.extract 0 u++(o.push e).reverse),u,v -1,o.push e,mg,ca,cb))
 else do
  let e2←elem' a (u -1)
  let f←kD true e2 b 0 (v -1) (v -1 -1)
  match f with
  |some c=>
   if v -1 -c>0 then
    if(c==1)=true then pure (.done (some (b.extract 0 c++a.extract 0 u++(o.push e++(b.extract c (v -1)).reverse).reverse),u,c,o.push e++(b.extract c (v -1)).reverse,mg,ca,v -1 -c))
    else if(c==0)=true then pure (.done (some (a.extract 0 u++b.extract 0 c++(o.push e++(b.extract c (v -1)).reverse).reverse),u,c,o.push e++(b.extract c (v -1)).reverse,mg,ca,v -1 -c))
    else hiC a b mg ca (v -1 -c) (o.push e++(b.extract c (v -1)).reverse) u c
   else hiC a b mg ca (v -1 -c) (o.push e) u (v -1)
  |_=>pure (.done (some (a.extract 0 u++b.extract 0 (v -1)++(o.push e).reverse),u,v -1,o.push e,mg,ca,cb))
noncomputable def hiA(a b:Array Keyed)(mg ca cb:Nat)(o:Array Keyed)(u v:Nat):SM (ForInStep AG):=do
 qQ mg
 let e←elem' b (v -1)
 let f←kD false e a 0 u (u -1)
 match f with
 |some c=>
  if u -c>0 then
   if(c==0)=true then pure (.done (some (a.extract 0 c++b.extract 0 v++(o++(a.extract c u).reverse).reverse),c,v,o++(a.extract c u).reverse,mg,u -c,cb))
   else hiB a b mg (u -c) cb (o++(a.extract c u).reverse) c v
  else hiB a b mg (u -c) cb o u v
 |_=>pure (.done (some (a.extract 0 u++b.extract 0 v++o.reverse),u,v,o,mg,ca,cb))
structure HiI(rk:Nat→Int)(p q o:List Nat)(u v:Nat):Prop where
 pm:o.Perm (p.drop u++q.drop v)
 so:Srt rk o.reverse
 oa:∀x∈o,∀y∈p.take u,rk y≤rk x
 ob:∀x∈o,∀y∈q.take v,rk y≤rk x
section
variable{rk:Nat→Int}{p q o:List Nat}{u v c:Nat}
theorem CN{l:List Nat}{m n:Nat}{x:Nat}(h:m≤n)(hx:x∈l.take m):x∈l.take n:=by
 have:l.take m=(l.take n).take m:=by rw[Gci,Gcb h]
 rw[this] at hx
 exact Gbm hx
theorem EW{l:List Nat}{m n:Nat}{x:Nat}(h:m≤n)(hx:x∈(l.drop m).take (n -m)):x∈l.take n:=by
 rw[←GcD] at hx
 exact Gbs hx
theorem EX{l:List Nat}{m n:Nat}(h:m≤n):l.drop m=(l.drop m).take (n -m)++l.drop n:=by
 conv=>lhs;rw[←Gbc (n -m) (l.drop m)]
 rw[GbQ,show m+(n -m)=n by omega]
theorem HiI.AF(I:HiI rk p q o u v)(sp:Srt rk p)(hc:c≤u)(h:∀x∈(p.drop c).take (u -c),∀y∈q.take v,rk y≤rk x):HiI rk p q (o++((p.drop c).take (u -c)).reverse) c v:=by
 refine⟨?_, ?_,λx hx y hy=> ?_,λx hx y hy=> ?_⟩
 ·have e:p.drop c++q.drop v=((p.drop c).take (u -c)++p.drop u)++q.drop v:=by rw[←EX hc]
  rw[e]
  refine(Gbj.trans ?_)
  rw[Gas]
  exact(List.reverse_perm _).append I.pm
 ·rw[List.reverse_append,List.reverse_reverse]
  exact dJ (fX (fB sp c) _) I.so λx hx y hy=>I.oa y (GbO.mp hy) x (EW hc hx)
 ·rcases Gax.mp hx with hx|hx
  ·exact I.oa x hx y (CN hc hy)
  ·exact qq sp c y hy x (Gbm (GbO.mp hx))
 ·rcases Gax.mp hx with hx|hx
  ·exact I.ob x hx y hy
  ·exact h x (GbO.mp hx) y hy
theorem HiI.swap(I:HiI rk p q o u v):HiI rk q p o v u:=⟨I.pm.trans Gbj,I.so,I.ob,I.oa⟩
theorem HiI.JU(I:HiI rk p q o u v)(sq:Srt rk q)(hc:c≤v)(h:∀x∈(q.drop c).take (v -c),∀y∈p.take u,rk y≤rk x):HiI rk p q (o++((q.drop c).take (v -c)).reverse) u c:=(I.swap.AF sq hc h).swap
theorem HiI.qR{x:Nat}(I:HiI rk p q o u v)(sp:Srt rk p)(hu:0<u)(hx:p[u -1]? =some x)(h:∀y∈q.take v,rk y≤rk x):HiI rk p q (o++[x]) (u -1) v:=by
 have e:(p.drop (u -1)).take (u -(u -1))=[x]:=by rw[show u -(u -1)=1 by omega];exact take1 hx
 have:=I.AF (c:=u -1) sp (by omega) (by rw[e];intro z hz;simp at hz;subst hz;exact h)
 rw[e] at this
 exact this
theorem HiI.w9{x:Nat}(I:HiI rk p q o u v)(sq:Srt rk q)(hv:0<v)(hx:q[v -1]? =some x)(h:∀y∈p.take u,rk y≤rk x):HiI rk p q (o++[x]) u (v -1):=(I.swap.qR sq hv hx h).swap
theorem HiI.perm(I:HiI rk p q o u v):(p.take u++q.take v++o.reverse).Perm (p++q):=by
 refine(Gbo _ ((List.reverse_perm _).trans I.pm)).trans ?_
 have e:p++q=(p.take u++p.drop u)++(q.take v++q.drop v):=by rw[Gbc,Gbc]
 rw[e,Gas,Gas]
 refine Gbo _ ?_
 rw[←Gas,←Gas]
 exact GaY _ Gbj
theorem HiI.done(I:HiI rk p q o u v)(sp:Srt rk p)(sq:Srt rk q)(h:u=0∨v=0):(p.take u++q.take v++o.reverse).Perm (p++q)∧Srt rk (p.take u++q.take v++o.reverse):=by
 refine⟨I.perm, ?_⟩
 rcases h with rfl|rfl
 ·rw[List.take_zero,Gcv]
  exact dJ (fX sq v) I.so λx hx y hy=>I.ob y (GbO.mp hy) x hx
 ·rw[List.take_zero,Gbb]
  exact dJ (fX sp u) I.so λx hx y hy=>I.oa y (GbO.mp hy) x hx
theorem HiI.first(I:HiI rk p q o u v)(sp:Srt rk p)(h:v=1)(h0:∀x,q[0]? =some x→∀y∈p,rk x≤rk y):(q.take v++p.take u++o.reverse).Perm (p++q)∧Srt rk (q.take v++p.take u++o.reverse):=by
 refine⟨(GaY _ Gbj).trans I.perm, ?_⟩
 subst h
 refine dJ (dJ ?_ (fX sp u) λx hx y hy=> ?_) I.so λx hx y hy=> ?_
 ·cases q with
  |nil=>exact List.Pairwise.nil
  |cons z t=>exact GbS _ _
 ·cases q with
  |nil=>cases hx
  |cons z t=>
   have:x=z:=by simpa using hx
   subst this
   exact h0 x rfl y (Gbm hy)
 ·rcases Gax.mp hx with hx|hx
  ·exact I.ob y (GbO.mp hy) x hx
  ·exact I.oa y (GbO.mp hy) x hx
end
section
variable{prog:Program}{w:World}{A:Around}{E:Value→Shared→Prop}{s:Shared}{st:SortSt}{κ:SortKind}{it:Array Keyed}{rk:Nat→Int}{a b:Array Keyed}{p q:List Nat}
theorem b9.take{a:Array Keyed}{p:List Nat}(R:b9 it a p)(n:Nat):b9 it (a.extract 0 n) (p.take n):=by
 have:=R.extract 0 n
 rw[GbE,Nat.sub_zero] at this
 exact this
theorem m8{l:List Nat}{x y n:Nat}(h:Srt rk l)(hx:l[n -1]? =some x)(hy:y∈l.take n):rk y≤rk x:=by
 obtain⟨k,hk⟩:=Gbx.mp hy
 have hkn:k<n:=by have:=(Gac.mp hk).1;simp at this;omega
 rw[GaT hkn] at hk
 exact qp h (by omega) hk hx
structure HiP(it:Array Keyed)(rk:Nat→Int)(p q:List Nat)(o:Array Keyed)(u v:Nat):Prop where
 ex:∃l,b9 it o l∧HiI rk p q l u v
 bu:0<u
 bv:1<v
 cu:u≤p.length
 cv:v≤q.length
def BE(it:Array Keyed)(rk:Nat→Int)(p q:List Nat)(N:Nat):ForInStep AG→Prop
 | .done c=>(∃r t,c=(some r,t)∧dA it rk p q r)∨∃o u v mg ca cb,c=(none,u,v,o,mg,ca,cb)∧HiP it rk p q o u v∧u+v≤N
 | .yield c=>∃o u v mg ca cb,c=(none,u,v,o,mg,ca,cb)∧HiP it rk p q o u v∧u+v≤N
structure HiX(prog:Program)(w:World)(A:Around)(s:Shared)(κ:SortKind)(it:Array Keyed)(rk:Nat→Int)(a b:Array Keyed)(p q:List Nat):Prop where
 hA:i5 prog w A s κ it rk
 Ra:b9 it a p
 Rb:b9 it b q
 sp:Srt rk p
 sq:Srt rk q
 h0:∀x,q[0]? =some x→∀y∈p,rk x≤rk y
theorem HiX.done{o:Array Keyed}{l:List Nat}{u v:Nat}(X:HiX prog w A s κ it rk a b p q)(Ro:b9 it o l)(I:HiI rk p q l u v)(hh:u=0∨v=0):dA it rk p q (a.extract 0 u++b.extract 0 v++o.reverse):=
 ⟨_,((X.Ra.take _).append (X.Rb.take _)).append Ro.reverse,(I.done X.sp X.sq hh).1,(I.done X.sp X.sq hh).2⟩
theorem HiX.first{o:Array Keyed}{l:List Nat}{u v:Nat}(X:HiX prog w A s κ it rk a b p q)(Ro:b9 it o l)(I:HiI rk p q l u v)(hh:v=1):dA it rk p q (b.extract 0 v++a.extract 0 u++o.reverse):=
 ⟨_,((X.Rb.take _).append (X.Ra.take _)).append Ro.reverse,(I.first X.sp hh X.h0).1,(I.first X.sp hh X.h0).2⟩
theorem EY{mg ca cb u v N:Nat}{o:Array Keyed}{l:List Nat}{R:ForInStep AG→SortSt→Prop}(X:HiX prog w A s κ it rk a b p q)(Ro:b9 it o l)(I:HiI rk p q l u v)(bu:0<u)(bv:1<v)(cu:u≤p.length)(cv:v≤q.length)
  (hx:∀x,p[u -1]? =some x→∀y∈q.take v,rk y≤rk x)(hN:u+v≤N+1)(h:∀r,BE it rk p q N r→R r st):wpS (model prog w) A E s (hiC a b mg ca cb o u v) R st:=by
 unfold hiC
 obtain⟨x,ex⟩:∃x,p[u -1]? =some x:=⟨_,Gaa (by omega)⟩
 refine Gai (bF X.Ra ex ?_)
 have I' :=I.qR X.sp bu ex (hx x ex)
 have Ro' :=Ro.push (X.Ra.lt ex)
 by_cases e:(u -1==0)=true
 ·rw[Gag e]
  have:u -1=0:=by simpa using e
  exact Gao (h _ (.inl ⟨_,_,rfl,X.done Ro' I' (.inl this)⟩))
 ·rw[Gae e]
  have e' :u -1≠0:=by simpa using e
  by_cases e2:(decide (ca<7)&&decide (cb<7))=true
  ·rw[Gag e2]
   exact Gao (h _ (.inr ⟨_,_,_,_,_,_,rfl,⟨⟨_,Ro',I'⟩,by omega,bv,by omega,cv⟩,by omega⟩))
  ·rw[Gae e2]
   exact Gao (h _ ⟨_,_,_,_,_,_,rfl,⟨⟨_,Ro',I'⟩,by omega,bv,by omega,cv⟩,by omega⟩)
theorem EZ{mg ca cb u v N:Nat}{o:Array Keyed}{l:List Nat}{R:ForInStep AG→SortSt→Prop}(X:HiX prog w A s κ it rk a b p q)(hk:kindOf st=κ)(Ro:b9 it o l)(I:HiI rk p q l u v)(bu:0<u)(bv:1<v)(cu:u≤p.length)(cv:v≤q.length)
  (hx:∀x,q[v -1]? =some x→∀y∈p.take u,rk y≤rk x)(hN:u+v≤N+2)(h:∀r,BE it rk p q N r→R r st):wpS (model prog w) A E s (hiB a b mg ca cb o u v) R st:=by
 unfold hiB
 obtain⟨y,ey⟩:∃x,q[v -1]? =some x:=⟨_,Gaa (by omega)⟩
 obtain⟨x,ex⟩:∃x,p[u -1]? =some x:=⟨_,Gaa (by omega)⟩
 refine Gai (bF X.Rb ey ?_)
 have I1:=I.w9 X.sq (by omega) ey (hx y ey)
 have Ro1:=Ro.push (X.Rb.lt ey)
 by_cases e:(v -1==1)=true
 ·rw[Gag e]
  have:v -1=1:=by simpa using e
  exact Gao (h _ (.inl ⟨_,_,rfl,X.first Ro1 I1 this⟩))
 rw[Gae e]
 have e' :v -1≠1:=by simpa using e
 refine Gai (bF X.Ra ex ?_)
 refine Gai (oK X.hA hk X.Rb (X.Ra.lt ex) (by omega) (by rw[GbE];exact fX X.sq _) (by omega) λc hc1 t1 t2=> ?_)
 rw[GbE] at t1 t2
 simp only[Gbq] at t1 t2
 dsimp only
 have t2' :∀z∈(q.drop c).take (v -1 -c),rk x≤rk z:=λz hz=>t2 z (by rw[GcD];exact hz)
 have t1' :∀z∈q.take c,rk z<rk x:=λz hz=>t1 z (by rw[Gci,Gcb hc1];exact hz)
 have I2:=I1.JU (c:=c) X.sq hc1 λz hz t ht=>by have:=t2' z hz;have:=m8 X.sp ex ht;omega
 have Ro2:=Ro1.append (X.Rb.extract c (v -1)).reverse
 have hx2:∀z,p[u -1]? =some z→∀t∈q.take c,rk t≤rk z:=λz hz t ht=>by
  rw[ex] at hz;cases hz
  have:=t1' t ht;omega
 by_cases g:v -1 -c>0
 ·rw[Gag g]
  by_cases e2:(c==1)=true
  ·rw[Gag e2]
   have:c=1:=by simpa using e2
   exact Gao (h _ (.inl ⟨_,_,rfl,X.first Ro2 I2 this⟩))
  rw[Gae e2]
  have e2' :c≠1:=by simpa using e2
  by_cases e3:(c==0)=true
  ·rw[Gag e3]
   have:c=0:=by simpa using e3
   exact Gao (h _ (.inl ⟨_,_,rfl,X.done Ro2 I2 (.inr this)⟩))
  rw[Gae e3]
  have e3' :c≠0:=by simpa using e3
  exact EY X Ro2 I2 bu (by omega) cu (by omega) hx2 (by omega) h
 ·rw[Gae g]
  have k0:c=v -1:=by omega
  rw[k0] at hx2
  exact EY X Ro1 I1 bu (by omega) cu (by omega) hx2 (by omega) h
theorem JX{mg ca cb u v N:Nat}{o:Array Keyed}{l:List Nat}{R:ForInStep AG→SortSt→Prop}(X:HiX prog w A s κ it rk a b p q)(hk:kindOf st=κ)(Ro:b9 it o l)(I:HiI rk p q l u v)(bu:0<u)(bv:1<v)(cu:u≤p.length)(cv:v≤q.length)
  (hN:u+v≤N+2)(h:∀r z,bD st z→BE it rk p q N r→R r z):wpS (model prog w) A E s (hiA a b mg ca cb o u v) R st:=by
 unfold hiA
 rw[nO]
 refine Gai (GbL ?_)
 generalize hz:SortSt.mk' (kindOf st) (arrOf st) (pendingOf st) mg (failedOf st)=z
 have sz:bD st z:=by rw[←hz];exact⟨rfl,rfl,rfl,rfl⟩
 have hkz:kindOf z=κ:=sz.1.trans hk
 have h' :∀r,BE it rk p q N r→R r z:=λr hr=>h r z sz hr
 obtain⟨y,ey⟩:∃x,q[v -1]? =some x:=⟨_,Gaa (by omega)⟩
 refine Gai (bF X.Rb ey ?_)
 refine Gai (oK X.hA hkz X.Ra (X.Rb.lt ey) (by omega) (by rw[GbE];exact fX X.sp _) (by omega) λc hc1 t1 t2=> ?_)
 rw[GbE] at t1 t2
 simp only[GaD,Gbg] at t1 t2
 dsimp only
 have t2' :∀z∈(p.drop c).take (u -c),rk y<rk z:=λz hz=>t2 z (by rw[GcD];exact hz)
 have t1' :∀z∈p.take c,rk z≤rk y:=λz hz=>t1 z (by rw[Gci,Gcb hc1];exact hz)
 have I1:=I.AF (c:=c) X.sp hc1 λz hz t ht=>by have:=t2' z hz;have:=m8 X.sq ey ht;omega
 have Ro1:=Ro.append (X.Ra.extract c u).reverse
 have hx:∀z,q[v -1]? =some z→∀t∈p.take c,rk t≤rk z:=λz hz t ht=>by
  rw[ey] at hz;cases hz
  exact t1' t ht
 by_cases g:u -c>0
 ·rw[Gag g]
  by_cases e1:(c==0)=true
  ·rw[Gag e1]
   have:c=0:=by simpa using e1
   exact Gao (h' _ (.inl ⟨_,_,rfl,X.done Ro1 I1 (.inl this)⟩))
  rw[Gae e1]
  have e1' :c≠0:=by simpa using e1
  exact EZ X hkz Ro1 I1 (by omega) bv (by omega) cv hx (by omega) h'
 ·rw[Gae g]
  have k0:c=u:=by omega
  rw[k0] at hx
  exact EZ X hkz Ro I bu bv cu cv hx (by omega) h'
theorem Hw{G:Nat→Option (Array Keyed)×Nat×Nat×Array Keyed×Nat→SortSt→Prop}{n m:Nat}(h:∀i z o u v mg,i<m→bD st z→HiP it rk p q o u v→u+v+i+1≤p.length+q.length→G i (none,u,v,o,mg) z):∀i c z,n≤i→i<m→(bD st z∧∃o u v mg,c=(none,u,v,o,mg)∧HiP it rk p q o u v∧u+v+i+1≤p.length+q.length)→G i c z:=by
 rintro i c z _ hi ⟨hz,o,u,v,mg,rfl,P,g3⟩
 exact h i z o u v mg hi hz P g3
theorem Mx{G:Nat→Option (Array Keyed)×Nat×Nat×Array Keyed×Nat×Nat→SortSt→Prop}{n m t:Nat}{z:SortSt}(h:∀j o u v ca cb,j<m→HiP it rk p q o u v→u+v+j≤t→G j (none,u,v,o,ca,cb) z):∀j c z',n≤j→j<m→(z' =z∧∃o u v ca cb,c=(none,u,v,o,ca,cb)∧HiP it rk p q o u v∧u+v+j≤t)→G j c z' :=by
 rintro j c z' _ hj ⟨rfl,o,u',v',ca,cb,rfl,P,k3⟩
 exact h j o u' v' ca cb hj P k3
theorem My{G:Option (Array Keyed)×Nat×Nat×Array Keyed×Nat×Nat→SortSt→Prop}{n:Nat}{z:SortSt}(h1:∀r t,dA it rk p q r→G (some r,t) z)(h2:∀o u v ca cb,HiP it rk p q o u v→u+v+1≤n→G (none,u,v,o,ca,cb) z):∀c z',(z' =z∧((∃r t,c=(some r,t)∧dA it rk p q r)∨∃o u v ca cb,c=(none,u,v,o,ca,cb)∧HiP it rk p q o u v∧u+v+1≤n))→G c z' :=by
 rintro c z' ⟨rfl,⟨r,t,rfl,g⟩| ⟨o1,u1,v1,ca1,cb1,rfl,P1,k3⟩⟩
 ·exact h1 r t g
 ·exact h2 o1 u1 v1 ca1 cb1 P1 k3
theorem Mz{G:Nat→Option (Array Keyed)×Nat×Nat×Array Keyed×Nat×Nat×Nat→SortSt→Prop}{n m t:Nat}(h:∀j y o u v mg ca cb,j<m→bD st y→HiP it rk p q o u v→u+v+j≤t→G j (none,u,v,o,mg,ca,cb) y):∀j c y,n≤j→j<m→(bD st y∧∃o u v mg ca cb,c=(none,u,v,o,mg,ca,cb)∧HiP it rk p q o u v∧u+v+j≤t)→G j c y:=by
 rintro j c y _ hj ⟨hy,o,u',v',mg',ca,cb,rfl,P,n3⟩
 exact h j y o u' v' mg' ca cb hj hy P n3
theorem MA{G:Option (Array Keyed)×Nat×Nat×Array Keyed×Nat×Nat×Nat→SortSt→Prop}{n:Nat}(h1:∀y r t,bD st y→dA it rk p q r→G (some r,t) y)(h2:∀y o u v mg ca cb,bD st y→HiP it rk p q o u v→u+v≤n→G (none,u,v,o,mg,ca,cb) y):∀c y,(bD st y∧((∃r t,c=(some r,t)∧dA it rk p q r)∨∃o u v mg ca cb,c=(none,u,v,o,mg,ca,cb)∧HiP it rk p q o u v∧u+v≤n))→G c y:=by
 rintro c y ⟨hy,⟨r,t,rfl,g⟩| ⟨o1,u1,v1,mg1,ca1,cb1,rfl,P1,k3⟩⟩
 ·exact h1 y r t hy g
 ·exact h2 y o1 u1 v1 mg1 ca1 cb1 hy P1 k3
theorem MB{Q:Array Keyed→SortSt→Prop}(hA:i5 prog w A s κ it rk)(hk:kindOf st=κ)(Ra:b9 it a p)(Rb:b9 it b q)(sp:Srt rk p)(sq:Srt rk q)(hp:0<p.length)(hq:0<q.length)
  (h0:∀x,q[0]? =some x→∀y∈p,rk x≤rk y)(hl:∀x,p[p.length -1]? =some x→∀y∈q,rk y≤rk x)(h:∀r z,bD st z→dA it rk p q r→Q r z):wpS (model prog w) A E s (JW a b) Q st:=by
 rw[Hv]
 refine Gai (wpS_lift (Gce ⟨rfl, ?_⟩))
 have sza:=Ra.size
 have szb:=Rb.size
 obtain⟨x0,hx0⟩:∃x,p[p.length -1]? =some x:=⟨_,Gaa (by omega)⟩
 rw[sza,szb]
 refine Gai (bF Ra hx0 ?_)
 have I0:HiI rk p q [x0] (p.length -1) q.length:=by
  refine⟨?_,GbS _ _,λx hx y hy=> ?_,λx hx y hy=> ?_⟩
  ·have:=take1 hx0
   rw[GbM,Gbb]
   have e:p.drop (p.length -1)=[x0]:=by
    rw[←this,Gbu (by simp;omega)]
   rw[e]
  ·simp at hx;subst hx;exact m8 sp hx0 (by rw[Gde];exact Gbm hy)
  ·simp at hx;subst hx;exact hl _ hx0 y (Gbm hy)
 have R0:b9 it #[kas_item it x0] [x0]:=⟨rfl,λj hj=>by simp at hj;subst hj;exact Ra.lt hx0⟩
 have X:HiX prog w A s κ it rk a b p q:=⟨hA,Ra,Rb,sp,sq,h0⟩
 refine dI (λc1=> ?_) λc1=> ?_
 ·have:p.length -1=0:=by simpa using c1
  exact Gao (h _ _ .refl (X.done R0 I0 (.inl this)))
 have c1' :p.length -1≠0:=by simpa using c1
 refine dI (λc2=> ?_) λc2=> ?_
 ·have:q.length=1:=by simpa using c2
  exact Gao (h _ _ .refl (X.first R0 I0 this))
 have c2' :q.length≠1:=by simpa using c2
 refine Gai (GcC ?_)
 refine Gai (Gbr (Gbf (I:=λi c z=>bD st z∧∃o u v mg,c=(none,u,v,o,mg)∧HiP it rk p q o u v∧u+v+i+1≤p.length+q.length)
  (Q:=λc z=>bD st z∧∃r t,c=(some r,t)∧dA it rk p q r) ?step ?fin ⟨.refl,_,_,_,_,rfl,⟨⟨_,R0,I0⟩,by omega,by omega,by omega,by omega⟩,by omega⟩) ?post)
 case fin=>
  rintro c z ⟨_,o,u,v,mg,rfl,P,g3⟩
  have:=P.bu
  exfalso
  omega
 case post=>
  rintro c z ⟨hz,r,t,rfl,g⟩
  exact Gao (h r z hz g)
 case step=>
  refine Hw λi z o u v mg hi hz P g3=> ?_
  have hkz:kindOf z=κ:=hz.1.trans hk
  refine Gai (Gbr (Gbf (I:=λj c z' =>z' =z∧∃o u' v' ca cb,c=(none,u',v',o,ca,cb)∧HiP it rk p q o u' v' ∧u' +v' +j≤u+v)
   (Q:=λc z' =>z' =z∧((∃r t,c=(some r,t)∧dA it rk p q r)∨∃o u' v' ca cb,c=(none,u',v',o,ca,cb)∧HiP it rk p q o u' v' ∧u' +v' +1≤u+v)) ?s1 ?f1 ⟨rfl,o,u,v,0,0,rfl,P,by omega⟩) ?p1)
  case f1=>
   rintro c z' ⟨_,o,u',v',ca,cb,rfl,P',k3⟩
   have:=P'.bu
   have:=P.cu
   have:=P.cv
   exfalso
   omega
  case s1=>
   refine Mx λj o u' v' ca cb hj P' k3=> ?_
   have⟨⟨l,Ro,I⟩,bu,bv,cu,cv⟩:=P'
   obtain⟨y,hy⟩:∃x,q[v' -1]? =some x:=⟨_,Gaa (by omega)⟩
   obtain⟨x,hx⟩:∃x,p[u' -1]? =some x:=⟨_,Gaa (by omega)⟩
   refine Gai (bF Rb hy (Gai (bF Ra hx (Gai (w6 hA hkz (Rb.lt hy) (Ra.lt hx) ?_)))))
   dsimp only
   refine dI (λlt=> ?_) λlt=> ?_
   ·replace lt:=Gaw lt
    refine Gai (bF Ra hx ?_)
    have I' :=I.qR sp bu hx λt ht=>by have:=m8 sq hy ht;omega
    have Ro' :=Ro.push (Ra.lt hx)
    refine dI (λe=> ?_) λe=> ?_
    ·have:u' -1=0:=by simpa using e
     exact Gao ⟨rfl,.inl ⟨_,_,rfl,X.done Ro' I' (.inl this)⟩⟩
    ·have e' :u' -1≠0:=by simpa using e
     refine dI (λe2=> ?_) λe2=> ?_
     ·exact Gao ⟨rfl,.inr ⟨_,_,_,_,_,rfl,⟨⟨_,Ro',I'⟩,by omega,bv,by omega,cv⟩,by omega⟩⟩
     ·exact Gao ⟨rfl,_,_,_,_,_,rfl,⟨⟨_,Ro',I'⟩,by omega,bv,by omega,cv⟩,by omega⟩
   ·replace lt:=of_decide_eq_false (Bool.eq_false_iff.mpr lt)
    refine Gai (bF Rb hy ?_)
    have I' :=I.w9 sq (by omega) hy λt ht=>by have:=m8 sp hx ht;omega
    have Ro' :=Ro.push (Rb.lt hy)
    refine dI (λe=> ?_) λe=> ?_
    ·have:v' -1=1:=by simpa using e
     exact Gao ⟨rfl,.inl ⟨_,_,rfl,X.first Ro' I' this⟩⟩
    ·have e' :v' -1≠1:=by simpa using e
     refine dI (λe2=> ?_) λe2=> ?_
     ·exact Gao ⟨rfl,.inr ⟨_,_,_,_,_,rfl,⟨⟨_,Ro',I'⟩,bu,by omega,cu,by omega⟩,by omega⟩⟩
     ·exact Gao ⟨rfl,_,_,_,_,_,rfl,⟨⟨_,Ro',I'⟩,bu,by omega,cu,by omega⟩,by omega⟩
  case p1=>
   refine My (λr t g=>Gao ⟨hz,r,_,rfl,g⟩) λo1 u1 v1 ca1 cb1 P1 k3=> ?_
   refine Gai (wpS_lift (Gce ⟨rfl, ?_⟩))
   refine Gai (Gbr (Gbf (I:=λj c y=>bD st y∧∃o u' v' mg ca cb,c=(none,u',v',o,mg,ca,cb)∧HiP it rk p q o u' v' ∧u' +v' +j≤u1+v1)
    (Q:=λc y=>bD st y∧((∃r t,c=(some r,t)∧dA it rk p q r)∨∃o u' v' mg ca cb,c=(none,u',v',o,mg,ca,cb)∧HiP it rk p q o u' v' ∧u' +v' ≤u1+v1)) ?s2 ?f2 ⟨hz,o1,u1,v1,_,ca1,cb1,rfl,P1,by omega⟩) ?p2)
   case f2=>
    rintro c y ⟨_,o,u',v',mg,ca,cb,rfl,P',n3⟩
    have:=P'.bu
    have:=P1.cu
    have:=P1.cv
    exfalso
    omega
   case p2=>
    refine MA (λy r t hy g=>Gao ⟨hy,r,_,rfl,g⟩) λy o2 u2 v2 mg2 ca2 cb2 hy P2 n3=> ?_
    dsimp only
    rw[nO]
    exact Gai (GbL (Gao ⟨hy.trans ⟨rfl,rfl,rfl,rfl⟩,o2,u2,v2,_,rfl,P2,by omega⟩))
   case s2=>
    refine Mz λj y o u' v' mg' ca cb hj hy P' n3=> ?_
    have⟨⟨l,Ro,I⟩,bu,bv,cu,cv⟩:=P'
    have fin:∀g,wpS (model prog w) A E s (hiA a b g ca cb o u' v') (λr y' =>match r with
      | .done c=>bD st y' ∧((∃r t,c=(some r,t)∧dA it rk p q r)∨∃o u' v' mg ca cb,c=(none,u',v',o,mg,ca,cb)∧HiP it rk p q o u' v' ∧u' +v' ≤u1+v1)
      | .yield c=>bD st y' ∧∃o u' v' mg ca cb,c=(none,u',v',o,mg,ca,cb)∧HiP it rk p q o u' v' ∧u' +v' +(j+1)≤u1+v1) y:=λg=>by
     refine JX X (hy.1.trans hk) Ro I bu bv cu cv (N:=u' +v' -2) (by omega) λr z' sz hr=> ?_
     cases r with
     |done c=>
      rcases hr with hr| ⟨o,u,v,mg,ca,cb,e,P,hn⟩
      ·exact⟨hy.trans sz,.inl hr⟩
      ·exact⟨hy.trans sz,.inr ⟨o,u,v,mg,ca,cb,e,P,by omega⟩⟩
     |yield c=>
      obtain⟨o,u,v,mg,ca,cb,e,P,hn⟩:=hr
      exact⟨hy.trans sz,o,u,v,mg,ca,cb,e,P,by omega⟩
    show wpS (model prog w) A E s (if mg' >1 then hiA a b (mg' -1) ca cb o u' v' else hiA a b mg' ca cb o u' v') _ y
    split
    ·exact Gbr (fin _) λr y' hr=>by cases r<;>exact hr
    ·exact Gbr (fin _) λr y' hr=>by cases r<;>exact hr
end
open PySem.W (kas_item kas_swaps_map)
noncomputable abbrev JY:=Option (Option Nat)×Nat
noncomputable abbrev JZ:=Option (Option Nat)×Nat×Nat
noncomputable def F4(lo a nrem:Nat):SM JY:=forIn [a:nrem] ((none,a):JY) λ_ z=>do
 let x←ltAt' (lo+z.2) (lo+z.2 -1)
 match x with
 |some c=>if c=true then pure (.done (none,z.2)) else pure (.yield (none,z.2+1))
 |_=>pure (.done (some none,z.2))
noncomputable def wa(lo n nrem:Nat):SM (Option Nat):=do
 reverseSlice' lo (lo+n)
 let z←F4 lo n nrem
 match z.1 with
 |some r=>pure r
 |none=>pure (some z.2)
noncomputable def BF(lo n nrem:Nat):SM JZ:=forIn [n:nrem] ((none,n,0):JZ) λ_ z=>do
 let x←ltAt' (lo+z.2.1) (lo+z.2.1 -1)
 match x with
 |some c=>
  if c=true then
   if z.2.2>0 then do
    reverseSlice' (lo+z.2.1 -(z.2.2+1)) (lo+z.2.1)
    pure (.yield (none,z.2.1+1,0))
   else pure (.yield (none,z.2.1+1,0))
  else do
   let y←ltAt' (lo+z.2.1 -1) (lo+z.2.1)
   match y with
   |some d=>if d=true then pure (.done (none,z.2.1,z.2.2)) else pure (.yield (none,z.2.1+1,z.2.2+1))
   |_=>pure (.done (some none,z.2.1,z.2.2))
 |_=>pure (.done (some none,z.2.1,z.2.2))
noncomputable def qS(lo n nrem:Nat):SM (Option Nat):=do
 rule "list.sort.descending-run"
 let z←BF lo (n+1) nrem
 match z.1 with
 |some r=>pure r
 |none=>
  if z.2.2>0 then
   reverseSlice' (lo+z.2.1 -(z.2.2+1)) (lo+z.2.1)
   wa lo z.2.1 nrem
  else wa lo z.2.1 nrem
noncomputable def K0(lo nrem:Nat):SM (Option Nat):=do
 let z←F4 lo 1 nrem
 match z.1 with
 |some r=>pure r
 |none=>
  if(z.2==nrem)=true then pure (some z.2)
  else if z.2>1 then
   let x←ltAt' lo (lo+z.2 -1)
   match x with
   |some c=>
    if c=true then pure (some z.2)
    else
     reverseSlice' lo (lo+z.2)
     qS lo z.2 nrem
   |_=>pure none
  else qS lo z.2 nrem
theorem uE(lo nrem:Nat):countRun' lo nrem=K0 lo nrem:=by
 rw[countRun'_eq]
 dsimp only
 unfold K0 qS wa BF F4
 refine congrArg (bind _) (funext λz=> ?_)
 obtain⟨r,n⟩:=z
 cases r with
 |some r=>rfl
 |none=>
  dsimp only
  split
  ·rfl
  ·split
   ·congr 1
    funext x
    cases x with
    |none=>rfl
    |some c=>
     dsimp only
     split
     ·rfl
     ·congr 1
      funext _r
      congr 1
      funext _u
      congr 1
      congr 1
      funext z2
      obtain⟨r2,n2,q2⟩:=z2
      cases r2 with
      |some r2=>rfl
      |none=>
       dsimp only
       split
       ·congr 1
        funext _v
        congr 1
        funext _w
        congr 1
        funext z3
        obtain⟨r3,n3⟩:=z3
        cases r3<;>rfl
       ·congr 1
        funext _w
        congr 1
        funext z3
        obtain⟨r3,n3⟩:=z3
        cases r3<;>rfl
   ·congr 1
    funext _u
    congr 1
    congr 1
    funext z2
    obtain⟨r2,n2,q2⟩:=z2
    cases r2 with
    |some r2=>rfl
    |none=>
     dsimp only
     split
     ·congr 1
      funext _v
      congr 1
      funext _w
      congr 1
      funext z3
      obtain⟨r3,n3⟩:=z3
      cases r3<;>rfl
     ·congr 1
      funext _w
      congr 1
      funext z3
      obtain⟨r3,n3⟩:=z3
      cases r3<;>rfl
structure SS(κ:SortKind)(it:Array Keyed)(z:SortSt)(p:Array Nat):Prop where
 kind:kindOf z=κ
 arr:arrOf z=p.map (kas_item it)
 fail:failedOf z=none
 ok:∀i∈p.toList,i<it.size
def ll(z z' :SortSt):Prop:=pendingOf z' =pendingOf z
noncomputable def Rk(rk:Nat→Int)(p:Array Nat)(i:Nat):Int:=rk (p.getD i 0)
def Up'(rk:Nat→Int)(p:Array Nat)(lo hi:Nat):Prop:=∀u v,lo≤u→u≤v→v<hi→Rk rk p u≤Rk rk p v
def Dn'(rk:Nat→Int)(p:Array Nat)(lo hi:Nat):Prop:=∀u v,lo≤u→u≤v→v<hi→Rk rk p v≤Rk rk p u
structure Ag(lo hi:Nat)(p p' :Array Nat):Prop where
 perm:p'.Perm p
 out:∀k,k<lo∨hi≤k→p'[k]? =p[k]?
theorem Ag.refl{lo hi:Nat}{p:Array Nat}:Ag lo hi p p:=⟨Array.Perm.refl _,λ_ _=>rfl⟩
theorem Ag.trans{lo hi:Nat}{p q r:Array Nat}(a:Ag lo hi p q)(b:Ag lo hi q r):Ag lo hi p r:=⟨b.perm.trans a.perm,λk h=>(b.out k h).trans (a.out k h)⟩
theorem Ag.size{lo hi:Nat}{p q:Array Nat}(a:Ag lo hi p q):q.size=p.size:=by
 have:=a.perm.toList.length_eq
 simpa using this
theorem Ag.mono{lo hi hi' :Nat}{p q:Array Nat}(a:Ag lo hi p q)(h:hi≤hi'):Ag lo hi' p q:=⟨a.perm,λk z=>a.out k (by omega)⟩
theorem Ag.rk{rk:Nat→Int}{lo hi k:Nat}{p q:Array Nat}(a:Ag lo hi p q)(h:k<lo∨hi≤k):Rk rk q k=Rk rk p k:=by
 unfold Rk
 have:=a.out k h
 simp only[GbZ,this]
theorem m9{lo hi:Nat}{p:Array Nat}(h:hi≤p.size):Ag lo hi p (mirror p lo hi ((hi -lo)/2)):=⟨mirror_perm _ _ _ _,λk z=>by
 rw[getElem?_mirror_all h,Gae (by omega)]⟩
theorem oM{rk:Nat→Int}{i j k:Nat}{p:Array Nat}(h:j≤p.size):Rk rk (mirror p i j ((j -i)/2)) k=if i≤k∧k<j then Rk rk p (i+j -1 -k) else Rk rk p k:=by
 unfold Rk
 simp only[GbZ,getElem?_mirror_all h]
 split<;>rfl
theorem fY{rk:Nat→Int}{i j k:Nat}{p:Array Nat}(h:j≤p.size)(e:∀u,i≤u→u<j→Rk rk p u=Rk rk p (j -1)):Rk rk (mirror p i j ((j -i)/2)) k=Rk rk p k:=by
 rw[oM h]
 split
 ·rename_i z
  rw[e _ (by omega) (by omega),e k z.1 z.2]
 ·rfl
section
variable{prog:Program}{w:World}{A:Around}{E:Value→Shared→Prop}{s:Shared}{st:SortSt}{κ:SortKind}{it:Array Keyed}{rk:Nat→Int}{p:Array Nat}
theorem SS.rep(S:SS κ it st p):b9 it (arrOf st) p.toList:=⟨by rw[S.arr];apply Gck.mp;simp,S.ok⟩
theorem SS.move{p' :Array Nat}{xs:Array Keyed}(S:SS κ it st p)(pm:p'.Perm p)(e:xs=p'.map (kas_item it)):SS κ it (setArr st xs) p' :=⟨S.kind,e,S.fail,λi hi=>S.ok i (by
 have:=pm.toList.mem_iff (a:=i)
 exact this.mp hi)⟩
theorem wp_at{i j:Nat}{Q:Option Bool→SortSt→Prop}(hA:i5 prog w A s κ it rk)(S:SS κ it st p)(hi:i<p.size)(hj:j<p.size)(h:Q (some (decide (Rk rk p i<Rk rk p j))) st):wpS (model prog w) A E s (ltAt' i j) Q st:=by
 rw[ltAt'_eq]
 refine Gai (GcC ?_)
 have gi:p.toList[i]? =some (p.getD i 0):=by simp[Array.getD,hi]
 have gj:p.toList[j]? =some (p.getD j 0):=by simp[Array.getD,hj]
 exact Gai (bF S.rep gi (Gai (bF S.rep gj (w6 hA S.kind (S.rep.lt gi) (S.rep.lt gj) h))))
theorem uF{i j:Nat}{Q:Unit→SortSt→Prop}(S:SS κ it st p)(h:∀z,SS κ it z (mirror p i j ((j -i)/2))→ll st z→Q () z):wpS (model prog w) A E s (reverseSlice' i j) Q st:=by
 rw[reverseSlice'_eq]
 refine GbL (h _ (S.move (mirror_perm _ _ _ _) ?_) rfl)
 rw[S.arr]
 exact kas_swaps_map (kas_item it) (λk=>i+k) (λk=>j -1 -k) _ p
theorem BG{lo a nrem:Nat}{Q:JY→SortSt→Prop}(hA:i5 prog w A s κ it rk)(S:SS κ it st p)(h1:1≤a)(ha:a≤nrem)(hz:lo+nrem≤p.size)(hu:Up' rk p lo (lo+a))
  (h:∀m,a≤m→m≤nrem→Up' rk p lo (lo+m)→(m=nrem∨Rk rk p (lo+m)<Rk rk p (lo+m -1))→Q (none,m) st):wpS (model prog w) A E s (F4 lo a nrem) Q st:=by
 unfold F4
 refine Gbf (I:=λx c z=>z=st∧c=(none,x)∧Up' rk p lo (lo+x)) ?step ?fin ⟨rfl,rfl,hu⟩
 case fin=>
  rintro c z ⟨rfl,rfl,q⟩
  rw[show max a nrem=nrem by omega] at q⊢
  exact h nrem ha (Gap _) q (.inl rfl)
 case step=>
  rintro x c z h2 h3 ⟨rfl,rfl,q⟩
  dsimp only
  refine Gai (wp_at hA S (by omega) (by omega) ?_)
  dsimp only
  by_cases lt:Rk rk p (lo+x)<Rk rk p (lo+x -1)
  ·rw[GaG lt]
   simp only[Gbq]
   exact Gao (h x h2 (by omega) q (.inr lt))
  ·rw[GaH lt]
   simp only[GaD,Gbg]
   refine Gao ⟨rfl,rfl,λu v a1 a2 a3=> ?_⟩
   by_cases hv:v<lo+x
   ·exact q u v a1 a2 hv
   ·have e:v=lo+x:=by omega
    subst e
    by_cases hu:u=lo+x
    ·subst hu;exact GbC _
    ·have:=q u (lo+x -1) a1 (by omega) (by omega)
     omega
theorem wc{lo n nrem:Nat}{Q:Option Nat→SortSt→Prop}(hA:i5 prog w A s κ it rk)(S:SS κ it st p)(h1:1≤n)(hn:n≤nrem)(hz:lo+nrem≤p.size)(hd:Dn' rk p lo (lo+n))
  (h:∀m z p',SS κ it z p' →ll st z→Ag lo (lo+nrem) p p' →1≤m→m≤nrem→Up' rk p' lo (lo+m)→Q (some m) z):wpS (model prog w) A E s (wa lo n nrem) Q st:=by
 unfold wa
 refine Gai (uF S λz S' hp=> ?_)
 have ag:Ag lo (lo+n) p (mirror p lo (lo+n) ((lo+n -lo)/2)):=m9 (by omega)
 refine Gai (BG hA S' h1 hn (by rw[ag.size];exact hz) (λu v a1 a2 a3=> ?_) λm m1 m2 m3 _=> ?_)
 ·rw[oM (by omega),oM (by omega),Gag (by omega),Gag (by omega)]
  exact hd _ _ (by omega) (by omega) (by omega)
 ·exact Gao (h m z _ S' hp (ag.mono (by omega)) (by omega) m2 m3)
theorem F5{lo n nrem:Nat}{Q:JZ→SortSt→Prop}(hA:i5 prog w A s κ it rk)(S:SS κ it st p)(h1:1≤n)(hn:n≤nrem)(hz:lo+nrem≤p.size)(hd:Dn' rk p lo (lo+n))
  (h:∀m e z p',SS κ it z p' →ll st z→Ag lo (lo+nrem) p p' →n≤m→m≤nrem→Dn' rk p' lo (lo+m)→e+1≤m→(∀u,lo+m -(e+1)≤u→u<lo+m→Rk rk p' u=Rk rk p' (lo+m -1))→Q (none,m,e) z):wpS (model prog w) A E s (BF lo n nrem) Q st:=by
 unfold BF
 refine Gbf (I:=λx c z=>∃e p',c=(none,x,e)∧SS κ it z p' ∧ll st z∧Ag lo (lo+nrem) p p' ∧Dn' rk p' lo (lo+x)∧e+1≤x∧(∀u,lo+x -(e+1)≤u→u<lo+x→Rk rk p' u=Rk rk p' (lo+x -1))) ?step ?fin
  ⟨0,p,rfl,S,rfl,.refl,hd,by omega,λu a1 a2=>by rw[show u=lo+n -1 by omega]⟩
 case fin=>
  rintro c z ⟨e,p',rfl,S',hp,ag,d,e1,e2⟩
  rw[show max n nrem=nrem by omega] at d e1 e2⊢
  exact h nrem e z p' S' hp ag hn (Gap _) d e1 e2
 case step=>
  rintro x c z h2 h3 ⟨e,p',rfl,S',hp,ag,d,e1,e2⟩
  have sz:=ag.size
  dsimp only
  refine Gai (wp_at hA S' (by omega) (by omega) ?_)
  dsimp only
  by_cases lt:Rk rk p' (lo+x)<Rk rk p' (lo+x -1)
  ·rw[GaG lt]
   simp only[Gbq]
   have dn:∀r:Array Nat,(∀k,Rk rk r k=Rk rk p' k)→Dn' rk r lo (lo+(x+1)):=λr hr u v a1 a2 a3=>by
    rw[hr,hr]
    by_cases hv:v<lo+x
    ·exact d u v a1 a2 hv
    ·have ev:v=lo+x:=by omega
     subst ev
     by_cases hu:u=lo+x
     ·subst hu;exact GbC _
     ·have:=d u (lo+x -1) a1 (by omega) (by omega)
      omega
   by_cases g:e>0
   ·rw[Gag g]
    refine Gai (uF S' λz' S2 hp2=>Gao ⟨0,_,rfl,S2,hp2.trans hp,ag.trans ?_,dn _ λk=>fY (by omega) e2,by omega,λu a1 a2=>by rw[show u=lo+(x+1)-1 by omega]⟩)
    have am:Ag (lo+x -(e+1)) (lo+x) p' (mirror p' (lo+x -(e+1)) (lo+x) ((lo+x -(lo+x -(e+1)))/2)):=m9 (by omega)
    exact⟨am.perm,λk hk=>am.out k (by omega)⟩
   ·rw[Gae g]
    exact Gao ⟨0,p',rfl,S',hp,ag,dn p' λ_=>rfl,by omega,λu a1 a2=>by rw[show u=lo+(x+1)-1 by omega]⟩
  ·rw[GaH lt]
   simp only[GaD,Gbg]
   refine Gai (wp_at hA S' (by omega) (by omega) ?_)
   dsimp only
   by_cases gt:Rk rk p' (lo+x -1)<Rk rk p' (lo+x)
   ·rw[GaG gt]
    simp only[Gbq]
    exact Gao (h x e z p' S' hp ag h2 (by omega) d e1 e2)
   ·rw[GaH gt]
    simp only[GaD,Gbg]
    have eq:Rk rk p' (lo+x)=Rk rk p' (lo+x -1):=by omega
    refine Gao ⟨e+1,p',rfl,S',hp,ag,λu v a1 a2 a3=> ?_,by omega,λu a1 a2=> ?_⟩
    ·by_cases hv:v<lo+x
     ·exact d u v a1 a2 hv
     ·have ev:v=lo+x:=by omega
      subst ev
      by_cases hu:u=lo+x
      ·subst hu;exact GbC _
      ·have:=d u (lo+x -1) a1 (by omega) (by omega)
       omega
    ·rw[show lo+(x+1)-1=lo+x by omega,eq]
     by_cases hu:u=lo+x
     ·subst hu;exact eq
     ·exact e2 u (by omega) (by omega)
theorem tD{lo n nrem:Nat}{Q:Option Nat→SortSt→Prop}(hA:i5 prog w A s κ it rk)(S:SS κ it st p)(h1:1≤n)(hn:n+1≤nrem)(hz:lo+nrem≤p.size)(hd:Dn' rk p lo (lo+(n+1)))
  (h:∀m z p',SS κ it z p' →ll st z→Ag lo (lo+nrem) p p' →1≤m→m≤nrem→Up' rk p' lo (lo+m)→Q (some m) z):wpS (model prog w) A E s (qS lo n nrem) Q st:=by
 unfold qS
 refine Gai (wpS_lift (Gce ⟨rfl, ?_⟩))
 refine Gai (F5 hA S (by omega) hn hz hd λm e z p' S' hp ag m1 m2 d e1 e2=> ?_)
 have sz:=ag.size
 dsimp only
 by_cases g:e>0
 ·rw[Gag g]
  refine Gai (uF S' λz2 S2 hp2=> ?_)
  have am:Ag (lo+m -(e+1)) (lo+m) p' (mirror p' (lo+m -(e+1)) (lo+m) ((lo+m -(lo+m -(e+1)))/2)):=m9 (by omega)
  have am' :Ag lo (lo+nrem) p' (mirror p' (lo+m -(e+1)) (lo+m) ((lo+m -(lo+m -(e+1)))/2)):=⟨am.perm,λk hk=>am.out k (by omega)⟩
  refine wc hA S2 (by omega) m2 (by rw[am.size];omega) (λu v a1 a2 a3=> ?_) λm' z3 p3 S3 hp3 ag3=>h m' z3 p3 S3 ((hp3.trans hp2).trans hp) ((ag.trans am').trans ag3)
  rw[fY (by omega) e2,fY (by omega) e2]
  exact d u v a1 a2 a3
 ·rw[Gae g]
  exact wc hA S' (by omega) m2 (by omega) d λm' z3 p3 S3 hp3 ag3=>h m' z3 p3 S3 (hp3.trans hp) (ag.trans ag3)
theorem F6{lo nrem:Nat}{Q:Option Nat→SortSt→Prop}(hA:i5 prog w A s κ it rk)(S:SS κ it st p)(h1:1≤nrem)(hz:lo+nrem≤p.size)
  (h:∀m z p',SS κ it z p' →ll st z→Ag lo (lo+nrem) p p' →1≤m→m≤nrem→Up' rk p' lo (lo+m)→Q (some m) z):wpS (model prog w) A E s (countRun' lo nrem) Q st:=by
 rw[uE]
 unfold K0
 refine Gai (BG hA S (Gap _) h1 hz (λu v a1 a2 a3=>by rw[show u=v by omega];exact GbC _) λn n1 n2 up stop=> ?_)
 dsimp only
 by_cases c1:(n==nrem)=true
 ·rw[Gag c1]
  exact Gao (h n st p S rfl .refl n1 n2 up)
 rw[Gae c1]
 have c1' :n≠nrem:=by simpa using c1
 have lt:Rk rk p (lo+n)<Rk rk p (lo+n -1):=stop.resolve_left c1'
 by_cases c2:n>1
 ·rw[Gag c2]
  refine Gai (wp_at hA S (by omega) (by omega) ?_)
  dsimp only
  by_cases ro:Rk rk p lo<Rk rk p (lo+n -1)
  ·rw[GaG ro]
   simp only[Gbq]
   exact Gao (h n st p S rfl .refl n1 n2 up)
  ·rw[GaH ro]
   simp only[GaD,Gbg]
   have eq:∀u,lo≤u→u<lo+n→Rk rk p u=Rk rk p (lo+n -1):=λu a1 a2=>by
    have b1:=up lo u (Gap _) a1 a2
    have b2:=up u (lo+n -1) a1 (by omega) (by omega)
    omega
   refine Gai (uF S λz S' hp=> ?_)
   have am:Ag lo (lo+n) p (mirror p lo (lo+n) ((lo+n -lo)/2)):=m9 (by omega)
   refine tD hA S' n1 (by omega) (by rw[am.size];exact hz) (λu v a1 a2 a3=> ?_) λm' z3 p3 S3 hp3 ag3=>h m' z3 p3 S3 (hp3.trans hp) ((am.mono (by omega)).trans ag3)
   rw[fY (by omega) eq,fY (by omega) eq]
   by_cases hv:v<lo+n
   ·rw[eq u a1 (by omega),eq v (by omega) hv];exact GbC _
   ·rw[show v=lo+n by omega]
    by_cases hu:u=lo+n
    ·subst hu;exact GbC _
    ·rw[eq u a1 (by omega)];omega
 ·rw[Gae c2]
  have n1' :n=1:=by omega
  subst n1'
  refine tD hA S (Gap _) (by omega) hz (λu v a1 a2 a3=> ?_) h
  by_cases e1:u=v
  ·subst e1;exact GbC _
  ·rw[show v=lo+1 by omega,show u=lo+1 -1 by omega];omega
end
theorem tF{rk:Nat→Int}{src d k:Nat}{p:Array Nat}(h:src<p.size)(hd:d≤src):Rk rk (bubble p src d) k=if k=src -d then Rk rk p src else if src -d<k∧k≤src then Rk rk p (k -1) else Rk rk p k:=by
 unfold Rk
 simp only[GbZ,getElem?_bubble h d hd]
 split
 ·rfl
 ·split<;>rfl
section
variable{prog:Program}{w:World}{A:Around}{E:Value→Shared→Prop}{s:Shared}{st:SortSt}{κ:SortKind}{it:Array Keyed}{rk:Nat→Int}{p:Array Nat}
theorem Hx{src dst:Nat}{Q:Unit→SortSt→Prop}(S:SS κ it st p)(h:∀z,SS κ it z (bubble p src (src -dst))→ll st z→Q () z):wpS (model prog w) A E s (moveDown' src dst) Q st:=by
 rw[moveDown'_eq]
 refine GbL (h _ (S.move (bubble_perm _ _ _) ?_) rfl)
 rw[S.arr]
 exact kas_swaps_map (kas_item it) (λk=>src -k) (λk=>src -k -1) _ p
theorem K1{lo n ok:Nat}{Q:Bool→SortSt→Prop}(hA:i5 prog w A s κ it rk)(S:SS κ it st p)(hz:lo+n≤p.size)(h1:1≤ok)(hok:ok≤n)(hu:Up' rk p lo (lo+ok))
  (h:∀z p',SS κ it z p' →ll st z→Ag lo (lo+n) p p' →Up' rk p' lo (lo+n)→Q true z):wpS (model prog w) A E s (binarySort' lo n ok) Q st:=by
 rw[binarySort'_eq]
 refine Gai (Gbr (Gbf (I:=λk c z=>∃p',c=(none,())∧SS κ it z p' ∧ll st z∧Ag lo (lo+n) p p' ∧Up' rk p' lo (lo+k))
  (Q:=λc z=>∃p',c=(none,())∧SS κ it z p' ∧ll st z∧Ag lo (lo+n) p p' ∧Up' rk p' lo (lo+n)) ?step ?fin ⟨p,rfl,S,rfl,.refl,by rw[show max ok 1=ok by omega];exact hu⟩) ?post)
 case post=>
  rintro c z ⟨p',rfl,S',hp,ag,up⟩
  exact Gao (h z p' S' hp ag up)
 case fin=>
  rintro c z ⟨p',rfl,S',hp,ag,up⟩
  rw[show max (max ok 1) n=n by omega] at up
  exact⟨p',rfl,S',hp,ag,up⟩
 case step=>
  rintro k c z k1 k2 ⟨p',rfl,S',hp,ag,up⟩
  have sz:=ag.size
  refine Gai (Gbr (Gbf (I:=λi c z' =>z' =z∧∃l r,c=(none,l,r)∧l≤r∧r≤k∧r -l≤k -i∧(∀u,u<l→Rk rk p' (lo+u)≤Rk rk p' (lo+k))∧(∀u,r≤u→u<k→Rk rk p' (lo+k)≤Rk rk p' (lo+u)))
   (Q:=λc z' =>z' =z∧∃l,c=(none,l,l)∧l≤k∧(∀u,u<l→Rk rk p' (lo+u)≤Rk rk p' (lo+k))∧(∀u,l≤u→u<k→Rk rk p' (lo+k)≤Rk rk p' (lo+u))) ?s1 ?f1 ⟨rfl,0,k,rfl,by omega,by omega,by omega,λu hu=>by omega,λu a1 a2=>by omega⟩) ?p1)
  case f1=>
   rintro c z' ⟨rfl,l,r,rfl,q1,q2,q3,q4,q5⟩
   have:l=r:=by omega
   subst this
   exact⟨rfl,l,rfl,q2,q4,q5⟩
  case s1=>
   rintro i c z' _ hi ⟨rfl,l,r,rfl,q1,q2,q3,q4,q5⟩
   dsimp only
   by_cases g:l≥r
   ·rw[Gag g]
    have:l=r:=by omega
    subst this
    exact Gao ⟨rfl,l,rfl,q2,q4,q5⟩
   rw[Gae g]
   refine Gai (wp_at hA S' (by omega) (by omega) ?_)
   by_cases lt:Rk rk p' (lo+k)<Rk rk p' (lo+(l+r)/2)
   ·rw[GaG lt]
    simp only[Gbq]
    refine Gao ⟨rfl,l,(l+r)/2,rfl,by omega,by omega,by omega,q4,λu a1 a2=> ?_⟩
    have:=up (lo+(l+r)/2) (lo+u) (by omega) (by omega) (by omega)
    omega
   ·rw[GaH lt]
    simp only[GaD,Gbg]
    refine Gao ⟨rfl,(l+r)/2+1,r,rfl,by omega,by omega,by omega,λu a1=> ?_,q5⟩
    have:=up (lo+u) (lo+(l+r)/2) (by omega) (by omega) (by omega)
    omega
  case p1=>
   rintro c z' ⟨rfl,l,rfl,l1,l2,l3⟩
   refine Gai (Hx S' λz2 S2 hp2=>Gao ⟨_,rfl,S2,hp2.trans hp,ag.trans ⟨bubble_perm _ _ _,λj hj=> ?_⟩,λu v a1 a2 a3=> ?_⟩)
   ·rw[getElem?_bubble (by omega) _ (by omega),Gae (by omega),Gae (by omega)]
   ·rw[tF (by omega) (by omega),tF (by omega) (by omega)]
    have e:lo+k -(lo+k -(lo+l))=lo+l:=by omega
    rw[e]
    by_cases u1:u=lo+l
    ·rw[Gag u1]
     by_cases v1:v=lo+l
     ·rw[Gag v1];exact GbC _
     ·rw[Gae v1,Gag (by omega)]
      have:=l3 (v -1 -lo) (by omega) (by omega)
      rw[show lo+(v -1 -lo)=v -1 by omega] at this
      exact this
    ·rw[Gae u1]
     by_cases u2:lo+l<u∧u≤lo+k
     ·rw[Gag u2,Gae (by omega),Gag (by omega)]
      exact up _ _ (by omega) (by omega) (by omega)
     ·rw[Gae u2]
      have hu' :u<lo+l:=by omega
      by_cases v1:v=lo+l
      ·rw[Gag v1]
       have:=l2 (u -lo) (by omega)
       rw[show lo+(u -lo)=u by omega] at this
       exact this
      ·rw[Gae v1]
       by_cases v2:lo+l<v∧v≤lo+k
       ·rw[Gag v2]
        exact up _ _ (by omega) (by omega) (by omega)
       ·rw[Gae v2]
        exact up _ _ a1 a2 (by omega)
end
theorem K2{rk:Nat→Int}{p:Array Nat}{k x:Nat}(h:p.toList[k]? =some x):Rk rk p k=rk x:=by
 unfold Rk
 have h' :p[k]? =some x:=by simpa using h
 simp[GbZ,h']
theorem uG{rk:Nat→Int}{p:Array Nat}{lo n:Nat}(hz:lo+n≤p.size):Up' rk p lo (lo+n)↔Srt rk ((p.toList.drop lo).take n):=by
 have len:((p.toList.drop lo).take n).length=n:=by simp;omega
 have at_:∀u,u<n→∃x,((p.toList.drop lo).take n)[u]? =some x∧Rk rk p (lo+u)=rk x:=λu hu=>by
  have h1:u<((p.toList.drop lo).take n).length:=by rw[len];exact hu
  refine⟨((p.toList.drop lo).take n)[u],Gaa h1, ?_⟩
  have:=Gaa h1
  rw[GaT hu,Gbh] at this
  exact K2 this
 constructor
 ·intro h
  unfold Srt
  rw[Gcf]
  intro i j hi hj hij
  rw[len] at hi hj
  obtain⟨x,e1,e2⟩:=at_ i hi
  obtain⟨y,e3,e4⟩:=at_ j hj
  obtain⟨_,e5⟩:=Gac.mp e1
  obtain⟨_,e6⟩:=Gac.mp e3
  rw[e5,e6,←e2,←e4]
  exact h _ _ (by omega) (by omega) (by omega)
 ·intro h u v a1 a2 a3
  obtain⟨x,e1,e2⟩:=at_ (u -lo) (by omega)
  obtain⟨y,e3,e4⟩:=at_ (v -lo) (by omega)
  rw[show lo+(u -lo)=u by omega] at e2
  rw[show lo+(v -lo)=v by omega] at e4
  rw[e2,e4]
  exact qp h (by omega) e1 e3
theorem we{α:Type}(c:Nat):∀(m:List α) (n:Nat) (a:Array α),c+n+m.length≤a.size→((m.zipIdx n).foldl (λa (x:α×Nat)=>a.setIfInBounds (c+x.2) x.1) a).toList=a.toList.take (c+n)++m++a.toList.drop (c+n+m.length)
 |[],n,a,_=>by simp
 |x::m,n,a,h=>by
  rw[List.zipIdx_cons,GbR]
  simp only[GaF] at h
  rw[we c m (n+1) _ (by rw[Array.size_setIfInBounds];omega),Array.toList_setIfInBounds]
  have hc:c+n<a.toList.length:=by simp;omega
  have e1:(a.toList.set (c+n) x).take (c+(n+1))=a.toList.take (c+n)++[x]:=by
   rw[show c+(n+1)=c+n+1 by omega,List.take_succ,List.take_set_of_le (Gap _),GaN hc]
   rfl
  have e2:(a.toList.set (c+n) x).drop (c+(n+1)+m.length)=a.toList.drop (c+n+(x::m).length):=by
   rw[List.drop_set_of_lt (by omega)]
   congr 1
   simp only[GaF];omega
  rw[e1,e2]
  simp
theorem Hy{M:Model}{A:Around}{E:Value→Shared→Prop}{s:Shared}{σ:Type}{x st:σ}{Q:PUnit→σ→Prop}(h:Q ⟨⟩ x):wpS M A E s (set x:StateT σ Sem PUnit) Q st:=by
 unfold wpS;rw[StateT.run_set];exact Gar ⟨rfl,h⟩
theorem Hz(i:Nat):mergeAt' i=(do
 let z←get
 let(some (sa,na,w0),some (sb,nb,_)):=((pendingOf z)[i]?,(pendingOf z)[i+1]?)|unsupported "internal:list.sort.pending"
 set (setPending z (((pendingOf z).setIfInBounds i (sa,na+nb,w0)).eraseIdxIfInBounds (i+1)))
 let some k←kD false (←elem' (arrOf z) sb) (arrOf z) sa na 0|return false
 let(sc,nc):=(sa+k,na -k)
 if nc==0 then return true
 let some nd←kD true (←elem' (arrOf z) (sc+nc -1)) (arrOf z) sb nb (nb -1)|return false
 if nd==0 then return true
 let x:=(arrOf z).extract sc sb
 let y:=(arrOf z).extract sb (sb+nd)
 let mm←if nc≤nd then JT x y else JW x y
 modify λz=>setArr z (mm.toList.zipIdx.foldl (λa (q,j)=>a.setIfInBounds (sc+j) q) (arrOf z))
 return(failedOf (←get)).isNone):=rfl
section
variable{prog:Program}{w:World}{A:Around}{E:Value→Shared→Prop}{s:Shared}{st:SortSt}{κ:SortKind}{it:Array Keyed}{rk:Nat→Int}{p:Array Nat}
theorem HA{l:List Nat}{a b:Nat}(h:a≤b):l=l.take a++(l.drop a).take (b -a)++l.drop b:=by
 rw[Gas,←EX h,Gbc]
theorem AH{i sa na sb nb w0 w1:Nat}{Q:Bool→SortSt→Prop}(hA:i5 prog w A s κ it rk)(S:SS κ it st p)(e1:(pendingOf st)[i]? =some (sa,na,w0))(e2:(pendingOf st)[i+1]? =some (sb,nb,w1))(hb:sb=sa+na)(ha0:0<na)(hb0:0<nb)(hz:sb+nb≤p.size)
  (ua:Up' rk p sa sb)(ub:Up' rk p sb (sb+nb))
  (h:∀z p',SS κ it z p' →pendingOf z=((pendingOf st).setIfInBounds i (sa,na+nb,w0)).eraseIdxIfInBounds (i+1)→Ag sa (sb+nb) p p' →Up' rk p' sa (sb+nb)→Q true z):wpS (model prog w) A E s (mergeAt' i) Q st:=by
 rw[Hz]
 refine Gai (GcC ?_)
 rw[e1,e2]
 refine Gai (Hy ?_)
 generalize hz1:setPending st (((pendingOf st).setIfInBounds i (sa,na+nb,w0)).eraseIdxIfInBounds (i+1))=z1
 have S1:SS κ it z1 p:=by rw[←hz1];exact⟨S.kind,S.arr,S.fail,S.ok⟩
 have pe:pendingOf z1=((pendingOf st).setIfInBounds i (sa,na+nb,w0)).eraseIdxIfInBounds (i+1):=by rw[←hz1]
 have R:=S.rep
 have szl:p.toList.length=p.size:=by simp
 subst hb
 have sA:Srt rk ((p.toList.drop sa).take na):=(uG (by omega)).mp ua
 have sB:Srt rk ((p.toList.drop (sa+na)).take nb):=(uG (by omega)).mp ub
 have whole:∀l:List Nat,(p.toList.drop sa).take (na+nb)=l→Srt rk l→Up' rk p sa (sa+na+nb):=λl hl hs=>by
  rw[Gdw]
  exact(uG (by omega)).mpr (by rw[hl];exact hs)
 have split:(p.toList.drop sa).take (na+nb)=(p.toList.drop sa).take na++(p.toList.drop (sa+na)).take nb:=by
  rw[List.take_add,GbQ]
 obtain⟨y0,ey0⟩:∃x,p.toList[sa+na]? =some x:=⟨_,Gaa (by omega)⟩
 refine Gai (bF R ey0 ?_)
 refine Gai (oK hA S1.kind R (R.lt ey0) (by omega) sA ha0 λk k1 t1 t2=> ?_)
 simp only[GaD,Gbg] at t1 t2
 dsimp only
 have hB0:((p.toList.drop (sa+na)).take nb)[0]? =some y0:=by
  rw[GaT hb0,Gbh];exact ey0
 have leB:∀y∈(p.toList.drop (sa+na)).take nb,rk y0≤rk y:=λy hy=>m6 sB hB0 (by rw[GbE];exact hy)
 by_cases c1:(na -k==0)=true
 ·rw[Gag c1]
  have:na -k=0:=by simpa using c1
  have kk:k=na:=by omega
  subst kk
  refine Gao (h z1 p S1 pe .refl (whole _ split (dJ sA sB λx hx y hy=> ?_)))
  have q1:=t1 x (by rw[Gci,GdA];exact hx)
  have q2:=leB y hy
  omega
 rw[Gae c1]
 have c1' :na -k≠0:=by simpa using c1
 obtain⟨x1,ex1⟩:∃x,p.toList[sa+k+(na -k)-1]? =some x:=⟨_,Gaa (by omega)⟩
 refine Gai (bF R ex1 ?_)
 refine Gai (oK hA S1.kind R (R.lt ex1) (by omega) sB (by omega) λnd d1 t3 t4=> ?_)
 simp only[Gbq] at t3 t4
 dsimp only
 have hAl:((p.toList.drop sa).take na)[na -1]? =some x1:=by
  rw[GaT (by omega),Gbh,show sa+(na -1)=sa+k+(na -k)-1 by omega]
  exact ex1
 have leA:∀x∈(p.toList.drop sa).take na,rk x≤rk x1:=λx hx=>by
  refine m8 (n:=na) sA hAl ?_
  rw[Gci,GdA];exact hx
 by_cases c2:(nd==0)=true
 ·rw[Gag c2]
  have nd0:nd=0:=by simpa using c2
  subst nd0
  refine Gao (h z1 p S1 pe .refl (whole _ split (dJ sA sB λx hx y hy=> ?_)))
  have q1:=leA x hx
  have q2:=t4 y (by rw[GbE];exact hy)
  omega
 rw[Gae c2]
 have c2' :nd≠0:=by simpa using c2
 have Rx:b9 it ((arrOf st).extract (sa+k) (sa+na)) ((p.toList.drop (sa+k)).take (na -k)):=by
  have:=R.extract (sa+k) (sa+na)
  rw[show sa+na -(sa+k)=na -k by omega] at this
  exact this
 have Ry:b9 it ((arrOf st).extract (sa+na) (sa+na+nd)) ((p.toList.drop (sa+na)).take nd):=by
  have:=R.extract (sa+na) (sa+na+nd)
  rw[show sa+na+nd -(sa+na)=nd by omega] at this
  exact this
 have ePx:(p.toList.drop (sa+k)).take (na -k)=((p.toList.drop sa).take na).drop k:=by rw[GcD,GbQ]
 have ePy:(p.toList.drop (sa+na)).take nd=((p.toList.drop (sa+na)).take nb).take nd:=by rw[Gci,Gcb d1]
 have sx:Srt rk ((p.toList.drop (sa+k)).take (na -k)):=by rw[ePx];exact fB sA k
 have sy:Srt rk ((p.toList.drop (sa+na)).take nd):=by rw[ePy];exact fX sB nd
 have lx:((p.toList.drop (sa+k)).take (na -k)).length=na -k:=by simp;omega
 have ly:((p.toList.drop (sa+na)).take nd).length=nd:=by simp;omega
 have f0:∀x,((p.toList.drop (sa+na)).take nd)[0]? =some x→∀y∈(p.toList.drop (sa+k)).take (na -k),rk x≤rk y:=λx hx y hy=>by
  rw[GaT (by omega),Gbh] at hx
  have:p.toList[sa+na]? =some x:=hx
  rw[ey0] at this;cases this
  rw[ePx] at hy
  have:=t2 y hy
  omega
 have fl:∀x,((p.toList.drop (sa+k)).take (na -k))[((p.toList.drop (sa+k)).take (na -k)).length -1]? =some x→∀y∈(p.toList.drop (sa+na)).take nd,rk y≤rk x:=λx hx y hy=>by
  rw[lx,GaT (by omega),Gbh,show sa+k+(na -k -1)=sa+k+(na -k)-1 by omega,ex1] at hx
  cases hx
  rw[ePy] at hy
  have:=t3 y hy
  omega
 have fin:∀mm z,bD z1 z→dA it rk ((p.toList.drop (sa+k)).take (na -k)) ((p.toList.drop (sa+na)).take nd) mm→
   wpS (model prog w) A E s (do
    modify λz=>setArr z (mm.toList.zipIdx.foldl (λa (x:Keyed×Nat)=>a.setIfInBounds (sa+k+x.2) x.1) (arrOf z))
    let z' ←get
    pure (failedOf z').isNone) Q z:=by
  rintro mm z sg ⟨m,Rm,pm,sm⟩
  have lm:m.length=na -k+nd:=by have:=pm.length_eq;rw[Gav,lx,ly] at this;exact this
  refine Gai (GbL (Gai (GcC (Gao ?_))))
  have ea:arrOf z=arrOf st:=sg.2.1.trans (by rw[S1.arr,S.arr])
  have hmm:mm.toList=m.map (kas_item it):=by rw[Rm.1]
  have hw:((mm.toList.zipIdx.foldl (λa (x:Keyed×Nat)=>a.setIfInBounds (sa+k+x.2) x.1) (arrOf z))).toList=(p.toList.take (sa+k)++m++p.toList.drop (sa+na+nd)).map (kas_item it):=by
   rw[hmm,ea]
   have:=we (sa+k) (m.map (kas_item it)) 0 (arrOf st) (by rw[Gah,lm,R.size,szl];omega)
   rw[this,R.1]
   simp only[GaJ,List.map_take,Gdv,Gah,lm,Nat.add_zero]
   rw[show sa+k+(na -k+nd)=sa+na+nd by omega]
  have fz:failedOf (setArr z (mm.toList.zipIdx.foldl (λa (x:Keyed×Nat)=>a.setIfInBounds (sa+k+x.2) x.1) (arrOf z)))=none:=sg.2.2.2.trans S1.fail
  have pieces:p.toList=p.toList.take (sa+k)++((p.toList.drop (sa+k)).take (na -k)++(p.toList.drop (sa+na)).take nd)++p.toList.drop (sa+na+nd):=by
   conv=>lhs;rw[HA (l:=p.toList) (show sa+k≤sa+na+nd by omega)]
   congr 2
   rw[show sa+na+nd -(sa+k)=(na -k)+nd by omega,List.take_add,GbQ,show sa+k+(na -k)=sa+na by omega]
  generalize hl' :p.toList.take (sa+k)++m++p.toList.drop (sa+na+nd)=l' at hw
  have pl:l'.Perm p.toList:=by
   rw[←hl']
   conv=>rhs;rw[pieces]
   exact GaY _ (Gbo _ pm)
  have S2:SS κ it (setArr z (mm.toList.zipIdx.foldl (λa (x:Keyed×Nat)=>a.setIfInBounds (sa+k+x.2) x.1) (arrOf z))) l'.toArray:=by
   refine⟨sg.1.trans S1.kind, ?_,fz,λj hj=>S.ok j (pl.mem_iff.mp hj)⟩
   apply Gck.mp
   show(mm.toList.zipIdx.foldl (λa (x:Keyed×Nat)=>a.setIfInBounds (sa+k+x.2) x.1) (arrOf z)).toList=_
   rw[hw];simp
  have lt1:(p.toList.take (sa+k)).length=sa+k:=by simp;omega
  have ag:Ag sa (sa+na+nb) p l'.toArray:=by
   refine⟨⟨pl⟩,λj hj=> ?_⟩
   show l'.toArray[j]? =p[j]?
   have g1:l'.toArray[j]? =l'[j]? :=by simp
   have g2:p[j]? =p.toList[j]? :=by simp
   rw[g1,g2,←hl']
   rcases hj with hj|hj
   ·rw[Gas,GaS (by rw[lt1];omega),GaT (by omega)]
   ·rw[GaM (by rw[Gav,lt1,lm];omega),Gav,lt1,lm,Gbh]
    congr 1;omega
  have nn:failedOf (setArr z (mm.toList.zipIdx.foldl (λa (x:Keyed×Nat)=>a.setIfInBounds (sa+k+x.2) x.1) (arrOf z)))=none:=fz
  have goal:=h _ l'.toArray S2 (sg.2.2.1.trans pe) ag ?_
  ·rw[nn];exact goal
  ·rw[Gdw]
   refine(uG (by rw[Gan,pl.length_eq,szl];omega)).mpr ?_
   have seg:(l'.drop sa).take (na+nb)=((p.toList.drop sa).take na).take k++m++((p.toList.drop (sa+na)).take nb).drop nd:=by
    rw[←hl',Gas,List.drop_append_of_le_length (by rw[lt1];omega)]
    have q1:(p.toList.take (sa+k)).drop sa=((p.toList.drop sa).take na).take k:=by rw[GcD,Gci,show sa+k -sa=k by omega,Gcb k1]
    rw[q1]
    have lk:(((p.toList.drop sa).take na).take k).length=k:=by simp;omega
    rw[←Gas,List.take_append,Gav,lk,lm,Gbu (by rw[Gav,lk,lm];omega)]
    congr 1
    rw[GcD,GbQ]
    congr 1
    omega
   show Srt rk ((l'.toArray.toList.drop sa).take (na+nb))
   show Srt rk ((l'.drop sa).take (na+nb))
   rw[seg]
   refine dJ (dJ (fX sA k) sm λx hx y hy=> ?_) (fB sB nd) λx hx y hy=> ?_
   ·rcases Gax.mp (pm.mem_iff.mp hy) with hy|hy
    ·rw[ePx] at hy
     exact qq sA k x hx y hy
    ·rw[ePy] at hy
     have b1:=t1 x hx
     have b2:=leB y (Gbm hy)
     omega
   ·rcases Gax.mp hx with hx|hx
    ·have b1:=leA x (Gbm hx)
     have b2:=t4 y hy
     omega
    ·rcases Gax.mp (pm.mem_iff.mp hx) with hx|hx
     ·rw[ePx] at hx
      have b1:=leA x (Gbs hx)
      have b2:=t4 y hy
      omega
     ·rw[ePy] at hx
      exact qq sB nd x hx y hy
 by_cases c3:na -k≤nd
 ·rw[Gag c3]
  exact Gai (Mw hA S1.kind Rx Ry sx sy (by omega) (by omega) f0 fl fin)
 ·rw[Gae c3]
  exact Gai (MB hA S1.kind Rx Ry sx sy (by omega) (by omega) f0 fl fin)
end
noncomputable abbrev Run:=Nat×Nat×Nat
def chain:Nat→List Run→Nat→Prop
 |a,[],b=>a=b
 |a,r::t,b=>r.1=a∧0<r.2.1∧chain (a+r.2.1) t b
theorem nP:∀{l:List Run} {a b:Nat},chain a l b→a+l.length≤b
 |[],a,b,h=>by have:a=b:=h;simp;omega
 |r::t,a,b,h=>by
  have:=nP h.2.2
  have:=h.2.1
  simp only[GaF];omega
theorem oN:∀{l:List Run} {a b:Nat} {r:Run},chain a l b→r∈l→a≤r.1∧r.1+r.2.1≤b∧0<r.2.1
 |q::t,a,b,r,h,hr=>by
  rcases Gay.mp hr with e|e
  ·subst e
   have:=nP h.2.2
   have:=h.1
   exact⟨by omega,by omega,h.2.1⟩
  ·have:=oN h.2.2 e
   exact⟨by omega,this.2.1,this.2.2⟩
theorem qT:∀{l:List Run} {a b:Nat} {n w0:Nat},chain a l b→0<n→chain a (l++[(b,n,w0)]) (b+n)
 |[],a,b,n,w0,h,hn=>by have:a=b:=h;subst this;exact⟨rfl,hn,rfl⟩
 |r::t,a,b,n,w0,h,hn=> ⟨h.1,h.2.1,qT h.2.2 hn⟩
theorem nQ{f:Run→Run}(hf:∀r,(f r).1=r.1∧(f r).2.1=r.2.1):∀{l:List Run} {a b:Nat} (i:Nat),chain a l b→chain a (l.modify i f) b
 |[],a,b,i,h=>by simpa using h
 |r::t,a,b,0,h=>by
  rw[List.modify_zero_cons]
  exact⟨(hf r).1.trans h.1,by rw[(hf r).2];exact h.2.1,by rw[(hf r).2];exact h.2.2⟩
 |r::t,a,b,i+1,h=>by
  rw[List.modify_succ_cons]
  exact⟨h.1,h.2.1,nQ hf i h.2.2⟩
theorem mem_modify{f:Run→Run}(hf:∀r,(f r).1=r.1∧(f r).2.1=r.2.1):∀{l:List Run} {i:Nat} {r:Run},r∈l.modify i f→∃r' ∈l,r'.1=r.1∧r'.2.1=r.2.1
 |[],i,r,h=>by simp at h
 |q::t,0,r,h=>by
  rw[List.modify_zero_cons] at h
  rcases Gay.mp h with e|e
  ·subst e;exact⟨q,Gak,(hf q).1.symm,(hf q).2.symm⟩
  ·exact⟨r,Gaf _ e,rfl,rfl⟩
 |q::t,i+1,r,h=>by
  rw[List.modify_succ_cons] at h
  rcases Gay.mp h with e|e
  ·subst e;exact⟨r,Gak,rfl,rfl⟩
  ·obtain⟨r',h1,h2⟩:=mem_modify hf e
   exact⟨r',Gaf _ h1,h2⟩
theorem pw:∀{l:List Run} {a b:Nat} {i sa na w0 sb nb w1:Nat},chain a l b→l[i]? =some (sa,na,w0)→l[i+1]? =some (sb,nb,w1)→
  sb=sa+na∧0<na∧0<nb∧a≤sa∧sb+nb≤b∧chain a ((l.set i (sa,na+nb,w0)).eraseIdx (i+1)) b∧∀r∈(l.set i (sa,na+nb,w0)).eraseIdx (i+1),r=(sa,na+nb,w0)∨(r∈l∧(r.1+r.2.1≤sa∨sb+nb≤r.1))
 |r::r2::t,a,b,0,sa,na,w0,sb,nb,w1,h,e1,e2=>by
  simp at e1 e2
  subst e1 e2
  obtain⟨h1,h2,h3,h4,h5⟩:=h
  have h1' :sa=a:=h1
  have h3' :sb=a+na:=h3
  have h2' :0<na:=h2
  have h4' :0<nb:=h4
  have le:=nP h5
  refine⟨by omega,h2',h4',by omega, ?_, ?_,λq hq=> ?_⟩
  ·have:a+na+nb≤b:=by
    have:a+(sa,na,w0).2.1+(sb,nb,w1).2.1+t.length≤b:=le
    have:a+na+nb+t.length≤b:=this
    omega
   omega
  ·show chain a ((sa,na+nb,w0)::t) b
   refine⟨h1,by show 0<na+nb;omega, ?_⟩
   show chain (a+(na+nb)) t b
   rw[←Gdw]
   exact h5
  ·have hq' :q=(sa,na+nb,w0)∨q∈t:=by simpa using hq
   rcases hq' with e|e
   ·exact .inl e
   ·refine .inr ⟨Gaf _ (Gaf _ e),.inr ?_⟩
    have:=(oN h5 e).1
    have:a+na+nb≤q.1:=this
    omega
 |r::t,a,b,i+1,sa,na,w0,sb,nb,w1,h,e1,e2=>by
  rw[GcT] at e1 e2
  obtain⟨g1,g2,g3,g4,g5,g6,g7⟩:=pw h.2.2 e1 e2
  have:=h.2.1
  refine⟨g1,g2,g3,by omega,g5,⟨h.1,h.2.1, ?_⟩,λq hq=> ?_⟩
  ·exact g6
  ·have hq' :q=r∨q∈(t.set i (sa,na+nb,w0)).eraseIdx (i+1):=by simpa using hq
   rcases hq' with e|e
   ·subst e
    refine .inr ⟨Gak,.inl ?_⟩
    have:=h.1
    omega
   ·rcases g7 q e with z| ⟨z1,z2⟩
    ·exact .inl z
    ·exact .inr ⟨Gaf _ z1,z2⟩
section
variable{prog:Program}{w:World}{A:Around}{E:Value→Shared→Prop}{s:Shared}{st:SortSt}{κ:SortKind}{it:Array Keyed}{rk:Nat→Int}{p0 p:Array Nat}
structure Pd(κ:SortKind)(it:Array Keyed)(rk:Nat→Int)(p0:Array Nat)(lo:Nat)(z:SortSt)(p:Array Nat):Prop where
 ss:SS κ it z p
 perm:p.Perm p0
 ch:chain 0 (pendingOf z).toList lo
 up:∀r∈(pendingOf z).toList,Up' rk p r.1 (r.1+r.2.1)
 le:lo≤p0.size
theorem Pd.size{lo:Nat}{z:SortSt}(P:Pd κ it rk p0 lo z p):p.size=p0.size:=by
 have:=P.perm.toList.length_eq
 simpa using this
theorem qU{lo i:Nat}{Q:Bool→SortSt→Prop}(hA:i5 prog w A s κ it rk)(P:Pd κ it rk p0 lo st p)(hi:i+1<(pendingOf st).size)
  (h:∀z p',Pd κ it rk p0 lo z p' →Ag 0 lo p p' →(pendingOf z).size+1=(pendingOf st).size→Q true z):wpS (model prog w) A E s (mergeAt' i) Q st:=by
 obtain⟨⟨sa,na,w0⟩,e1⟩:∃x,(pendingOf st)[i]? =some x:=⟨_,Gcg (by omega)⟩
 obtain⟨⟨sb,nb,w1⟩,e2⟩:∃x,(pendingOf st)[i+1]? =some x:=⟨_,Gcg hi⟩
 have e1' :(pendingOf st).toList[i]? =some (sa,na,w0):=by simpa using e1
 have e2' :(pendingOf st).toList[i+1]? =some (sb,nb,w1):=by simpa using e2
 obtain⟨g1,g2,g3,g4,g5,g6,g7⟩:=pw P.ch e1' e2'
 have le:=P.le
 have sz:=P.size
 have u1:=P.up _ (GaL e1')
 have u2:=P.up _ (GaL e2')
 refine AH hA P.ss e1 e2 g1 g2 g3 (by omega) (by rw[g1];exact u1) u2 λz p' S' pe ag up' => ?_
 have tl:(pendingOf z).toList=((pendingOf st).toList.set i (sa,na+nb,w0)).eraseIdx (i+1):=by
  rw[pe]
  simp[Array.toList_eraseIdxIfInBounds,Array.toList_setIfInBounds]
 have aL:Ag 0 lo p p' :=⟨ag.perm,λk hk=>ag.out k (by omega)⟩
 refine h z p' ⟨S',ag.perm.trans P.perm,by rw[tl];exact g6,λr hr=> ?_,P.le⟩ aL ?_
 ·rw[tl] at hr
  rcases g7 r hr with e| ⟨hr1,hr2⟩
  ·subst e
   show Up' rk p' sa (sa+(na+nb))
   rw[←Gdw,←g1];exact up'
  ·intro u v a1 a2 a3
   rw[ag.rk (by omega),ag.rk (by omega)]
   exact P.up r hr1 u v a1 a2 a3
 ·have l1:(pendingOf z).size=(pendingOf z).toList.length:=by simp
  have l2:(pendingOf st).size=(pendingOf st).toList.length:=by simp
  rw[l1,l2,tl,List.length_eraseIdx_of_lt (by rw[GcH,←l2];exact hi),GcH]
  omega
end
section
variable{prog:Program}{w:World}{A:Around}{E:Value→Shared→Prop}{s:Shared}{st:SortSt}{κ:SortKind}{it:Array Keyed}{rk:Nat→Int}{p0 p:Array Nat}
theorem Pd.push{lo n:Nat}{z:SortSt}(P:Pd κ it rk p0 lo z p)(hn:0<n)(hz:lo+n≤p0.size)(hu:Up' rk p lo (lo+n)):Pd κ it rk p0 (lo+n) (setPending z ((pendingOf z).push (lo,n,0))) p:=by
 refine⟨⟨P.ss.kind,P.ss.arr,P.ss.fail,P.ss.ok⟩,P.perm, ?_,λr hr=> ?_,hz⟩
 ·show chain 0 ((pendingOf z).push (lo,n,0)).toList (lo+n)
  rw[GcA]
  exact qT P.ch hn
 ·have hr' :r∈((pendingOf z).push (lo,n,0)).toList:=hr
  rw[GcA] at hr'
  rcases Gax.mp hr' with e|e
  ·exact P.up r e
  ·simp at e;subst e;exact hu
theorem Pd.modify{lo i:Nat}{z:SortSt}{f:Run→Run}(P:Pd κ it rk p0 lo z p)(hf:∀r,(f r).1=r.1∧(f r).2.1=r.2.1):Pd κ it rk p0 lo (setPending z ((pendingOf z).modify i f)) p:=by
 refine⟨⟨P.ss.kind,P.ss.arr,P.ss.fail,P.ss.ok⟩,P.perm, ?_,λr hr=> ?_,P.le⟩
 ·show chain 0 ((pendingOf z).modify i f).toList lo
  rw[Array.toList_modify]
  exact nQ hf i P.ch
 ·have hr' :r∈((pendingOf z).modify i f).toList:=hr
  rw[Array.toList_modify] at hr'
  obtain⟨r',h1,h2,h3⟩:=mem_modify hf hr'
  rw[←h2,←h3]
  exact P.up r' h1
theorem HB{Q:Unit→SortSt→Prop}(hA:i5 prog w A s κ it rk)(S:SS κ it st p0)(hp:pendingOf st=#[])(h1:1≤p0.size)
  (h:∀z p,SS κ it z p→p.Perm p0→Up' rk p 0 p0.size→Q () z):wpS (model prog w) A E s sortRuns' Q st:=by
 rw[sortRuns'_eq]
 refine Gai (GcC ?_)
 dsimp only
 have sz:(arrOf st).size=p0.size:=by rw[S.arr];simp
 rw[sz]
 generalize minRun' p0.size p0.size 0=mr
 have P0:Pd κ it rk p0 0 st p0:=⟨S,Array.Perm.refl _,by rw[hp];rfl,λr hr=>(by rw[hp] at hr;cases hr),by omega⟩
 refine Gai (Gbr (Gbf (I:=λx c z=>∃lo p,c=(none,lo)∧Pd κ it rk p0 lo z p∧(x≤lo))
  (Q:=λc z=>∃p,c=(none,p0.size)∧Pd κ it rk p0 p0.size z p) ?step ?fin ⟨0,p0,rfl,P0,Gap _⟩) ?post)
 case fin=>
  rintro c z ⟨lo,p,rfl,P,hx⟩
  have:=P.le
  have e:lo=p0.size:=by
   have:max 0 p0.size=p0.size:=by omega
   omega
  subst e
  exact⟨p,rfl,P⟩
 case step=>
  rintro x c z _ hx ⟨lo,p,rfl,P,hlo⟩
  have le:=P.le
  have szp:=P.size
  by_cases c1:lo≥p0.size
  ·rw[Gag c1]
   have e:lo=p0.size:=by omega
   subst e
   exact Gao ⟨p,rfl,P⟩
  rw[Gae c1]
  refine Gai (F6 hA P.ss (by omega) (by omega) λm z1 p1 S1 hp1 ag1 m1 m2 up1=> ?_)
  dsimp only
  have carry:∀{n:Nat} {z2:SortSt} {p2:Array Nat},SS κ it z2 p2→ll z z2→Ag lo (lo+n) p p2→lo+n≤p0.size→Pd κ it rk p0 lo z2 p2:=λ{n z2 p2} S2 hp2 ag2 hn=>by
   have hp2' :pendingOf z2=pendingOf z:=hp2
   refine⟨S2,ag2.perm.trans P.perm,by rw[hp2'];exact P.ch,λr hr=> ?_,le⟩
   rw[hp2'] at hr
   have:=(oN P.ch hr).2.1
   intro u v a1 a2 a3
   rw[ag2.rk (by omega),ag2.rk (by omega)]
   exact P.up r hr u v a1 a2 a3
  by_cases c2:m<mr
  ·rw[Gag c2]
   refine Gai (wpS_lift (Gce ⟨rfl, ?_⟩))
   have sz1:=ag1.size
   refine Gai (K1 hA S1 (by omega) m1 (by omega) up1 λz2 p2 S2 hp2 ag2 up2=> ?_)
   simp only[Gdd,GaD,Gbg]
   obtain⟨n,hnn⟩:∃n,n=min (p0.size -lo) mr:=⟨_,rfl⟩
   have P2:Pd κ it rk p0 lo z2 p2:=carry S2 (hp2.trans hp1) (ag1.trans (ag2.mono (by omega))|>.mono (hi' :=lo+(p0.size -lo)) (by omega)) (by omega)
   rw[←hnn] at up2⊢
   have n0:0<n:=by omega
   have hn:lo+n≤p0.size:=by omega
   refine Gai (GcC ?_)
   cases hb:(pendingOf z2).back? with
   |none=>
    exact Gai (GbL (Gao ⟨lo+n,p2,rfl,P2.push n0 hn up2,by omega⟩))
   |some r=>
    obtain⟨s1,n1,w1⟩:=r
    refine Gai (Gbr (Gbf (I:=λ_ c y=>c=(none,⟨⟩)∧∃p3,Pd κ it rk p0 lo y p3∧Up' rk p3 lo (lo+n)) (Q:=λc y=>c=(none,⟨⟩)∧∃p3,Pd κ it rk p0 lo y p3∧Up' rk p3 lo (lo+n)) ?s1 (λ_ _ z=>z) ⟨rfl,p2,P2,up2⟩) ?p1)
    case p1=>
     rintro c y ⟨rfl,p3,P3,up3⟩
     refine Gai (GbL (Gai (GbL (Gao ⟨lo+n,p3,rfl, ?_,by omega⟩))))
     exact(P3.modify (f:=λx=>(x.1,x.2.1,power' p0.size (2*s1+n1) (2*s1+n1+n1+n) p0.size)) (λr=> ⟨rfl,rfl⟩)).push n0 hn up3
    case s1=>
     rintro i c y _ _ ⟨rfl,p3,P3,up3⟩
     refine Gai (GcC ?_)
     by_cases g:(pendingOf y).size>1
     ·rw[Gag g]
      obtain⟨⟨t1,t2,t3⟩,ht⟩:∃x,(pendingOf y)[(pendingOf y).size -2]? =some x:=⟨_,Gcg (by omega)⟩
      rw[ht]
      dsimp only
      split
      ·exact Gao ⟨rfl,p3,P3,up3⟩
      ·refine Gai (qU hA P3 (by omega) λy2 p4 P4 ag4 _=> ?_)
       simp only[Gdd,GaD,Gbg]
       refine Gao ⟨rfl,p4,P4,λu v a1 a2 a3=> ?_⟩
       rw[ag4.rk (by omega),ag4.rk (by omega)]
       exact up3 u v a1 a2 a3
     ·rw[Gae g]
      exact Gao ⟨rfl,p3,P3,up3⟩
  ·rw[Gae c2]
   obtain⟨n,hnn⟩:∃n,n=m:=⟨_,rfl⟩
   rw[←hnn] at up1⊢
   have P2:Pd κ it rk p0 lo z1 p1:=carry S1 hp1 (ag1.mono (hi' :=lo+(p0.size -lo)) (by omega)) (by omega)
   have n0:0<n:=by omega
   have hn:lo+n≤p0.size:=by omega
   refine Gai (GcC ?_)
   cases hb:(pendingOf z1).back? with
   |none=>
    exact Gai (GbL (Gao ⟨lo+n,p1,rfl,P2.push n0 hn up1,by omega⟩))
   |some r=>
    obtain⟨s1,n1,w1⟩:=r
    refine Gai (Gbr (Gbf (I:=λ_ c y=>c=(none,⟨⟩)∧∃p3,Pd κ it rk p0 lo y p3∧Up' rk p3 lo (lo+n)) (Q:=λc y=>c=(none,⟨⟩)∧∃p3,Pd κ it rk p0 lo y p3∧Up' rk p3 lo (lo+n)) ?s1 (λ_ _ z=>z) ⟨rfl,p1,P2,up1⟩) ?pp)
    case pp=>
     rintro c y ⟨rfl,p3,P3,up3⟩
     refine Gai (GbL (Gai (GbL (Gao ⟨lo+n,p3,rfl, ?_,by omega⟩))))
     exact(P3.modify (f:=λx=>(x.1,x.2.1,power' p0.size (2*s1+n1) (2*s1+n1+n1+n) p0.size)) (λr=> ⟨rfl,rfl⟩)).push n0 hn up3
    case s1=>
     rintro i c y _ _ ⟨rfl,p3,P3,up3⟩
     refine Gai (GcC ?_)
     by_cases g:(pendingOf y).size>1
     ·rw[Gag g]
      obtain⟨⟨t1,t2,t3⟩,ht⟩:∃x,(pendingOf y)[(pendingOf y).size -2]? =some x:=⟨_,Gcg (by omega)⟩
      rw[ht]
      dsimp only
      split
      ·exact Gao ⟨rfl,p3,P3,up3⟩
      ·refine Gai (qU hA P3 (by omega) λy2 p4 P4 ag4 _=> ?_)
       simp only[Gdd,GaD,Gbg]
       refine Gao ⟨rfl,p4,P4,λu v a1 a2 a3=> ?_⟩
       rw[ag4.rk (by omega),ag4.rk (by omega)]
       exact up3 u v a1 a2 a3
     ·rw[Gae g]
      exact Gao ⟨rfl,p3,P3,up3⟩
 case post=>
  rintro c z ⟨p,rfl,P⟩
  refine Gai (Gbr (Gbf (I:=λx c y=>c=(none,())∧∃p,Pd κ it rk p0 p0.size y p∧(pendingOf y).size+x≤p0.size) (Q:=λc y=>c=(none,())∧∃p,Pd κ it rk p0 p0.size y p∧(pendingOf y).size≤1) ?s2 ?f2 ⟨rfl,p,P, ?i2⟩) ?p2)
  case i2=>
   have:=nP P.ch
   simp at this
   omega
  case f2=>
   rintro c y ⟨rfl,p,P,hs⟩
   refine⟨rfl,p,P, ?_⟩
   have:max 0 p0.size=p0.size:=by omega
   omega
  case p2=>
   rintro c y ⟨rfl,p,P,hs⟩
   refine Gao (h y p P.ss P.perm ?_)
   have ch:=P.ch
   have up:=P.up
   have l1:(pendingOf y).toList.length≤1:=by simpa using hs
   generalize (pendingOf y).toList=l at ch up l1
   match l,l1 with
   |[],_=>
    have:0=p0.size:=ch
    omega
   |[r],_=>
    obtain⟨c1,c2,c3⟩:=ch
    have c3' :0+r.2.1=p0.size:=c3
    have:=up r (by simp)
    rw[c1,c3'] at this
    exact this
  case s2=>
   rintro x c y _ hx ⟨rfl,p,P,hs⟩
   refine Gai (GcC ?_)
   by_cases g:(pendingOf y).size≤1
   ·rw[Gag g]
    exact Gao ⟨rfl,p,P,g⟩
   rw[Gae g]
   have go:∀i,i+1<(pendingOf y).size→wpS (model prog w) A E s (do
     let b←mergeAt' i
     if(!b)=true then pure (ForInStep.done ((some ⟨⟩,()):Option PUnit×PUnit)) else pure (ForInStep.yield (none,()))) (λr z' =>match r with
     | .done c=>c=(none,())∧∃p,Pd κ it rk p0 p0.size z' p∧(pendingOf z').size≤1
     | .yield c=>c=(none,())∧∃p,Pd κ it rk p0 p0.size z' p∧(pendingOf z').size+(x+1)≤p0.size) y:=λi hi=>by
    refine Gai (qU hA P hi λy2 p4 P4 ag4 hs4=> ?_)
    simp only[Gdd,GaD,Gbg]
    exact Gao ⟨rfl,p4,P4,by omega⟩
   refine Gbr (go _ ?_) λr z' hr=>by cases r<;>exact hr
   by_cases i0:(pendingOf y).size -2>0
   ·rw[Gag i0]
    split<;>omega
   ·rw[Gae i0]
    simp only[Option.any_none,GaD,Gbg]
    omega
end
section
variable{prog:Program}{w:World}{A:Around}{E:Value→Shared→Prop}{s:Shared}
theorem se{a:Addr}{vs:List Value}{cs:List (List (List Int))}{n:Nat}{P:PySem.Fin→Shared→Prop}(ho:s.heap.get? a=some (seqObj "list" vs.toArray n))(h64:vs.length<1000000)
  (hK:∀G:Heap,(∀b o,b≠a→s.heap.get? b=some o→G.get? b=some o)→uB prog w A E {s with heap:=G} cs vs)
  (h:∀p:Array Nat,Ord vs.length p→Up (rank cs) p vs.length→P (.done (.ret .none)) {s with heap:=sortedHeap s.heap a vs (List.toArray (p.toList.map λi=>vs.getD i Value.none))}):wpAny (model prog w) A (Builtin.«list.sort» ⟨[.ref a],[]⟩) P E s:=by
 have hz:(vs.toArray.zip vs.toArray).size=vs.length:=by simp
 have zr:(List.toArray (List.range vs.length)).size=vs.length:=by simp
 refine Au (Ok:=k8 cs vs) ho (by rw[GbA];omega) k8.one (λ_ q=>q.len) (λG kp c=>hK G kp c _ λκ hκ=> ?_) λ_ ⟨p,h1,h2,e⟩=>e▸h p h1 h2
 refine GbK (HB (prog:=prog) (w:=w) (A:=A) (κ:=κ) (E:=E) (s:={s with heap:=G}) (st:=SortSt.mk' κ (vs.toArray.zip vs.toArray) #[] 7 none) (it:=vs.toArray.zip vs.toArray) (rk:=rank cs) (p0:=List.toArray (List.range vs.length))
  (Q:=λ_ st=>failedOf st=none∧k8 cs vs ((arrOf st).map (·.2))) (λi j hi hj C hc=> ?_) ⟨rfl, ?_,rfl,λi hi=> ?_⟩ rfl (by omega) λz p S pm up=> ?_) (λr s' q=> ?_) λ_ _ e=>e
 ·have:=hκ i j C (by omega) (by omega) hc
  rwa[PySem.W.kat_ask_eq (ks:=vs) (vs:=vs) rfl] at this
 ·have e:=PySem.W.kas_range (vs.toArray.zip vs.toArray)
  rw[hz] at e
  exact e.symm
 ·simpa using hi
 ·rw[zr] at up
  exact⟨S.fail,p,pm.toList,λu v q r=>up u v (GbI _) q r,kat_snds rfl S.arr⟩
 ·exact q
theorem AI{l:Addr}{o:Obj}{vs:List Value}{cs:List (List (List Int))}{n:Nat}{T:String}{Q:Value→Shared→Prop}(ho:s.heap.get? l=some o)(hc:o.cls= .type T)(hT:T="list"∨T="tuple")(hd:o.data= .seq vs.toArray n)(h64:vs.length<1000000)
  (hK:∀G:Heap,(∀b o,s.heap.get? b=some o→G.get? b=some o)→∀A' :Around,A'.units=A.units+2→uB prog w A' E {s with heap:=G} cs vs)
  (h:∀p:Array Nat,Ord vs.length p→Up (rank cs) p vs.length→Q (.ref (s.heap.objs.size+1)) {s with heap:=sortedAll s.heap vs (List.toArray (p.toList.map λi=>vs.getD i Value.none))}):wpAny (model prog w) A (call (.builtin "sorted") [.ref l]) Q E s:=by
 have szl:vs.length≤sizeLine:=by rw[GbA];omega
 refine Calls.call_function_entry kind_sorted plain_sorted entry_sorted (args_sorted1 _) ?_
 unfold Builtin.«sorted»
 refine Gad (m:=checkCount "sorted" 1 1 _) (Gar (Gad (vU ho hc hT hd ?_ szl)))
 refine Gad (wpAny_newList ?_ szl)
 generalize hG:(s.heap.push (seqObj "list" #[] 0)).update s.heap.objs.size (Obj.mapSeq (· ++vs.toArray))=G
 have hsz:G.objs.size=s.heap.objs.size+1:=by rw[←hG,Heap.size_update,size_push']
 have hoL:(G.push (seqObj "list" vs.toArray 0)).get? (s.heap.objs.size+1)=some (seqObj "list" vs.toArray 0):=by rw[←hsz];exact GaC _ rfl
 have keep:∀b o,s.heap.get? b=some o→(G.push (seqObj "list" vs.toArray 0)).get? b=some o:=λb o e=>by
  have hlt:=Gaz e
  refine Gaj _ ?_
  rw[←hG,Heap.get?_update_ne _ _ _ _ (GaO hlt)]
  exact Gaj _ e
 show wpAny _ _ _ _ _ {s with heap:=G.push (seqObj "list" vs.toArray 0)}
 rw[hsz]
 refine Gad (GcF (GbW slot_list_sort ⟨_,hoL,rfl⟩ entry_list_sort (se (cs:=cs) (s:={s with heap:=G.push (seqObj "list" vs.toArray 0)}) hoL h64 (λG' kG=> ?_) λp h1 h2=> ⟨_,rfl, ?_⟩) (args_list_sort _)))
 ·exact hK G' (λb o e=>kG b o (GaO (GcV (Gaz e))) (keep b o e)) _ rfl
 ·have:=h p h1 h2
  unfold sortedAll at this
  rw[hG] at this
  exact Gar ⟨_,rfl,this⟩
theorem uH{ds:List D}{vs:List Value}(hK:Paired (nM s.heap) ds vs)(hok:keysOk ds=true):uB prog w A E s (ds.map code) vs:=λh2 Q hQ=>by
 have hl:=hK.length
 exact CC hK hok (by omega) λκ hκ=>hQ κ λi j C hi hj hc=>Ey hK hok hκ i j C (by omega) (by omega) hc
theorem CO{h G:Heap}(kG:∀b o,h.get? b=some o→G.get? b=some o){d:D}{v:Value}(k:nM h d v):nM G d v:=by
 cases d with
 |int i=>exact k
 |tup fs=>
  obtain⟨b,o,m,us,h1,h2,h3,h4⟩:=k
  exact⟨b,o,m,us,h1,kG b o h2,h3,h4⟩
 |_=>exact k
end
section
variable{X:Cx}{e a b c:Expr}{f g h:DE}{pos:Pos}
def qV(K:aD):List V→Hp→VK→Prop:=λxs H Q=>∃(p:Addr) (ds:List D) (vs:List V) (F:Addr→Prop),xs=[.ref p]∧(SqL K H p vs∨SqT K H p vs)∧aX K F H ds vs∧ds.length<1000000∧keysOk ds=true∧
 ∀l out,H l=none→(∀F',aX K F' H ds vs→aX K F' H (cB ds) out)→Q (.ref l) (upd H l (.lst out))
theorem cO:i4 X (.builtin "sorted") (qV X.K):=by
 intro pins s σ H xs us Q I rv h
 obtain⟨p,ds,vs,F,rfl,hq,hr,h64,hok,q⟩:=h
 obtain⟨u,rfl,ru⟩:=rv.one
 cases ru
 obtain⟨o,T,n,its,ho,hc,hT,hd,rvs⟩:∃(o:Obj) (T:String) (n:Nat) (its:List Value),s.heap.get? p=some o∧o.cls= .type T∧(T="list"∨T="tuple")∧o.data= .seq its.toArray n∧Vals vs its:=by
  rcases hq with hq|hq
  ·obtain⟨its,rvs,pl,_⟩:=I.list hq
   obtain⟨o,h1,h2,n,h3⟩:=pl.isList
   exact⟨o,"list",n,its,h1,h2,.inl rfl,h3,rvs⟩
  ·obtain⟨its,rvs,⟨o,h1,h2,n,h3⟩,_⟩:=I.tuple hq
   exact⟨o,"tuple",n,its,h1,h2,.inr rfl,h3,rvs⟩
 have e1:its.length=ds.length:=by rw[←rvs.length,hr.1]
 have hK:=Bw I hr (EB hok) rvs
 refine AI (cs:=ds.map code) ho hc hT hd (by omega) (λG kG A' _=>uH (pv (λd v kv=>CO kG kv) hK) hok) λod h1 h2=> ?_
 have h1' :Ord ds.length od:=by rw[←e1];exact h1
 have h2' :Up (rank (ds.map code)) od ds.length:=by rw[←e1];exact h2
 have uniq:(od.toList.map λi=>ds.getD i .non)=cB ds:=jE ((qK h1').trans (fM ds).symm) (Av h1' h2') (fU ds) λa ha b hb=>Ew hok a ((qK h1').mem_iff.mp ha) b ((qK h1').mem_iff.mp hb)
 obtain⟨c,hat⟩:=sortedAll_at s.heap its (List.toArray (od.toList.map λi=>its.getD i Value.none))
 have fresh:H (s.heap.objs.size+1)=none:=I.hok.fresh (GcZ _)
 have h1v:Ord vs.length od:=by rw[←hr.1];exact h1'
 refine⟨.ref (s.heap.objs.size+1),_,I.laid (a:=s.heap.objs.size+1) (o:= .lst (od.toList.map λi=>vs.getD i .non)) (t' :=s.toks) (λb ob e=>sortedAll_old e) (GcZ _) ?_,rfl,q _ _ fresh λF' r=> ?_⟩
 ·refine⟨?_,_,c,EF h1v rvs,hat⟩
  rw[Gah,GbT,h1v.size,←hr.1,GbA]
  omega
 ·rw[←uniq]
  exact ED h1' r
theorem jH:CallD X fV (qV X.K):=by
 intro F H ds vs rv Q ps e k
 obtain⟨d,xs,rfl,h1,h2⟩:=As e
 split at h2
 ·rename_i c
  rw[Gau] at c
  cases h2
  obtain⟨v,rfl,i⟩:=i9 ps
  obtain⟨p,vs,rfl,hs,r⟩:=Ar i h1
  exact⟨p,xs,vs,F,rfl,hs,r,Gaw c.1,c.2,λl out hl hr=>k _ _ (bK hl) ⟨l,rfl,hl,qE,rfl,iR hl (hr F r)⟩⟩
 ·cases h2
end
open PySem
def Ris(xs:Array Nat):Prop:=∀i j:Nat,i<j→∀x y,xs[i]? =some x→xs[j]? =some y→x<y
def Tb(bt:Bool)(t:SetTable):Prop:=t.led= !bt∧(t.plain=true→Ris t.place)
open PySem PySem.Spec PyProof.Rows
noncomputable def kOf(e:Int×Value):Int:=match e.2 with
 | .int k _=>k
 |_=>0
section
variable{prog:Program}{w:World}{A:Around}{E:Value→Shared→Prop}{z:Shared}
def uI(prog:Program)(w:World)(es:Array (Int×Value))(ks:List Int):Prop:=(∀e∈es.toList,∃k t,e=((intKind prog w).hash k,Value.int k t))∧(es.toList.map kOf).Perm ks
def SetT(prog:Program)(w:World)(bt:Bool)(g:Heap)(a:Addr)(ks:List Int):Prop:=
 ∃o es ep t,g.get? a=some o∧o.ExactSet∧o.data= .set es ep t∧uI prog w es ks∧es.size<scanBound∧t.fits es.size=true∧Tb bt t
theorem uI.size{es:Array (Int×Value)}{ks:List Int}(h:uI prog w es ks):es.size=ks.length:=by
 have:=h.2.length_eq
 simpa using this
theorem uI.perm{es fs:Array (Int×Value)}{ks:List Int}(h:uI prog w es ks)(p:fs.toList.Perm es.toList):uI prog w fs ks:=⟨λe he=>h.1 e (p.mem_iff.mp he),(p.map kOf).trans h.2⟩
theorem uI.grow{es fs:Array (Int×Value)}{ks:List Int}{k:Int}{tk:Tok}(h:uI prog w es ks)(p:fs.toList.Perm (es.push ((intKind prog w).hash k,.int k tk)).toList):uI prog w fs (ks++[k]):=by
 rw[GcA] at p
 refine⟨λe he=> ?_,(p.map kOf).trans ?_⟩
 ·rcases Gax.mp (p.mem_iff.mp he) with q|q
  ·exact h.1 e q
  ·exact⟨k,tk,by simpa using q⟩
 ·rw[GaJ]
  exact h.2.append_right _
end
section
variable{prog:Program}{w:World}{A:Around}{R:Result→Shared→Prop}{I:Addr}{fp wr:List Addr}{G:Array GenState→Array GenState→Prop}{n:Nat}{P:Nat→Value→Prop}{St:Nat→Shared→Prop}
theorem SetT.at{bt:Bool}{g g' :Heap}{a:Addr}{ks:List Int}(h:SetT prog w bt g a ks)(e:∀o,g.get? a=some o→g'.get? a=some o):SetT prog w bt g' a ks:=let⟨o,es,ep,t,ho,r⟩:=h;⟨o,es,ep,t,e o ho,r⟩
end
noncomputable def MC(w:World):Bool:=w.params.followText "set-order"
section
variable{prog:Program}{w:World}{A:Around}{E:Value→Shared→Prop}{z:Shared}
theorem after{c:Code}{Q:Value→Shared→Prop}{R:Result→Shared→Prop}(h:codeAny (model prog w) A c (wants Q E) z)(k:∀v s',Q v s' →R (.ok (.ret v)) s')(e:∀x s',E x s' →R (.error x) s'):codeAny (model prog w) A c R z:=by
 refine codeAny_mono h ?_
 rintro(x|(v|_|_|_)) s' q
 ·exact e x s' q
 all_goals first|exact k _ s' q|exact q.elim
end
namespace Fr
end Fr
theorem qW{α:Type}:∀(xs:List α) (i:Nat) (h:i<xs.length),(xs[i]::xs.eraseIdx i).Perm xs
 |x::xs,0,h=>by simp
 |x::xs,i+1,h=>by
  have h' :i<xs.length:=by simpa using h
  simp only[List.getElem_cons_succ,List.eraseIdx_cons_succ]
  exact(List.Perm.swap _ _ _).trans ((qW xs i h').cons x)
theorem BH{α:Type}{next:Nat→Nat}:∀(f k:Nat) (left:List α) (out:Array α),left.length=f→(pickOrder.go next f k left out).toList.Perm (out.toList++left)
 |0,k,left,out,e=>by
  have:left=[]:=List.length_eq_zero_iff.mp e
  subst this
  simp[pickOrder.go]
 |f+1,k,left,out,e=>by
  have hl:next k%left.length<left.length:=Nat.mod_lt _ (by omega)
  unfold pickOrder.go
  rw[Gaa hl]
  dsimp only
  refine(BH f (k+1) _ _ (by rw[List.length_eraseIdx_of_lt hl];omega)).trans ?_
  rw[GcA,Gas]
  refine Gbo _ ?_
  exact(qW _ _ hl)
theorem CP{α:Type}(next:Nat→Nat)(xs:Array α):(pickOrder next xs).toList.Perm xs.toList:=by
 have:=BH (next:=next) xs.size 0 xs.toList #[] (by simp)
 simpa[pickOrder] using this
section
variable{prog:Program}{w:World}{A:Around}{E:Value→Shared→Prop}{z:Shared}
def F7(h:Heap)(a:Addr)(es:Array (Int×Value))(ep:Nat)(t:SetTable):Prop:=∃o,h.get? a=some o∧o.ExactSet∧o.data= .set es ep t
theorem F7.at{h h' :Heap}{a:Addr}{es:Array (Int×Value)}{ep:Nat}{t:SetTable}(x:F7 h a es ep t)(e:∀o,h.get? a=some o→h'.get? a=some o):F7 h' a es ep t:=let⟨o,ho,r⟩:=x;⟨o,e _ ho,r⟩
theorem F7.ty{a:Addr}{es:Array (Int×Value)}{ep:Nat}{t:SetTable}(x:F7 z.heap a es ep t):z.TypeIs (.ref a) "set":=let⟨o,ho,hc,_⟩:=x;⟨o,ho,hc.1⟩
inductive Way (w:World) (a:Addr) (es:Array (Int×Value)) (ep:Nat) (t:SetTable) (h:Heap) (tp:Addr):Value→Nat→List (Int×Value)→Prop
 |text {i:Nat}:MC w=true→Way w a es ep t h tp (rawInt 0) i (pickOrder (w.params.setOrder a ep) es).toList
 |drawn {i:Nat} {ps:List Nat}:IsTup h tp (ps.map λ(j:Nat)=>rawInt j).toArray→ps.Perm (List.range es.size)→Way w a es ep t h tp (.ref tp) i (ps.map λj=>es.getD j (0,.none))
 |plain {i:Nat} {s:Nat}:MC w=false→¬(t.plain=false∧es.size>1)→Ris t.place→t.led=true→(s=if i=0 then 0 else t.place.getD (i -1) 0+1)→Way w a es ep t h tp (rawInt s) i es.toList
def BI(w:World)(h:Heap)(it a tp:Addr)(es:Array (Int×Value))(ep:Nat)(t:SetTable)(xs:List (Int×Value))(i:Nat):Prop:=
 ∃o first,h.get? it=some o∧o.cls= .type "set_iterator"∧o.data= .fields #[first,rawInt i,.ref a,rawInt es.size,rawInt ep]∧Way w a es ep t h tp first i xs
theorem Way.perm{a tp:Addr}{es:Array (Int×Value)}{ep i:Nat}{t:SetTable}{h:Heap}{f:Value}{xs:List (Int×Value)}(x:Way w a es ep t h tp f i xs):xs.Perm es.toList:=by
 cases x with
 |text _=>exact CP _ _
 |drawn _ hp=>
  refine(hp.map _).trans ?_
  have:(List.range es.size).map (λj=>es.getD j (0,Value.none))=es.toList:=by
   apply List.ext_getElem
   ·simp
   ·intro i h1 h2
    simp at h1 h2⊢
    simp[Array.getD,h2]
  rw[this]
 |plain _ _ _ _ _=>exact List.Perm.refl _
theorem BI.ty{it a tp:Addr}{es:Array (Int×Value)}{ep i:Nat}{t:SetTable}{xs:List (Int×Value)}(x:BI w z.heap it a tp es ep t xs i):z.TypeIs (.ref it) "set_iterator":=let⟨o,f,ho,hc,_⟩:=x;⟨o,ho,hc⟩
end
open PySem PySem.Spec PyProof.Rows
section
variable{prog:Program}{w:World}{A:Around}{E:Value→Shared→Prop}{z:Shared}
theorem Way.at{a tp:Addr}{es:Array (Int×Value)}{ep i:Nat}{t:SetTable}{h h' :Heap}{f:Value}{xs:List (Int×Value)}(x:Way w a es ep t h tp f i xs)(k:∀o,h.get? tp=some o→h'.get? tp=some o):Way w a es ep t h' tp f i xs:=by
 cases x with
 |text q=>exact .text q
 |drawn q1 q2=>
  obtain⟨o,ho,r⟩:=q1
  exact .drawn ⟨o,k o ho,r⟩ q2
 |plain q1 q2 q3 q4 q5=>exact .plain q1 q2 q3 q4 q5
end
open PySem PySem.Spec PyProof.Rows L2
section
variable{X:Cx}{pins:List (Addr×Obj)}{σ:St}{H:Hp}{s:Shared}
theorem _root_.L2.Inv.draw(I:Inv X pins σ H s)(d:Drawn):Inv X pins σ H {s with drawn:=d}:=⟨I.ok,I.os,I.bare,I.base,I.loc,I.cell,I.free,I.jW,I.pin,I.hok,I.len⟩
end
section
variable{X:Cx}{e a b c:Expr}{f g h:DE}{pos:Pos}{pins:List (Addr×Obj)}{σ:St}{H:Hp}{s:Shared}
theorem lU:∀{ns:List Int} {us:List Value},Vals (ns.map V.int) us→IntsAre us ns
 |[],_,.nil=> .nil
 |n::ns,_,.cons h t=>by
  obtain⟨k,rfl⟩:=h
  exact .cons n k (lU t)
end
namespace Fr
end Fr
section
variable{X:Cx}{e a b c:Expr}{f g h:DE}{pos:Pos}{pins:List (Addr×Obj)}{σ:St}{H:Hp}{s:Shared}
noncomputable def gone(H:Hp)(it l:Addr)(o:HO):Hp:=λb=>if b=it then none else upd H l o b
end
open PySem PySem.Spec PyProof.Rows L2
section
variable{prog:Program}{w:World}{K:Type} [DecidableEq K]{knd:HeapKind prog w K}{A:Around}{E:Value→Shared→Prop}{s:Shared}
theorem F8{d:Addr}{o:Obj}{es:Array DictEntry}{ep:Nat}{ys:List (K×Addr×Value)}{f:Array DictEntry→Array DictEntry}{p:Option Value}{Q:Unit→Shared→Prop}(ho:s.heap.get? d=some o)(hc:o.ExactDict)(hd:o.data= .dict es ep)(he:(f es).toList=ys.map (entryOfKey knd))
  (his:∀x∈ys,knd.is s.heap x.1 x.2.1)(hn:(ys.map (·.1)).Nodup)(hz:es.size≤sizeLine)(hf:(f es).size≤es.size+1)(h:∀h',h'.DictOfH knd d ys→Heap.SameBut d s.heap h' →Q () {s with heap:=h' }):wpAny (model prog w) A (updateDictKeys d f p) Q E s:=by
 have sb:=Heap.SameBut.update s.heap d (Obj.mapDictKeys f)
 refine wpAny_updateDictKeys ho hd (h _ ⟨_,f es,ep+1,GbP _ ho ?_,hc.mapDictKeys _,Obj.data_mapDictKeys hd _,he,λx m=>knd.keeps (his x m) ho hd sb,hn⟩ sb) hz hf
 exact Obj.isFreed_of_dict (Obj.data_mapDictKeys hd _)
theorem q9{d a:Addr}{xs:List (K×Addr×Value)}{k:K}{v:Value}{Q:Value→Shared→Prop}(hu:knd.room A)(hkey:knd.is s.heap k a)(hm:s.heap.DictOfH knd d xs)
  (hthere:∀p,atKey xs k=some p→Q p.2 {s with toks:=s.toks+knd.draws k})
  (hnew:atKey xs k=none→∀h',h'.DictOfH knd d (storedH xs k a v)→Heap.SameBut d s.heap h' →Q v {s with heap:=h',toks:=s.toks+knd.draws k})
  (hsz:xs.length≤sizeLine):
  wpAny (model prog w) A (dictSetDefault d (.ref a) v) Q E s:=by
 obtain⟨o,es,ep,ho,hc,hd,he,his,hn⟩:=hm
 have sz:=size_of_entries he
 wp_walk using knd.pyHash hu hkey,wpAny_dictFind_heap (s:={s with toks:=s.toks+knd.draws k}) hu hkey ho hd he his hn
 ·intro no
  have none' :=atKey_none_of_get no
  have ys:=storedH_new none' a v
  refine Gad (Gce (Gad (F8 (knd:=knd) (ys:=storedH xs k a v) (s:={s with toks:=s.toks+knd.draws k}) ho hc hd ?_ ?_ ?_ (by omega) (by simp) λh' q1 q2=>Gar (hnew none' h' q1 q2))))
  ·rw[ys,GcA,he,GaJ];rfl
  ·rw[ys]
   intro x m
   rcases Gax.mp m with m|m
   ·exact his x m
   ·rw[Gct.mp m];exact hkey
  ·rw[ys,GaJ,GcX]
   exact⟨hn,by simp,λx m y n=>by simp at n;rw[n];exactλe=>not_mem_keys_of_get no (e▸m)⟩
 ·intro j p at_
  have e:=entry_at he j
  rw[at_] at e
  wp_walk using wpAny_dictEntries (s:={s with toks:=s.toks+knd.draws k}) ho hd
  rw[e]
  wp_walk
  exact hthere p (atKey_of_get hn at_)
theorem nR(d a:Addr)(hd:(d==sysModules)=false)(dflt:Value):
  MeetsIn prog w (Builtin.«dict.setdefault» ⟨[.ref d,.ref a,dflt],[]⟩) (λA R s=>knd.room A.in1∧∃k xs,knd.is s.heap k a∧s.heap.DictOfH knd d xs∧xs.length≤sizeLine∧
   (∀p,atKey xs k=some p→R (.ok (.ret p.2)) {s with toks:=s.toks+knd.draws k})∧
   (atKey xs k=none→∀h',h'.DictOfH knd d (storedH xs k a dflt)→Heap.SameBut d s.heap h' →R (.ok (.ret dflt)) {s with heap:=h',toks:=s.toks+knd.draws k})):=by
 apply MeetsIn.of_wp
 rintro A R s ⟨hu,k,xs,hkey,hm,hsz,h1,h2⟩
 wp_walk using wpAny_notOrdered_dict hm.typeIs,q9 hu hkey hm
 ·exactλp q=>Gar ⟨_,rfl,h1 p q⟩
 ·exactλq h' q1 q2=>Gar ⟨_,rfl,h2 q h' q1 q2⟩
 ·exact hsz
end
section
variable{X:Cx}{pins:List (Addr×Obj)}{σ:St}{H:Hp}{s:Shared}{a b:Addr}{d:V}{u r:Value}{o:Option V}{A:Around}{E:Value→Shared→Prop}
theorem uJ{kvs:List (List Key×V)}{k:List Key}{Q:Value→Shared→Prop}(hu:A.units+1<cLine)(I:Inv X pins σ H s)(e:H a=some (.dT kvs))(eb:H b=some (.tup (k.map kV)))(hl:kvs.length<sizeLine)(rd:RelV d r)
  (h1:∀v w' s',gK kvs k=some v→Inv X pins σ H s' →RelV v w' →Q w' s')(h2:∀s',gK kvs k=none→Inv X pins σ (upd H a (.dT (putK kvs k d))) s' →Q r s'):
  wpAny (model X.prog X.w) A (call (.builtin "dict.setdefault") [.ref a,.ref b,r]) Q E s:=by
 obtain⟨z,hd,xs,rel,dd⟩:=DK I.hok e
 have hz:xs.length≤sizeLine:=by rw[←Paired.length rel];exact z
 refine call_meetsIn PySem.F.slot_dict_setdefault dd.typeIs PySem.F.entry_dict_setdefault (PySem.F.args_dict_setdefault_3 _ _ _) (nR (knd:=tupleKind (cz X.prog X.w)) a b hd r) ⟨GcL hu,k,xs,L2.mX I.hok eb,dd,hz,λp hp=> ?_,λhn h' dd' hs=> ?_⟩
 ·have rv:=rel.val k
  rw[hp] at rv
  cases hv:gK kvs k with
  |none=>rw[hv] at rv;exact rv.elim
  |some v=>rw[hv] at rv;exact h1 v _ _ hv (I.tok _) rv
 ·have rv:=rel.val k
  rw[hn] at rv
  cases hv:gK kvs k with
  |some v=>rw[hv] at rv;exact rv.elim
  |none=>
   refine h2 _ hv ?_
   have hl' :(putK kvs k d).length≤sizeLine:=by have:=kO kvs k d;omega
   obtain⟨q,es,ep,hq,g2,g3,g4,_,g5⟩:=dd'
   refine qi I (by rw[e];exact True.intro) hs ⟨q,hq⟩ ⟨hl',hd,_,(rel.put k eb rd).keeps λc ys ec=> ?_,q,es,ep,hq,g2,g3,g4,g5⟩
   rw[ax (B2 ec e (λz=>nomatch z))]
   exact ec
end
noncomputable def K3(td ty tx:TE):TE:=λσ H Q=>td σ H λx H1=>∃a,x= .ref a∧IsD H1 a∧ty σ H1 λy H2=>tx σ H2 λz H3=>∃kvs k b,H3 a=some (.dT kvs)∧y= .ref b∧H3 b=some (.tup (k.map kV))∧kvs.length<sizeLine∧
 (∀v,gK kvs k=some v→Q v H3)∧(gK kvs k=none→Q z (upd H3 a (.dT (putK kvs k z))))
section
variable{X:Cx}{o e f:Expr}{apos cpos:Pos}{td ty tx:TE}
theorem F9(hu:X.A.units+1<cLine)(ho:PE X o td)(he:PE X e ty)(hf:PE X f tx)(m:M2 X o "setdefault" apos e f cpos):PE X (.Call (.Attribute o "setdefault" apos) [e,f] [] cpos) (K3 td ty tx):=by
 intro pins s σ H Q I h
 refine wpAny_Call_method m.base m.few m.line GcS PySem.F.slot_dict_setdefault PySem.F.type_dict_setdefault (thn (ho pins s σ H _ I h) λu s1 ⟨x,H1,I1,rx,a,ex,d,q1⟩=> ?_)
 subst ex
 obtain rfl:u=Value.ref a:=rx
 obtain⟨t1,t2,_⟩:=Am I1 d
 refine⟨t1,t2, ?_⟩
 rw[m.trees]
 refine Gcx rfl (Gdm (Gcr (thn (he pins s1 σ H1 _ I1 q1) λiv s2 ⟨y,H2,I2,ry,q2⟩=>
  Gcr (thn (hf pins s2 σ H2 _ I2 q2) λfv s3 ⟨z,H3,I3,rz,kvs,k,b,e1,e2,e3,e4,e5,e6⟩=>Calls.spliced_nil ?_))))
 subst e2
 cases(show iv=Value.ref b from ry)
 exact uJ hu I3 e1 e3 e4 rz (λv w' s4 hv I4 rv=> ⟨_,H3,I4,rv,e5 v hv⟩) λs4 hv I4=> ⟨_,_,I4,rz,e6 hv⟩
end
def gO(Bad:Addr→Prop)(p:Addr)(ws:List (List Key×V))(b:Addr):Prop:=Bad b∨b=p∨V.ref b∈ws.map (·.2)
structure ft(K:aD)(Bad:Addr→Prop)(env:Env)(σ:St)(H:Hp)(i:Nat)(p:Addr)(ws:List (List Key×V))(kvs:Rws):Prop where
 at_:σ[i]? =some (some (.ref p))
 hid:env[i]? =some none
 top:H p=some (.dT ws)
 keys:kvs.map (·.1)=ws.map (·.1)
 row:∀(j:Nat) k v d,ws[j]? =some (k,v)→kvs[j]? =some (k,d)→∃a ds vs,v= .ref a∧d= .lst ds∧a≠p∧H a=some (.lst vs)∧aX K (λ_=>False) H ds vs
 inj:∀(j j' :Nat) k k' a,ws[j]? =some (k,V.ref a)→ws[j']? =some (k',V.ref a)→j=j'
def ni(H H' :Hp):Prop:=∀b o,H b=some o→isT o→H' b=some o
theorem ni.trans{H H1 H2:Hp}(a:ni H H1)(b:ni H1 H2):ni H H2:=λc o e t=>b c o (a c o e t) t
theorem ni.same{H H1:Hp}(s:c0 H H1):ni H H1:=λc o e _=>s c o e
theorem ni.upd{H:Hp}{a:Addr}{o o' :HO}(h:H a=some o)(n:¬isT o):ni H (upd H a o'):=λc x e t=>by
 have:c≠a:=by rintro rfl;rw[h] at e;cases e;exact n t
 rw[ax this];exact e
section
variable{K:aD}{H₀ H H' H1:Hp}{Bad Bad' :Addr→Prop}{env env' :Env}{σ σ' :St}{d:D}{v:V}{a p:Addr}{i j:Nat}{ws:List (List Key×V)}{kvs:Rws}
theorem ft.mono(N:ft K Bad env σ H i p ws kvs)(s:c0 H H'):ft K Bad env σ H' i p ws kvs where
 at_:=N.at_
 hid:=N.hid
 top:=s _ _ N.top
 keys:=N.keys
 row:=λj k v d h1 h2=>let⟨a,ds,vs,e1,e2,e3,e4,e5⟩:=N.row j k v d h1 h2;⟨a,ds,vs,e1,e2,e3,s _ _ e4,e5.gen (.of_same s) λ_ f _=>f⟩
 inj:=N.inj
theorem ft.kY(N:ft K Bad env σ H i p ws kvs)(hij:i≠j):ft K Bad (env.set j (some (.sh d))) (σ.set j (some v)) H i p ws kvs where
 at_:=by rw[Gab (GaZ hij)];exact N.at_
 hid:=by rw[Gab (GaZ hij)];exact N.hid
 top:=N.top
 keys:=N.keys
 row:=λj k v d h1 h2=>let⟨a,ds,vs,e1,e2,e3,e4,e5⟩:=N.row j k v d h1 h2;⟨a,ds,vs,e1,e2,e3,e4,e5⟩
 inj:=N.inj
theorem ft.K4(N:ft K Bad env σ H i p ws kvs):ft K Bad' env σ H i p ws kvs:=⟨N.at_,N.hid,N.top,N.keys,N.row,N.inj⟩
theorem ft.app{vs:List V}{ds:List D}{k:List Key}(N:ft K Bad env σ H i p ws kvs)(ba:Bad a)(ha:ws[j]? =some (k,.ref a))(hd:kvs[j]? =some (k,.lst ds))(hv:H a=some (.lst vs))(rp:aX K (λ_=>False) H (ds++[d]) (vs++[v])):
  ft K Bad env σ (upd H a (.lst (vs++[v]))) i p ws (kvs.set j (k,.lst (ds++[d]))):=by
 have dQ:iP (λ_=>False) H (upd H a (.lst (vs++[v]))):=λb x hx q=>by
  have:b≠a:=by
   rintro rfl
   rcases q with q|q
   ·exact q
   ·rw[hv] at hx;cases hx;exact q
  rw[ax this];exact hx
 have hpa:p≠a:=by
  obtain⟨a',_,_,e1,_,e3,_⟩:=N.row j k _ _ ha hd
  cases e1
  exact GaZ e3
 have hjl:=(Gac.mp hd).1
 refine⟨N.at_,N.hid,by rw[ax hpa];exact N.top, ?_,λj' k' v' d' h1 h2=> ?_,N.inj⟩
 ·rw[List.map_set,←N.keys]
  apply GcU
  intro m
  by_cases q:j=m
  ·subst q
   rw[GaN (by simpa using hjl),Gal,hd];rfl
  ·rw[Gab q]
 ·by_cases q:j=j'
  ·subst q
   rw[ha] at h1;cases h1
   rw[GaN hjl] at h2
   cases h2
   exact⟨a,_,_,rfl,rfl,GaZ hpa,aK,rp.gen dQ λ_ f _=>f⟩
  ·rw[Gab q] at h2
   obtain⟨a',ds',us,e1,e2,e3,e4,e5⟩:=N.row j' k' v' d' h1 h2
   subst e1
   have na:a' ≠a:=by
    rintro rfl
    exact q (N.inj j j' _ _ _ ha h1)
   exact⟨a',ds',us,rfl,e2,e3,by rw[ax na];exact e4,e5.gen dQ λ_ f _=>f⟩
theorem ft.make{k:List Key}(N:ft K Bad env σ H i p ws kvs)(bp:Bad p)(ba:Bad a)(hn:V.ref a∉ws.map (·.2))(hpa:a≠p)(hv:H a=some (.lst [])):ft K Bad env σ (upd H p (.dT (ws++[(k,.ref a)]))) i p (ws++[(k,.ref a)]) (kvs++[(k,.lst [])]):=by
 have dQ:iP (λ_=>False) H (upd H p (.dT (ws++[(k,.ref a)]))):=λb x hx q=>by
  have:b≠p:=by
   rintro rfl
   rcases q with q|q
   ·exact q
   ·rw[N.top] at hx;cases hx;exact q
  rw[ax this];exact hx
 have hlen:kvs.length=ws.length:=by have:=congrArg List.length N.keys;simpa using this
 refine⟨N.at_,N.hid,aK,by rw[GaJ,GaJ,N.keys];rfl,λj' k' v' d' h1 h2=> ?_,λj1 j2 k1 k2 b h1 h2=> ?_⟩
 ·by_cases q:j' <ws.length
  ·rw[GaS q] at h1
   rw[GaS (by omega)] at h2
   obtain⟨a',ds',us,e1,e2,e3,e4,e5⟩:=N.row j' k' v' d' h1 h2
   exact⟨a',ds',us,e1,e2,e3,by rw[ax e3];exact e4,e5.gen dQ λ_ f _=>f⟩
  ·rw[GaM (by omega)] at h1
   rw[GaM (by omega)] at h2
   rw[hlen] at h2
   cases hz:j' -ws.length with
   |zero=>
    rw[hz] at h1 h2
    cases h1;cases h2
    exact⟨a,[],[],rfl,rfl,hpa,by rw[ax hpa];exact hv,.nil⟩
   |succ n=>rw[hz] at h1;simp at h1
 ·by_cases q1:j1<ws.length
  ·rw[GaS q1] at h1
   by_cases q2:j2<ws.length
   ·rw[GaS q2] at h2
    exact N.inj j1 j2 _ _ _ h1 h2
   ·rw[GaM (by omega)] at h2
    cases hz:j2 -ws.length with
    |zero=>
     rw[hz] at h2;cases h2
     exact absurd (GaI.mpr ⟨_,GaL h1,rfl⟩) hn
    |succ n=>rw[hz] at h2;simp at h2
  ·rw[GaM (by omega)] at h1
   cases hz:j1 -ws.length with
   |succ n=>rw[hz] at h1;simp at h1
   |zero=>
    rw[hz] at h1;cases h1
    by_cases q2:j2<ws.length
    ·rw[GaS q2] at h2
     exact absurd (GaI.mpr ⟨_,GaL h2,rfl⟩) hn
    ·rw[GaM (by omega)] at h2
     cases hz2:j2 -ws.length with
     |succ n=>rw[hz2] at h2;simp at h2
     |zero=>omega
end
def FrW(H₀:Hp)(Bad:Addr→Prop)(p:Addr)(ws:List (List Key×V)):Prop:=∀b,(b=p∨V.ref b∈ws.map (·.2))→H₀ b=none∧¬Bad b
theorem uK{kvs:Rws}{ws:List (List Key×V)}{k:List Key}(h:kvs.map (·.1)=ws.map (·.1)):kvs.findIdx? (λp=>decide (p.1=k))=ws.findIdx? (λp=>decide (p.1=k)):=by
 have h1:(kvs.map (·.1)).findIdx? (λq=>decide (q=k))=kvs.findIdx? (λp=>decide (p.1=k)):=by rw[Gdy];rfl
 have h2:(ws.map (·.1)).findIdx? (λq=>decide (q=k))=ws.findIdx? (λp=>decide (p.1=k)):=by rw[Gdy];rfl
 rw[←h1,←h2,h]
theorem find_some:∀{ws:List (List Key×V)} {k:List Key} {j:Nat},ws.findIdx? (λp=>decide (p.1=k))=some j→∃v,ws[j]? =some (k,v)∧gK ws k=some v
 |[],k,j,h=>by simp at h
 |p::ws,k,j,h=>by
  rw[List.findIdx?_cons] at h
  by_cases c:p.1=k
  ·rw[GaG c] at h
   cases h
   exact⟨p.2,by rw[←c];rfl,kN c⟩
  ·rw[GaH c] at h
   simp only[GaD,Gbg] at h
   obtain⟨j',hj,rfl⟩:=Gam.mp h
   obtain⟨v,h1,h2⟩:=find_some hj
   exact⟨v,by rw[GcT];exact h1,by rw[iK c];exact h2⟩
theorem find_none:∀{ws:List (List Key×V)} {k:List Key},ws.findIdx? (λp=>decide (p.1=k))=none→gK ws k=none
 |[],k,h=>rfl
 |p::ws,k,h=>by
  rw[List.findIdx?_cons] at h
  by_cases c:p.1=k
  ·rw[GaG c] at h;cases h
  ·rw[GaH c] at h
   simp only[GaD,Gbg] at h
   rw[iK c]
   exact find_none (Option.map_eq_none_iff.mp h)
theorem AJ{kvs:Rws}{ws:List (List Key×V)}{j:Nat}{k:List Key}{v:V}{q:List Key×D}(h:kvs.map (·.1)=ws.map (·.1))(h1:kvs[j]? =some q)(h2:ws[j]? =some (k,v)):q.1=k:=by
 have e1:(kvs.map (·.1))[j]? =some q.1:=by rw[Gal,h1];rfl
 have e2:(ws.map (·.1))[j]? =some k:=by rw[Gal,h2];rfl
 rw[h,e2] at e1
 cases e1;rfl
noncomputable def tM(X:Cx)(i:Nat)(f:DM):TS:=λD σ H=>∃H₀ Bad env p ws kvs q,aG X.K H₀ (gO Bad p ws) env σ H∧ft X.K (gO Bad p ws) env σ H i p ws kvs∧FrW H₀ Bad p ws∧f env kvs=some q∧
 ∀σ' H' ws',aG X.K H₀ (gO Bad p ws') q.1 σ' H' →ft X.K (gO Bad p ws') q.1 σ' H' i p ws' q.2→FrW H₀ Bad p ws' →ni H H' →D.nx σ' H'
section
variable{X:Cx}{e a b c:Expr}{f g h:DE}{t u:DT}{pos:Pos}{st:Stmt}{rest body:List Stmt}{i j:Nat}{x:Str}{n1 n2:DM}
theorem HC(h1:PS X st (tM X i n1)):PSs X [st] (tM X i n1):=u9 h1
theorem Fb(h1:PS X st (tM X i n1))(h2:PSs X rest (tM X i n2)):PSs X (st::rest) (tM X i (Mc n1 n2)):=by
 refine(nA h1 h2).aS ?_
 rintro D σ H ⟨H₀,Bad,env,p,ws,kvs,q,E,N,h0,e,k⟩
 obtain⟨q1,hq,e⟩:=bind_some e
 exact⟨H₀,Bad,env,p,ws,kvs,q1,E,N,h0,hq,λσ' H' ws' E' N' f' t' => ⟨H₀,Bad,q1.1,p,ws',q1.2,q,E',N',f',e,λσ2 H2 ws2 E2 N2 f2 t2=>k σ2 H2 ws2 E2 N2 f2 (t'.trans t2)⟩⟩
theorem K5{pos' :Pos}(hN:X.N.Nodup)(hj:X.N[j]? =some x)(hx:Loc X.env.scope x)(hij:i≠j)(he:PEd X e f)(hs:swapsWith e (some (.Name x pos')) pos.line X.env=pure false:=by rfl)
  (hf:X.fn x=true∨X.env.scope.names.lookup x=some .local:=by first|exact .inl rfl|exact .inr rfl|assumption):PS X (.Assign [.Name x pos'] e pos) (tM X i (setM j f)):=by
 refine(A8 hN hj hx he hs hf).aS ?_
 rintro D σ H ⟨H₀,Bad,env,p,ws,kvs,q,E,N,h0,e,k⟩
 obtain⟨⟨kr,d⟩,hr,e⟩:=bind_some e
 cases kr with
 |c=>
  cases e
  refine⟨H₀,_,env,_,E,hr,λv H1 s1 R=> ?_⟩
  exact k _ _ ws ((E.mono s1).kY R) ((N.mono s1).kY hij) h0 (.same s1)
 |tn=>cases e
 |to=>cases e
 |tb=>cases e
theorem bindM{α β:Type}{o:Option α}{f:α→Option β}{b:β}(h:o.bind f=some b):∃a,o=some a∧f a=some b:=bind_some h
theorem K6{px ap cp apos cpos lp:Pos}{ke:Expr}(hu:X.A.units+1<cLine)(hN:X.N[i]? =some x)(hv:Vis X.env.scope x)(hk:PEd X ke g)(he:PEd X e f)(hd:(x==("__debug__":Str))=false:=by decide)(hcd:(x==("__classdict__":Str))=false:=by decide)
  (m:M2 X (.Name x px) "setdefault" ap ke (.List [] lp) cp:=by exact⟨rfl,rfl,rfl,rfl⟩)
  (hs1:starEach [e] X.env=[(false,eval e X.env)]:=by rfl)
  (hbase:attributeBase (.Call (.Attribute (.Name x px) "setdefault" ap) [ke,.List [] lp] [] cp) "append" X.env (eval (.Call (.Attribute (.Name x px) "setdefault" ap) [ke,.List [] lp] [] cp) X.env)=eval (.Call (.Attribute (.Name x px) "setdefault" ap) [ke,.List [] lp] [] cp) X.env:=by rfl)
  (hfew:((backTo cpos (starEach [e] X.env)).all (λx=> !x.1)&&(backToKw cpos (keywordEach [] X.env)).all (λx=>x.1.isSome)
   &&decide (([e]:List Expr).length+([]:List Keyword).length+(if([]:List Keyword).isEmpty then 0 else 1)<30))=true:=by rfl)
  (hline:(apos.endLine==cpos.line)=true:=by rfl)(hs:swapsWith (.Call (.Attribute (.Call (.Attribute (.Name x px) "setdefault" ap) [ke,.List [] lp] [] cp) "append" apos) [e] [] cpos) none pos.line X.env=pure false:=by rfl):
  PS X (.Expr (.Call (.Attribute (.Call (.Attribute (.Name x px) "setdefault" ap) [ke,.List [] lp] [] cp) "append" apos) [e] [] cpos) pos) (tM X i (Md g f)):=by
 refine(qh (B9 Gcp PySem.F.slot_list_append PySem.F.type_list_append oA (F9 hu (kL hN hv hd hcd) hk (DC Af) m) (a4 he aa hs1) hbase hfew hline hs1 rfl) hs).aS ?_
 rintro D σ H ⟨H₀,Bad,env,p,ws,kvs,q,E,N,h0,e,kk⟩
 obtain⟨⟨ky,dy⟩,hy,e⟩:=bindM e
 obtain⟨r,hr,e⟩:=bindM e
 cases dy with
 |tup ks=>
  dsimp only at e
  split at e
  ·rename_i z
   rw[Gau] at z
   obtain⟨key,hkey,e⟩:=bindM e
   obtain⟨kvs',hsd,e⟩:=Gam.mp e
   cases e
   have bp:gO Bad p ws p:= .inr (.inl rfl)
   refine⟨_,N.at_,p,rfl,.inr ⟨ws,.inl N.top⟩,H₀,_,env,_,E,hy,λvy H1 s1 Ry=> ?_⟩
   have iy:Inn X.K (Cln (gO Bad p ws) env σ) H1 (.tup ks) vy:=Ry.inn
   cases iy with
   | @tup bk kv _ hb rb=>
    have ekv:=jk rb hkey
    subst ekv
    have E1:=E.mono s1
    have N1:=N.mono s1
    refine⟨GbI _,λa1 n1' => ?_⟩
    have sA:c0 H1 (upd H1 a1 (.lst [])):=bK n1'
    have hbA:upd H1 a1 (.lst []) bk=some (.tup (key.map kV)):=sA _ _ hb
    have N2:=N1.mono sA
    have E2:=E1.mono sA
    have hlen:kvs.length=ws.length:=by have:=congrArg List.length N.keys;simpa using this
    have szk:kvs.length<ah∧((∃jj ds k0,kvs.findIdx? (λp=>decide (p.1=key))=some jj∧kvs[jj]? =some (k0,.lst ds)∧ds.length<ah∧kvs' =kvs.set jj (key,.lst (ds++[r.d])))∨(kvs.findIdx? (λp=>decide (p.1=key))=none∧kvs' =kvs++[(key,.lst [r.d])])):=by
     unfold DY at hsd
     split at hsd
     ·rename_i hz
      refine⟨hz, ?_⟩
      split at hsd
      ·rename_i jj hjj
       split at hsd
       ·rename_i k0 ds hds
        split at hsd
        ·rename_i hl
         cases hsd
         exact .inl ⟨jj,ds,k0,hjj,hds,hl,rfl⟩
        ·cases hsd
       ·cases hsd
      ·rename_i hjj
       cases hsd
       exact .inr ⟨hjj,rfl⟩
     ·cases hsd
    have fin:∀(H2:Hp) (ws2:List (List Key×V)) (kvs2:Rws) (jj:Nat) (a:Addr) (ds:List DL.D),aG X.K H₀ (gO Bad p ws2) env σ H2→ft X.K (gO Bad p ws2) env σ H2 i p ws2 kvs2→FrW H₀ Bad p ws2→ni H H2→ws2[jj]? =some (key,.ref a)→kvs2[jj]? =some (key,.lst ds)→ds.length<ah→kvs' =kvs2.set jj (key,.lst (ds++[r.d]))→
      tyV X.K "list" (.ref a) H2∧tA X (a5 f ao) σ H2 λvs H3=>Ba (.ref a) vs H3 λ_ H4=>D.nx σ H4:=by
     intro H2 ws2 kvs2 jj a ds E2 N2 F2 T2 hw hkv hl ek
     obtain⟨a',ds',vs,e1,e2,e3,hvs,rp⟩:=N2.row jj _ _ _ hw hkv
     cases e1;cases e2
     have ba:gO Bad p ws2 a:= .inr (.inr (GaI.mpr ⟨_,GaL hw,rfl⟩))
     refine⟨.inl ⟨rfl,vs,.inl (.inl hvs)⟩,H₀,_,env,[r],E2,by unfold a5 ao;rw[hr];rfl,λus H3 s3 Rs=> ?_⟩
     cases Rs with
     | @cons _ v _ _ R1 tl=>
      cases tl
      have hvs3:=s3 _ _ hvs
      have N3:=N2.mono s3
      have E3:=E2.mono s3
      refine⟨_,vs,v,rfl,rfl,hvs3,by rw[←rp.1,←size_eq];exact hl, ?_⟩
      have rep1:Rep X.K (λ_=>False) H3 r.d v:=R1.inn.imm z.1
      have rp3:aX X.K (λ_=>False) H3 (ds++[r.d]) (vs++[v]):=(rp.gen (.of_same s3) λ_ f _=>f).append (.cons rep1 .nil)
      have N4:=N3.app ba hw hkv hvs3 rp3
      rw[←ek] at N4
      exact kk σ _ ws2 (E3.ES ba (F2 a (.inr (GaI.mpr ⟨_,GaL hw,rfl⟩))).1 hvs3 (λz=>z) z.2) N4 F2 ((T2.trans (.same s3)).trans (.upd hvs3 λz=>z))
    refine⟨ws,key,bk,N2.top,rfl,hbA,by rw[←hlen,←size_eq];exact szk.1,λv hv=> ?_,λhv=> ?_⟩
    ·rcases szk.2 with⟨jj,ds,k0,hjj,hds,hl,ek⟩| ⟨hjj,_⟩
     ·rw[uK N.keys] at hjj
      obtain⟨v',hw,hv'⟩:=find_some hjj
      rw[hv] at hv';cases hv'
      have hk0:k0=key:=AJ N.keys hds hw
      subst hk0
      obtain⟨a',_,_,e1,_⟩:=N.row jj _ _ _ hw hds
      subst e1
      exact fin _ ws kvs jj a' ds E2 N2 h0 ((ni.same s1).trans (.same sA)) hw hds hl ek
     ·rw[uK N.keys] at hjj
      rw[find_none hjj] at hv;cases hv
    ·rcases szk.2 with⟨jj,ds,k0,hjj,hds,hl,ek⟩| ⟨hjj,ek⟩
     ·rw[uK N.keys] at hjj
      obtain⟨v',hw,hv'⟩:=find_some hjj
      rw[hv] at hv';cases hv'
     ·have hn:V.ref a1∉ws.map (·.2):=λhm=>by
       obtain⟨⟨k1,v1⟩,hm1,hm2⟩:=GaI.mp hm
       have hm2' :v1=V.ref a1:=hm2
       subst hm2'
       obtain⟨j1,hj1⟩:=Gbx.mp hm1
       have hj1' :j1<kvs.length:=by rw[hlen];exact(Gac.mp hj1).1
       have hk1:kvs[j1]? =some kvs[j1]:=Gaa hj1'
       have hk2:kvs[j1].1=k1:=AJ N.keys hk1 hj1
       obtain⟨a',_,us,e1,_,_,e4,_⟩:=N1.row j1 k1 _ kvs[j1].2 hj1 (by rw[hk1,←hk2])
       cases e1
       rw[n1'] at e4;cases e4
      have hpa:a1≠p:=λq=>by subst q;rw[N1.top] at n1';cases n1'
      rw[DJ _ hv]
      have eB:(λb=>gO Bad p ws b∨b=a1)=gO Bad p (ws++[(key,V.ref a1)]):=by
       funext b
       apply propext
       unfold gO
       rw[GaJ,Gax]
       simp only[Gaq,Gdz,Gct,V.ref.injEq]
       constructor
       ·rintro((h|h|h)|h)
        ·exact .inl h
        ·exact .inr (.inl h)
        ·exact .inr (.inr (.inl h))
        ·exact .inr (.inr (.inr h))
       ·rintro(h|h|h|h)
        ·exact .inl (.inl h)
        ·exact .inl (.inr (.inl h))
        ·exact .inl (.inr (.inr h))
        ·exact .inr h
      have E3:aG X.K H₀ (gO Bad p (ws++[(key,V.ref a1)])) env σ (upd H1 a1 (.lst [])):=by
       rw[←eB]
       exact E1.BB (New:=λb=>b=a1) sA (λb hb=>by rw[hb];exact n1') λb hb=>by rw[hb,aK];simp
      have N3:ft X.K (gO Bad p (ws++[(key,V.ref a1)])) env σ (upd H1 a1 (.lst [])) i p ws kvs:=by
       exact N1.K4.mono sA
      have F3:FrW H₀ Bad p (ws++[(key,V.ref a1)]):=λb hb=>by
       rw[GaJ,Gax] at hb
       simp only[Gaq,Gdz,Gct,V.ref.injEq] at hb
       rcases hb with h|h|h
       ·exact h0 b (.inl h)
       ·exact h0 b (.inr h)
       ·subst h
        exact⟨E1.same.free n1',λq=>E1.bad b (.inl q) n1'⟩
      have bp' :gO Bad p (ws++[(key,V.ref a1)]) p:= .inr (.inl rfl)
      have ba' :gO Bad p (ws++[(key,V.ref a1)]) a1:= .inr (.inr (by rw[GaJ,Gax];exact .inr Gak))
      have N4:=N3.make (k:=key) bp' ba' hn hpa aK
      have E4:=E3.ES (o' := .dT (ws++[(key,V.ref a1)])) bp' (F3 p (.inl rfl)).1 N3.top (λz=>z) z.2
      have lw:(ws++[(key,V.ref a1)])[ws.length]? =some (key,V.ref a1):=by rw[GaM (Gap _),Nat.sub_self];rfl
      have lk:(kvs++[(key,DL.D.lst [])])[ws.length]? =some (key,DL.D.lst []):=by rw[←hlen,GaM (Gap _),Nat.sub_self];rfl
      refine fin _ _ (kvs++[(key,DL.D.lst [])]) ws.length a1 [] E4 N4 F3 (((ni.same s1).trans (.same sA)).trans (.upd N3.top λz=>z)) lw lk (by rw[size_eq,GbA];exact(by decide:(0:Nat)<16777216)) ?_
      rw[ek,←hlen,List.set_append_right _ _ (Gap _),Nat.sub_self]
      rfl
  ·cases e
 |_=>cases e
theorem K7{px:Pos}(hp:PassesOwn (model X.prog X.w) X.A X.env X.xe)(hc:X.calm=true)(he:PEd X e f)(hN:X.N.Nodup)(hj:X.N[j]? =some x)(hx:Loc X.env.scope x)(hij:i≠j)(hb:PSs X body (tM X i n1))
  (hs:∀x,foldedSetIterable e X.env x=pure x:=by intro _;rfl)
  (hf:X.fn x=true∨X.env.scope.names.lookup x=some .local:=by first|exact .inl rfl|exact .inr rfl|assumption):
  PS X (.For (.Name x px) e body [] pos) (tM X i (Iw j f n1)):=by
 refine(Dx hp hc (Eh he) (B5 hN hj hx hf) hb hs).aS ?_
 rintro D σ H ⟨H₀,Bad,env,p,ws,kvs,q,E,N,h0,e,k⟩
 obtain⟨⟨kr,d⟩,hr,e⟩:=bindM e
 split at e
 ·rename_i xs hd
  have hd' :d= .tup xs:=hd
  subst hd'
  split at e
  ·rename_i him
   refine⟨H₀,_,env,_,E,hr,λv H1 s1 R=> ?_⟩
   have i1:Inn X.K (Cln (gO Bad p ws) env σ) H1 (.tup xs) v:=R.inn
   cases i1 with
   | @tup la lv _ hla rr=>
    have hll:xs.length=lv.length:=rr.1
    refine⟨_,rfl,.inr ⟨⟨_,SqT.of hla⟩, ?_⟩⟩
    refine⟨λc n σ' H' =>n=xs.length -c∧c≤xs.length∧ni H1 H' ∧∃envi wsi kvi,aG X.K H₀ (gO Bad p wsi) envi σ' H' ∧ft X.K (gO Bad p wsi) envi σ' H' i p wsi kvi∧FrW H₀ Bad p wsi∧nF j n1 (xs.drop c) envi kvi=some q,
     ⟨xs.length,by simp,GbI _,λ_ _ e _=>e,env,ws,kvs,E.mono s1,N.mono s1,h0,by simpa using e⟩, ?_⟩
    rintro c n σ' H' ⟨rfl,hle,tS,envi,wsi,kvi,Ei,Ni,Fi,ei⟩
    have hla' :H' la=some (.tup lv):=tS _ _ hla trivial
    by_cases hlt:c<xs.length
    ·have hd:xs.drop c=xs[c]::xs.drop (c+1):=Gbw hlt
     rw[hd] at ei
     unfold nF at ei
     obtain⟨q1,hq,ei⟩:=bindM ei
     have hlv:lv[c]? =some (lv[c]'(by omega)):=Gaa _
     refine .inr ⟨⟨lv,_,SqT.of hla',hlv⟩,λσ2 H2=>ni H1 H2∧∃envi wsi kvi,aG X.K H₀ (gO Bad p wsi) envi σ2 H2∧ft X.K (gO Bad p wsi) envi σ2 H2 i p wsi kvi∧FrW H₀ Bad p wsi∧nF j n1 (xs.drop (c+1)) envi kvi=some q,λσ2 H2 z=> ⟨xs.length -(c+1),by omega,rfl,hlt,z⟩,λy H2 ⟨e2,e3⟩=> ?_⟩
     subst e2
     have ey:=e3 _ (SqT.of hla')
     rw[hlv] at ey
     cases ey
     have rep0:=rr.2 c _ _ (Gaa hlt) hlv
     have rep1:Rep X.K (λ_=>False) H1 xs[c] lv[c]:=rep0.imm (qj him c _ (Gaa hlt))
     have rep2:Rep X.K (Cln (gO Bad p wsi) envi σ') H2 xs[c] lv[c]:=rep1.gen (λb o hb w=>w.elim (λz=>z.elim) λw=>tS b o hb w) λ_ z _=>z.elim
     refine⟨H₀,Bad,envi.set j (some (.sh xs[c])),p,wsi,kvi,q1,Ei.kY rep2,Ni.kY hij,Fi,hq,λσ3 H3 ws3 E3 N3 F3 t3=> ?_⟩
     exact⟨tS.trans t3,q1.1,ws3,q1.2,E3,N3,F3,ei⟩
    ·have hc' :c=xs.length:=by omega
     subst hc'
     rw[GbM] at ei
     cases ei
     exact .inl ⟨⟨lv,SqT.of hla',by omega⟩,k σ' H' wsi Ei Ni Fi ((ni.same s1).trans tS)⟩
  ·cases e
 ·cases e
theorem CQ{pos' dp px rp:Pos}(hN:X.N.Nodup)(hi:X.N[i]? =some x)(hx:Loc X.env.scope x)(hv:Vis X.env.scope x)(h1:PS X st (tM X i n1))(hd:(x==("__debug__":Str))=false:=by decide)(hcd:(x==("__classdict__":Str))=false:=by decide)
  (hs:swapsWith (.Dict [] [] dp) (some (.Name x pos')) pos.line X.env=pure false:=by rfl)
  (hf:X.fn x=true∨X.env.scope.names.lookup x=some .local:=by first|exact .inl rfl|exact .inr rfl|assumption):
  kK X [.Assign [.Name x pos'] (.Dict [] [] dp) pos,st,.Return (some (.Name x px)) rp] (DZ i n1):=by
 intro pins z σ H D I hw
 have hl:=I.len
 refine(nA (A8 hN hi hx vp hs hf) (nA h1 (u9 (Dt (kL hi hv hd hcd))))) pins z σ H D I ?_
 obtain⟨H₀,Bad,env,o,E,e,k⟩:=hw
 obtain⟨q,hq,e⟩:=bindM e
 cases e
 have hie:i<env.length:=Ef E hl hi
 have hie' :i<σ.length:=by rw[←E.len];exact hie
 intro p np
 have eB:(λb=>Bad b∨b=p)=gO Bad p []:=by
  funext b
  apply propext
  unfold gO
  simp
 have E1:aG X.K H₀ (gO Bad p []) (env.set i none) (σ.set i (some (.ref p))) (upd H p (.dT [])):=by
  rw[←eB]
  exact(E.hide i (.ref p)).BB (New:=λb=>b=p) (bK np) (λb hb=>by rw[hb];exact np) λb hb=>by rw[hb,aK];simp
 have N1:ft X.K (gO Bad p []) (env.set i none) (σ.set i (some (.ref p))) (upd H p (.dT [])) i p [] []:=
  ⟨cA hie',cA hie,aK,rfl,λj k v d h=>by simp at h,λj j' k k' a h=>by simp at h⟩
 have F1:FrW H₀ Bad p []:=λb hb=>by
  rcases hb with rfl|hb
  ·exact⟨E.same.free np,λq=>E.bad b q np⟩
  ·simp at hb
 refine⟨H₀,Bad,env.set i none,p,[],[],q,E1,N1,F1,hq,λσ' H' ws' E' N' F' _=> ?_⟩
 refine⟨.ref p,N'.at_,k (.ref p) H' E'.same ⟨λ_=> ⟨p,rfl,(F' p (.inl rfl)).1,⟨_,N'.top,trivial⟩⟩,.dT N'.top ⟨N'.keys,λj pd wd e1 e2=> ?_⟩⟩⟩
 obtain⟨kd,dd⟩:=pd
 obtain⟨kw,vw⟩:=wd
 have ek:kd=kw:=AJ N'.keys e1 e2
 subst ek
 obtain⟨a,ds,vs,r1,r2,r3,r4,r5⟩:=N'.row j kd vw dd e2 e1
 subst r1 r2
 have fa:=F' a (.inr (GaI.mpr ⟨_,GaL e2,rfl⟩))
 exact .lst ⟨fa.1,λz=>r3 (by cases z;rfl)⟩ (.inl r4) r5.1 λj' d v h1 h2=>(r5.2 j' d v h1 h2).imp λ_ z=>z.elim
end
section
variable{X:Cx}
theorem CS{ds:List D}{r:RV}(h:sortedS ds=some r):fV ds=some r:=by
 obtain⟨d,xs,rfl,h1,h2⟩:=As h
 split at h2
 ·rename_i c
  rw[Gau] at c
  have c1:=Gaw c.1
  unfold fV one
  simp only[h1,Option.bind_some]
  rw[GaG (by omega:xs.length<1000000),c.2]
  exact h2
 ·cases h2
theorem dD:CallD X sortedS (qV X.K):=λF H ds vs rv Q ps e k=>jH F H ds vs rv Q ps (CS e) k
end
theorem gp{N P:List Str}{sc:Scope}(a:sc.kind= .function:=by rfl)(b:sc.isCoroutine=false:=by rfl)(c:sc.isGenerator=false:=by rfl)(d:N.Nodup:=by decide+kernel)(e:N.take P.length=P:=by rfl)(f:∀x∈P,sc.names.lookup x=some .local∨sc.names.lookup x=some .cell:=by decide+kernel)(g:∀y∈sc.names,y.2≠ .free:=by decide+kernel):aW N P sc:=⟨a,b,c,d,e,f,g⟩
end DL
namespace Den
open DL PySem
noncomputable def ka:DS:=
 (aE (ifS (bq eqB (ixE (vE 0) (kE (.int 0))) (kE (.str "ever")))
  (retS (ixE (vE 0) (kE (.int 1))))
  bg)
 (aE (ifS (bq eqB (ixE (vE 0) (kE (.int 0))) (kE (.str "flat")))
  (retS (ixE (vE 0) (kE (.int 2))))
  bg)
 (aE (ifS (bq qB (vE 1) (kE .non))
  (retS (kE .non))
  bg)
 (retS (opE mv (opE dR (vE 1) (ixE (vE 0) (kE (.int 2)))) (ixE (vE 0) (kE (.int 3))))))))
noncomputable def jn:List D→Option D:=fw 2 2 ka
noncomputable def jQ:DS:=
 (aE (aR 2 (ixE (vE 0) (kE (.int 4))))
 (aE (ifS (bq eqB (ixE (vE 2) (kE (.int 0))) (kE (.str "asked")))
  (retS (kE .non))
  bg)
 (aE (aR 3 (opE kJ (vE 1) (opE kJ (ixE (vE 2) (kE (.int 1))) (ixE (vE 2) (kE (.int 4))))))
 (aE (aR 4 (opE mv (vE 3) (ixE (vE 2) (kE (.int 2)))))
 (aE (ifS (orT (ug (DU leB ltB (kE (.int 0)) (vE 4) (ixE (vE 2) (kE (.int 3))))) (bq gtB (opE kJ (vE 3) (opE dR (vE 4) (ixE (vE 2) (kE (.int 2))))) (opE aQ (ixE (vE 2) (kE (.int 4))) (ixE (vE 2) (kE (.int 5))))))
  (retS (kE .non))
  bg)
 (retS (vE 4)))))))
noncomputable def iY:List D→Option D:=fw 5 2 jQ
noncomputable def lq:DS:=
 (aE (aR 2 (ixE (vE 0) (kE (.int 4))))
 (aE (ifS (bq eqB (ixE (vE 2) (kE (.int 0))) (kE (.str "asked")))
  (retS (bE (bq ltB (vE 1) (ixE (vE 2) (kE (.int 1))))))
  bg)
 (retS (bE (bq qB (aH iY (a5 (vE 0) (a5 (vE 1) ao))) (kE .non))))))
noncomputable def lu:List D→Option D:=fw 3 2 lq
noncomputable def iZ:DS:=
 (ifS (mY (bq eqB (ixE (vE 4) (kE (.int 0))) (vE 1)) (bq leB (ixE (vE 4) (kE (.int 1))) (vE 2)))
  (aR 3 (ixE (vE 4) (kE (.int 2))))
  bg)
noncomputable def gP:DS:=
 (aE (aR 3 (kE .non))
 (aE (gW (some 0) (kS (vE 0)) (gN 4)
  iZ)
 (retS (vE 3))))
noncomputable def gQ:List D→Option D:=fw 5 3 gP
noncomputable def fS:DT:=
 (mY (bq kC (vE 1) (kE .non)) (bq leB (ixE (ixE (vE 2) (vE 5)) (kE (.int 0))) (opE kJ (ixE (vE 7) (kE (.int 0))) (vE 1))))
noncomputable def iI:DS:=
 (aE (aR 4 (opE kJ (vE 4) (ixE (ixE (vE 2) (vE 5)) (kE (.int 1)))))
 (aR 5 (opE aQ (vE 5) (kE (.int 1)))))
noncomputable def cX:DS:=
 (aE (aR 4 (opE aQ (vE 4) (ixE (vE 7) (kE (.int 1)))))
 (aE (ui fS
  iI)
 (ifS (orT (bq eqB (opE aQ (vE 6) (kE (.int 1))) (dG cM (a5 (vE 2) ao))) (bq gtB (ixE (ixE (vE 2) (opE aQ (vE 6) (kE (.int 1)))) (kE (.int 0))) (ixE (vE 7) (kE (.int 0)))))
  (kT 3 (bI (a5 (ixE (vE 7) (kE (.int 0))) (a5 (vE 4) ao))))
  bg)))
noncomputable def qX:DS:=
 (aE (aR 2 (dG sortedS (a5 (vE 0) ao)))
 (aE (aR 3 (fT ao))
 (aE (aR 4 (kE (.int 0)))
 (aE (aR 5 (kE (.int 0)))
 (aE (gW (some 2) (Bg (vE 2)) (gT [6,7])
  cX)
 (retS (vE 3)))))))
noncomputable def jI:List D→Option D:=fw 8 2 qX
noncomputable def fb:DS:=
 (retS (dG anyS (a5 (pj none 1 [] (kS (ixE (vE 0) (kE (.int 2)))) (gN 0) gL (bE (bq eqB (ixE (vE 0) (kE (.int 0))) (kE (.str "kilo"))))) ao)))
noncomputable def fc:List D→Option D:=fw 1 1 fb
noncomputable def gA:DS:=
 (aE (aR 3 (ixE (vE 2) (kE (.int 0))))
 (aE (aR 4 (ixE (vE 2) (kE (.int 1))))
 (aE (aR 5 (ixE (vE 2) (kE (.int 2))))
 (aE (aR 6 (ixE (ixE (vE 0) (kE (.int 3))) (vE 3)))
 (aE (aR 7 (ixE (ixE (vE 0) (kE (.int 1))) (ixE (vE 6) (kE (.int 2)))))
 (aE (aR 8 (fT ao))
 (aE (ifS (vt (aH lu (a5 (vE 6) (a5 (vE 4) ao))))
  (kT 8 (kE (.str "astray")))
  bg)
 (aE (ifS (bq gtB (vE 5) (ixE (ixE (vE 6) (kE (.int 3))) (kE (.int 3))))
  (kT 8 (kE (.str "most")))
  bg)
 (aE (ifS (orT (bq ltB (vE 5) (kE (.int 1))) (bq neB (opE qA (vE 5) (ixE (ixE (vE 7) (kE (.int 1))) (kE (.int 0)))) (kE (.int 0))))
  (kT 8 (kE (.str "part")))
  bg)
 (aE (ifS (mY (vt (aH fc (a5 (vE 7) ao))) (bq qB (aH gQ (a5 (vE 1) (a5 (ixE (vE 6) (kE (.int 1))) (a5 (vE 4) ao)))) (kE .non)))
  (kT 8 (kE (.str "weight")))
  bg)
 (aE (ifS (bq ltB (vE 4) (opE aQ (ixE (ixE (ixE (vE 0) (kE (.int 0))) (ixE (vE 6) (kE (.int 1)))) (kE (.int 1))) (ixE (vE 7) (kE (.int 3)))))
  (kT 8 (kE (.str "young")))
  bg)
 (retS (pj (some 8) 1 [3,4] (kS (vE 8)) (gN 0) gL (bI (a5 (vE 0) (a5 (vE 1) (a5 (vE 2) ao)))))))))))))))))
noncomputable def fC:List D→Option D:=fw 9 3 gA
noncomputable def bT:DM:=
 (Mc (setM 4 (ixE (ixE (vE 0) (kE (.int 3))) (ixE (vE 3) (kE (.int 0)))))
 (Md (bI (a5 (ixE (vE 4) (kE (.int 1))) (a5 (ixE (vE 4) (kE (.int 2))) ao))) (bI (a5 (ixE (vE 3) (kE (.int 1))) (a5 (ixE (vE 3) (kE (.int 2))) ao)))))
noncomputable def dM:DS:=
 (DZ 2 (Iw 3 (vE 1) bT))
noncomputable def cP:List D→Option D:=fw 5 2 dM
noncomputable def cF:DS:=
 (aE (aR 11 (aH jn (a5 (vE 8) (a5 (aH gQ (a5 (vE 1) (a5 (vE 6) (a5 (ixE (vE 10) (kE (.int 0))) ao)))) ao))))
 (ifS (mY (bq kC (vE 11) (kE .non)) (bq gtB (ixE (vE 10) (kE (.int 1))) (vE 11)))
  (kT 3 (bI (a5 (kE (.str "cap")) (a5 (vE 6) (a5 (ixE (vE 4) (kE (.int 1))) (a5 (vE 7) (a5 (ixE (vE 10) (kE (.int 0))) (a5 (ixE (vE 10) (kE (.int 1))) (a5 (vE 11) ao)))))))))
  bg))
noncomputable def cG:DS:=
 (aE (aR 9 (ifE (bq eqB (ixE (vE 8) (kE (.int 0))) (kE (.str "ever"))) (kE .non) (ixE (vE 8) (kE (.int 1)))))
 (gW none (kS (aH jI (a5 (vE 5) (a5 (vE 9) ao)))) (gN 10)
  cF))
noncomputable def dB:DS:=
 (aE (aR 6 (ixE (vE 4) (kE (.int 0))))
 (gW none (Bg (ixE (ixE (ixE (vE 0) (kE (.int 1))) (ixE (vE 4) (kE (.int 1)))) (kE (.int 2)))) (gT [7,8])
  cG))
noncomputable def ij:DS:=
 (aE (aR 3 (fT ao))
 (aE (gW none (DX bM (aH cP (a5 (vE 0) (a5 (vE 2) ao)))) (gT [4,5])
  dB)
 (retS (vE 3))))
noncomputable def fZ:List D→Option D:=fw 12 3 ij
noncomputable def cW:DS:=
 (aE (vA 1 (bI (a5 (ixE (vE 2) (kE (.int 0))) (a5 (ixE (vE 2) (kE (.int 1))) ao))) (ixE (vE 2) (kE (.int 2))))
 (vA 1 (bI (a5 (ixE (vE 2) (kE (.int 1))) (a5 (ixE (vE 2) (kE (.int 0))) ao))) (ixE (vE 2) (kE (.int 2)))))
noncomputable def ff:DS:=
 (aE (aR 1 (qD))
 (aE (gW (some 0) (kS (vE 0)) (gN 2)
  cW)
 (retS (vE 1))))
noncomputable def fg:List D→Option D:=fw 3 1 ff
noncomputable def gB:DS:=
 (aE (ifS (bq neB (ixE (vE 1) (kE (.int 1))) (ixE (vE 2) (kE (.int 1))))
  (retS (kE (.int 0)))
  bg)
 (retS (GC (vE 0) (bI (a5 (ixE (vE 1) (kE (.int 2))) (a5 (ixE (vE 2) (kE (.int 2))) ao))) (kE (.int 0)))))
noncomputable def gC:List D→Option D:=fw 3 3 gB
noncomputable def bH:DS:=
 (aE (aR 9 (opE kJ (ixE (vE 8) (kE (.int 0))) (ixE (vE 7) (kE (.int 0)))))
 (aE (ifS (bq geB (vE 9) (vE 3))
  bkS
  bg)
 (ifS (bq ltB (vE 9) (aH gC (a5 (vE 2) (a5 (ixE (ixE (vE 0) (kE (.int 3))) (ixE (vE 7) (kE (.int 1)))) (a5 (ixE (ixE (vE 0) (kE (.int 3))) (ixE (vE 8) (kE (.int 1)))) ao)))))
  (kT 5 (bI (a5 (kE (.str "gap")) (a5 (ixE (vE 7) (kE (.int 1))) (a5 (ixE (vE 7) (kE (.int 0))) (a5 (ixE (vE 8) (kE (.int 1))) (a5 (ixE (vE 8) (kE (.int 0))) ao)))))))
  bg)))
noncomputable def cH:DS:=
 (gW none (kS (slE (vE 4) (DV (opE aQ (vE 6) (kE (.int 1)))) noO)) (gN 8)
  bH)
noncomputable def il:DS:=
 (aE (aR 2 (aH fg (a5 (ixE (vE 0) (kE (.int 2))) ao)))
 (aE (aR 3 (mmE pY (.int 0) (pj none 1 [] (kS (ixE (vE 0) (kE (.int 2)))) (gN 0) gL (ixE (vE 0) (kE (.int 2))))))
 (aE (aR 4 (dG sortedS (a5 (pj (some 1) 1 [] (kS (vE 1)) (gN 0) gL (bI (a5 (ixE (vE 0) (kE (.int 1))) (a5 (ixE (vE 0) (kE (.int 0))) ao)))) ao)))
 (aE (aR 5 (fT ao))
 (aE (gW (some 4) (Bg (vE 4)) (gT [6,7])
  cH)
 (retS (vE 5)))))))
noncomputable def g8:List D→Option D:=fw 10 2 il
noncomputable def bX:DS:=
 (aE (aR 4 (aH iY (a5 (ixE (ixE (vE 0) (kE (.int 3))) (ixE (vE 3) (kE (.int 0)))) (a5 (ixE (vE 3) (kE (.int 1))) ao))))
 (ifS (bq kC (vE 4) (kE .non))
  (vA 2 (bI (a5 (ixE (vE 3) (kE (.int 0))) (a5 (vE 4) ao))) (opE aQ (GC (vE 2) (bI (a5 (ixE (vE 3) (kE (.int 0))) (a5 (vE 4) ao))) (kE (.int 0))) (kE (.int 1))))
  bg))
noncomputable def g9:DS:=
 (aE (aR 2 (qD))
 (aE (gW (some 1) (kS (vE 1)) (gN 3)
  bX)
 (retS (oD bM 2 2 [] (gT [0,1]) (bq gtB (vE 1) (kE (.int 1))) (bI (a5 (kE (.str "twice")) (a5 (ixE (vE 0) (kE (.int 0))) (a5 (ixE (vE 0) (kE (.int 1))) ao))))))))
noncomputable def dW:List D→Option D:=fw 5 2 g9
noncomputable def gR:DS:=
 (LA 4 (aH fC (a5 (vE 0) (a5 (vE 2) (a5 (vE 5) ao)))))
noncomputable def nS:DS:=
 (aE (aR 2 (ixE (vE 1) (kE (.int 0))))
 (aE (aR 3 (ixE (vE 1) (kE (.int 1))))
 (aE (aR 4 (opE aQ (opE aQ (aH fZ (a5 (vE 0) (a5 (vE 2) (a5 (vE 3) ao)))) (aH g8 (a5 (vE 0) (a5 (vE 3) ao)))) (aH dW (a5 (vE 0) (a5 (vE 3) ao)))))
 (aE (gW (some 3) (kS (vE 3)) (gN 5)
  gR)
 (retS (dG fV (a5 (vE 4) ao)))))))
noncomputable def lA:List D→Option D:=fw 6 2 nS
noncomputable def aq:DS:=
 (aE (aR 3 (kE (.int 0)))
 (aE (ifS (bq gtB (dG cM (a5 (vE 0) ao)) (kE (.int 0)))
  (aR 3 (opE qA (ixE (vE 0) (opE qA (vE 1) (dG cM (a5 (vE 0) ao)))) (kE (.int 1000003))))
  bg)
 (retS (opE qA (opE mv (opE qA (opE dR (opE qA (opE dR (opE aQ (vE 3) (kE (.int 1))) (opE aQ (opE aQ (opE dR (vE 1) (vE 1)) (vE 1)) (kE (.int 41)))) (kE (.int 999983))) (kE (.int 48271))) (kE (.int 2147483647))) (kE (.int 11))) (vE 2)))))
noncomputable def a9:List D→Option D:=fw 4 3 aq
noncomputable def fD:DS:=
 (aE (aR 6 (opE aQ (opE aQ (vE 1) (kE (.int 1))) (opE dR (kE (.int 4)) (vE 5))))
 (aE (aR 7 (opE dR (vE 3) (opE aQ (kE (.int 1)) (aH a9 (a5 (vE 0) (a5 (vE 6) (a5 (kE (.int 30)) ao)))))))
 (aE (aR 8 (aH a9 (a5 (vE 0) (a5 (opE aQ (vE 6) (kE (.int 2))) (a5 (kE (.int 3)) ao)))))
 (aE (ifS (bq eqB (vE 8) (kE (.int 0)))
  (kT 4 (bI (a5 (kE (.str "flat")) (a5 (vE 7) (a5 (opE dR (vE 2) (opE aQ (kE (.int 1)) (aH a9 (a5 (vE 0) (a5 (opE aQ (vE 6) (kE (.int 1))) (a5 (kE (.int 30)) ao)))))) ao)))))
  bg)
 (aE (ifS (bq eqB (vE 8) (kE (.int 1)))
  (aE (aR 9 (opE dR (vE 2) (opE aQ (kE (.int 1)) (aH a9 (a5 (vE 0) (a5 (opE aQ (vE 6) (kE (.int 1))) (a5 (kE (.int 9)) ao)))))))
 (kT 4 (bI (a5 (kE (.str "kilo")) (a5 (vE 7) (a5 (vE 9) (a5 (opE aQ (kE (.int 1)) (aH a9 (a5 (vE 0) (a5 (opE aQ (vE 6) (kE (.int 3))) (a5 (kE (.int 40)) ao))))) ao)))))))
  bg)
 (ifS (bq eqB (vE 8) (kE (.int 2)))
  (kT 4 (bI (a5 (kE (.str "ever")) (a5 (opE dR (vE 2) (opE aQ (kE (.int 2)) (aH a9 (a5 (vE 0) (a5 (opE aQ (vE 6) (kE (.int 1))) (a5 (kE (.int 60)) ao)))))) ao))))
  bg))))))
noncomputable def kb:DS:=
 (aE (aR 4 (fT ao))
 (aE (gW none (gz (ixE (fT (a5 (kE (.int 0)) (a5 (kE (.int 1)) (a5 (kE (.int 1)) (a5 (kE (.int 2)) (a5 (kE (.int 3)) (a5 (kE (.int 4)) ao))))))) (aH a9 (a5 (vE 0) (a5 (vE 1) (a5 (kE (.int 6)) ao)))))) (gN 5)
  fD)
 (retS (dG iL (a5 (vE 4) ao)))))
noncomputable def j0:List D→Option D:=fw 10 4 kb
noncomputable def cI:DS:=
 (aE (aR 4 (opE aQ (kE (.int 100)) (opE dR (kE (.int 30)) (vE 3))))
 (aE (aR 5 (ixE (fT (a5 (kE (.int 1)) (a5 (kE (.int 2)) (a5 (kE (.int 5)) (a5 (kE (.int 12)) (a5 (opE oB (kE (.int 10)) (kE (.int 5))) ao)))))) (aH a9 (a5 (vE 0) (a5 (vE 4) (a5 (kE (.int 5)) ao))))))
 (aE (aR 6 (ixE (fT (a5 (bI (a5 (vE 5) ao)) (a5 (bI (a5 (vE 5) (a5 (opE dR (kE (.int 2)) (vE 5)) ao))) (a5 (bI (a5 (vE 5) (a5 (opE dR (kE (.int 3)) (vE 5)) (a5 (opE dR (kE (.int 7)) (vE 5)) ao)))) ao)))) (aH a9 (a5 (vE 0) (a5 (opE aQ (vE 4) (kE (.int 1))) (a5 (kE (.int 3)) ao))))))
 (aE (aR 7 (opE dR (ixE (fT (a5 (kE (.int 0)) (a5 (vE 1) ao))) (aH a9 (a5 (vE 0) (a5 (opE aQ (vE 4) (kE (.int 2))) (a5 (kE (.int 2)) ao))))) (aH a9 (a5 (vE 0) (a5 (opE aQ (vE 4) (kE (.int 3))) (a5 (kE (.int 20)) ao))))))
 (kT 2 (bI (a5 (opE aQ (kE (.str "stuff")) (ixE (kE (.str "abcdef")) (vE 3))) (a5 (vE 6) (a5 (aH j0 (a5 (vE 0) (a5 (opE aQ (vE 4) (kE (.int 5))) (a5 (vE 5) (a5 (vE 1) ao))))) (a5 (vE 7) ao))))))))))
noncomputable def ip:DS:=
 (aE (aR 2 (fT ao))
 (aE (gW none (gz (ixE (fT (a5 (kE (.int 1)) (a5 (kE (.int 2)) (a5 (kE (.int 3)) (a5 (kE (.int 3)) (a5 (kE (.int 2)) (a5 (kE (.int 6)) ao))))))) (aH a9 (a5 (vE 0) (a5 (kE (.int 21)) (a5 (kE (.int 6)) ao)))))) (gN 3)
  cI)
 (retS (dG iL (a5 (vE 2) ao)))))
noncomputable def gc:List D→Option D:=fw 8 2 ip
noncomputable def fE:DS:=
 (aE (aR 6 (opE aQ (opE aQ (kE (.int 3000)) (opE dR (kE (.int 18)) (vE 4))) (opE dR (kE (.int 3)) (vE 5))))
 (ifS (mY (bq ltB (dG cM (a5 (vE 3) ao)) (kE (.int 12))) (bq eqB (aH a9 (a5 (vE 0) (a5 (vE 6) (a5 (kE (.int 3)) ao)))) (kE (.int 0))))
  (aE (aR 7 (bI (a5 (vE 4) (a5 (vE 5) (a5 (opE dR (vE 2) (opE aQ (kE (.int 1)) (aH a9 (a5 (vE 0) (a5 (opE aQ (vE 6) (kE (.int 1))) (a5 (kE (.int 10)) ao)))))) ao)))))
 (Ma 3 (aH a9 (a5 (vE 0) (a5 (opE aQ (vE 6) (kE (.int 2))) (a5 (opE aQ (dG cM (a5 (vE 3) ao)) (kE (.int 1))) ao)))) (vE 7)))
  bg))
noncomputable def fF:DS:=
 (gW none (Be (vE 4) (vE 1)) (gN 5)
  fE)
noncomputable def kc:DS:=
 (aE (aR 3 (fT ao))
 (aE (gW none (gz (vE 1)) (gN 4)
  fF)
 (retS (dG iL (a5 (vE 3) ao)))))
noncomputable def j3:List D→Option D:=fw 8 3 kc
noncomputable def j4:DS:=
 (aE (ifS (bq eqB (aH a9 (a5 (vE 0) (a5 (vE 1) (a5 (kE (.int 3)) ao)))) (kE (.int 0)))
  (retS (bI (a5 (kE (.str "asked")) (a5 (opE dR (vE 2) (aH a9 (a5 (vE 0) (a5 (opE aQ (vE 1) (kE (.int 1))) (a5 (kE (.int 20)) ao))))) ao))))
  bg)
 (aE (aR 3 (opE dR (vE 2) (opE aQ (kE (.int 1)) (aH a9 (a5 (vE 0) (a5 (opE aQ (vE 1) (kE (.int 2))) (a5 (kE (.int 12)) ao)))))))
 (aE (aR 4 (opE dR (vE 2) (aH a9 (a5 (vE 0) (a5 (opE aQ (vE 1) (kE (.int 3))) (a5 (opE mv (vE 3) (vE 2)) ao))))))
 (aE (aR 5 (opE dR (vE 2) (aH a9 (a5 (vE 0) (a5 (opE aQ (vE 1) (kE (.int 4))) (a5 (opE mv (opE kJ (vE 3) (vE 4)) (vE 2)) ao))))))
 (aE (aR 6 (opE aQ (vE 4) (opE dR (vE 2) (aH a9 (a5 (vE 0) (a5 (opE aQ (vE 1) (kE (.int 5))) (a5 (kE (.int 10)) ao)))))))
 (retS (bI (a5 (kE (.str "due")) (a5 (vE 6) (a5 (vE 3) (a5 (ixE (fT (a5 (kE (.int 1)) (a5 (kE (.int 2)) (a5 (kE (.int 4)) (a5 (kE (.int 6)) (a5 (kE (.int 60)) ao)))))) (aH a9 (a5 (vE 0) (a5 (opE aQ (vE 1) (kE (.int 6))) (a5 (kE (.int 5)) ao))))) (a5 (vE 4) (a5 (vE 5) ao)))))))))))))
noncomputable def j5:List D→Option D:=fw 7 3 j4
noncomputable def dX:DS:=
 (kT 2 (bI (a5 (opE aQ (kE (.str "guest")) (ixE (kE (.str "abcdef")) (vE 3))) (a5 (opE dR (vE 1) (aH a9 (a5 (vE 0) (a5 (opE aQ (kE (.int 30)) (vE 3)) (a5 (kE (.int 15)) ao))))) ao))))
noncomputable def cY:DS:=
 (aE (aR 7 (opE aQ (kE (.int 300)) (opE dR (kE (.int 20)) (vE 6))))
 (aE (aR 8 (aH a9 (a5 (vE 0) (a5 (vE 7) (a5 (dG cM (a5 (vE 4) ao)) ao)))))
 (aE (aR 9 (opE dR (ixE (ixE (ixE (vE 4) (vE 8)) (kE (.int 1))) (kE (.int 0))) (ixE (fT (a5 (kE (.int 4)) (a5 (kE (.int 15)) (a5 (kE (.int 2000)) ao)))) (aH a9 (a5 (vE 0) (a5 (opE aQ (vE 7) (kE (.int 1))) (a5 (kE (.int 3)) ao)))))))
 (aE (aR 10 (bI (a5 (ixE (fT (a5 (kE (.str "down")) (a5 (kE (.str "up")) (a5 (kE (.str "near")) ao)))) (opE qA (vE 6) (kE (.int 3)))) (a5 (opE aQ (kE (.int 1)) (aH a9 (a5 (vE 0) (a5 (opE aQ (vE 7) (kE (.int 2))) (a5 (kE (.int 90)) ao))))) (a5 (aH a9 (a5 (vE 0) (a5 (opE aQ (vE 7) (kE (.int 3))) (a5 (kE (.int 9)) ao)))) (a5 (vE 9) ao))))))
 (aE (aR 11 (aH j5 (a5 (vE 0) (a5 (opE aQ (vE 7) (kE (.int 4))) (a5 (vE 1) ao)))))
 (aE (aR 12 (bI ao))
 (aE (ifS (mY (bq eqB (ixE (vE 11) (kE (.int 0))) (kE (.str "due"))) (bq gtB (ixE (vE 11) (kE (.int 3))) (kE (.int 2))))
  (aR 12 (bI (a5 (bI (a5 (kE (.int 1)) (a5 (kE (.int 1)) (a5 (kE (.int 2)) ao)))) (a5 (bI (a5 (kE (.int 2)) (a5 (kE (.int 1)) (a5 (kE (.int 3)) ao)))) ao))))
  bg)
 (kT 5 (bI (a5 (opE aQ (kE (.str "order")) (ixE (kE (.str "abcdefghijkl")) (vE 6))) (a5 (aH a9 (a5 (vE 0) (a5 (opE aQ (vE 7) (kE (.int 12))) (a5 (dG cM (a5 (vE 2) ao)) ao)))) (a5 (vE 8) (a5 (vE 10) (a5 (vE 11) (a5 (vE 12) ao)))))))))))))))
noncomputable def jo:DS:=
 (aE (aR 1 (ixE (fT (a5 (kE (.int 1)) (a5 (kE (.int 1)) (a5 (kE (.int 1)) (a5 (kE (.int 1)) (a5 (kE (.int 1)) (a5 (opE oB (kE (.int 10)) (kE (.int 6))) ao))))))) (aH a9 (a5 (vE 0) (a5 (kE (.int 1)) (a5 (kE (.int 6)) ao))))))
 (aE (aR 2 (fT ao))
 (aE (gW none (gz (ixE (fT (a5 (kE (.int 1)) (a5 (kE (.int 2)) (a5 (kE (.int 3)) (a5 (kE (.int 2)) (a5 (kE (.int 3)) (a5 (kE (.int 6)) ao))))))) (aH a9 (a5 (vE 0) (a5 (kE (.int 20)) (a5 (kE (.int 6)) ao)))))) (gN 3)
  dX)
 (aE (aR 4 (aH gc (a5 (vE 0) (a5 (vE 1) ao))))
 (aE (aR 5 (fT ao))
 (aE (gW none (gz (ixE (fT (a5 (kE (.int 1)) (a5 (kE (.int 2)) (a5 (kE (.int 3)) (a5 (kE (.int 4)) (a5 (kE (.int 4)) (a5 (kE (.int 12)) ao))))))) (aH a9 (a5 (vE 0) (a5 (kE (.int 22)) (a5 (kE (.int 6)) ao)))))) (gN 6)
  cY)
 (retS (bI (a5 (dG iL (a5 (vE 2) ao)) (a5 (vE 4) (a5 (aH j3 (a5 (vE 0) (a5 (dG cM (a5 (vE 4) ao)) (a5 (vE 1) ao)))) (a5 (dG iL (a5 (vE 5) ao)) ao))))))))))))
noncomputable def gS:List D→Option D:=fw 13 1 jo
noncomputable def kf:DS:=
 (aE (aR 4 (ixE (fT (a5 (kE (.int 1)) (a5 (kE (.int 1)) (a5 (kE (.int 1)) (a5 (kE (.int 1)) (a5 (kE (.int 1)) (a5 (opE oB (kE (.int 10)) (kE (.int 6))) ao))))))) (aH a9 (a5 (vE 0) (a5 (kE (.int 1)) (a5 (kE (.int 6)) ao))))))
 (aE (aR 5 (ixE (ixE (ixE (vE 1) (kE (.int 3))) (vE 2)) (kE (.int 4))))
 (aE (aR 6 (opE dR (vE 4) (aH a9 (a5 (vE 0) (a5 (vE 3) (a5 (kE (.int 70)) ao))))))
 (aE (ifS (mY (bq eqB (ixE (vE 5) (kE (.int 0))) (kE (.str "due"))) (bq gtB (aH a9 (a5 (vE 0) (a5 (opE aQ (vE 3) (kE (.int 3000))) (a5 (kE (.int 4)) ao)))) (kE (.int 0))))
  (aE (aR 7 (opE aQ (ixE (vE 5) (kE (.int 1))) (opE dR (aH a9 (a5 (vE 0) (a5 (vE 3) (a5 (dG nE (a5 (ixE (vE 5) (kE (.int 3))) (a5 (kE (.int 6)) ao))) ao)))) (ixE (vE 5) (kE (.int 2))))))
 (aE (aR 8 (fT (a5 (vE 7) (a5 (opE kJ (vE 7) (ixE (vE 5) (kE (.int 4)))) (a5 (opE aQ (vE 7) (ixE (vE 5) (kE (.int 5)))) (a5 (opE kJ (opE kJ (vE 7) (ixE (vE 5) (kE (.int 4)))) (kE (.int 1))) (a5 (opE aQ (opE aQ (vE 7) (ixE (vE 5) (kE (.int 5)))) (kE (.int 1))) (a5 (vE 7) ao))))))))
 (aR 6 (dG sS (a5 (kE (.int 0)) (a5 (ixE (vE 8) (aH a9 (a5 (vE 0) (a5 (opE aQ (vE 3) (kE (.int 4000))) (a5 (kE (.int 6)) ao))))) ao))))))
  bg)
 (aE (ifS (bq eqB (aH a9 (a5 (vE 0) (a5 (opE aQ (vE 3) (kE (.int 5000))) (a5 (kE (.int 12)) ao)))) (kE (.int 0)))
  (aR 6 (opE aQ (vE 6) (kE (.int 1))))
  bg)
 (aE (ifS (bq eqB (aH a9 (a5 (vE 0) (a5 (opE aQ (vE 3) (kE (.int 5500))) (a5 (kE (.int 25)) ao)))) (kE (.int 0)))
  (aR 6 (opE oB (kE (.int 10)) (kE (.int 9))))
  bg)
 (retS (vE 6))))))))
noncomputable def j6:List D→Option D:=fw 9 4 kf
noncomputable def iq:DS:=
 (aE (aR 4 (ixE (ixE (ixE (ixE (vE 1) (kE (.int 1))) (ixE (ixE (ixE (vE 1) (kE (.int 3))) (vE 2)) (kE (.int 2)))) (kE (.int 1))) (kE (.int 0))))
 (aE (aR 5 (opE dR (vE 4) (opE aQ (kE (.int 1)) (aH a9 (a5 (vE 0) (a5 (opE aQ (vE 3) (kE (.int 6000))) (a5 (kE (.int 8)) ao)))))))
 (aE (aR 6 (fT (a5 (kE (.int 0)) (a5 (unE Cn (vE 5)) (a5 (opE aQ (vE 5) (kE (.int 1))) (a5 (opE oB (kE (.int 10)) (kE (.int 9))) (a5 (opE dR (vE 4) (kE (.int 2001))) (a5 (unE Cn (kE (.int 1))) ao))))))))
 (aE (ifS (bq eqB (aH a9 (a5 (vE 0) (a5 (opE aQ (vE 3) (kE (.int 7000))) (a5 (kE (.int 14)) ao)))) (kE (.int 0)))
  (retS (ixE (vE 6) (aH a9 (a5 (vE 0) (a5 (opE aQ (vE 3) (kE (.int 8000))) (a5 (kE (.int 6)) ao))))))
  bg)
 (retS (vE 5))))))
noncomputable def fh:List D→Option D:=fw 7 4 iq
noncomputable def cq:DS:=
 (aE (aR 6 (bI (a5 (aH a9 (a5 (vE 0) (a5 (opE aQ (kE (.int 900)) (vE 5)) (a5 (dG cM (a5 (ixE (vE 1) (kE (.int 0))) ao)) ao)))) (a5 (opE dR (vE 3) (aH a9 (a5 (vE 0) (a5 (opE aQ (kE (.int 920)) (vE 5)) (a5 (kE (.int 50)) ao))))) ao))))
 (aE (ifS (mY (bq ltB (vE 5) (dG cM (a5 (ixE (vE 1) (kE (.int 0))) ao))) (bq eqB (aH a9 (a5 (vE 0) (a5 (kE (.int 980)) (a5 (kE (.int 2)) ao)))) (kE (.int 0))))
  (aR 6 (bI (a5 (vE 5) (a5 (kE (.int 0)) ao))))
  bg)
 (vA 4 (vE 6) (ixE (fT (a5 (opE aQ (kE (.int 1)) (aH a9 (a5 (vE 0) (a5 (opE aQ (kE (.int 940)) (vE 5)) (a5 (kE (.int 200)) ao))))) (a5 (opE oB (kE (.int 10)) (kE (.int 6))) ao))) (opE mv (aH a9 (a5 (vE 0) (a5 (opE aQ (kE (.int 960)) (vE 5)) (a5 (kE (.int 8)) ao)))) (kE (.int 7)))))))
noncomputable def gD:DS:=
 (aE (aR 3 (ixE (fT (a5 (kE (.int 1)) (a5 (kE (.int 1)) (a5 (kE (.int 1)) (a5 (kE (.int 1)) (a5 (kE (.int 1)) (a5 (opE oB (kE (.int 10)) (kE (.int 6))) ao))))))) (aH a9 (a5 (vE 0) (a5 (kE (.int 1)) (a5 (kE (.int 6)) ao))))))
 (aE (aR 4 (qD))
 (aE (gW none (gz (vE 2)) (gN 5)
  cq)
 (retS (dG iL (a5 (dG sortedS (a5 (oD bM 4 2 [] (gT [0,1]) gL (bI (a5 (ixE (vE 0) (kE (.int 0))) (a5 (ixE (vE 0) (kE (.int 1))) (a5 (vE 1) ao))))) ao)) ao))))))
noncomputable def fG:List D→Option D:=fw 7 3 gD
noncomputable def cw:DS:=
 (aE (aR 5 (aH a9 (a5 (vE 0) (a5 (opE aQ (kE (.int 1000)) (vE 4)) (a5 (dG cM (a5 (ixE (vE 1) (kE (.int 3))) ao)) ao)))))
 (aE (aR 6 (bI (a5 (vE 5) (a5 (aH j6 (a5 (vE 0) (a5 (vE 1) (a5 (vE 5) (a5 (opE aQ (kE (.int 1100)) (vE 4)) ao))))) ao))))
 (aE (vA 3 (vE 6) (aH fh (a5 (vE 0) (a5 (vE 1) (a5 (vE 5) (a5 (opE aQ (kE (.int 1100)) (vE 4)) ao))))))
 (ifS (bq eqB (aH a9 (a5 (vE 0) (a5 (opE aQ (kE (.int 1050)) (vE 4)) (a5 (kE (.int 40)) ao)))) (kE (.int 0)))
  (vA 3 (vE 6) (opE aQ (opE oB (kE (.int 10)) (kE (.int 40))) (vE 4)))
  bg))))
noncomputable def gE:DS:=
 (aE (aR 3 (qD))
 (aE (gW none (gz (vE 2)) (gN 4)
  cw)
 (retS (dG iL (a5 (dG sortedS (a5 (oD bM 3 2 [] (gT [0,1]) gL (bI (a5 (ixE (vE 0) (kE (.int 0))) (a5 (ixE (vE 0) (kE (.int 1))) (a5 (vE 1) ao))))) ao)) ao)))))
noncomputable def fH:List D→Option D:=fw 7 3 gE
noncomputable def fI:DS:=
 (ifS (mY (bq eqB (ixE (vE 3) (kE (.int 1))) (ixE (vE 7) (kE (.int 1)))) (bq eqB (dG sortedS (a5 (fT (a5 (ixE (vE 3) (kE (.int 2))) (a5 (ixE (vE 7) (kE (.int 2))) ao))) ao)) (fT (a5 (ixE (vE 8) (kE (.int 0))) (a5 (ixE (vE 8) (kE (.int 1))) ao)))))
  (ifS (bq ltB (opE kJ (ixE (ixE (vE 2) (vE 5)) (kE (.int 0))) (ixE (ixE (vE 2) (vE 6)) (kE (.int 0)))) (ixE (vE 8) (kE (.int 2))))
  (kT 4 (bI (a5 (kE (.str "gap")) (a5 (ixE (ixE (vE 2) (vE 6)) (kE (.int 1))) (a5 (ixE (ixE (vE 2) (vE 6)) (kE (.int 0))) (a5 (ixE (ixE (vE 2) (vE 5)) (kE (.int 1))) (a5 (ixE (ixE (vE 2) (vE 5)) (kE (.int 0))) ao)))))))
  bg)
  bg)
noncomputable def dE:DS:=
 (aE (aR 3 (ixE (ixE (vE 0) (kE (.int 3))) (ixE (ixE (vE 2) (vE 6)) (kE (.int 1)))))
 (aE (aR 7 (ixE (ixE (vE 0) (kE (.int 3))) (ixE (ixE (vE 2) (vE 5)) (kE (.int 1)))))
 (gW none (kS (ixE (vE 0) (kE (.int 2)))) (gN 8)
  fI)))
noncomputable def dF:DS:=
 (gW none (gz (vE 5)) (gN 6)
  dE)
noncomputable def kg:DS:=
 (aE (aR 2 (dG sortedS (a5 (pj none 1 [] (kS (ixE (vE 1) (kE (.int 1)))) (gN 0) gL (bI (a5 (ixE (vE 0) (kE (.int 1))) (a5 (ixE (vE 0) (kE (.int 0))) ao)))) ao)))
 (aE (aR 4 (fT ao))
 (aE (gW none (gz (dG cM (a5 (vE 2) ao))) (gN 5)
  dF)
 (retS (vE 4)))))
noncomputable def j7:List D→Option D:=fw 9 2 kg
noncomputable def jq:DS:=
 (retS (bE (mY (Co "int" (vE 0)) (ug (Co "bool" (vE 0))))))
noncomputable def jr:List D→Option D:=fw 1 1 jq
noncomputable def dC:DS:=
 (ifS (ug (vt (aH jr (a5 (vE 2) ao))))
  (retS (kE (.bl false)))
  bg)
noncomputable def fL:DS:=
 (aE (ifS (orT (ug (vt (bE (Co "tuple" (vE 1))))) (orT (bq ltB (dG cM (a5 (vE 1) ao)) (kE (.int 3))) (ug (vt (bE (Co "str" (ixE (vE 1) (kE (.int 0)))))))))
  (retS (kE (.bl false)))
  bg)
 (gW none (kS (slE (vE 1) (DV (kE (.int 1))) noO)) (gN 2)
  dC))
noncomputable def iz:DS:=
 (aE (ifS (ug (vt (bE (Co "list" (vE 0)))))
  (retS (kE (.bl false)))
  bg)
 (aE (gW (some 0) (kS (vE 0)) (gN 1)
  fL)
 (retS (kE (.bl true)))))
noncomputable def gf:List D→Option D:=fw 3 1 iz
noncomputable def Fc:DS:=
 (aE (aR 1 (aH gS (a5 (vE 0) ao)))
 (aE (aR 2 (aH fG (a5 (vE 0) (a5 (vE 1) (a5 (aH a9 (a5 (vE 0) (a5 (kE (.int 11)) (a5 (kE (.int 9)) ao)))) ao)))))
 (aE (aR 3 (bI (a5 (vE 2) (a5 (aH fH (a5 (vE 0) (a5 (vE 1) (a5 (opE aQ (dG nE (a5 (dG cM (a5 (vE 0) ao)) (a5 (kE (.int 30)) ao))) (aH a9 (a5 (vE 0) (a5 (kE (.int 12)) (a5 (kE (.int 4)) ao))))) ao)))) ao))))
 (aE (aR 4 (aH lA (a5 (vE 1) (a5 (vE 3) ao))))
 (aE (ifS (ug (vt (aH gf (a5 (vE 4) ao))))
  (retS (kE (.bl false)))
  bg)
 (retS (bE (bq eqB (pj (some 4) 1 [] (kS (vE 4)) (gN 0) (bq eqB (ixE (vE 0) (kE (.int 0))) (kE (.str "gap"))) (vE 0)) (dG fV (a5 (aH j7 (a5 (vE 1) (a5 (vE 3) ao))) ao))))))))))
noncomputable def qY:List D→Option D:=fw 5 1 Fc
end Den
namespace Maths
open DL Den PySem
noncomputable def cell(ns:List Int)(k:Int):Int:=if ns.length=0 then 0 else ns[(k%ns.length).toNat]?.getD 0%1000003
noncomputable def draw(ns:List Int)(k m:Int):Int:=(cell ns k+1)*(k*k+k+41)%999983*48271%2147483647/11%m
theorem HE(ns:List Int)(k:Int):0≤cell ns k∧cell ns k<1000003:=by
 unfold cell
 split
 ·omega
 ·exact⟨Int.emod_nonneg _ (by omega),Gdu _ (by omega)⟩
theorem aV(ns:List Int)(k m:Int)(hm:0<m):0≤draw ns k m∧draw ns k m<m:=⟨Int.emod_nonneg _ (by omega),Gdu _ hm⟩
theorem HF{ns:List Int}{k:Int}(h:0<ns.length):atD ns (k%ns.length)=some (ns[(k%ns.length).toNat]?.getD 0):=by
 unfold atD
 have h1:0≤k%(ns.length:Int):=Int.emod_nonneg _ (by omega)
 have h2:k%(ns.length:Int)<ns.length:=Gdu _ (by omega)
 rw[Gag h1]
 have h3:(k%(ns.length:Int)).toNat<ns.length:=by omega
 simp[h3]
theorem bP{i j:Int}(h: -18446744073709551616<i)(h2:i<18446744073709551616):ck i j=true:=by
 unfold ck
 rw[GaW]
 exact .inl (GaG (by omega))
theorem qr{i j:Int}(h: -18446744073709551616<j)(h2:j<18446744073709551616):ck i j=true:=by
 unfold ck
 rw[GaW]
 exact .inr (GaG (by omega))
theorem aO{ns:List Int}{k m:Int}(hk:0≤k)(hk2:k<1000000)(hm:0<m):a9 [.scr ns,.int k,.int m]=some (.int (draw ns k m)):=by
 have c:=HE ns k
 have e1:ck k k=true:=bP (by omega) (by omega)
 have e2:∀j,ck (cell ns k+1) j=true:=λj=>bP (by omega) (by omega)
 have e3:∀i,ck i 48271=true:=λi=>qr (by omega) (by omega)
 unfold a9 aq
 by_cases h:0<ns.length
 ·have hc:cell ns k=ns[(k%ns.length).toNat]?.getD 0%1000003:=by unfold cell;rw[Gae (by omega)]
  have h' :(0:Int)<ns.length:=by omega
  simp[h,h',HF h,e1,e3,hm,←hc]
  simp[e2,e3,hm,draw]
 ·have hc:cell ns k=0:=by unfold cell;rw[Gag (by omega)]
  have h' :¬(0:Int)<ns.length:=by omega
  simp[h,h',e1,e3,hm]
  have:=e2 (k*k+k+41)
  rw[hc] at this
  simp at this
  simp[this,e3,hm,draw,hc]
theorem bY{i:Int}(h1: -4611686018427387904≤i)(h2:i<4611686018427387904):bU i=true:=by
 unfold bU
 rw[Gau]
 exact⟨GaG h1,GaG h2⟩
theorem fj{g:DG}{body:DS}(I:Nat→DL.Env→Prop):∀(ds:List D) (k:Nat) (env:DL.Env),I k env→(∀(i:Nat) d e,ds[i]? =some d→I (k+i) e→∃e1 e2,g d e=some e1∧body e1=some (.nx e2)∧I (k+i+1) e2)→∃e,forL g body ds env=some (.nx e)∧I (k+ds.length) e
 |[],k,env,h,_=> ⟨env,rfl,h⟩
 |d::ds,k,env,h,st=>by
  obtain⟨e1,e2,h1,h2,h3⟩:=st 0 d env rfl h
  obtain⟨e,h4,h5⟩:=fj I ds (k+1) e2 h3 λi d' e' hd hI=>by
   have:=st (i+1) d' e' (by simpa using hd) (by rw[show k+(i+1)=k+1+i by omega];exact hI)
   rw[show k+(i+1)+1=k+1+i+1 by omega] at this
   exact this
  refine⟨e,by simp[forL,h1,h2,h4], ?_⟩
  rw[show k+(d::ds).length=k+1+ds.length by simp;omega]
  exact h5
theorem cS{lo:Int}{n i:Nat}{d:D}(h:(bx lo n)[i]? =some d):i<n∧d= .int (lo+i):=by
 unfold bx at h
 rw[Gal] at h
 by_cases hi:i<n
 ·rw[List.getElem?_range hi] at h;cases h;exact⟨hi,rfl⟩
 ·rw[Gbn (by simp;omega)] at h;cases h
theorem dY{lo:Int}{n:Nat}:(bx lo n).length=n:=by simp[bx]
theorem ma{α:Type}{g:DG}{t:DT}{f:DE}(emb:α→D)(C:DL.Env→Prop)(p:α→Bool)(r:α→D):∀(xs:List α) (e:DL.Env),C e→
  (∀x∈xs,∀e,C e→∃e',g (emb x) e=some e' ∧C e' ∧t e' =some (p x)∧(p x=true→∃k,f e' =some ⟨k,r x⟩∧RV.free ⟨k,r x⟩=true))→cn g t f (xs.map emb) e=some ((xs.filter p).map r)
 |[],e,_,_=>rfl
 |d::ds,e,h,st=>by
  obtain⟨e',h1,h2,h3,h4⟩:=st d Gak e h
  have ih:=ma emb C p r ds e' h2 λd' hd=>st d' (Gaf _ hd)
  cases q:p d with
  |false=>simp[cn,h1,h3,q,ih]
  |true=>
   obtain⟨k,h5,h6⟩:=h4 q
   simp[cn,h1,h3,q,h5,h6,ih]
theorem iJ{α:Type}{g:DG}{f:DE}(emb:α→D)(C:DL.Env→Prop)(r:α→D)(xs:List α)(e:DL.Env)(h:C e)
  (st:∀x∈xs,∀e,C e→∃e',g (emb x) e=some e' ∧C e' ∧∃k,f e' =some ⟨k,r x⟩∧RV.free ⟨k,r x⟩=true):cn g gL f (xs.map emb) e=some (xs.map r):=by
 have:=ma (g:=g) (t:=gL) (f:=f) emb C (λ_=>true) r xs e h (λx hx e he=>by
  obtain⟨e',h1,h2,h3⟩:=st x hx e he
  exact⟨e',h1,h2,rfl,λ_=>h3⟩)
 rw[List.filter_eq_self.mpr λ_ _=>rfl] at this
 exact this
theorem CT(bs:List Bool):uh (bs.map D.bl)=some bs:=by
 induction bs with
 |nil=>rfl
 |cons b bs ih=>simp[ih]
theorem CU(bs:List Int):Bc (bs.map D.int)=some bs:=by
 induction bs with
 |nil=>rfl
 |cons b bs ih=>simp[ih]
@[simp] theorem MD(bs:List Bool):anyS [.lst (bs.map D.bl)]=some ⟨.c,.bl (bs.any id)⟩:=by
 simp[anyS,one,kQ,CT]
theorem Fd(hs:List Int):kP (hs.map D.int) (hs.map D.int)=true:=by
 induction hs with
 |nil=>rfl
 |cons b bs ih=>simp[ih]
theorem AK(n:Nat)(hs:List Int):(hs.map D.int).all (ay n)=true:=by
 induction hs with
 |nil=>rfl
 |cons b bs ih=>simp[ih]
theorem nT(hs:List Int):aN (hs.map D.int)=true:=by
 induction hs with
 |nil=>rfl
 |cons b bs ih=>simp[ih]
theorem av{f g:DS}{env e:DL.Env}(h:f env=some (.nx e)):aE f g env=g e:=by simp[aE,h]
theorem BJ{f g:DS}{env:DL.Env}{d:D}(h:f env=some (.ret d)):aE f g env=some (.ret d):=by simp[aE,h]
theorem bh{n np:Nat}{body:DS}{ds:List D}{d:D}(hl:ds.length=np)(h:body (bz n ds)=some (.ret d)):fw n np body ds=some d:=by
 unfold fw;rw[Gag hl,h];rfl
theorem ME{t:DT}{f g:DS}{env:DL.Env}(h:t env=some true):ifS t f g env=f env:=by simp[ifS,h]
inductive Cap where
 |flat (h t:Int)
 |kilo (h t p:Int)
 |ever (t:Int)
noncomputable def cZ:Cap→D
 | .flat h t=> .tup [.str "flat",.int h,.int t]
 | .kilo h t p=> .tup [.str "kilo",.int h,.int t,.int p]
 | .ever t=> .tup [.str "ever",.int t]
def pz:Cap→Prop
 | .flat h t=>1≤h∧1≤t∧t≤3100000
 | .kilo h t p=>1≤h∧1≤t∧t≤3100000∧1≤p∧p≤40
 | .ever t=>1≤t∧t≤6200000
theorem Fe(c:Cap):(cZ c).imm=true:=by cases c<;>simp[cZ]
theorem qZ(cs:List Cap):aN (cs.map cZ)=true:=by
 induction cs with
 |nil=>rfl
 |cons c cs ih=>
  have:=Fe c
  simp[this] at ih⊢
  exact ih
theorem oO{a b A B:Int}(h0:0≤a)(h1:a≤A)(h2:0≤b)(h3:b≤B):a*b≤A*B:=
 Int.le_trans (Int.mul_le_mul_of_nonneg_right h1 h2) (Int.mul_le_mul_of_nonneg_left h3 (by omega))
theorem gx{a b:Int}(h0:1≤a)(h1:1≤b):1≤a*b:=by
 have:=Int.mul_le_mul h0 h1 (by omega) (by omega)
 omega
theorem CV{ns:List Int}{k part scale c:Int}{cs:List Cap}{x6 x7 x8 x9:Option Slot}(hk:0≤k)(hk2:k<10000)(hp:1≤part)(hp2:part≤100000)(hs:1≤scale)(hs2:scale≤1000000)(hc:0≤c)(hc2:c≤10)(hl:cs.length≤100):
  ∃cap y6 y7 y8 y9,pz cap∧fD [some (.sh (.scr ns)),some (.sh (.int k)),some (.sh (.int part)),some (.sh (.int scale)),some (.own (.lst (cs.map cZ))),some (.sh (.int c)),x6,x7,x8,x9]=
   some (.nx [some (.sh (.scr ns)),some (.sh (.int k)),some (.sh (.int part)),some (.sh (.int scale)),some (.own (.lst ((cs++[cap]).map cZ))),some (.sh (.int c)),y6,y7,y8,y9]):=by
 have m4:ck 4 c=true:=bP (by omega) (by omega)
 generalize hat:k+1+4*c=t
 have ht:0≤t:=by omega
 have ht2:t<20000:=by omega
 have d0:=aO (ns:=ns) (k:=t) (m:=30) (by omega) (by omega) (by omega)
 have d2:=aO (ns:=ns) (k:=t+2) (m:=3) (by omega) (by omega) (by omega)
 have d1:=aO (ns:=ns) (k:=t+1) (m:=30) (by omega) (by omega) (by omega)
 have d1b:=aO (ns:=ns) (k:=t+1) (m:=9) (by omega) (by omega) (by omega)
 have d1c:=aO (ns:=ns) (k:=t+1) (m:=60) (by omega) (by omega) (by omega)
 have d3:=aO (ns:=ns) (k:=t+3) (m:=40) (by omega) (by omega) (by omega)
 have l0:=aV ns t 30 (by omega)
 have l2:=aV ns (t+2) 3 (by omega)
 have l1:=aV ns (t+1) 30 (by omega)
 have l1b:=aV ns (t+1) 9 (by omega)
 have l1c:=aV ns (t+1) 60 (by omega)
 have l3:=aV ns (t+3) 40 (by omega)
 have ms:∀j,ck scale j=true:=λj=>bP (by omega) (by omega)
 have mp:∀j,ck part j=true:=λj=>bP (by omega) (by omega)
 generalize draw ns t 30=q0 at*
 generalize draw ns (t+2) 3=q2 at*
 generalize draw ns (t+1) 30=q1 at*
 generalize draw ns (t+1) 9=q1b at*
 generalize draw ns (t+1) 60=q1c at*
 generalize draw ns (t+3) 40=q3 at*
 have hz:(cs.map cZ).length<16777216:=by rw[Gah];omega
 have ih:=gx (a:=scale) (b:=1+q0) hs (by omega)
 have e1:∀cap,(cs++[cap]).map cZ=cs.map cZ++[cZ cap]:=λcap=>by simp
 generalize cs.map cZ=C at*
 have q:q2=0∨q2=1∨q2=2:=by omega
 unfold fD
 rcases q with rfl|rfl|rfl
 ·refine⟨.flat (scale*(1+q0)) (part*(1+q1)),some (.sh (.int t)),some (.sh (.int (scale*(1+q0)))),some (.sh (.int 0)),x9,⟨ih,gx hp (by omega), ?_⟩, ?_⟩
  ·have:=oO (a:=part) (b:=1+q1) (A:=100000) (B:=30) (by omega) hp2 (by omega) (by omega)
   omega
  ·rw[e1]
   simp[m4,hat,d0,d2,d1,ms,mp,ah,hz,cZ]
 ·refine⟨.kilo (scale*(1+q0)) (part*(1+q1b)) (1+q3),some (.sh (.int t)),some (.sh (.int (scale*(1+q0)))),some (.sh (.int 1)),some (.sh (.int (part*(1+q1b)))),⟨ih,gx hp (by omega), ?_,by omega,by omega⟩, ?_⟩
  ·have:=oO (a:=part) (b:=1+q1b) (A:=100000) (B:=9) (by omega) hp2 (by omega) (by omega)
   omega
  ·rw[e1]
   simp[m4,hat,d0,d2,d1b,d3,ms,mp,ah,hz,cZ]
 ·refine⟨.ever (part*(2+q1c)),some (.sh (.int t)),some (.sh (.int (scale*(1+q0)))),some (.sh (.int 2)),x9,⟨gx hp (by omega), ?_⟩, ?_⟩
  ·have:=oO (a:=part) (b:=2+q1c) (A:=100000) (B:=61) (by omega) hp2 (by omega) (by omega)
   omega
  ·rw[e1]
   simp[m4,hat,d0,d2,d1c,ms,mp,ah,hz,cZ]
theorem at6{a b c d e f:Int}{q:Int}(h:0≤q)(h2:q<6):∃v,(v=a∨v=b∨v=c∨v=d∨v=e∨v=f)∧atD [D.int a,.int b,.int c,.int d,.int e,.int f] q=some (.int v):=by
 have:q=0∨q=1∨q=2∨q=3∨q=4∨q=5:=by omega
 rcases this with rfl|rfl|rfl|rfl|rfl|rfl
 ·exact⟨a,.inl rfl,rfl⟩
 ·exact⟨b,.inr (.inl rfl),rfl⟩
 ·exact⟨c,.inr (.inr (.inl rfl)),rfl⟩
 ·exact⟨d,.inr (.inr (.inr (.inl rfl))),rfl⟩
 ·exact⟨e,.inr (.inr (.inr (.inr (.inl rfl)))),rfl⟩
 ·exact⟨f,.inr (.inr (.inr (.inr (.inr rfl)))),rfl⟩
theorem Ff{ns:List Int}{k part scale q n:Int}{C:List D}{y5 y6 y7 y8 y9:Option Slot}(d:a9 [.scr ns,.int k,.int 6]=some (.int q))(ea:atD [D.int 0,.int 1,.int 1,.int 2,.int 3,.int 4] q=some (.int n))(sm:bU n=true)
  (h1:forL (gN 5) fD (bx 0 n.toNat) [some (.sh (.scr ns)),some (.sh (.int k)),some (.sh (.int part)),some (.sh (.int scale)),some (.own (.lst [])),none,none,none,none,none]=some (.nx [some (.sh (.scr ns)),some (.sh (.int k)),some (.sh (.int part)),some (.sh (.int scale)),some (.own (.lst C)),y5,y6,y7,y8,y9]))(im:aN C=true):
  j0 [.scr ns,.int k,.int part,.int scale]=some (.tup C):=by
 refine bh rfl ?_
 unfold kb
 refine(av (e:=[some (.sh (.scr ns)),some (.sh (.int k)),some (.sh (.int part)),some (.sh (.int scale)),some (.own (.lst [])),none,none,none,none,none]) (by simp[bz,ah])).trans ?_
 refine(av (e:=[some (.sh (.scr ns)),some (.sh (.int k)),some (.sh (.int part)),some (.sh (.int scale)),some (.own (.lst C)),y5,y6,y7,y8,y9]) (by simp[-forL,d,ea,sm,h1,ah])).trans ?_
 simp[im]
theorem K8{ns:List Int}{k part scale:Int}(hk:0≤k)(hk2:k<10000)(hp:1≤part)(hp2:part≤100000)(hs:1≤scale)(hs2:scale≤1000000):∃cs:List Cap,cs.length≤4∧(∀c∈cs,pz c)∧j0 [.scr ns,.int k,.int part,.int scale]=some (.tup (cs.map cZ)):=by
 have d:=aO (ns:=ns) (k:=k) (m:=6) (by omega) (by omega) (by omega)
 have l:=aV ns k 6 (by omega)
 generalize draw ns k 6=q at*
 obtain⟨n,hn,ea⟩:=at6 (a:=0) (b:=1) (c:=1) (d:=2) (e:=3) (f:=4) l.1 l.2
 obtain⟨e,h1,cs,y5,y6,y7,y8,y9,h2,h3,rfl⟩:=fj (g:=gN 5) (body:=fD) (λm env=>∃(cs:List Cap) (y5 y6 y7 y8 y9:Option Slot),cs.length=m∧(∀c∈cs,pz c)∧env=[some (.sh (.scr ns)),some (.sh (.int k)),some (.sh (.int part)),some (.sh (.int scale)),some (.own (.lst (cs.map cZ))),y5,y6,y7,y8,y9]) (bx 0 n.toNat) 0
  [some (.sh (.scr ns)),some (.sh (.int k)),some (.sh (.int part)),some (.sh (.int scale)),some (.own (.lst [])),none,none,none,none,none] ⟨[],none,none,none,none,none,rfl,by simp,rfl⟩ (by
   rintro i d e hd ⟨cs,y5,y6,y7,y8,y9,h2,h3,rfl⟩
   obtain⟨hi,rfl⟩:=cS hd
   obtain⟨cap,z6,z7,z8,z9,hc,h⟩:=CV (ns:=ns) (k:=k) (part:=part) (scale:=scale) (c:=0+(i:Int)) (cs:=cs) (x6:=y6) (x7:=y7) (x8:=y8) (x9:=y9) hk hk2 hp hp2 hs hs2 (by omega) (by omega) (by omega)
   refine⟨_,_,rfl,h,cs++[cap],some (.sh (.int (0+(i:Int)))),z6,z7,z8,z9,by simp[h2],λx hx=> ?_,rfl⟩
   rcases Gax.mp hx with hx|hx
   ·exact h3 x hx
   ·simp at hx;rw[hx];exact hc)
 rw[dY] at h2
 exact⟨cs,by omega,h3,Ff d ea (bY (by omega) (by omega)) h1 (qZ cs)⟩
theorem cJ{d:D}(h:d.imm=true):jY d=⟨.c,d⟩:=by
 unfold jY
 have:d.top=false:=by cases d<;>simp[D.imm] at h<;>rfl
 rw[this];rfl
structure js where
 name:Str
 part:Int
 more:List Int
 aT:List Cap
 young:Int
noncomputable def b6(s:js):D:= .tup [.str s.name,.tup ((s.part::s.more).map .int),.tup (s.aT.map cZ),.int s.young]
structure mf(s:js):Prop where
 p1:1≤s.part
 p2:s.part≤100000
 cl:s.aT.length≤4
 ok:∀c∈s.aT,pz c
 y0:0≤s.young
theorem kh(s:js):(b6 s).imm=true:=by
 have h1:=qZ s.aT
 have h2:=nT (s.part::s.more)
 simp[b6] at h2⊢
 exact⟨h2,h1⟩
theorem gh{α:Type}{f:α→D}(h:∀a,(f a).imm=true):∀l:List α,aN (l.map f)=true
 |[]=>rfl
 |a::l=>by
  have h1:=h a
  have h2:=gh h l
  rw[Gaq]
  simp[h1,h2]
theorem Fg{i:Nat}(h:i<6):∃c,atD (Str.ofString "abcdef").cps.toList (i:Int)=some c:=by
 match i,h with
 |0,_=>exact⟨_,rfl⟩
 |1,_=>exact⟨_,rfl⟩
 |2,_=>exact⟨_,rfl⟩
 |3,_=>exact⟨_,rfl⟩
 |4,_=>exact⟨_,rfl⟩
 |5,_=>exact⟨_,rfl⟩
theorem CW{i:Nat}(h:i<12):∃c,atD (Str.ofString "abcdefghijkl").cps.toList (i:Int)=some c:=by
 match i,h with
 |0,_=>exact⟨_,rfl⟩
 |1,_=>exact⟨_,rfl⟩
 |2,_=>exact⟨_,rfl⟩
 |3,_=>exact⟨_,rfl⟩
 |4,_=>exact⟨_,rfl⟩
 |5,_=>exact⟨_,rfl⟩
 |6,_=>exact⟨_,rfl⟩
 |7,_=>exact⟨_,rfl⟩
 |8,_=>exact⟨_,rfl⟩
 |9,_=>exact⟨_,rfl⟩
 |10,_=>exact⟨_,rfl⟩
 |11,_=>exact⟨_,rfl⟩
theorem at5{a b c d e:Int}{q:Int}(h:0≤q)(h2:q<5):∃v,(v=a∨v=b∨v=c∨v=d∨v=e)∧atD [D.int a,.int b,.int c,.int d,.int e] q=some (.int v):=by
 have:q=0∨q=1∨q=2∨q=3∨q=4:=by omega
 rcases this with rfl|rfl|rfl|rfl|rfl
 ·exact⟨a,.inl rfl,rfl⟩
 ·exact⟨b,.inr (.inl rfl),rfl⟩
 ·exact⟨c,.inr (.inr (.inl rfl)),rfl⟩
 ·exact⟨d,.inr (.inr (.inr (.inl rfl))),rfl⟩
 ·exact⟨e,.inr (.inr (.inr (.inr rfl))),rfl⟩
theorem at2{a b q:Int}(h:0≤q)(h2:q<2):∃v,(v=a∨v=b)∧atD [D.int a,.int b] q=some (.int v):=by
 have:q=0∨q=1:=by omega
 rcases this with rfl|rfl
 ·exact⟨a,.inl rfl,rfl⟩
 ·exact⟨b,.inr rfl,rfl⟩
theorem Fh{p q:Int}(h:0≤q)(h2:q<3):∃ms:List Int,atD [D.tup [.int p],.tup [.int p,.int (2*p)],.tup [.int p,.int (3*p),.int (7*p)]] q=some (.tup ((p::ms).map .int)):=by
 have:q=0∨q=1∨q=2:=by omega
 rcases this with rfl|rfl|rfl
 ·exact⟨[],rfl⟩
 ·exact⟨[2*p],rfl⟩
 ·exact⟨[3*p,7*p],rfl⟩
theorem Fj{ns:List Int}{scale j k part qa qb qc qd young y0:Int}{S C:List D}{sz:D}{ch:Nat}{x4 x5 x6 x7:Option Slot}(mk:ck 30 j=true)(hk:100+30*j=k)(da:a9 [.scr ns,.int k,.int 5]=some (.int qa))(pa:atD [D.int 1,.int 2,.int 5,.int 12,.int 100000] qa=some (.int part))(m2:ck 2 part=true)(m3:ck 3 part=true)(m7:ck 7 part=true)
  (db:a9 [.scr ns,.int (k+1),.int 3]=some (.int qb))(sb:atD [D.tup [.int part],.tup [.int part,.int (2*part)],.tup [.int part,.int (3*part),.int (7*part)]] qb=some sz)(isz:sz.imm=true)(dc:a9 [.scr ns,.int (k+2),.int 2]=some (.int qc))(yc:atD [D.int 0,.int scale] qc=some (.int y0))(dd:a9 [.scr ns,.int (k+3),.int 20]=some (.int qd))(my:ck y0 qd=true)(hy:y0*qd=young)
  (hch:atD (Str.ofString "abcdef").cps.toList j=some ch)(ec:j0 [.scr ns,.int (k+5),.int part,.int scale]=some (.tup C))(ic:aN C=true)(hz:S.length<1000):
  cI [some (.sh (.scr ns)),some (.sh (.int scale)),some (.own (.lst S)),some (.sh (.int j)),x4,x5,x6,x7]=some (.nx [some (.sh (.scr ns)),some (.sh (.int scale)),some (.own (.lst (S++[.tup [.str ("stuff"++ ⟨#[ch]⟩),sz,.tup C,.int young]]))),some (.sh (.int j)),some (.sh (.int k)),some (.sh (.int part)),some (.sh sz),some (.sh (.int young))]):=by
 have z:S.length<16777216:=by omega
 unfold cI
 refine(av (e:=[some (.sh (.scr ns)),some (.sh (.int scale)),some (.own (.lst S)),some (.sh (.int j)),some (.sh (.int k)),x5,x6,x7]) (by simp[mk,hk])).trans ?_
 refine(av (e:=[some (.sh (.scr ns)),some (.sh (.int scale)),some (.own (.lst S)),some (.sh (.int j)),some (.sh (.int k)),some (.sh (.int part)),x6,x7]) (by simp[da,pa,ah])).trans ?_
 refine(av (e:=[some (.sh (.scr ns)),some (.sh (.int scale)),some (.own (.lst S)),some (.sh (.int j)),some (.sh (.int k)),some (.sh (.int part)),some (.sh sz),x7]) (by simp[m2,m3,m7,db,sb,isz,ah])).trans ?_
 refine(av (e:=[some (.sh (.scr ns)),some (.sh (.int scale)),some (.own (.lst S)),some (.sh (.int j)),some (.sh (.int k)),some (.sh (.int part)),some (.sh sz),some (.sh (.int young))]) (by simp[dc,yc,dd,my,hy,ah])).trans ?_
 have rc:=cJ (d:= .tup C) (by simp[ic])
 have w1:(Str.ofString "abcdef").length≤16777216:=by decide
 have w2:(Str.ofString "stuff").length+(⟨#[ch]⟩:Str).length≤16777216:=by
  have:(⟨#[ch]⟩:Str).length=1:=rfl
  rw[this];decide
 simp[hch,w1,w2,ec,rc,isz,ic,ah,z]
theorem AL{ns:List Int}{scale q n:Int}{S:List D}{y3 y4 y5 y6 y7:Option Slot}(d:a9 [.scr ns,.int 21,.int 6]=some (.int q))(ea:atD [D.int 1,.int 2,.int 3,.int 3,.int 2,.int 6] q=some (.int n))(sm:bU n=true)
  (h1:forL (gN 3) cI (bx 0 n.toNat) [some (.sh (.scr ns)),some (.sh (.int scale)),some (.own (.lst [])),none,none,none,none,none]=some (.nx [some (.sh (.scr ns)),some (.sh (.int scale)),some (.own (.lst S)),y3,y4,y5,y6,y7]))(im:aN S=true):
  gc [.scr ns,.int scale]=some (.tup S):=by
 refine bh rfl ?_
 unfold ip
 refine(av (e:=[some (.sh (.scr ns)),some (.sh (.int scale)),some (.own (.lst [])),none,none,none,none,none]) (by simp[bz,ah])).trans ?_
 refine(av (e:=[some (.sh (.scr ns)),some (.sh (.int scale)),some (.own (.lst S)),y3,y4,y5,y6,y7]) (by simp[-forL,d,ea,sm,h1,ah])).trans ?_
 simp[im]
theorem AM{ns:List Int}{scale:Int}{i:Nat}{ss:List js}{x4 x5 x6 x7:Option Slot}(hs:1≤scale)(hs2:scale≤1000000)(hi:i<6)(hl:ss.length≤100):
  ∃s y4 y5 y6 y7,mf s∧cI [some (.sh (.scr ns)),some (.sh (.int scale)),some (.own (.lst (ss.map b6))),some (.sh (.int (i:Int))),x4,x5,x6,x7]=some (.nx [some (.sh (.scr ns)),some (.sh (.int scale)),some (.own (.lst ((ss++[s]).map b6))),some (.sh (.int (i:Int))),y4,y5,y6,y7]):=by
 obtain⟨ch,hch⟩:=Fg hi
 have hj:(0:Int)≤(i:Int)∧(i:Int)≤5:=by omega
 have hz:(ss.map b6).length<1000:=by rw[Gah];omega
 have e1:∀s,(ss++[s]).map b6=ss.map b6++[b6 s]:=λs=>by simp
 generalize (i:Int)=j at*
 generalize ss.map b6=S at*
 generalize hk:100+30*j=k
 have da:=aO (ns:=ns) (k:=k) (m:=5) (by omega) (by omega) (by omega)
 have la:=aV ns k 5 (by omega)
 have db:=aO (ns:=ns) (k:=k+1) (m:=3) (by omega) (by omega) (by omega)
 have lb:=aV ns (k+1) 3 (by omega)
 have dc:=aO (ns:=ns) (k:=k+2) (m:=2) (by omega) (by omega) (by omega)
 have lc:=aV ns (k+2) 2 (by omega)
 have dd:=aO (ns:=ns) (k:=k+3) (m:=20) (by omega) (by omega) (by omega)
 have ld:=aV ns (k+3) 20 (by omega)
 obtain⟨part,hp,pa⟩:=at5 (a:=1) (b:=2) (c:=5) (d:=12) (e:=100000) la.1 la.2
 obtain⟨ms,sb⟩:=Fh (p:=part) lb.1 lb.2
 obtain⟨y0,hy0,yc⟩:=at2 (a:=0) (b:=scale) lc.1 lc.2
 obtain⟨cs,c1,c2,ec⟩:=K8 (ns:=ns) (k:=k+5) (part:=part) (scale:=scale) (by omega) (by omega) (by omega) (by omega) hs hs2
 have ii:=nT (part::ms)
 refine⟨⟨"stuff"++ ⟨#[ch]⟩,part,ms,cs,y0*draw ns (k+3) 20⟩,some (.sh (.int k)),some (.sh (.int part)),some (.sh (.tup ((part::ms).map .int))),some (.sh (.int (y0*draw ns (k+3) 20))),⟨by simp;omega,by simp;omega,c1,c2,GcR (by omega) ld.1⟩, ?_⟩
 rw[e1]
 exact Fj (bP (by omega) (by omega)) hk da pa (bP (by omega) (by omega)) (bP (by omega) (by omega)) (bP (by omega) (by omega)) db sb (by simpa using ii) dc yc dd (bP (by omega) (by omega)) rfl hch ec (qZ cs) hz
theorem Fm{ns:List Int}{scale:Int}(hs:1≤scale)(hs2:scale≤1000000):∃ss:List js,1≤ss.length∧ss.length≤6∧(∀s∈ss,mf s)∧gc [.scr ns,.int scale]=some (.tup (ss.map b6)):=by
 have d:=aO (ns:=ns) (k:=21) (m:=6) (by omega) (by omega) (by omega)
 have l:=aV ns 21 6 (by omega)
 generalize draw ns 21 6=q at*
 obtain⟨n,hn,ea⟩:=at6 (a:=1) (b:=2) (c:=3) (d:=3) (e:=2) (f:=6) l.1 l.2
 obtain⟨e,h1,ss,y3,y4,y5,y6,y7,h2,h3,rfl⟩:=fj (g:=gN 3) (body:=cI) (λm env=>∃(ss:List js) (y3 y4 y5 y6 y7:Option Slot),ss.length=m∧(∀s∈ss,mf s)∧env=[some (.sh (.scr ns)),some (.sh (.int scale)),some (.own (.lst (ss.map b6))),y3,y4,y5,y6,y7]) (bx 0 n.toNat) 0
  [some (.sh (.scr ns)),some (.sh (.int scale)),some (.own (.lst [])),none,none,none,none,none] ⟨[],none,none,none,none,none,rfl,by simp,rfl⟩ (by
   rintro i d e hd ⟨ss,y3,y4,y5,y6,y7,h2,h3,rfl⟩
   obtain⟨hi,rfl⟩:=cS hd
   obtain⟨s,z4,z5,z6,z7,hc,h⟩:=AM (ns:=ns) (scale:=scale) (i:=i) (ss:=ss) (x4:=y4) (x5:=y5) (x6:=y6) (x7:=y7) hs hs2 (by omega) (by omega)
   rw[show(0:Int)+(i:Int)=(i:Int) by omega]
   refine⟨_,_,rfl,h,ss++[s],some (.sh (.int (i:Int))),z4,z5,z6,z7,by simp[h2],λx hx=> ?_,rfl⟩
   rcases Gax.mp hx with hx|hx
   ·exact h3 x hx
   ·simp at hx;rw[hx];exact hc)
 rw[dY] at h2
 exact⟨ss,by omega,by omega,h3,AL d ea (bY (by omega) (by omega)) h1 (gh kh ss)⟩
noncomputable def trD(t:Int×Int×Int):D:= .tup [.int t.1,.int t.2.1,.int t.2.2]
theorem uL(t:Int×Int×Int):(trD t).imm=true:=by simp[trD]
noncomputable def uM(b:Int×Int×Int):Int×Int:=(b.1,b.2.1)
def lB(n:Int)(bs:List (Int×Int×Int)):Prop:=(∀b∈bs,0≤b.1∧b.1≤b.2.1∧b.2.1<n∧1≤b.2.2)∧(bs.map uM).Nodup
def oP(i j:Int)(bs:List (Int×Int×Int)):Prop:=∀b∈bs,b.1<i∨(b.1=i∧b.2.1<j)
theorem CY{α β:Type}(f:α→β)(xs:List α)(i:Int)(y:α):(gq xs i y).map f=gq (xs.map f) i (f y):=by
 unfold gq
 simp[GaJ,List.map_take,Gdv]
theorem K9{ns:List Int}{many scale i j k q0 q1 q2 L g:Int}{B:List D}{x6 x7:Option Slot}(m18:ck 18 i=true)(m3:ck 3 j=true)(hk:3000+18*i+3*j=k)(hL:cM [.lst B]=some ⟨.c,.int L⟩)(d0:a9 [.scr ns,.int k,.int 3]=some (.int q0))(d1:a9 [.scr ns,.int (k+1),.int 10]=some (.int q1))(d2:a9 [.scr ns,.int (k+2),.int (L+1)]=some (.int q2))(sm:bU q2=true)(mg:ck scale (1+q1)=true)(hg:scale*(1+q1)=g)(hz:B.length<1000):
  fE [some (.sh (.scr ns)),some (.sh (.int many)),some (.sh (.int scale)),some (.own (.lst B)),some (.sh (.int i)),some (.sh (.int j)),x6,x7]=
   some (.nx (if L<12∧q0=0 then[some (.sh (.scr ns)),some (.sh (.int many)),some (.sh (.int scale)),some (.own (.lst (gq B q2 (.tup [.int i,.int j,.int g])))),some (.sh (.int i)),some (.sh (.int j)),some (.sh (.int k)),some (.sh (.tup [.int i,.int j,.int g]))]
    else[some (.sh (.scr ns)),some (.sh (.int many)),some (.sh (.int scale)),some (.own (.lst B)),some (.sh (.int i)),some (.sh (.int j)),some (.sh (.int k)),x7])):=by
 have z:B.length<16777216:=by omega
 unfold fE
 refine(av (e:=[some (.sh (.scr ns)),some (.sh (.int many)),some (.sh (.int scale)),some (.own (.lst B)),some (.sh (.int i)),some (.sh (.int j)),some (.sh (.int k)),x7]) (by simp[m18,m3,hk])).trans ?_
 by_cases c1:L<12
 ·by_cases c2:q0=0
  ·rw[Gag ⟨c1,c2⟩]
   simp[-kU,hL,c1,c2,d0,d1,d2,mg,hg,sm,z,ah]
  ·rw[Gae (λh=>c2 h.2)]
   simp[-kU,hL,c1,c2,d0]
 ·rw[Gae (λh=>c1 h.1)]
  simp[-kU,hL,c1]
theorem Fn{ns:List Int}{n:Nat}{scale i j:Int}{bs:List (Int×Int×Int)}{x6 x7:Option Slot}(hs:1≤scale)(hs2:scale≤1000000)(hn:n≤6)(hi:0≤i)(hi2:i<n)(hj:i≤j)(hj2:j<n)(hb:lB n bs)(hlt:oP i j bs)(hl:bs.length≤12):
  ∃bs' y6 y7,lB n bs' ∧oP i (j+1) bs' ∧bs'.length≤12∧fE [some (.sh (.scr ns)),some (.sh (.int (n:Int))),some (.sh (.int scale)),some (.own (.lst (bs.map trD))),some (.sh (.int i)),some (.sh (.int j)),x6,x7]=
   some (.nx [some (.sh (.scr ns)),some (.sh (.int (n:Int))),some (.sh (.int scale)),some (.own (.lst (bs'.map trD))),some (.sh (.int i)),some (.sh (.int j)),y6,y7]):=by
 generalize hk:3000+18*i+3*j=k
 have d0:=aO (ns:=ns) (k:=k) (m:=3) (by omega) (by omega) (by omega)
 have d1:=aO (ns:=ns) (k:=k+1) (m:=10) (by omega) (by omega) (by omega)
 have l1:=aV ns (k+1) 10 (by omega)
 have d2:=aO (ns:=ns) (k:=k+2) (m:=(bs.length:Int)+1) (by omega) (by omega) (by omega)
 have l2:=aV ns (k+2) ((bs.length:Int)+1) (by omega)
 have hL:cM [.lst (bs.map trD)]=some ⟨.c,.int (bs.length:Int)⟩:=by simp[cM]
 have ev:=K9 (many:=(n:Int)) (x6:=x6) (x7:=x7) (bP (by omega) (by omega)) (bP (by omega) (by omega)) hk hL d0 d1 d2 (bY (by omega) (by omega)) (bP (i:=scale) (j:=1+draw ns (k+1) 10) (by omega) (by omega)) rfl (by rw[Gah];omega)
 rw[ev]
 by_cases c:(bs.length:Int)<12∧draw ns k 3=0
 ·rw[Gag c]
  have pm:=An bs (draw ns (k+2) ((bs.length:Int)+1)) (i,j,scale*(1+draw ns (k+1) 10))
  refine⟨gq bs (draw ns (k+2) ((bs.length:Int)+1)) (i,j,scale*(1+draw ns (k+1) 10)),some (.sh (.int k)),some (.sh (.tup [.int i,.int j,.int (scale*(1+draw ns (k+1) 10))])),⟨λb hb' => ?_, ?_⟩,λb hb' => ?_,by rw[sT];omega,by rw[CY];rfl⟩
  ·rcases Gay.mp (pm.mem_iff.mp hb') with h|h
   ·subst h
    exact⟨hi,hj,hj2,gx hs (by omega)⟩
   ·exact hb.1 b h
  ·rw[(pm.map uM).nodup_iff,Gaq,GbG]
   refine⟨λh=> ?_,hb.2⟩
   obtain⟨b,hb',e⟩:=GaI.mp h
   have h1:=hlt b hb'
   unfold uM at e
   simp at e
   omega
  ·rcases Gay.mp (pm.mem_iff.mp hb') with h|h
   ·subst h
    exact .inr ⟨rfl,by show j<j+1;omega⟩
   ·have:=hlt b h
    omega
 ·rw[Gae c]
  exact⟨bs,some (.sh (.int k)),x7,hb,λb h=>by have:=hlt b h;omega,hl,rfl⟩
theorem HG{ns:List Int}{n:Nat}{scale i:Int}{bs:List (Int×Int×Int)}{x5 x6 x7:Option Slot}(hs:1≤scale)(hs2:scale≤1000000)(hn:n≤6)(hi:0≤i)(hi2:i<n)(hb:lB n bs)(hlt:oP i i bs)(hl:bs.length≤12):
  ∃bs' y5 y6 y7,lB n bs' ∧oP (i+1) (i+1) bs' ∧bs'.length≤12∧fF [some (.sh (.scr ns)),some (.sh (.int (n:Int))),some (.sh (.int scale)),some (.own (.lst (bs.map trD))),some (.sh (.int i)),x5,x6,x7]=
   some (.nx [some (.sh (.scr ns)),some (.sh (.int (n:Int))),some (.sh (.int scale)),some (.own (.lst (bs'.map trD))),some (.sh (.int i)),y5,y6,y7]):=by
 obtain⟨e,h1,bs',y5,y6,y7,h2,h2b,h3,rfl⟩:=fj (g:=gN 5) (body:=fE) (λm env=>∃(bs' :List (Int×Int×Int)) (y5 y6 y7:Option Slot),lB n bs' ∧oP i (i+(m:Int)) bs' ∧bs'.length≤12∧env=[some (.sh (.scr ns)),some (.sh (.int (n:Int))),some (.sh (.int scale)),some (.own (.lst (bs'.map trD))),some (.sh (.int i)),y5,y6,y7]) (bx i ((n:Int)-i).toNat) 0 _ ⟨bs,x5,x6,x7,hb,by rw[show i+((0:Nat):Int)=i by omega];exact hlt,hl,rfl⟩ (by
  rintro j d e hd ⟨bs',y5,y6,y7,h2,h2b,h3,rfl⟩
  obtain⟨hj,rfl⟩:=cS hd
  obtain⟨bs2,z6,z7,q1,q1b,q2,q3⟩:=Fn (ns:=ns) (n:=n) (scale:=scale) (i:=i) (j:=i+(j:Int)) (bs:=bs') (x6:=y6) (x7:=y7) hs hs2 hn hi hi2 (by omega) (by omega) h2 (by rw[GbJ] at h2b;exact h2b) h3
  exact⟨_,_,rfl,q3,bs2,some (.sh (.int (i+(j:Int)))),z6,z7,q1,by rw[show i+((0+j+1:Nat):Int)=i+(j:Int)+1 by omega];exact q1b,q2,rfl⟩)
 refine⟨bs',y5,y6,y7,h2,λb h=>by have:=h2b b h;omega,h3, ?_⟩
 have sa:bU i=true:=bY (by omega) (by omega)
 have sb:bU (n:Int)=true:=bY (by omega) (by omega)
 unfold fF
 generalize (n:Int)=nn at*
 simp[-forL,sa,sb,h1]
theorem Fo{ns:List Int}{n scale:Int}{B:List D}{y4 y5 y6 y7:Option Slot}(sm:bU n=true)(h1:forL (gN 4) fF (bx 0 n.toNat) [some (.sh (.scr ns)),some (.sh (.int n)),some (.sh (.int scale)),some (.own (.lst [])),none,none,none,none]=some (.nx [some (.sh (.scr ns)),some (.sh (.int n)),some (.sh (.int scale)),some (.own (.lst B)),y4,y5,y6,y7]))(im:aN B=true):j3 [.scr ns,.int n,.int scale]=some (.tup B):=by
 refine bh rfl ?_
 unfold kc
 refine(av (e:=[some (.sh (.scr ns)),some (.sh (.int n)),some (.sh (.int scale)),some (.own (.lst [])),none,none,none,none]) (by simp[bz,ah])).trans ?_
 refine(av (e:=[some (.sh (.scr ns)),some (.sh (.int n)),some (.sh (.int scale)),some (.own (.lst B)),y4,y5,y6,y7]) (by simp[-forL,sm,h1])).trans ?_
 simp[im]
theorem Ka{ns:List Int}{n:Nat}{scale:Int}(hs:1≤scale)(hs2:scale≤1000000)(hn:n≤6):∃bs:List (Int×Int×Int),lB n bs∧bs.length≤12∧j3 [.scr ns,.int (n:Int),.int scale]=some (.tup (bs.map trD)):=by
 obtain⟨e,h1,bs',y4,y5,y6,y7,h2,h2b,h3,rfl⟩:=fj (g:=gN 4) (body:=fF) (λm env=>∃(bs' :List (Int×Int×Int)) (y4 y5 y6 y7:Option Slot),lB n bs' ∧oP (m:Int) (m:Int) bs' ∧bs'.length≤12∧env=[some (.sh (.scr ns)),some (.sh (.int (n:Int))),some (.sh (.int scale)),some (.own (.lst (bs'.map trD))),y4,y5,y6,y7]) (bx 0 (n:Int).toNat) 0 [some (.sh (.scr ns)),some (.sh (.int (n:Int))),some (.sh (.int scale)),some (.own (.lst [])),none,none,none,none] ⟨[],none,none,none,none,⟨λb hb=>by simp at hb,by simp⟩,λb hb=>by simp at hb,by simp,rfl⟩ (by
  rintro j d e hd ⟨bs',y4,y5,y6,y7,h2,h2b,h3,rfl⟩
  obtain⟨hj,rfl⟩:=cS hd
  obtain⟨bs2,z5,z6,z7,q1,q1b,q2,q3⟩:=HG (ns:=ns) (n:=n) (scale:=scale) (i:=0+(j:Int)) (bs:=bs') (x5:=y5) (x6:=y6) (x7:=y7) hs hs2 hn (by omega) (by omega) h2 (λb h=>by have:=h2b b h;omega) h3
  exact⟨_,_,rfl,q3,bs2,some (.sh (.int (0+(j:Int)))),z5,z6,z7,q1,λb h=>by have:=q1b b h;omega,q2,rfl⟩)
 exact⟨bs',h2,h3,Fo (bY (by omega) (by omega)) h1 (gh uL bs')⟩
inductive sf where
 |asked (b:Int)
 |due (b e m ea la:Int)
noncomputable def d9:sf→D
 | .asked b=> .tup [.str "asked",.int b]
 | .due b e m ea la=> .tup [.str "due",.int b,.int e,.int m,.int ea,.int la]
def oQ:sf→Prop
 | .asked b=>0≤b
 | .due b e m ea la=>1≤e∧e≤12000000∧(m=1∨m=2∨m=4∨m=6∨m=60)∧0≤ea∧0≤la∧ea+la<e∧ea≤b∧b≤30000000
theorem oR(u:sf):(d9 u).imm=true:=by cases u<;>simp[d9]
theorem Kb{ns:List Int}{k scale q0 w u v t b e ea la m qm:Int}(hs:1≤scale)(hs2:scale≤1000000)(d0:a9 [.scr ns,.int k,.int 3]=some (.int q0))(c:¬q0=0)(d2:a9 [.scr ns,.int (k+2),.int 12]=some (.int (w -1)))(ms:∀j,ck scale j=true)(he:scale*w=e)(hq:e/scale=w)(d3:a9 [.scr ns,.int (k+3),.int w]=some (.int u))(hea:scale*u=ea)(hq2:(e -ea)/scale=w -u)(d4:a9 [.scr ns,.int (k+4),.int (w -u)]=some (.int v))(hla:scale*v=la)(d5:a9 [.scr ns,.int (k+5),.int 10]=some (.int t))(hb:ea+scale*t=b)(d6:a9 [.scr ns,.int (k+6),.int 5]=some (.int qm))(am:atD [D.int 1,.int 2,.int 4,.int 6,.int 60] qm=some (.int m)):
  j5 [.scr ns,.int k,.int scale]=some (.tup [.str "due",.int b,.int e,.int m,.int ea,.int la]):=by
 have sp:0<scale:=by omega
 have sp2:scale<1073741824:=by omega
 have w1:1+(w -1)=w:=by omega
 refine bh rfl ?_
 unfold j4
 refine(av (e:=[some (.sh (.scr ns)),some (.sh (.int k)),some (.sh (.int scale)),none,none,none,none]) (by simp[bz,d0,c])).trans ?_
 refine(av (e:=[some (.sh (.scr ns)),some (.sh (.int k)),some (.sh (.int scale)),some (.sh (.int e)),none,none,none]) (by simp[d2,ms,w1,he])).trans ?_
 refine(av (e:=[some (.sh (.scr ns)),some (.sh (.int k)),some (.sh (.int scale)),some (.sh (.int e)),some (.sh (.int ea)),none,none]) (by simp[sp,sp2,hq,d3,ms,hea])).trans ?_
 refine(av (e:=[some (.sh (.scr ns)),some (.sh (.int k)),some (.sh (.int scale)),some (.sh (.int e)),some (.sh (.int ea)),some (.sh (.int la)),none]) (by simp[sp,sp2,hq2,d4,ms,hla])).trans ?_
 refine(av (e:=[some (.sh (.scr ns)),some (.sh (.int k)),some (.sh (.int scale)),some (.sh (.int e)),some (.sh (.int ea)),some (.sh (.int la)),some (.sh (.int b))]) (by simp[d5,ms,hb])).trans ?_
 simp[d6,am,ah]
theorem Kc{ns:List Int}{k scale:Int}(hk:0≤k)(hk2:k<10000)(hs:1≤scale)(hs2:scale≤1000000):∃u:sf,oQ u∧j5 [.scr ns,.int k,.int scale]=some (d9 u):=by
 have d0:=aO (ns:=ns) (k:=k) (m:=3) (by omega) (by omega) (by omega)
 have ms:∀j,ck scale j=true:=λj=>bP (by omega) (by omega)
 by_cases c:draw ns k 3=0
 ·have d1:=aO (ns:=ns) (k:=k+1) (m:=20) (by omega) (by omega) (by omega)
  have l1:=aV ns (k+1) 20 (by omega)
  refine⟨.asked (scale*draw ns (k+1) 20),GcR (by omega) l1.1, ?_⟩
  refine bh rfl ?_
  unfold j4
  refine BJ ?_
  simp[bz,d0,c,d1,ms,ah,d9]
 ·have d2:=aO (ns:=ns) (k:=k+2) (m:=12) (by omega) (by omega) (by omega)
  have l2:=aV ns (k+2) 12 (by omega)
  generalize hw:1+draw ns (k+2) 12=w
  have hw' :draw ns (k+2) 12=w -1:=by omega
  rw[hw'] at d2
  have d3:=aO (ns:=ns) (k:=k+3) (m:=w) (by omega) (by omega) (by omega)
  have l3:=aV ns (k+3) w (by omega)
  generalize draw ns (k+3) w=u at*
  have d4:=aO (ns:=ns) (k:=k+4) (m:=w -u) (by omega) (by omega) (by omega)
  have l4:=aV ns (k+4) (w -u) (by omega)
  generalize draw ns (k+4) (w -u)=v at*
  have d5:=aO (ns:=ns) (k:=k+5) (m:=10) (by omega) (by omega) (by omega)
  have l5:=aV ns (k+5) 10 (by omega)
  generalize draw ns (k+5) 10=t at*
  have d6:=aO (ns:=ns) (k:=k+6) (m:=5) (by omega) (by omega) (by omega)
  have l6:=aV ns (k+6) 5 (by omega)
  obtain⟨m,hm,am⟩:=at5 (a:=1) (b:=2) (c:=4) (d:=6) (e:=60) l6.1 l6.2
  have hq:scale*w/scale=w:=Int.mul_ediv_cancel_left w (by omega)
  have hq2:(scale*w -scale*u)/scale=w -u:=by rw[←Int.mul_sub];exact Int.mul_ediv_cancel_left _ (by omega)
  refine⟨.due (scale*u+scale*t) (scale*w) m (scale*u) (scale*v),⟨gx hs (by omega), ?_,hm,GcR (by omega) l3.1,GcR (by omega) l4.1, ?_, ?_, ?_⟩,Kb hs hs2 d0 c d2 ms rfl hq d3 rfl hq2 d4 rfl d5 rfl d6 am⟩
  ·have:=oO (a:=scale) (b:=w) (A:=1000000) (B:=12) (by omega) hs2 (by omega) (by omega)
   omega
  ·have h1:scale*u+scale*v=scale*(u+v):=by rw[Int.mul_add]
   have h2:scale*(u+v)<scale*w:=Int.mul_lt_mul_of_pos_left (by omega) (by omega)
   omega
  ·have:=GcR (a:=scale) (b:=t) (by omega) l5.1
   omega
  ·have h1:=oO (a:=scale) (b:=u) (A:=1000000) (B:=12) (by omega) hs2 (by omega) (by omega)
   have h2:=oO (a:=scale) (b:=t) (A:=1000000) (B:=10) (by omega) hs2 (by omega) (by omega)
   omega
structure Order where
 name:Str
 bO:Int
 bG:Int
 way:Str
 top:Int
 per:Int
 most:Int
 jg:sf
 AW:List D
noncomputable def aF(o:Order):D:= .tup [.str o.name,.int o.bO,.int o.bG,.tup [.str o.way,.int o.top,.int o.per,.int o.most],d9 o.jg,.tup o.AW]
structure nU(ng nst:Nat)(o:Order):Prop where
 g0:0≤o.bO
 g1:o.bO<ng
 s0:0≤o.bG
 s1:o.bG<nst
 du:oQ o.jg
 ti:aN o.AW=true
theorem Kd{u:sf}{env:DL.Env}(h:env[11]? =some (some (.sh (d9 u))))(hl:env.length=13):∃T:List D,aN T=true∧∀(he:env[12]? =some (some (.sh (.tup [])))),ifS (mY (bq eqB (ixE (vE 11) (kE (.int 0))) (kE (.str "due"))) (bq gtB (ixE (vE 11) (kE (.int 3))) (kE (.int 2))))
  (aR 12 (bI (a5 (bI (a5 (kE (.int 1)) (a5 (kE (.int 1)) (a5 (kE (.int 2)) ao)))) (a5 (bI (a5 (kE (.int 2)) (a5 (kE (.int 1)) (a5 (kE (.int 3)) ao)))) ao))))
  bg env=some (.nx (env.set 12 (some (.sh (.tup T))))):=by
 have e0:∀(he:env[12]? =some (some (.sh (.tup [])))),env.set 12 (some (.sh (.tup [])))=env:=λhe=>by
  apply GcU
  intro i
  by_cases q:12=i
  ·subst q;rw[GaN (by omega),he]
  ·rw[Gab q]
 cases u with
 |asked b=>
  refine⟨[],rfl,λhe=> ?_⟩
  rw[e0 he]
  unfold d9 at h
  simp[h,eqB]
 |due b e m ea la=>
  unfold d9 at h
  by_cases c:m>2
  ·refine⟨[.tup [.int 1,.int 1,.int 2],.tup [.int 2,.int 1,.int 3]],rfl,λhe=> ?_⟩
   simp[h,eqB,c,ah,DL.stored]
  ·refine⟨[],rfl,λhe=> ?_⟩
   rw[e0 he]
   simp[h,eqB,c]
theorem Ke{r:Int}(h:0≤r):∃w:Str,atD [D.str "down",.str "up",.str "near"] (r%3)=some (.str w):=by
 have:r%3=0∨r%3=1∨r%3=2:=by omega
 rcases this with q|q|q<;>rw[q]
 ·exact⟨"down",rfl⟩
 ·exact⟨"up",rfl⟩
 ·exact⟨"near",rfl⟩
theorem at3{a b c q:Int}(h:0≤q)(h2:q<3):∃v,(v=a∨v=b∨v=c)∧atD [D.int a,.int b,.int c] q=some (.int v):=by
 have:q=0∨q=1∨q=2:=by omega
 rcases this with rfl|rfl|rfl
 ·exact⟨a,.inl rfl,rfl⟩
 ·exact⟨b,.inr (.inl rfl),rfl⟩
 ·exact⟨c,.inr (.inr rfl),rfl⟩
theorem Fp{ns:List Int}{scale r k st part f q1 most q2 q3 LS LG g:Int}{G S O M T:List D}{nm C Y:D}{u:sf}{w:Str}{ch:Nat}{x3 x7 x8 x9 x10 x11 x12:Option Slot}(m20:ck 20 r=true)(hk:300+20*r=k)(hLS:cM [.tup S]=some ⟨.c,.int LS⟩)(d0:a9 [.scr ns,.int k,.int LS]=some (.int st))(hS:atD S st=some (.tup [nm,.tup (.int part::M),C,Y]))(d1:a9 [.scr ns,.int (k+1),.int 3]=some (.int q1))(hf:atD [D.int 4,.int 15,.int 2000] q1=some (.int f))(mm:ck part f=true)(hm:part*f=most)
  (hw:atD [D.str "down",.str "up",.str "near"] (r%3)=some (.str w))(d2:a9 [.scr ns,.int (k+2),.int 90]=some (.int q2))(d3:a9 [.scr ns,.int (k+3),.int 9]=some (.int q3))(du:j5 [.scr ns,.int (k+4),.int scale]=some (d9 u))(hLG:cM [.lst G]=some ⟨.c,.int LG⟩)(dg:a9 [.scr ns,.int (k+12),.int LG]=some (.int g))(hch:atD (Str.ofString "abcdefghijkl").cps.toList r=some ch)(hz:O.length<1000)
  (iT:aN T=true)(ht:∀env:DL.Env,env=[some (.sh (.scr ns)),some (.sh (.int scale)),some (.own (.lst G)),x3,some (.sh (.tup S)),some (.own (.lst O)),some (.sh (.int r)),some (.sh (.int k)),some (.sh (.int st)),some (.sh (.int most)),some (.sh (.tup [.str w,.int (1+q2),.int q3,.int most])),some (.sh (d9 u)),some (.sh (.tup []))]→
   ifS (mY (bq eqB (ixE (vE 11) (kE (.int 0))) (kE (.str "due"))) (bq gtB (ixE (vE 11) (kE (.int 3))) (kE (.int 2)))) (aR 12 (bI (a5 (bI (a5 (kE (.int 1)) (a5 (kE (.int 1)) (a5 (kE (.int 2)) ao)))) (a5 (bI (a5 (kE (.int 2)) (a5 (kE (.int 1)) (a5 (kE (.int 3)) ao)))) ao)))) bg env=some (.nx (env.set 12 (some (.sh (.tup T)))))):
  cY [some (.sh (.scr ns)),some (.sh (.int scale)),some (.own (.lst G)),x3,some (.sh (.tup S)),some (.own (.lst O)),some (.sh (.int r)),x7,x8,x9,x10,x11,x12]=
   some (.nx [some (.sh (.scr ns)),some (.sh (.int scale)),some (.own (.lst G)),x3,some (.sh (.tup S)),some (.own (.lst (O++[.tup [.str ("order"++ ⟨#[ch]⟩),.int g,.int st,.tup [.str w,.int (1+q2),.int q3,.int most],d9 u,.tup T]]))),some (.sh (.int r)),some (.sh (.int k)),some (.sh (.int st)),some (.sh (.int most)),some (.sh (.tup [.str w,.int (1+q2),.int q3,.int most])),some (.sh (d9 u)),some (.sh (.tup T))]):=by
 have z:O.length<16777216:=by omega
 have iu:=oR u
 have ru:=cJ iu
 generalize d9 u=U at*
 have w1:(Str.ofString "abcdefghijkl").length≤16777216:=by decide
 have w2:(Str.ofString "order").length+(⟨#[ch]⟩:Str).length≤16777216:=by
  have:(⟨#[ch]⟩:Str).length=1:=rfl
  rw[this];decide
 unfold cY
 refine(av (e:=[some (.sh (.scr ns)),some (.sh (.int scale)),some (.own (.lst G)),x3,some (.sh (.tup S)),some (.own (.lst O)),some (.sh (.int r)),some (.sh (.int k)),x8,x9,x10,x11,x12]) (by simp[m20,hk])).trans ?_
 refine(av (e:=[some (.sh (.scr ns)),some (.sh (.int scale)),some (.own (.lst G)),x3,some (.sh (.tup S)),some (.own (.lst O)),some (.sh (.int r)),some (.sh (.int k)),some (.sh (.int st)),x9,x10,x11,x12]) (by simp[-iN,hLS,d0])).trans ?_
 refine(av (e:=[some (.sh (.scr ns)),some (.sh (.int scale)),some (.own (.lst G)),x3,some (.sh (.tup S)),some (.own (.lst O)),some (.sh (.int r)),some (.sh (.int k)),some (.sh (.int st)),some (.sh (.int most)),x10,x11,x12]) (by simp[hS,d1,hf,mm,hm,ah])).trans ?_
 refine(av (e:=[some (.sh (.scr ns)),some (.sh (.int scale)),some (.own (.lst G)),x3,some (.sh (.tup S)),some (.own (.lst O)),some (.sh (.int r)),some (.sh (.int k)),some (.sh (.int st)),some (.sh (.int most)),some (.sh (.tup [.str w,.int (1+q2),.int q3,.int most])),x11,x12]) (by simp[hw,d2,d3,ah])).trans ?_
 refine(av (e:=[some (.sh (.scr ns)),some (.sh (.int scale)),some (.own (.lst G)),x3,some (.sh (.tup S)),some (.own (.lst O)),some (.sh (.int r)),some (.sh (.int k)),some (.sh (.int st)),some (.sh (.int most)),some (.sh (.tup [.str w,.int (1+q2),.int q3,.int most])),some (.sh U),x12]) (by simp[du,ru])).trans ?_
 refine(av (e:=[some (.sh (.scr ns)),some (.sh (.int scale)),some (.own (.lst G)),x3,some (.sh (.tup S)),some (.own (.lst O)),some (.sh (.int r)),some (.sh (.int k)),some (.sh (.int st)),some (.sh (.int most)),some (.sh (.tup [.str w,.int (1+q2),.int q3,.int most])),some (.sh U),some (.sh (.tup []))]) (by simp[ah])).trans ?_
 refine(av (ht _ rfl)).trans ?_
 simp[-kU,hLG,dg,hch,w1,w2,iu,iT,ah,z]
theorem dZ(o:Order)(h:aN o.AW=true):(aF o).imm=true:=by
 have:=oR o.jg
 simp[aF,this,h]
theorem AN{ns:List Int}{scale:Int}{i:Nat}{G:List D}{ss:List js}{os:List Order}{x3 x7 x8 x9 x10 x11 x12:Option Slot}(hs:1≤scale)(hs2:scale≤1000000)(hi:i<12)(hG:1≤G.length)(hG2:G.length≤100)(hS:1≤ss.length)(hS2:ss.length≤100)(hok:∀s∈ss,mf s)(hl:os.length≤100):
  ∃o y7 y8 y9 y10 y11 y12,nU G.length ss.length o∧cY [some (.sh (.scr ns)),some (.sh (.int scale)),some (.own (.lst G)),x3,some (.sh (.tup (ss.map b6))),some (.own (.lst (os.map aF))),some (.sh (.int (i:Int))),x7,x8,x9,x10,x11,x12]=
   some (.nx [some (.sh (.scr ns)),some (.sh (.int scale)),some (.own (.lst G)),x3,some (.sh (.tup (ss.map b6))),some (.own (.lst ((os++[o]).map aF))),some (.sh (.int (i:Int))),y7,y8,y9,y10,y11,y12]):=by
 obtain⟨ch,hch⟩:=CW hi
 have hj:(0:Int)≤(i:Int)∧(i:Int)≤11:=by omega
 have hz:(os.map aF).length<1000:=by rw[Gah];omega
 have e1:∀s,(os++[s]).map aF=os.map aF++[aF s]:=λs=>by simp
 generalize (i:Int)=r at*
 generalize os.map aF=O at*
 generalize hk:300+20*r=k
 have hLS:cM [.tup (ss.map b6)]=some ⟨.c,.int (ss.length:Int)⟩:=by simp[cM]
 have hLG:cM [.lst G]=some ⟨.c,.int (G.length:Int)⟩:=rfl
 have d0:=aO (ns:=ns) (k:=k) (m:=(ss.length:Int)) (by omega) (by omega) (by omega)
 have l0:=aV ns k (ss.length:Int) (by omega)
 generalize draw ns k (ss.length:Int)=st at*
 obtain⟨n,rfl⟩:=GaK l0.1
 have hn:n<ss.length:=by omega
 have hSat:atD (ss.map b6) (n:Int)=some (.tup [.str ss[n].name,.tup (.int ss[n].part::ss[n].more.map .int),.tup (ss[n].aT.map cZ),.int ss[n].young]):=by
  rw[dm,Gal,Gaa hn];rfl
 have ok:=hok ss[n] (GaB hn)
 have okp1:=ok.p1
 have okp2:=ok.p2
 have d1:=aO (ns:=ns) (k:=k+1) (m:=3) (by omega) (by omega) (by omega)
 have l1:=aV ns (k+1) 3 (by omega)
 obtain⟨f,hf0,hf⟩:=at3 (a:=4) (b:=15) (c:=2000) l1.1 l1.2
 obtain⟨w,hw⟩:=Ke (r:=r) hj.1
 have d2:=aO (ns:=ns) (k:=k+2) (m:=90) (by omega) (by omega) (by omega)
 have d3:=aO (ns:=ns) (k:=k+3) (m:=9) (by omega) (by omega) (by omega)
 obtain⟨u,u1,du⟩:=Kc (ns:=ns) (k:=k+4) (scale:=scale) (by omega) (by omega) hs hs2
 have dg:=aO (ns:=ns) (k:=k+12) (m:=(G.length:Int)) (by omega) (by omega) (by omega)
 have lg:=aV ns (k+12) (G.length:Int) (by omega)
 obtain⟨T,iT,ht⟩:=Kd (u:=u) (env:=[some (.sh (.scr ns)),some (.sh (.int scale)),some (.own (.lst G)),x3,some (.sh (.tup (ss.map b6))),some (.own (.lst O)),some (.sh (.int r)),some (.sh (.int k)),some (.sh (.int (n:Int))),some (.sh (.int (ss[n].part*f))),some (.sh (.tup [.str w,.int (1+draw ns (k+2) 90),.int (draw ns (k+3) 9),.int (ss[n].part*f)])),some (.sh (d9 u)),some (.sh (.tup []))]) rfl rfl
 refine⟨⟨"order"++ ⟨#[ch]⟩,draw ns (k+12) (G.length:Int),(n:Int),w,1+draw ns (k+2) 90,draw ns (k+3) 9,ss[n].part*f,u,T⟩,some (.sh (.int k)),some (.sh (.int (n:Int))),some (.sh (.int (ss[n].part*f))),some (.sh (.tup [.str w,.int (1+draw ns (k+2) 90),.int (draw ns (k+3) 9),.int (ss[n].part*f)])),some (.sh (d9 u)),some (.sh (.tup T)),⟨lg.1,lg.2,by simp,by simp;omega,u1,iT⟩, ?_⟩
 rw[e1]
 exact Fp (bP (by omega) (by omega)) hk hLS d0 hSat d1 hf (bP (by omega) (by omega)) rfl hw d2 d3 du hLG dg hch hz iT λenv he=>by subst he;exact ht rfl
theorem AO{ns:List Int}{scale:Int}{i:Nat}{gs:List (Str×Int)}{x4 x5 x6 x7 x8 x9 x10 x11 x12:Option Slot}(hs:1≤scale)(hs2:scale≤1000000)(hi:i<6)(hl:gs.length≤100):
  ∃g:Str×Int,dX [some (.sh (.scr ns)),some (.sh (.int scale)),some (.own (.lst (gs.map λg=> .tup [.str g.1,.int g.2]))),some (.sh (.int (i:Int))),x4,x5,x6,x7,x8,x9,x10,x11,x12]=
   some (.nx [some (.sh (.scr ns)),some (.sh (.int scale)),some (.own (.lst ((gs++[g]).map λg=> .tup [.str g.1,.int g.2]))),some (.sh (.int (i:Int))),x4,x5,x6,x7,x8,x9,x10,x11,x12]):=by
 obtain⟨ch,hch⟩:=Fg hi
 have hj:(0:Int)≤(i:Int)∧(i:Int)≤5:=by omega
 have hz:(gs.map λg=>D.tup [.str g.1,.int g.2]).length<16777216:=by rw[Gah];omega
 have e1:∀s:Str×Int,((gs++[s]).map λg=>D.tup [.str g.1,.int g.2])=(gs.map λg=>D.tup [.str g.1,.int g.2])++[.tup [.str s.1,.int s.2]]:=λs=>by simp
 generalize (i:Int)=j at*
 generalize (gs.map λg=>D.tup [.str g.1,.int g.2])=G at*
 have d:=aO (ns:=ns) (k:=30+j) (m:=15) (by omega) (by omega) (by omega)
 have ms:∀j,ck scale j=true:=λj=>bP (by omega) (by omega)
 have w1:(Str.ofString "abcdef").length≤16777216:=by decide
 have w2:(Str.ofString "guest").length+(⟨#[ch]⟩:Str).length≤16777216:=by
  have:(⟨#[ch]⟩:Str).length=1:=rfl
  rw[this];decide
 refine⟨("guest"++ ⟨#[ch]⟩,scale*draw ns (30+j) 15), ?_⟩
 rw[e1]
 unfold dX
 simp[hch,w1,w2,d,ms,ah,hz]
structure World where
 cD:List (Str×Int)
 aI:List js
 bC:List (Int×Int×Int)
 orders:List Order
noncomputable def dw(g:Str×Int):D:= .tup [.str g.1,.int g.2]
noncomputable def bc(w:World):D:= .tup [.tup (w.cD.map dw),.tup (w.aI.map b6),.tup (w.bC.map trD),.tup (w.orders.map aF)]
structure bQ(w:World):Prop where
 g1:1≤w.cD.length
 g6:w.cD.length≤6
 s1:1≤w.aI.length
 s6:w.aI.length≤6
 so:∀s∈w.aI,mf s
 b12:w.bC.length≤12
 bo:lB w.aI.length w.bC
 o1:1≤w.orders.length
 o12:w.orders.length≤12
 oo:∀o∈w.orders,nU w.cD.length w.aI.length o
theorem r6(g:Str×Int):(dw g).imm=true:=by simp[dw]
theorem CZ{ns:List Int}{q1 scale qg ng qo no LS:Int}{G S B O:List D}{y3 y6 y7 y8 y9 y10 y11 y12:Option Slot}(d1:a9 [.scr ns,.int 1,.int 6]=some (.int q1))(h1:atD [D.int 1,.int 1,.int 1,.int 1,.int 1,.int 1000000] q1=some (.int scale))(dg:a9 [.scr ns,.int 20,.int 6]=some (.int qg))(hg:atD [D.int 1,.int 2,.int 3,.int 2,.int 3,.int 6] qg=some (.int ng))(sg:bU ng=true)
  (lg:forL (gN 3) dX (bx 0 ng.toNat) [some (.sh (.scr ns)),some (.sh (.int scale)),some (.own (.lst [])),none,none,none,none,none,none,none,none,none,none]=some (.nx [some (.sh (.scr ns)),some (.sh (.int scale)),some (.own (.lst G)),y3,none,none,none,none,none,none,none,none,none]))
  (es:gc [.scr ns,.int scale]=some (.tup S))(iS:aN S=true)(do' :a9 [.scr ns,.int 22,.int 6]=some (.int qo))(ho:atD [D.int 1,.int 2,.int 3,.int 4,.int 4,.int 12] qo=some (.int no))(so:bU no=true)
  (lo:forL (gN 6) cY (bx 0 no.toNat) [some (.sh (.scr ns)),some (.sh (.int scale)),some (.own (.lst G)),y3,some (.sh (.tup S)),some (.own (.lst [])),none,none,none,none,none,none,none]=some (.nx [some (.sh (.scr ns)),some (.sh (.int scale)),some (.own (.lst G)),y3,some (.sh (.tup S)),some (.own (.lst O)),y6,y7,y8,y9,y10,y11,y12]))
  (hLS:cM [.tup S]=some ⟨.c,.int LS⟩)(eb:j3 [.scr ns,.int LS,.int scale]=some (.tup B))(iB:aN B=true)(iG:aN G=true)(iO:aN O=true):gS [.scr ns]=some (.tup [.tup G,.tup S,.tup B,.tup O]):=by
 have rS:=cJ (d:= .tup S) (by simp[iS])
 have rB:=cJ (d:= .tup B) (by simp[iB])
 refine bh rfl ?_
 unfold jo
 refine(av (e:=[some (.sh (.scr ns)),some (.sh (.int scale)),none,none,none,none,none,none,none,none,none,none,none]) (by simp[bz,d1,h1,ah])).trans ?_
 refine(av (e:=[some (.sh (.scr ns)),some (.sh (.int scale)),some (.own (.lst [])),none,none,none,none,none,none,none,none,none,none]) (by simp[ah])).trans ?_
 refine(av (e:=[some (.sh (.scr ns)),some (.sh (.int scale)),some (.own (.lst G)),y3,none,none,none,none,none,none,none,none,none]) (by simp[-forL,dg,hg,sg,lg,ah])).trans ?_
 refine(av (e:=[some (.sh (.scr ns)),some (.sh (.int scale)),some (.own (.lst G)),y3,some (.sh (.tup S)),none,none,none,none,none,none,none,none]) (by simp[es,rS])).trans ?_
 refine(av (e:=[some (.sh (.scr ns)),some (.sh (.int scale)),some (.own (.lst G)),y3,some (.sh (.tup S)),some (.own (.lst [])),none,none,none,none,none,none,none]) (by simp[ah])).trans ?_
 refine(av (e:=[some (.sh (.scr ns)),some (.sh (.int scale)),some (.own (.lst G)),y3,some (.sh (.tup S)),some (.own (.lst O)),y6,y7,y8,y9,y10,y11,y12]) (by simp[-forL,do',ho,so,lo,ah])).trans ?_
 simp[-iN,hLS,eb,rB,iS,iB,iG,iO,ah]
theorem uN(ns:List Int):∃scale:Int,1≤scale∧scale≤1000000∧atD [D.int 1,.int 1,.int 1,.int 1,.int 1,.int 1000000] (draw ns 1 6)=some (.int scale):=by
 have l:=aV ns 1 6 (by omega)
 obtain⟨v,hv,e⟩:=at6 (a:=1) (b:=1) (c:=1) (d:=1) (e:=1) (f:=1000000) l.1 l.2
 exact⟨v,by omega,by omega,e⟩
theorem HH(ns:List Int):∃w:World,bQ w∧gS [.scr ns]=some (bc w):=by
 have d1:=aO (ns:=ns) (k:=1) (m:=6) (by omega) (by omega) (by omega)
 obtain⟨scale,c1,c2,h1⟩:=uN ns
 have dg:=aO (ns:=ns) (k:=20) (m:=6) (by omega) (by omega) (by omega)
 have lg:=aV ns 20 6 (by omega)
 obtain⟨ng,hng,hg⟩:=at6 (a:=1) (b:=2) (c:=3) (d:=2) (e:=3) (f:=6) lg.1 lg.2
 have dO:=aO (ns:=ns) (k:=22) (m:=6) (by omega) (by omega) (by omega)
 have lO:=aV ns 22 6 (by omega)
 obtain⟨no,hno,hO⟩:=at6 (a:=1) (b:=2) (c:=3) (d:=4) (e:=4) (f:=12) lO.1 lO.2
 obtain⟨e,l1,gs,y3,g2,rfl⟩:=fj (g:=gN 3) (body:=dX) (λm env=>∃(gs:List (Str×Int)) (y3:Option Slot),gs.length=m∧env=[some (.sh (.scr ns)),some (.sh (.int scale)),some (.own (.lst (gs.map λg=> .tup [.str g.1,.int g.2]))),y3,none,none,none,none,none,none,none,none,none]) (bx 0 ng.toNat) 0 [some (.sh (.scr ns)),some (.sh (.int scale)),some (.own (.lst [])),none,none,none,none,none,none,none,none,none,none] ⟨[],none,rfl,rfl⟩ (by
  rintro i d e hd ⟨gs,y3,h2,rfl⟩
  obtain⟨hi,rfl⟩:=cS hd
  obtain⟨g,h⟩:=AO (ns:=ns) (scale:=scale) (i:=i) (gs:=gs) (x4:=none) (x5:=none) (x6:=none) (x7:=none) (x8:=none) (x9:=none) (x10:=none) (x11:=none) (x12:=none) c1 c2 (by omega) (by omega)
  rw[show(0:Int)+(i:Int)=(i:Int) by omega]
  exact⟨_,_,rfl,h,gs++[g],some (.sh (.int (i:Int))),by simp[h2],rfl⟩)
 rw[dY] at g2
 obtain⟨ss,t1,t2,t3,t4⟩:=Fm (ns:=ns) c1 c2
 obtain⟨bs,b1,b2,b3⟩:=Ka (ns:=ns) (n:=ss.length) c1 c2 t2
 have hLG:(gs.map dw).length=gs.length:=by simp
 have eG:(gs.map λg=>D.tup [.str g.1,.int g.2])=gs.map dw:=rfl
 rw[eG] at l1
 obtain⟨e,l2,os,y6,y7,y8,y9,y10,y11,y12,o2,o3,rfl⟩:=fj (g:=gN 6) (body:=cY) (λm env=>∃(os:List Order) (y6 y7 y8 y9 y10 y11 y12:Option Slot),os.length=m∧(∀o∈os,nU gs.length ss.length o)∧env=[some (.sh (.scr ns)),some (.sh (.int scale)),some (.own (.lst (gs.map dw))),y3,some (.sh (.tup (ss.map b6))),some (.own (.lst (os.map aF))),y6,y7,y8,y9,y10,y11,y12]) (bx 0 no.toNat) 0 [some (.sh (.scr ns)),some (.sh (.int scale)),some (.own (.lst (gs.map dw))),y3,some (.sh (.tup (ss.map b6))),some (.own (.lst [])),none,none,none,none,none,none,none] ⟨[],none,none,none,none,none,none,none,rfl,by simp,rfl⟩ (by
  rintro i d e hd ⟨os,y6,y7,y8,y9,y10,y11,y12,h2,h3,rfl⟩
  obtain⟨hi,rfl⟩:=cS hd
  obtain⟨o,z7,z8,z9,z10,z11,z12,k1,k2⟩:=AN (ns:=ns) (scale:=scale) (i:=i) (G:=gs.map dw) (ss:=ss) (os:=os) (x3:=y3) (x7:=y7) (x8:=y8) (x9:=y9) (x10:=y10) (x11:=y11) (x12:=y12) c1 c2 (by omega) (by omega) (by omega) t1 (by omega) t3 (by omega)
  rw[hLG] at k1
  rw[show(0:Int)+(i:Int)=(i:Int) by omega]
  refine⟨_,_,rfl,k2,os++[o],some (.sh (.int (i:Int))),z7,z8,z9,z10,z11,z12,by simp[h2],λx hx=> ?_,rfl⟩
  rcases Gax.mp hx with hx|hx
  ·exact h3 x hx
  ·simp at hx;rw[hx];exact k1)
 rw[dY] at o2
 have iO:aN (os.map aF)=true:=by
  have:∀l:List Order,(∀o∈l,nU gs.length ss.length o)→aN (l.map aF)=true:=by
   intro l
   induction l with
   |nil=>intro _;rfl
   |cons o l ih=>
    intro h
    have h1:=dZ o (h o Gak).ti
    have h2:=ih λx hx=>h x (Gaf _ hx)
    rw[Gaq]
    simp[h1,h2]
  exact this os o3
 refine⟨⟨gs,ss,bs,os⟩,⟨by simp;omega,by simp;omega,t1,t2,t3,b2,b1,by simp;omega,by simp;omega,o3⟩, ?_⟩
 exact CZ d1 h1 dg hg (bY (by omega) (by omega)) l1 t4 (gh kh ss) dO hO (bY (by omega) (by omega)) l2 (by simp[cM]) b3 (gh uL bs) (gh r6 gs) iO
theorem wg{w:World}{o:Int}(h0:0≤o)(h1:o<w.orders.length):∃x∈w.orders,atD (w.orders.map aF) o=some (aF x):=by
 obtain⟨n,rfl⟩:=GaK h0
 have hn:n<w.orders.length:=by omega
 exact⟨w.orders[n],GaB hn,by rw[dm,Gal,Gaa hn];rfl⟩
theorem Fq{w:World}{o:Int}(h0:0≤o)(h1:o<w.aI.length):∃x∈w.aI,atD (w.aI.map b6) o=some (b6 x):=by
 obtain⟨n,rfl⟩:=GaK h0
 have hn:n<w.aI.length:=by omega
 exact⟨w.aI[n],GaB hn,by rw[dm,Gal,Gaa hn];rfl⟩
theorem D0{ns:List Int}{k q5 q6 h:Int}{x1 x2 x4 x5 x7 x8:Option Slot}(d5:a9 [.scr ns,.int (k+5000),.int 12]=some (.int q5))(d6:a9 [.scr ns,.int (k+5500),.int 25]=some (.int q6)):∃h' :Int,
  aE (ifS (bq eqB (aH a9 (a5 (vE 0) (a5 (opE aQ (vE 3) (kE (.int 5000))) (a5 (kE (.int 12)) ao)))) (kE (.int 0))) (aR 6 (opE aQ (vE 6) (kE (.int 1)))) bg)
   (aE (ifS (bq eqB (aH a9 (a5 (vE 0) (a5 (opE aQ (vE 3) (kE (.int 5500))) (a5 (kE (.int 25)) ao)))) (kE (.int 0))) (aR 6 (opE oB (kE (.int 10)) (kE (.int 9)))) bg) (retS (vE 6)))
   [some (.sh (.scr ns)),x1,x2,some (.sh (.int k)),x4,x5,some (.sh (.int h)),x7,x8]=some (.ret (.int h')):=by
 by_cases c5:q5=0
 ·by_cases c6:q6=0
  ·exact⟨1000000000,by simp[d5,d6,c5,c6]⟩
  ·exact⟨h+1,by simp[d5,d6,c5,c6]⟩
 ·by_cases c6:q6=0
  ·exact⟨1000000000,by simp[d5,d6,c5,c6]⟩
  ·exact⟨h,by simp[d5,d6,c5,c6]⟩
theorem HI{ns:List Int}{k o q1 scale q0 q3 q4:Int}{A B C O:List D}{nm g st ru tp:D}{u:sf}(d1:a9 [.scr ns,.int 1,.int 6]=some (.int q1))(h1:atD [D.int 1,.int 1,.int 1,.int 1,.int 1,.int 1000000] q1=some (.int scale))(hs:1≤scale)(hs2:scale≤1000000)(hO:atD O o=some (.tup [nm,g,st,ru,d9 u,tp]))(du:oQ u)(d0:a9 [.scr ns,.int k,.int 70]=some (.int q0))(d3:a9 [.scr ns,.int (k+3000),.int 4]=some (.int q3))(d4:a9 [.scr ns,.int (k+4000),.int 6]=some (.int q4))(l4:0≤q4)(l4' :q4<6)(hk:0≤k)(hk2:k<10000):
  ∃h:Int,j6 [.scr ns,.tup [.tup A,.tup B,.tup C,.tup O],.int o,.int k]=some (.int h):=by
 have d5:=aO (ns:=ns) (k:=k+5000) (m:=12) (by omega) (by omega) (by omega)
 have d6:=aO (ns:=ns) (k:=k+5500) (m:=25) (by omega) (by omega) (by omega)
 have ms:∀j,ck scale j=true:=λj=>bP (by omega) (by omega)
 have iu:=oR u
 suffices hmid:∃(x7 x8:Option Slot) (h0:Int),ifS (mY (bq eqB (ixE (vE 5) (kE (.int 0))) (kE (.str "due"))) (bq gtB (aH a9 (a5 (vE 0) (a5 (opE aQ (vE 3) (kE (.int 3000))) (a5 (kE (.int 4)) ao)))) (kE (.int 0))))
  (aE (aR 7 (opE aQ (ixE (vE 5) (kE (.int 1))) (opE dR (aH a9 (a5 (vE 0) (a5 (vE 3) (a5 (dG nE (a5 (ixE (vE 5) (kE (.int 3))) (a5 (kE (.int 6)) ao))) ao)))) (ixE (vE 5) (kE (.int 2))))))
 (aE (aR 8 (fT (a5 (vE 7) (a5 (opE kJ (vE 7) (ixE (vE 5) (kE (.int 4)))) (a5 (opE aQ (vE 7) (ixE (vE 5) (kE (.int 5)))) (a5 (opE kJ (opE kJ (vE 7) (ixE (vE 5) (kE (.int 4)))) (kE (.int 1))) (a5 (opE aQ (opE aQ (vE 7) (ixE (vE 5) (kE (.int 5)))) (kE (.int 1))) (a5 (vE 7) ao))))))))
 (aR 6 (dG sS (a5 (kE (.int 0)) (a5 (ixE (vE 8) (aH a9 (a5 (vE 0) (a5 (opE aQ (vE 3) (kE (.int 4000))) (a5 (kE (.int 6)) ao))))) ao))))))
  bg [some (.sh (.scr ns)),some (.sh (.tup [.tup A,.tup B,.tup C,.tup O])),some (.sh (.int o)),some (.sh (.int k)),some (.sh (.int scale)),some (.sh (d9 u)),some (.sh (.int (scale*q0))),none,none]=some (.nx [some (.sh (.scr ns)),some (.sh (.tup [.tup A,.tup B,.tup C,.tup O])),some (.sh (.int o)),some (.sh (.int k)),some (.sh (.int scale)),some (.sh (d9 u)),some (.sh (.int h0)),x7,x8]) by
  obtain⟨x7,x8,h0,hm⟩:=hmid
  obtain⟨h',ht⟩:=D0 (ns:=ns) (k:=k) (h:=h0) (x1:=some (.sh (.tup [.tup A,.tup B,.tup C,.tup O]))) (x2:=some (.sh (.int o))) (x4:=some (.sh (.int scale))) (x5:=some (.sh (d9 u))) (x7:=x7) (x8:=x8) d5 d6
  refine⟨h',bh rfl ?_⟩
  unfold kf
  generalize d9 u=U at*
  refine(av (e:=[some (.sh (.scr ns)),some (.sh (.tup [.tup A,.tup B,.tup C,.tup O])),some (.sh (.int o)),some (.sh (.int k)),some (.sh (.int scale)),none,none,none,none]) (by simp[bz,d1,h1,ah])).trans ?_
  refine(av (e:=[some (.sh (.scr ns)),some (.sh (.tup [.tup A,.tup B,.tup C,.tup O])),some (.sh (.int o)),some (.sh (.int k)),some (.sh (.int scale)),some (.sh U),none,none,none]) (by simp[hO,iu])).trans ?_
  refine(av (e:=[some (.sh (.scr ns)),some (.sh (.tup [.tup A,.tup B,.tup C,.tup O])),some (.sh (.int o)),some (.sh (.int k)),some (.sh (.int scale)),some (.sh U),some (.sh (.int (scale*q0))),none,none]) (by simp[d0,ms])).trans ?_
  exact(av hm).trans ht
 cases u with
 |asked b=>
  refine⟨none,none,scale*q0, ?_⟩
  simp[d9,eqB]
 |due b e m ea la=>
  obtain⟨e1,e2,hm,_⟩:=du
  by_cases c:q3>0
  ·have mm:∃mn:Int,0<mn∧(if(6:Int)<m then 6 else m)=mn:=⟨_,by split<;>omega,rfl⟩
   obtain⟨mn,mn0,emn⟩:=mm
   have dn:=aO (ns:=ns) (k:=k) (m:=mn) (by omega) (by omega) mn0
   have me:∀j,ck j e=true:=λj=>qr (by omega) (by omega)
   generalize hnear:b+draw ns k mn*e=near
   obtain⟨v,hv,ev⟩:=at6 (a:=near) (b:=near -ea) (c:=near+la) (d:=near -ea -1) (e:=near+la+1) (f:=near) l4 l4'
   refine⟨some (.sh (.int near)),some (.own (.lst [.int near,.int (near -ea),.int (near+la),.int (near -ea -1),.int (near+la+1),.int near])),(if v>0 then v else 0), ?_⟩
   have mi:nE [.int m,.int 6]=some ⟨.c,.int mn⟩:=by rw[←emn];rfl
   have mx:sS [.int 0,.int v]=some ⟨.c,.int (if v>0 then v else 0)⟩:=rfl
   have cc:q3>0:=c
   generalize (if v>0 then v else 0:Int)=vm at*
   unfold d9
   refine(ME (by simp[eqB,d3,cc])).trans ?_
   refine(av (e:=[some (.sh (.scr ns)),some (.sh (.tup [.tup A,.tup B,.tup C,.tup O])),some (.sh (.int o)),some (.sh (.int k)),some (.sh (.int scale)),some (.sh (.tup [.str "due",.int b,.int e,.int m,.int ea,.int la])),some (.sh (.int (scale*q0))),some (.sh (.int near)),none]) (by simp[mi,dn,me,hnear])).trans ?_
   refine(av (e:=[some (.sh (.scr ns)),some (.sh (.tup [.tup A,.tup B,.tup C,.tup O])),some (.sh (.int o)),some (.sh (.int k)),some (.sh (.int scale)),some (.sh (.tup [.str "due",.int b,.int e,.int m,.int ea,.int la])),some (.sh (.int (scale*q0))),some (.sh (.int near)),some (.own (.lst [.int near,.int (near -ea),.int (near+la),.int (near -ea -1),.int (near+la+1),.int near]))]) (by simp[ah])).trans ?_
   simp[d4,ev,mx]
  ·refine⟨none,none,scale*q0, ?_⟩
   simp[d9,eqB,d3,c]
theorem Kf{ns:List Int}{w:World}{k o:Int}(W:bQ w)(h0:0≤o)(h1:o<w.orders.length)(hk:0≤k)(hk2:k<10000):∃h:Int,j6 [.scr ns,bc w,.int o,.int k]=some (.int h):=by
 obtain⟨x,hx,hO⟩:=wg h0 h1
 have d1:=aO (ns:=ns) (k:=1) (m:=6) (by omega) (by omega) (by omega)
 obtain⟨scale,c1,c2,e1⟩:=uN ns
 exact HI d1 e1 c1 c2 hO (W.oo x hx).du (aO (by omega) (by omega) (by omega)) (aO (by omega) (by omega) (by omega)) (aO (by omega) (by omega) (by omega)) (aV ns (k+4000) 6 (by omega)).1 (aV ns (k+4000) 6 (by omega)).2 hk hk2
theorem D1{ns:List Int}{k o st part q6 q7 q8:Int}{A B C O M:List D}{nm g ru dd tp n2 cp yg:D}(hO:atD O o=some (.tup [nm,g,.int st,ru,dd,tp]))(hS:atD B st=some (.tup [n2,.tup (.int part::M),cp,yg]))(hp:1≤part)(hp2:part≤100000)(d6:a9 [.scr ns,.int (k+6000),.int 8]=some (.int q6))(d7:a9 [.scr ns,.int (k+7000),.int 14]=some (.int q7))(d8:a9 [.scr ns,.int (k+8000),.int 6]=some (.int q8))(l8:0≤q8)(l8' :q8<6):
  ∃a:Int,fh [.scr ns,.tup [.tup A,.tup B,.tup C,.tup O],.int o,.int k]=some (.int a):=by
 have mp:∀j,ck part j=true:=λj=>bP (by omega) (by omega)
 generalize hmany:part*(1+q6)=many
 obtain⟨v,hv,ev⟩:=at6 (a:=0) (b:= -many) (c:=many+1) (d:=1000000000) (e:=part*2001) (f:= -1) l8 l8'
 have pre:∀r,(∃a,r=some (Out.ret (.int a)))→aE (ifS (bq eqB (aH a9 (a5 (vE 0) (a5 (opE aQ (vE 3) (kE (.int 7000))) (a5 (kE (.int 14)) ao)))) (kE (.int 0))) (retS (ixE (vE 6) (aH a9 (a5 (vE 0) (a5 (opE aQ (vE 3) (kE (.int 8000))) (a5 (kE (.int 6)) ao)))))) bg) (retS (vE 5)) [some (.sh (.scr ns)),some (.sh (.tup [.tup A,.tup B,.tup C,.tup O])),some (.sh (.int o)),some (.sh (.int k)),some (.sh (.int part)),some (.sh (.int many)),some (.own (.lst [.int 0,.int (-many),.int (many+1),.int 1000000000,.int (part*2001),.int (-1)]))]=r→∃a:Int,fh [.scr ns,.tup [.tup A,.tup B,.tup C,.tup O],.int o,.int k]=some (.int a):=by
  rintro r ⟨a,rfl⟩ h
  refine⟨a,bh rfl ?_⟩
  unfold iq
  refine(av (e:=[some (.sh (.scr ns)),some (.sh (.tup [.tup A,.tup B,.tup C,.tup O])),some (.sh (.int o)),some (.sh (.int k)),some (.sh (.int part)),none,none]) (by simp[bz,hO,hS])).trans ?_
  refine(av (e:=[some (.sh (.scr ns)),some (.sh (.tup [.tup A,.tup B,.tup C,.tup O])),some (.sh (.int o)),some (.sh (.int k)),some (.sh (.int part)),some (.sh (.int many)),none]) (by simp[d6,mp,hmany])).trans ?_
  exact(av (e:=[some (.sh (.scr ns)),some (.sh (.tup [.tup A,.tup B,.tup C,.tup O])),some (.sh (.int o)),some (.sh (.int k)),some (.sh (.int part)),some (.sh (.int many)),some (.own (.lst [.int 0,.int (-many),.int (many+1),.int 1000000000,.int (part*2001),.int (-1)]))]) (by simp[mp,ah])).trans h
 by_cases c:q7=0
 ·exact pre _ ⟨v,rfl⟩ (by simp[d7,c,d8,ev])
 ·exact pre _ ⟨many,rfl⟩ (by simp[d7,c])
theorem Fs{ns:List Int}{w:World}{k o:Int}(W:bQ w)(h0:0≤o)(h1:o<w.orders.length)(hk:0≤k)(hk2:k<10000):∃a:Int,fh [.scr ns,bc w,.int o,.int k]=some (.int a):=by
 obtain⟨x,hx,hO⟩:=wg h0 h1
 have ok:=W.oo x hx
 obtain⟨s,hs,hS⟩:=Fq (w:=w) ok.s0 ok.s1
 have so:=W.so s hs
 exact D1 hO hS so.p1 so.p2 (aO (by omega) (by omega) (by omega)) (aO (by omega) (by omega) (by omega)) (aO (by omega) (by omega) (by omega)) (aV ns (k+8000) 6 (by omega)).1 (aV ns (k+8000) 6 (by omega)).2
noncomputable abbrev Tr:=Int×Int×Int
noncomputable def kvT(ts:List Tr):List (List Key×D):=ts.map λt=>([Sum.inl t.1,Sum.inl t.2.1],D.int t.2.2)
theorem BK(ts:List Tr)(o h:Int):((kvT ts).any λkv=>decide (kv.1=[Sum.inl o,Sum.inl h]))=true↔∃v,(o,h,v)∈ts:=by
 rw[List.any_eq_true]
 constructor
 ·rintro⟨kv,hk,e⟩
  obtain⟨t,ht,rfl⟩:=GaI.mp hk
  have e' :=Gaw e
  simp at e'
  exact⟨t.2.2,by rw[←e'.1,←e'.2];exact ht⟩
 ·rintro⟨v,hv⟩
  exact⟨_,GaI.mpr ⟨_,hv,rfl⟩,by simp⟩
theorem qt(ts:List Tr)(o h v:Int):∃ts' :List Tr,DL.put (kvT ts) [Sum.inl o,Sum.inl h] (.int v)=kvT ts' ∧ts'.length≤ts.length+1∧(∀t∈ts',t∈ts∨t=(o,h,v))∧((∃v,(o,h,v)∈ts)→ts'.length=ts.length)∧∃v,(o,h,v)∈ts' :=by
 unfold DL.put
 by_cases c:((kvT ts).any λkv=>decide (kv.1=[Sum.inl o,Sum.inl h]))=true
 ·rw[Gag c]
  refine⟨ts.map λt=>if t.1=o∧t.2.1=h then(o,h,v) else t, ?_,by simp,λt ht=> ?_,λ_=>by simp,v, ?_⟩
  ·unfold kvT
   rw[GaR,GaR]
   refine GaQ λt _=> ?_
   simp only[Function.comp]
   by_cases c:t.1=o∧t.2.1=h
   ·have e:([Sum.inl t.1,Sum.inl t.2.1]:List Key)=[Sum.inl o,Sum.inl h]:=by rw[c.1,c.2]
    rw[Gag e,Gag c,c.1,c.2]
   ·have e:¬([Sum.inl t.1,Sum.inl t.2.1]:List Key)=[Sum.inl o,Sum.inl h]:=λz=>by
     simp at z
     exact c z
    rw[Gae e,Gae c]
  ·obtain⟨s,hs,rfl⟩:=GaI.mp ht
   split
   ·exact .inr rfl
   ·exact .inl hs
  ·obtain⟨v',hv'⟩:=(BK ts o h).mp c
   exact GaI.mpr ⟨_,hv',by simp⟩
 ·rw[Gae c]
  refine⟨ts++[(o,h,v)],by simp[kvT],by simp,λt ht=> ?_,λq=>absurd ((BK ts o h).mpr q) c,v,by simp⟩
  rcases Gax.mp ht with h|h
  ·exact .inl h
  ·exact .inr (by simpa using h)
theorem jR(ts:List Tr):bM (kvT ts)=ts.map λt=>D.tup [.tup [.int t.1,.int t.2.1],.int t.2.2]:=by
 unfold bM kvT
 rw[GaR]
 rfl
theorem wj(ts:List Tr):cn (gT [0,1]) gL (bI (a5 (ixE (vE 0) (kE (.int 0))) (a5 (ixE (vE 0) (kE (.int 1))) (a5 (vE 1) ao)))) (bM (kvT ts)) [none,none]=some (ts.map trD):=by
 rw[jR]
 refine iJ (g:=gT [0,1]) (λt:Tr=>D.tup [.tup [.int t.1,.int t.2.1],.int t.2.2]) (λenv=>∃y z,env=[y,z]) trD ts _ ⟨none,none,rfl⟩ ?_
 rintro t ht env ⟨y,z,rfl⟩
 refine⟨[some (.sh (.tup [.int t.1,.int t.2.1])),some (.sh (.int t.2.2))],by simp,⟨_,_,rfl⟩,.c, ?_,rfl⟩
 simp[ah,trD]
theorem HJ(ts:List Tr):keysOk (ts.map trD)=true:=by
 have h1:(ts.map trD).all (mq 1)=true:=by
  rw[Gby,Gat]
  intro p _
  simp[trD,mq,tyD,mj]
 have h2:((ts.map trD).all λx=>(ts.map trD).all λy=>vB x y)=true:=by
  rw[Gby,Gat]
  intro p _
  simp only[GbU]
  rw[Gby,Gat]
  intro q _
  simp[trD,vB,mw,tyD,aZ]
 unfold keysOk
 rw[h1,h2];simp
noncomputable def HK:D→Tr
 | .tup [.int a,.int b,.int c]=>(a,b,c)
 |_=>(0,0,0)
theorem BL(ts:List Tr)(hl:ts.length<64):∃rs:List Tr,sortedS [.lst (ts.map trD)]=some ⟨.tn,.lst (rs.map trD)⟩∧rs.Perm ts:=by
 have hp:=fM (ts.map trD)
 have all:∀x∈cB (ts.map trD),∃p,x=trD p:=λx hx=>by
  obtain⟨p,_,e⟩:=GaI.mp (hp.mem_iff.mp hx)
  exact⟨p,e.symm⟩
 have e:cB (ts.map trD)=((cB (ts.map trD)).map HK).map trD:=by
  rw[GaR]
  conv=>lhs;rw[←Gch (cB (ts.map trD))]
  apply GaQ
  intro x hx
  obtain⟨p,rfl⟩:=all x hx
  rfl
 refine⟨(cB (ts.map trD)).map HK, ?_, ?_⟩
 ·rw[←e]
  have h1:((ts.map trD).length<64):=by simpa using hl
  unfold sortedS one kQ
  simp only[Option.bind_some]
  rw[HJ,GaG h1];rfl
 ·have:=Gdc HK hp
  rw[GaR] at this
  have e2:ts.map (HK∘trD)=ts:=by
   conv=>rhs;rw[←Gch ts]
   exact GaQ λp _=>rfl
  rw[e2] at this
  exact this
theorem tH{ns:List Int}{scale many n LG qa qb qc qd qe g h v:Int}{A B C O:List D}{ts ts' :List Tr}{x6:Option Slot}(hLG:cM [.tup A]=some ⟨.c,.int LG⟩)(da:a9 [.scr ns,.int (900+n),.int LG]=some (.int qa))(db:a9 [.scr ns,.int (920+n),.int 50]=some (.int qb))(ms:∀j,ck scale j=true)(dc:a9 [.scr ns,.int 980,.int 2]=some (.int qc))(hgh:(n<LG∧qc=0∧g=n∧h=0)∨(¬(n<LG∧qc=0)∧g=qa∧h=scale*qb))(dd:a9 [.scr ns,.int (940+n),.int 200]=some (.int qd))(de:a9 [.scr ns,.int (960+n),.int 8]=some (.int qe))(hv:atD [D.int (1+qd),.int 1000000] (qe/7)=some (.int v))
  (hp:DL.put (kvT ts) [Sum.inl g,Sum.inl h] (.int v)=kvT ts')(hz:(kvT ts).length<1000):
  ∃y6,cq [some (.sh (.scr ns)),some (.sh (.tup [.tup A,B',C',O'])),some (.sh (.int many)),some (.sh (.int scale)),some (.own (.dT (kvT ts))),some (.sh (.int n)),x6]=
   some (.nx [some (.sh (.scr ns)),some (.sh (.tup [.tup A,B',C',O'])),some (.sh (.int many)),some (.sh (.int scale)),some (.own (.dT (kvT ts'))),some (.sh (.int n)),y6]):=by
 have z:(kvT ts).length<16777216:=by omega
 generalize hkv:kvT ts=kv at*
 refine⟨some (.sh (.tup [.int g,.int h])), ?_⟩
 unfold cq
 refine(av (e:=[some (.sh (.scr ns)),some (.sh (.tup [.tup A,B',C',O'])),some (.sh (.int many)),some (.sh (.int scale)),some (.own (.dT kv)),some (.sh (.int n)),some (.sh (.tup [.int qa,.int (scale*qb)]))]) (by simp[-iN,hLG,da,db,ms,ah])).trans ?_
 refine(av (e:=[some (.sh (.scr ns)),some (.sh (.tup [.tup A,B',C',O'])),some (.sh (.int many)),some (.sh (.int scale)),some (.own (.dT kv)),some (.sh (.int n)),some (.sh (.tup [.int g,.int h]))]) ?_).trans ?_
 ·rcases hgh with⟨c1,c2,rfl,rfl⟩| ⟨c,rfl,rfl⟩
  ·simp[-iN,hLG,c1,c2,dc,ah]
  ·by_cases c1:n<LG
   ·have c2:¬qc=0:=λz=>c ⟨c1,z⟩
    simp[-iN,hLG,c1,c2,dc]
   ·simp[-iN,hLG,c1]
 ·simp[dd,de,hv,putD,keyOf,z,ah,hp]
theorem wk{ns:List Int}{w:World}{scale many n:Int}{ts:List Tr}{x6:Option Slot}(W:bQ w)(hs:1≤scale)(hs2:scale≤1000000)(hn:0≤n)(hn2:n<100)(hl:ts.length≤100):
  ∃(ts' :List Tr) (y6:Option Slot),ts'.length≤ts.length+1∧cq [some (.sh (.scr ns)),some (.sh (bc w)),some (.sh (.int many)),some (.sh (.int scale)),some (.own (.dT (kvT ts))),some (.sh (.int n)),x6]=
   some (.nx [some (.sh (.scr ns)),some (.sh (bc w)),some (.sh (.int many)),some (.sh (.int scale)),some (.own (.dT (kvT ts'))),some (.sh (.int n)),y6]):=by
 have g1:=W.g1
 have g6:=W.g6
 have hLG:cM [.tup (w.cD.map dw)]=some ⟨.c,.int (w.cD.length:Int)⟩:=by simp[cM]
 have da:=aO (ns:=ns) (k:=900+n) (m:=(w.cD.length:Int)) (by omega) (by omega) (by omega)
 have db:=aO (ns:=ns) (k:=920+n) (m:=50) (by omega) (by omega) (by omega)
 have dc:=aO (ns:=ns) (k:=980) (m:=2) (by omega) (by omega) (by omega)
 have dd:=aO (ns:=ns) (k:=940+n) (m:=200) (by omega) (by omega) (by omega)
 have de:=aO (ns:=ns) (k:=960+n) (m:=8) (by omega) (by omega) (by omega)
 have le:=aV ns (960+n) 8 (by omega)
 obtain⟨v,_,hv⟩:=at2 (a:=1+draw ns (940+n) 200) (b:=1000000) (q:=draw ns (960+n) 8/7) (by omega) (by omega)
 have hz:(kvT ts).length<1000:=by unfold kvT;rw[Gah];omega
 by_cases c:n<(w.cD.length:Int)∧draw ns 980 2=0
 ·obtain⟨ts',p1,p2,_⟩:=qt ts n 0 v
  obtain⟨y6,e⟩:=tH (scale:=scale) (many:=many) (x6:=x6) (B:=[]) (C:=[]) (O:=[]) hLG da db (λj=>bP (by omega) (by omega)) dc (.inl ⟨c.1,c.2,rfl,rfl⟩) dd de hv p1 hz
  exact⟨ts',y6,p2,e⟩
 ·obtain⟨ts',p1,p2,_⟩:=qt ts (draw ns (900+n) (w.cD.length:Int)) (scale*draw ns (920+n) 50) v
  obtain⟨y6,e⟩:=tH (many:=many) (x6:=x6) (B:=[]) (C:=[]) (O:=[]) hLG da db (λj=>bP (by omega) (by omega)) dc (.inr ⟨c,rfl,rfl⟩) dd de hv p1 hz
  exact⟨ts',y6,p2,e⟩
theorem jt(ts:List Tr):aN (ts.map trD)=true:=gh uL ts
theorem wm{ns:List Int}{q1 scale many:Int}{wd:D}{kv:List (List Key×D)}{R Rs:List D}{y5 y6:Option Slot}(d1:a9 [.scr ns,.int 1,.int 6]=some (.int q1))(h1:atD [D.int 1,.int 1,.int 1,.int 1,.int 1,.int 1000000] q1=some (.int scale))(sm:bU many=true)
  (l1:forL (gN 5) cq (bx 0 many.toNat) [some (.sh (.scr ns)),some (.sh wd),some (.sh (.int many)),some (.sh (.int scale)),some (.own (.dT [])),none,none]=some (.nx [some (.sh (.scr ns)),some (.sh wd),some (.sh (.int many)),some (.sh (.int scale)),some (.own (.dT kv)),y5,y6]))
  (hz:(bM kv).length≤16777216)(hc:cn (gT [0,1]) gL (bI (a5 (ixE (vE 0) (kE (.int 0))) (a5 (ixE (vE 0) (kE (.int 1))) (a5 (vE 1) ao)))) (bM kv) [none,none]=some R)(hs:sortedS [.lst R]=some ⟨.tn,.lst Rs⟩)(im:aN Rs=true):fG [.scr ns,wd,.int many]=some (.tup Rs):=by
 refine bh rfl ?_
 unfold gD
 refine(av (e:=[some (.sh (.scr ns)),some (.sh wd),some (.sh (.int many)),some (.sh (.int scale)),none,none,none]) (by simp[bz,d1,h1,ah])).trans ?_
 refine(av (e:=[some (.sh (.scr ns)),some (.sh wd),some (.sh (.int many)),some (.sh (.int scale)),some (.own (.dT [])),none,none]) (by simp)).trans ?_
 refine(av (e:=[some (.sh (.scr ns)),some (.sh wd),some (.sh (.int many)),some (.sh (.int scale)),some (.own (.dT kv)),y5,y6]) (by simp[-forL,sm,l1])).trans ?_
 simp[-cn,ah,DL.compEnv,fJ,hz,hc,hs,im]
theorem D2{ns:List Int}{w:World}{n:Nat}(W:bQ w)(hn:n≤60):∃ws:List Tr,ws.length≤60∧fG [.scr ns,bc w,.int (n:Int)]=some (.tup (ws.map trD)):=by
 have d1:=aO (ns:=ns) (k:=1) (m:=6) (by omega) (by omega) (by omega)
 obtain⟨scale,c1,c2,h1⟩:=uN ns
 obtain⟨e,l1,ts,y5,y6,t1,rfl⟩:=fj (g:=gN 5) (body:=cq) (λm env=>∃(ts:List Tr) (y5 y6:Option Slot),ts.length≤m∧env=[some (.sh (.scr ns)),some (.sh (bc w)),some (.sh (.int (n:Int))),some (.sh (.int scale)),some (.own (.dT (kvT ts))),y5,y6]) (bx 0 (n:Int).toNat) 0 [some (.sh (.scr ns)),some (.sh (bc w)),some (.sh (.int (n:Int))),some (.sh (.int scale)),some (.own (.dT [])),none,none] ⟨[],none,none,by simp,rfl⟩ (by
  rintro i d e hd ⟨ts,y5,y6,t1,rfl⟩
  obtain⟨hi,rfl⟩:=cS hd
  obtain⟨ts',z6,p1,p2⟩:=wk (ns:=ns) (w:=w) (scale:=scale) (many:=(n:Int)) (n:=0+(i:Int)) (ts:=ts) (x6:=y6) W c1 c2 (by omega) (by omega) (by omega)
  exact⟨_,_,rfl,p2,ts',some (.sh (.int (0+(i:Int)))),z6,by omega,rfl⟩)
 rw[dY] at t1
 obtain⟨rs,r1,r2⟩:=BL ts (by omega)
 have hz:(bM (kvT ts)).length≤16777216:=by rw[jR,Gah];omega
 exact⟨rs,by rw[r2.length_eq];omega,wm d1 h1 (bY (by omega) (by omega)) l1 hz (wj ts) r1 (jt rs)⟩
theorem D3{ns:List Int}{many n LO o h a q:Int}{A B C O:List D}{ts t1 t2:List Tr}{x5 x6:Option Slot}(hLO:cM [.tup O]=some ⟨.c,.int LO⟩)(d0:a9 [.scr ns,.int (1000+n),.int LO]=some (.int o))(eh:j6 [.scr ns,.tup [.tup A,.tup B,.tup C,.tup O],.int o,.int (1100+n)]=some (.int h))(ea:fh [.scr ns,.tup [.tup A,.tup B,.tup C,.tup O],.int o,.int (1100+n)]=some (.int a))(dq:a9 [.scr ns,.int (1050+n),.int 40]=some (.int q))(p1:DL.put (kvT ts) [Sum.inl o,Sum.inl h] (.int a)=kvT t1)(p2:DL.put (kvT t1) [Sum.inl o,Sum.inl h] (.int (10000000000000000000000000000000000000000+n))=kvT t2)(hz:(kvT ts).length<1000)(hz2:(kvT t1).length<1000):
  cw [some (.sh (.scr ns)),some (.sh (.tup [.tup A,.tup B,.tup C,.tup O])),some (.sh (.int many)),some (.own (.dT (kvT ts))),some (.sh (.int n)),x5,x6]=
   some (.nx [some (.sh (.scr ns)),some (.sh (.tup [.tup A,.tup B,.tup C,.tup O])),some (.sh (.int many)),some (.own (.dT (if q=0 then kvT t2 else kvT t1))),some (.sh (.int n)),some (.sh (.int o)),some (.sh (.tup [.int o,.int h]))]):=by
 have z:(kvT ts).length<16777216:=by omega
 have z2:(kvT t1).length<16777216:=by omega
 generalize kvT ts=k0 at*
 generalize kvT t1=k1 at*
 generalize kvT t2=k2 at*
 unfold cw
 refine(av (e:=[some (.sh (.scr ns)),some (.sh (.tup [.tup A,.tup B,.tup C,.tup O])),some (.sh (.int many)),some (.own (.dT k0)),some (.sh (.int n)),some (.sh (.int o)),x6]) (by simp[-iN,hLO,d0])).trans ?_
 refine(av (e:=[some (.sh (.scr ns)),some (.sh (.tup [.tup A,.tup B,.tup C,.tup O])),some (.sh (.int many)),some (.own (.dT k0)),some (.sh (.int n)),some (.sh (.int o)),some (.sh (.tup [.int o,.int h]))]) (by simp[eh,ah])).trans ?_
 refine(av (e:=[some (.sh (.scr ns)),some (.sh (.tup [.tup A,.tup B,.tup C,.tup O])),some (.sh (.int many)),some (.own (.dT k1)),some (.sh (.int n)),some (.sh (.int o)),some (.sh (.tup [.int o,.int h]))]) (by simp[ea,putD,keyOf,z,ah,p1])).trans ?_
 by_cases c:q=0
 ·rw[Gag c]
  simp[dq,c,putD,keyOf,z2,ah,p2]
 ·rw[Gae c]
  simp[dq,c]
def j8(n:Nat)(gv:List Tr):Prop:=∀t∈gv,0≤t.1∧t.1<n
theorem wq{ns:List Int}{w:World}{many n:Int}{ts:List Tr}{x5 x6:Option Slot}(W:bQ w)(hn:0≤n)(hn2:n<100)(hl:ts.length≤100)(hg:j8 w.orders.length ts):
  ∃(ts' :List Tr) (y5 y6:Option Slot),ts'.length≤ts.length+1∧j8 w.orders.length ts' ∧cw [some (.sh (.scr ns)),some (.sh (bc w)),some (.sh (.int many)),some (.own (.dT (kvT ts))),some (.sh (.int n)),x5,x6]=
   some (.nx [some (.sh (.scr ns)),some (.sh (bc w)),some (.sh (.int many)),some (.own (.dT (kvT ts'))),some (.sh (.int n)),y5,y6]):=by
 have o1:=W.o1
 have o12:=W.o12
 have hLO:cM [.tup (w.orders.map aF)]=some ⟨.c,.int (w.orders.length:Int)⟩:=by simp[cM]
 have d0:=aO (ns:=ns) (k:=1000+n) (m:=(w.orders.length:Int)) (by omega) (by omega) (by omega)
 have l0:=aV ns (1000+n) (w.orders.length:Int) (by omega)
 generalize draw ns (1000+n) (w.orders.length:Int)=o at*
 obtain⟨h,eh⟩:=Kf (ns:=ns) (w:=w) (k:=1100+n) (o:=o) W l0.1 l0.2 (by omega) (by omega)
 obtain⟨a,ea⟩:=Fs (ns:=ns) (w:=w) (k:=1100+n) (o:=o) W l0.1 l0.2 (by omega) (by omega)
 have dq:=aO (ns:=ns) (k:=1050+n) (m:=40) (by omega) (by omega) (by omega)
 obtain⟨t1,p1,p2,p3,_,p4⟩:=qt ts o h a
 obtain⟨t2,r1,r2,r3,r4,_⟩:=qt t1 o h (10000000000000000000000000000000000000000+n)
 have hz:(kvT ts).length<1000:=by unfold kvT;rw[Gah];omega
 have hz2:(kvT t1).length<1000:=by unfold kvT;rw[Gah];omega
 have ev:=D3 (many:=many) (x5:=x5) (x6:=x6) hLO d0 eh ea dq p1 r1 hz hz2
 have g1:j8 w.orders.length t1:=λt ht=>by
  rcases p3 t ht with q|q
  ·exact hg t q
  ·rw[q];exact l0
 have g2:j8 w.orders.length t2:=λt ht=>by
  rcases r3 t ht with q|q
  ·exact g1 t q
  ·rw[q];exact l0
 by_cases c:draw ns (1050+n) 40=0
 ·rw[Gag c] at ev
  exact⟨t2,_,_,by have:=r4 p4;omega,g2,ev⟩
 ·rw[Gae c] at ev
  exact⟨t1,_,_,by omega,g1,ev⟩
theorem wx{ns:List Int}{many:Int}{wd:D}{kv:List (List Key×D)}{R Rs:List D}{y4 y5 y6:Option Slot}(sm:bU many=true)
  (l1:forL (gN 4) cw (bx 0 many.toNat) [some (.sh (.scr ns)),some (.sh wd),some (.sh (.int many)),some (.own (.dT [])),none,none,none]=some (.nx [some (.sh (.scr ns)),some (.sh wd),some (.sh (.int many)),some (.own (.dT kv)),y4,y5,y6]))
  (hz:(bM kv).length≤16777216)(hc:cn (gT [0,1]) gL (bI (a5 (ixE (vE 0) (kE (.int 0))) (a5 (ixE (vE 0) (kE (.int 1))) (a5 (vE 1) ao)))) (bM kv) [none,none]=some R)(hs:sortedS [.lst R]=some ⟨.tn,.lst Rs⟩)(im:aN Rs=true):fH [.scr ns,wd,.int many]=some (.tup Rs):=by
 refine bh rfl ?_
 unfold gE
 refine(av (e:=[some (.sh (.scr ns)),some (.sh wd),some (.sh (.int many)),some (.own (.dT [])),none,none,none]) (by simp[bz])).trans ?_
 refine(av (e:=[some (.sh (.scr ns)),some (.sh wd),some (.sh (.int many)),some (.own (.dT kv)),y4,y5,y6]) (by simp[-forL,sm,l1])).trans ?_
 simp[-cn,ah,DL.compEnv,fJ,hz,hc,hs,im]
theorem D4{ns:List Int}{w:World}{n:Nat}(W:bQ w)(hn:n<64):∃gv:List Tr,gv.length<64∧j8 w.orders.length gv∧fH [.scr ns,bc w,.int (n:Int)]=some (.tup (gv.map trD)):=by
 obtain⟨e,l1,ts,y4,y5,y6,t1,t2,rfl⟩:=fj (g:=gN 4) (body:=cw) (λm env=>∃(ts:List Tr) (y4 y5 y6:Option Slot),ts.length≤m∧j8 w.orders.length ts∧env=[some (.sh (.scr ns)),some (.sh (bc w)),some (.sh (.int (n:Int))),some (.own (.dT (kvT ts))),y4,y5,y6]) (bx 0 (n:Int).toNat) 0 [some (.sh (.scr ns)),some (.sh (bc w)),some (.sh (.int (n:Int))),some (.own (.dT [])),none,none,none] ⟨[],none,none,none,by simp,λt ht=>by simp at ht,rfl⟩ (by
  rintro i d e hd ⟨ts,y4,y5,y6,t1,t2,rfl⟩
  obtain⟨hi,rfl⟩:=cS hd
  obtain⟨ts',z5,z6,p1,p2,p3⟩:=wq (ns:=ns) (w:=w) (many:=(n:Int)) (n:=0+(i:Int)) (ts:=ts) (x5:=y5) (x6:=y6) W (by omega) (by omega) (by omega) t2
  exact⟨_,_,rfl,p3,ts',some (.sh (.int (0+(i:Int)))),z5,z6,by omega,p2,rfl⟩)
 rw[dY] at t1
 obtain⟨rs,r1,r2⟩:=BL ts (by omega)
 have hz:(bM (kvT ts)).length≤16777216:=by rw[jR,Gah];omega
 exact⟨rs,by rw[r2.length_eq];omega,λt ht=>t2 t (r2.mem_iff.mp ht),wx (bY (by omega) (by omega)) l1 hz (wj ts) r1 (jt rs)⟩
noncomputable def jf:Option Int→D
 |some k=> .int k
 |none=> .non
@[simp] theorem D5{k:Int}:jf (some k)= .int k:=rfl
@[simp] theorem D6:jf none= .non:=rfl
theorem jS(o:Option Int):(jf o).imm=true:=by cases o<;>rfl
noncomputable def Ft(b e m ea la h:Int):Option Int:=
 if(0≤(h -(b -ea))/e∧(h -(b -ea))/e<m)∧h -(b -ea)-(h -(b -ea))/e*e≤ea+la then some ((h -(b -ea))/e) else none
noncomputable def r9:sf→Int→Option Int
 | .asked _,_=>none
 | .due b e m ea la,h=>Ft b e m ea la h
theorem pA{o:Order}{h:Int}(ok:oQ o.jg):iY [aF o,.int h]=some (jf (r9 o.jg h)):=by
 obtain⟨name,g,st,way,top,per,most,u,ts⟩:=o
 unfold aF
 cases u with
 |asked b=>
  unfold iY jQ d9 r9
  simp
 |due b e m ea la=>
  obtain⟨e1,e2,hm,a0,l0,al,ab,b3⟩:=ok
  have p1:∀i,ck i e=true:=λi=>qr (by omega) (by omega)
  have p2:0<e∧e<1073741824:=by omega
  unfold iY jQ d9 r9 Ft
  simp[p1,p2]
  generalize hk:(h -(b -ea))/e=k
  by_cases c1:0≤k
  ·by_cases c2:k<m
   ·by_cases c3:h -(b -ea)-k*e≤ea+la
    ·have c4:¬ea+la<h -(b -ea)-k*e:=by omega
     simp[c1,c2,c3,c4]
    ·have c4:ea+la<h -(b -ea)-k*e:=by omega
     simp[c1,c2,c3,c4]
   ·simp[c1,c2]
  ·simp[c1]
noncomputable def dN:sf→Int→Bool
 | .asked b,h=>decide (h<b)
 | .due b e m ea la,h=>(Ft b e m ea la h).isNone
theorem wz{o:Order}{h:Int}(ok:oQ o.jg):lu [aF o,.int h]=some (.bl (dN o.jg h)):=by
 have d:=pA (h:=h) ok
 obtain⟨name,g,st,way,top,per,most,u,ts⟩:=o
 unfold aF at d⊢
 cases u with
 |asked b=>
  unfold lu lq d9 dN
  simp
 |due b e m ea la=>
  unfold r9 at d
  unfold lu lq dN
  unfold d9 at d⊢
  have rv:=cJ (jS (Ft b e m ea la h))
  simp[d,rv]
  cases Ft b e m ea la h<;>simp[qB,dz]
noncomputable def wgt(g h:Int):List Tr→Option Int→Option Int
 |[],f=>f
 |t::ts,f=>wgt g h ts (if t.1=g∧t.2.1≤h then some t.2.2 else f)
theorem pB{body:DS}{wd:D}{g h:Int}(st:∀(t:Tr) (f:Option Int),body [some (.sh wd),some (.sh (.int g)),some (.sh (.int h)),some (.sh (jf f)),some (.sh (trD t))]=some (.nx [some (.sh wd),some (.sh (.int g)),some (.sh (.int h)),some (.sh (jf (if t.1=g∧t.2.1≤h then some t.2.2 else f))),some (.sh (trD t))])):
  ∀(ts:List Tr) (f:Option Int) (x4:Option Slot),∃y4,forL (gN 4) body (ts.map trD) [some (.sh wd),some (.sh (.int g)),some (.sh (.int h)),some (.sh (jf f)),x4]=some (.nx [some (.sh wd),some (.sh (.int g)),some (.sh (.int h)),some (.sh (jf (wgt g h ts f))),y4])
 |[],f,x4=> ⟨x4,by simp[wgt]⟩
 |t::ts,f,x4=>by
  obtain⟨y4,e⟩:=pB st ts (if t.1=g∧t.2.1≤h then some t.2.2 else f) (some (.sh (trD t)))
  refine⟨y4, ?_⟩
  have e1:=st t f
  rw[Gaq]
  show forL (gN 4) body (trD t::ts.map trD) _=_
  generalize trD t=td at*
  simp only[forL,gN,GaU,GaV,Option.bind_some,e1]
  exact e
theorem lC{ws:List Tr}{g h:Int}:gQ [.tup (ws.map trD),.int g,.int h]=some (jf (wgt g h ws none)):=by
 obtain⟨y4,e⟩:=pB (body:=iZ) (wd:= .tup (ws.map trD)) (g:=g) (h:=h) (λt f=>by
  unfold iZ trD
  by_cases c1:t.1=g
  ·by_cases c2:t.2.1≤h
   ·simp[c1,c2,eqB]
   ·simp[c1,c2,eqB]
  ·simp[c1,eqB]) ws none none
 rw[D6] at e
 have im:=jS (wgt g h ws none)
 refine bh rfl ?_
 unfold gP
 generalize jf (wgt g h ws none)=r at*
 generalize ws.map trD=W at*
 refine(av (e:=[some (.sh (.tup W)),some (.sh (.int g)),some (.sh (.int h)),some (.sh .non),none]) (by simp[bz])).trans ?_
 refine(av (e:=[some (.sh (.tup W)),some (.sh (.int g)),some (.sh (.int h)),some (.sh r),y4]) (by simp[-forL,e])).trans ?_
 simp[im]
noncomputable def iA:Cap→Option Int→Option Int
 | .ever t,_=>some t
 | .flat _ t,_=>some t
 | .kilo _ t p,w=>w.map λw=>w*t/p
theorem AQ{c:Cap}{w:Option Int}(ok:pz c):jn [cZ c,jf w]=some (jf (iA c w)):=by
 cases c with
 |ever t=>unfold jn ka cZ iA;simp
 |flat h t=>unfold jn ka cZ iA;simp
 |kilo h t p=>
  obtain⟨h1,t1,t2,p1,p2⟩:=ok
  cases w with
  |none=>unfold jn ka cZ iA;simp[qB,dz]
  |some w=>
   have mm:ck w t=true:=qr (by omega) (by omega)
   have pp:0<p∧p<1073741824:=by omega
   unfold jn ka cZ iA
   simp[qB,dz,mm,pp]
noncomputable def f7:Cap→Bool
 | .kilo _ _ _=>true
 |_=>false
theorem D7{s:js}(hc:s.aT.length≤4):fc [b6 s]=some (.bl (s.aT.any f7)):=by
 have c:=iJ (g:=gN 0) (f:=bE (bq eqB (ixE (vE 0) (kE (.int 0))) (kE (.str "kilo")))) cZ (λenv=>∃y,env=[y]) (λc=> .bl (f7 c)) s.aT [none] ⟨none,rfl⟩ (by
  rintro c hc env ⟨y,rfl⟩
  refine⟨_,rfl,⟨_,rfl⟩,.c, ?_,rfl⟩
  cases c<;>simp[cZ,f7,eqB])
 have z:(s.aT.map cZ).length≤16777216:=by rw[Gah];omega
 have e2:s.aT.map (λc=>D.bl (f7 c))=(s.aT.map f7).map D.bl:=by rw[GaR];rfl
 rw[e2] at c
 have an:((s.aT.map f7).any id)=s.aT.any f7:=by rw[List.any_map];rfl
 unfold fc fb b6
 generalize s.aT.map cZ=C at*
 rw[←an]
 generalize s.aT.map f7=bs at*
 simp[-cn,ah,DL.compEnv,fJ,c,z]
noncomputable abbrev Flt:=Str×List Int
noncomputable def aw(f:Flt):D:= .tup (.str f.1::f.2.map .int)
noncomputable def kk(b:Bool)(x:Str):List Str:=if b then[x] else[]
theorem nV{L:List Str}{b:Bool}{x:Str}{t:DT}{e0 e1 e2 e3 e4 e5 e6 e7:Option Slot}(ht:t [e0,e1,e2,e3,e4,e5,e6,e7,some (.own (.lst (L.map .str)))]=some b)(hl:L.length<1000):
  ifS t (kT 8 (kE (.str x))) bg [e0,e1,e2,e3,e4,e5,e6,e7,some (.own (.lst (L.map .str)))]=some (.nx [e0,e1,e2,e3,e4,e5,e6,e7,some (.own (.lst ((L++kk b x).map .str)))]):=by
 have z:(L.map D.str).length<16777216:=by rw[Gah];omega
 have e:(L++kk b x).map D.str=L.map D.str++(kk b x).map D.str:=by rw[GaJ]
 rw[e]
 cases b with
 |true=>
  generalize L.map D.str=M at*
  simp[ht,kk,ah,z]
 |false=>
  generalize L.map D.str=M at*
  simp[ht,kk]
noncomputable def lD(o:Order)(s:js)(born:Int)(ws:List Tr)(t:Tr):List Str:=
 kk (dN o.jg t.2.1) "astray"++kk (decide (o.most<t.2.2)) "most"++kk (decide (t.2.2<1)||decide (¬t.2.2%s.part=0)) "part"++kk (s.aT.any f7&&(wgt o.bO t.2.1 ws none).isNone) "weight"++kk (decide (t.2.1<born+s.young)) "young"
theorem df(b:Bool)(x:Str):(kk b x).length≤1:=by cases b<;>simp[kk]
theorem D8{K:List Str}{n h:Int}:cn (gN 0) gL (bI (a5 (vE 0) (a5 (vE 1) (a5 (vE 2) ao)))) (K.map .str) [none,some (.sh (.int n)),some (.sh (.int h))]=some (K.map λk=>aw (k,[n,h])):=by
 refine iJ (g:=gN 0) D.str (λenv=>∃y,env=[y,some (.sh (.int n)),some (.sh (.int h))]) (λk=>aw (k,[n,h])) K _ ⟨none,rfl⟩ ?_
 rintro k hk env ⟨y,rfl⟩
 refine⟨_,rfl,⟨_,rfl⟩,.c, ?_,rfl⟩
 simp[ah,aw]
theorem gy(fs:List Flt):aN (fs.map aw)=true:=gh (λf=>by
 have:=nT f.2
 simp[aw,this]) fs
theorem Kg{A B C O:List D}{o:Order}{s:js}{gu:Str×Int}{ws:List Tr}{t:Tr}(hO:atD O t.1=some (aF o))(du:oQ o.jg)(hS:atD B o.bG=some (b6 s))(so:mf s)(hG:atD A o.bO=some (dw gu))(im:(aF o).imm=true):
  fC [.tup [.tup A,.tup B,.tup C,.tup O],.tup (ws.map trD),trD t]=some (.lst ((lD o s gu.2 ws t).map λk=>aw (k,[t.1,t.2.1]))):=by
 have ea:=wz (h:=t.2.1) du
 have eg:=D7 (s:=s) so.cl
 have ew:=lC (ws:=ws) (g:=o.bO) (h:=t.2.1)
 have sp:=so.p1
 have is:=kh s
 obtain⟨n,h,a⟩:=t
 dsimp only at*
 have rw' :=cJ (jS (wgt o.bO h ws none))
 generalize hW:ws.map trD=W at*
 have p1:ixD (aF o) (.int 3)=some (.tup [.str o.way,.int o.top,.int o.per,.int o.most]):=rfl
 have p2:ixD (aF o) (.int 1)=some (.int o.bO):=rfl
 have p3:ixD (aF o) (.int 2)=some (.int o.bG):=rfl
 have p4:ixD (b6 s) (.int 1)=some (.tup (.int s.part::s.more.map .int)):=rfl
 have p5:ixD (b6 s) (.int 3)=some (.int s.young):=rfl
 have p6:ixD (dw gu) (.int 1)=some (.int gu.2):=rfl
 generalize aF o=OD at*
 generalize b6 s=SD at*
 generalize dw gu=GD at*
 have sp' :0<s.part:=by omega
 refine bh rfl ?_
 unfold gA trD
 refine(av (e:=[some (.sh (.tup [.tup A,.tup B,.tup C,.tup O])),some (.sh (.tup W)),some (.sh (.tup [.int n,.int h,.int a])),some (.sh (.int n)),none,none,none,none,none]) (by simp[bz])).trans ?_
 refine(av (e:=[some (.sh (.tup [.tup A,.tup B,.tup C,.tup O])),some (.sh (.tup W)),some (.sh (.tup [.int n,.int h,.int a])),some (.sh (.int n)),some (.sh (.int h)),none,none,none,none]) (by simp)).trans ?_
 refine(av (e:=[some (.sh (.tup [.tup A,.tup B,.tup C,.tup O])),some (.sh (.tup W)),some (.sh (.tup [.int n,.int h,.int a])),some (.sh (.int n)),some (.sh (.int h)),some (.sh (.int a)),none,none,none]) (by simp)).trans ?_
 refine(av (e:=[some (.sh (.tup [.tup A,.tup B,.tup C,.tup O])),some (.sh (.tup W)),some (.sh (.tup [.int n,.int h,.int a])),some (.sh (.int n)),some (.sh (.int h)),some (.sh (.int a)),some (.sh OD),none,none]) (by simp[hO,im])).trans ?_
 refine(av (e:=[some (.sh (.tup [.tup A,.tup B,.tup C,.tup O])),some (.sh (.tup W)),some (.sh (.tup [.int n,.int h,.int a])),some (.sh (.int n)),some (.sh (.int h)),some (.sh (.int a)),some (.sh OD),some (.sh SD),none]) (by simp[p3,hS,is])).trans ?_
 refine(av (e:=[some (.sh (.tup [.tup A,.tup B,.tup C,.tup O])),some (.sh (.tup W)),some (.sh (.tup [.int n,.int h,.int a])),some (.sh (.int n)),some (.sh (.int h)),some (.sh (.int a)),some (.sh OD),some (.sh SD),some (.own (.lst (([]:List Str).map .str)))]) (by simp[ah])).trans ?_
 refine(av (nV (b:=dN o.jg h) (by simp[ea]) (by simp))).trans ?_
 refine(av (nV (b:=decide (o.most<a)) (by simp[p1]) (by have:=df (dN o.jg h) "astray";simp;omega))).trans ?_
 refine(av (nV (b:=decide (a<1)||decide (¬a%s.part=0)) ?_ (by have:=df (dN o.jg h) "astray";have:=df (decide (o.most<a)) "most";simp;omega))).trans ?_
 ·by_cases c:a<1
  ·simp[c]
  ·by_cases c2:a%s.part=0
   ·simp[c,p4,sp',neB,c2]
   ·simp[c,p4,sp',neB,c2]
 refine(av (nV (b:=s.aT.any f7&&(wgt o.bO h ws none).isNone) ?_ (by have:=df (dN o.jg h) "astray";have:=df (decide (o.most<a)) "most";have:=df (decide (a<1)||decide (¬a%s.part=0)) "part";simp only[Gav,Gcs];omega))).trans ?_
 ·generalize s.aT.any f7=bk at*
  cases bk with
  |false=>simp[eg]
  |true=>
   simp[eg,p2,ew,rw']
   cases wgt o.bO h ws none<;>simp[qB,dz]
 refine(av (nV (b:=decide (h<gu.2+s.young)) (by simp[p2,hG,p6,p5]) (by have:=df (dN o.jg h) "astray";have:=df (decide (o.most<a)) "most";have:=df (decide (a<1)||decide (¬a%s.part=0)) "part";have:=df (s.aT.any f7&&(wgt o.bO h ws none).isNone) "weight";simp only[Gav,Gcs];omega))).trans ?_
 have cm:=D8 (K:=[]++kk (dN o.jg h) "astray"++kk (decide (o.most<a)) "most"++kk (decide (a<1)||decide (¬a%s.part=0)) "part"++kk (s.aT.any f7&&(wgt o.bO h ws none).isNone) "weight"++kk (decide (h<gu.2+s.young)) "young") (n:=n) (h:=h)
 have hK:[]++kk (dN o.jg h) "astray"++kk (decide (o.most<a)) "most"++kk (decide (a<1)||decide (¬a%s.part=0)) "part"++kk (s.aT.any f7&&(wgt o.bO h ws none).isNone) "weight"++kk (decide (h<gu.2+s.young)) "young"=lD o s gu.2 ws (n,h,a):=by
  unfold lD
  rw[Gcv]
 have hlen:([]++kk (dN o.jg h) "astray"++kk (decide (o.most<a)) "most"++kk (decide (a<1)||decide (¬a%s.part=0)) "part"++kk (s.aT.any f7&&(wgt o.bO h ws none).isNone) "weight"++kk (decide (h<gu.2+s.young)) "young").length≤5:=by
  have:=df (dN o.jg h) "astray";have:=df (decide (o.most<a)) "most";have:=df (decide (a<1)||decide (¬a%s.part=0)) "part";have:=df (s.aT.any f7&&(wgt o.bO h ws none).isNone) "weight";have:=df (decide (h<gu.2+s.young)) "young"
  simp only[Gav,Gcs];omega
 rw[hK] at cm hlen⊢
 have fi:=gy ((lD o s gu.2 ws (n,h,a)).map λk=>(k,[n,h]))
 rw[GaR] at fi
 have fi' :aN ((lD o s gu.2 ws (n,h,a)).map λk=>aw (k,[n,h]))=true:=fi
 generalize lD o s gu.2 ws (n,h,a)=KL at*
 have z:(KL.map D.str).length≤16777216:=by rw[Gah];omega
 generalize KL.map D.str=M at*
 generalize (KL.map λk=>aw (k,[n,h]))=R at*
 simp[-cn,ah,DL.compEnv,fJ,cm,z,fi']
noncomputable def atT(o h:Int)(t:Tr):Bool:=decide (t.1=o∧t.2.1=h)
noncomputable def oS(ts:List Tr)(o h v:Int):List Tr:=if ts.any (atT o h) then ts.map (λt=>if atT o h t then(o,h,v) else t) else ts++[(o,h,v)]
noncomputable def nj(ts:List Tr)(o h:Int):Int:=((ts.find? (atT o h)).map (·.2.2)).getD 0
theorem uO(o h:Int)(t:Tr):decide (([Sum.inl t.1,Sum.inl t.2.1]:List Key)=[Sum.inl o,Sum.inl h])=atT o h t:=by
 unfold atT
 rw[Gdf]
 simp
theorem nq(ts:List Tr)(o h v:Int):DL.put (kvT ts) [Sum.inl o,Sum.inl h] (.int v)=kvT (oS ts o h v):=by
 unfold DL.put oS kvT
 have e:((ts.map λt=>(([Sum.inl t.1,Sum.inl t.2.1]:List Key),D.int t.2.2)).any λkv=>decide (kv.1=[Sum.inl o,Sum.inl h]))=ts.any (atT o h):=by
  rw[List.any_map]
  congr 1
  funext t
  exact uO o h t
 rw[e]
 cases ts.any (atT o h) with
 |true=>
  simp only[Gbq]
  rw[GaR,GaR]
  refine GaQ λt _=> ?_
  simp only[Function.comp]
  have k:=uO o h t
  by_cases c:t.1=o∧t.2.1=h
  ·have e1:([Sum.inl t.1,Sum.inl t.2.1]:List Key)=[Sum.inl o,Sum.inl h]:=by rw[c.1,c.2]
   have e2:atT o h t=true:=GaG c
   rw[Gag e1,Gag e2,c.1,c.2]
  ·have e1:¬([Sum.inl t.1,Sum.inl t.2.1]:List Key)=[Sum.inl o,Sum.inl h]:=λz=>by simp at z;exact c z
   have e2:¬atT o h t=true:=λz=>c (Gaw z)
   rw[Gae e1,Gae e2]
 |false=>simp
theorem wA(ts:List Tr)(o h:Int):look (kvT ts) [Sum.inl o,Sum.inl h]=(ts.find? (atT o h)).map λt=>D.int t.2.2:=by
 unfold look kvT
 rw[List.find?_map]
 have e:((λkv:List Key×D=>decide (kv.1=[Sum.inl o,Sum.inl h]))∘λt:Tr=>(([Sum.inl t.1,Sum.inl t.2.1]:List Key),D.int t.2.2))=atT o h:=by
  funext t
  exact uO o h t
 rw[e]
 cases ts.find? (atT o h)<;>rfl
theorem nW(ts:List Tr)(o h v:Int):(oS ts o h v).length≤ts.length+1:=by
 unfold oS
 split<;>simp
noncomputable def twU(ts:List Tr)(n:Int):Option Int→List Tr
 |some k=>oS ts n k (nj ts n k+1)
 |none=>ts
noncomputable def cT(os:List Order)(ts:List Tr)(g:Tr):List Tr:=twU ts g.1 ((os[g.1.toNat]?).bind λo=>r9 o.jg g.2.1)
theorem BM(ts:List Tr)(n:Int)(u:Option Int):(twU ts n u).length≤ts.length+1:=by
 cases u with
 |none=>exact GcZ _
 |some k=>exact nW _ _ _ _
theorem Kh{ts:List Tr}{o k:Int}{e0 e1 e3:Option Slot}{n h a:Int}:GC (vE 2) (bI (a5 (ixE (vE 3) (kE (.int 0))) (a5 (vE 4) ao))) (kE (.int 0)) [e0,e1,some (.own (.dT (kvT ts))),some (.sh (.tup [.int o,.int h,.int a])),some (.sh (.int k))]=some ⟨.c,.int (nj ts o k)⟩:=by
 have l:=wA ts o k
 unfold nj
 generalize kvT ts=kv at*
 cases hf:ts.find? (atT o k) with
 |none=>
  rw[hf] at l
  simp at l
  simp[l,keyOf,ah]
 |some t=>
  rw[hf] at l
  simp at l
  simp[l,keyOf,ah]
theorem MF{ts:List Tr}{n h a k:Int}{OD:D}{u:Option Int}{A B C O G:List D}{x4:Option Slot}(hO:atD O n=some OD)(im:OD.imm=true)(ed:iY [OD,.int h]=some (jf u))(hz:(kvT ts).length<1000):
  bX [some (.sh (.tup [.tup A,.tup B,.tup C,.tup O])),some (.sh (.tup G)),some (.own (.dT (kvT ts))),some (.sh (.tup [.int n,.int h,.int a])),x4]=
   some (.nx [some (.sh (.tup [.tup A,.tup B,.tup C,.tup O])),some (.sh (.tup G)),some (.own (.dT (kvT (twU ts n u)))),some (.sh (.tup [.int n,.int h,.int a])),some (.sh (jf u))]):=by
 have z:(kvT ts).length<16777216:=by omega
 have ru:=cJ (jS u)
 unfold bX
 refine(av (e:=[some (.sh (.tup [.tup A,.tup B,.tup C,.tup O])),some (.sh (.tup G)),some (.own (.dT (kvT ts))),some (.sh (.tup [.int n,.int h,.int a])),some (.sh (jf u))]) (by simp[hO,ed,ru])).trans ?_
 cases u with
 |none=>simp[kC,dz,twU]
 |some k=>
  have g:=Kh (ts:=ts) (o:=n) (k:=k) (e0:=some (.sh (.tup [.tup A,.tup B,.tup C,.tup O]))) (e1:=some (.sh (.tup G))) (e3:=none) (n:=0) (h:=h) (a:=a)
  have p:=nq ts n k (nj ts n k+1)
  rw[D5]
  refine(ME (by simp[kC,dz])).trans ?_
  unfold twU
  rw[←p]
  generalize nj ts n k=gv at*
  generalize kvT ts=kv at*
  unfold vA opE
  rw[g]
  simp[putD,keyOf,z,ah]
theorem BN{w:World}(W:bQ w){A B C G:List D}:∀(gv:List Tr) (ts:List Tr) (x3 x4:Option Slot),j8 w.orders.length gv→ts.length+gv.length<1000→∃y3 y4,forL (gN 3) bX (gv.map trD) [some (.sh (.tup [.tup A,.tup B,.tup C,.tup (w.orders.map aF)])),some (.sh (.tup G)),some (.own (.dT (kvT ts))),x3,x4]=
  some (.nx [some (.sh (.tup [.tup A,.tup B,.tup C,.tup (w.orders.map aF)])),some (.sh (.tup G)),some (.own (.dT (kvT (gv.foldl (cT w.orders) ts)))),y3,y4])
 |[],ts,x3,x4,_,_=> ⟨x3,x4,by simp⟩
 |g::gv,ts,x3,x4,hg,hl=>by
  have g0:=hg g Gak
  obtain⟨n,hn⟩:=GaK g0.1
  have hn' :n<w.orders.length:=by omega
  have hO:atD (w.orders.map aF) g.1=some (aF w.orders[n]):=by
   rw[hn,dm,Gal,Gaa hn'];rfl
  have ok:=W.oo w.orders[n] (GaB hn')
  have ed:=pA (h:=g.2.1) ok.du
  have hz:(kvT ts).length<1000:=by unfold kvT;rw[Gah];simp at hl;omega
  have ev:=MF (A:=A) (B:=B) (C:=C) (G:=G) (ts:=ts) (n:=g.1) (h:=g.2.1) (a:=g.2.2) (k:=0) (x4:=x4) hO (dZ _ ok.ti) ed hz
  have es:twU ts g.1 (r9 w.orders[n].jg g.2.1)=cT w.orders ts g:=by
   unfold cT
   rw[hn,GaX,Gaa hn']
   rfl
  rw[es] at ev
  have ln:(cT w.orders ts g).length≤ts.length+1:=by
   rw[←es]
   exact BM _ _ _
  obtain⟨y3,y4,e⟩:=BN W (A:=A) (B:=B) (C:=C) (G:=G) gv (cT w.orders ts g) (some (.sh (trD g))) (some (.sh (jf (r9 w.orders[n].jg g.2.1)))) (λt ht=>hg t (Gaf _ ht)) (by simp at hl;omega)
  refine⟨y3,y4, ?_⟩
  rw[Gaq,GbR]
  have ev' :bX [some (.sh (.tup [.tup A,.tup B,.tup C,.tup (w.orders.map aF)])),some (.sh (.tup G)),some (.own (.dT (kvT ts))),some (.sh (trD g)),x4]=_:=ev
  have td:D.tup [.int g.1,.int g.2.1,.int g.2.2]=trD g:=rfl
  rw[td] at ev'
  generalize trD g=d at*
  simp only[forL,gN,GaU,GaV,Option.bind_some,ev']
  exact e
noncomputable def twF(ts:List Tr):List Flt:=(ts.filter λt=>decide (1<t.2.2)).map λt=>("twice",[t.1,t.2.1])
theorem HL(ts:List Tr):cn (gT [0,1]) (bq gtB (vE 1) (kE (.int 1))) (bI (a5 (kE (.str "twice")) (a5 (ixE (vE 0) (kE (.int 0))) (a5 (ixE (vE 0) (kE (.int 1))) ao)))) (bM (kvT ts)) [none,none]=some ((twF ts).map aw):=by
 rw[jR]
 unfold twF
 rw[GaR]
 refine ma (g:=gT [0,1]) (λt:Tr=>D.tup [.tup [.int t.1,.int t.2.1],.int t.2.2]) (λenv=>∃y z,env=[y,z]) (λt=>decide (1<t.2.2)) (aw∘λt:Tr=>("twice",[t.1,t.2.1])) ts _ ⟨none,none,rfl⟩ ?_
 rintro t ht env ⟨y,z,rfl⟩
 refine⟨[some (.sh (.tup [.int t.1,.int t.2.1])),some (.sh (.int t.2.2))],by simp,⟨_,_,rfl⟩,by simp,λ_=> ⟨.c, ?_,rfl⟩⟩
 simp[ah,aw]
theorem Ki{wd:D}{G R:List D}{kv:List (List Key×D)}{y3 y4:Option Slot}(h1:forL (gN 3) bX G [some (.sh wd),some (.sh (.tup G)),some (.own (.dT [])),none,none]=some (.nx [some (.sh wd),some (.sh (.tup G)),some (.own (.dT kv)),y3,y4]))(hz:(bM kv).length≤16777216)
  (hc:cn (gT [0,1]) (bq gtB (vE 1) (kE (.int 1))) (bI (a5 (kE (.str "twice")) (a5 (ixE (vE 0) (kE (.int 0))) (a5 (ixE (vE 0) (kE (.int 1))) ao)))) (bM kv) [none,none]=some R)(im:aN R=true):dW [wd,.tup G]=some (.lst R):=by
 refine bh rfl ?_
 unfold g9
 refine(av (e:=[some (.sh wd),some (.sh (.tup G)),some (.own (.dT [])),none,none]) (by simp[bz])).trans ?_
 refine(av (e:=[some (.sh wd),some (.sh (.tup G)),some (.own (.dT kv)),y3,y4]) (by simp[-forL,h1])).trans ?_
 simp[-cn,ah,DL.compEnv,fJ,hz,hc,im]
theorem HM{w:World}{gv:List Tr}(W:bQ w)(hg:j8 w.orders.length gv)(hl:gv.length<64):dW [bc w,.tup (gv.map trD)]=some (.lst ((twF (gv.foldl (cT w.orders) [])).map aw))∧(gv.foldl (cT w.orders) []).length<64:=by
 have ln:∀(gv ts:List Tr),(gv.foldl (cT w.orders) ts).length≤ts.length+gv.length:=by
  intro gv
  induction gv with
  |nil=>intro ts;simp
  |cons g gv ih=>
   intro ts
   rw[GbR]
   have h1:=ih (cT w.orders ts g)
   have h2:(cT w.orders ts g).length≤ts.length+1:=by
    exact BM _ _ _
   rw[GaF]
   omega
 have l2:=ln gv []
 simp only[Gcs,GbJ] at l2
 obtain⟨y3,y4,e⟩:=BN W (A:=w.cD.map dw) (B:=w.aI.map b6) (C:=w.bC.map trD) (G:=gv.map trD) gv [] none none hg (by simp;omega)
 have hz:(bM (kvT (gv.foldl (cT w.orders) []))).length≤16777216:=by rw[jR,Gah];omega
 exact⟨Ki e hz (HL _) (gy _),by omega⟩
noncomputable def bf(ts:List Tr)(b:Tr):List Tr:=oS (oS ts b.1 b.2.1 b.2.2) b.2.1 b.1 b.2.2
theorem Kj{ts:List Tr}{b:Tr}{B:List D}(hz:ts.length<1000):cW [some (.sh (.tup B)),some (.own (.dT (kvT ts))),some (.sh (trD b))]=some (.nx [some (.sh (.tup B)),some (.own (.dT (kvT (bf ts b)))),some (.sh (trD b))]):=by
 obtain⟨x,y,v⟩:=b
 have p1:=nq ts x y v
 have p2:=nq (oS ts x y v) y x v
 have l1:=nW ts x y v
 have z1:(kvT ts).length<16777216:=by unfold kvT;rw[Gah];omega
 have z2:(kvT (oS ts x y v)).length<16777216:=by unfold kvT;rw[Gah];omega
 unfold cW bf trD
 dsimp only
 rw[←p2]
 generalize hk:kvT (oS ts x y v)=k1 at*
 generalize kvT ts=k0 at*
 refine(av (e:=[some (.sh (.tup B)),some (.own (.dT k1)),some (.sh (.tup [.int x,.int y,.int v]))]) (by simp[putD,keyOf,z1,ah,p1])).trans ?_
 simp[putD,keyOf,z2,ah]
theorem wB{B:List D}:∀(bs ts:List Tr) (x2:Option Slot),ts.length+2*bs.length<1000→∃y2,forL (gN 2) cW (bs.map trD) [some (.sh (.tup B)),some (.own (.dT (kvT ts))),x2]=some (.nx [some (.sh (.tup B)),some (.own (.dT (kvT (bs.foldl bf ts)))),y2])
 |[],ts,x2,_=> ⟨x2,by simp⟩
 |b::bs,ts,x2,hl=>by
  rw[GaF] at hl
  have ev:=Kj (ts:=ts) (b:=b) (B:=B) (by omega)
  have l1:(bf ts b).length≤ts.length+2:=by
   unfold bf
   have:=nW ts b.1 b.2.1 b.2.2
   have:=nW (oS ts b.1 b.2.1 b.2.2) b.2.1 b.1 b.2.2
   omega
  obtain⟨y2,e⟩:=wB (B:=B) bs (bf ts b) (some (.sh (trD b))) (by omega)
  refine⟨y2, ?_⟩
  rw[Gaq,GbR]
  generalize trD b=d at*
  simp only[forL,gN,GaU,GaV,Option.bind_some,ev]
  exact e
theorem HP(ts:List Tr):aN ((kvT ts).map λx=>x.snd)=true:=by
 unfold kvT
 rw[GaR]
 exact gh (λ_=>rfl) ts
theorem Kk{bs:List Tr}(hl:bs.length≤12):fg [.tup (bs.map trD)]=some (.dT (kvT (bs.foldl bf []))):=by
 obtain⟨y2,e⟩:=wB (B:=bs.map trD) bs [] none (by simp;omega)
 refine bh rfl ?_
 unfold ff
 refine(av (e:=[some (.sh (.tup (bs.map trD))),some (.own (.dT (kvT []))),none]) (by simp[bz,kvT])).trans ?_
 have im:=HP (bs.foldl bf [])
 generalize bs.map trD=B at*
 generalize kvT (bs.foldl bf [])=kv at*
 refine(av (e:=[some (.sh (.tup B)),some (.own (.dT kv)),y2]) (by simp[-forL,e])).trans ?_
 simp[im]
noncomputable def si(gs:List Tr)(a b:Order):Int:=if a.bO=b.bO then nj gs a.bG b.bG else 0
theorem oT{gs:List Tr}{a b:Order}:gC [.dT (kvT gs),aF a,aF b]=some (.int (si gs a b)):=by
 have l:=wA gs a.bG b.bG
 refine bh rfl ?_
 unfold gB si nj
 have a1:ixD (aF a) (.int 1)=some (.int a.bO):=rfl
 have a2:ixD (aF a) (.int 2)=some (.int a.bG):=rfl
 have b1:ixD (aF b) (.int 1)=some (.int b.bO):=rfl
 have b2:ixD (aF b) (.int 2)=some (.int b.bG):=rfl
 generalize aF a=A at*
 generalize aF b=B at*
 generalize kvT gs=kv at*
 by_cases c:a.bO=b.bO
 ·rw[Gag c]
  refine(av (e:=[some (.sh (.dT kv)),some (.sh A),some (.sh B)]) (by simp[bz,a1,b1,c,neB])).trans ?_
  cases hf:gs.find? (atT a.bG b.bG) with
  |none=>rw[hf] at l;simp at l;simp[a2,b2,l,keyOf,ah]
  |some t=>rw[hf] at l;simp at l;simp[a2,b2,l,keyOf,ah]
 ·rw[Gae c]
  refine BJ ?_
  simp[bz,a1,b1,c,neB]
noncomputable def mk2(p:Int×Int):D:= .tup [.int p.1,.int p.2]
noncomputable def un2:D→Int×Int
 | .tup [.int a,.int b]=>(a,b)
 |_=>(0,0)
theorem MG(p:Int×Int):un2 (mk2 p)=p:=rfl
theorem BO(l:List (Int×Int)):aN (l.map mk2)=true:=by
 induction l with
 |nil=>rfl
 |cons a l ih=>simp[mk2] at ih⊢;exact ih
theorem Fu(l:List (Int×Int)):keysOk (l.map mk2)=true:=by
 have h1:(l.map mk2).all (mq 1)=true:=by
  rw[Gby,Gat]
  intro p _
  simp[mk2,mq,tyD,mj]
 have h2:((l.map mk2).all λx=>(l.map mk2).all λy=>vB x y)=true:=by
  rw[Gby,Gat]
  intro p _
  simp only[GbU]
  rw[Gby,Gat]
  intro q _
  simp[mk2,vB,mw,tyD,aZ]
 unfold keysOk
 rw[h1,h2];simp
theorem Km{p q:Int×Int}(h:p.1<q.1):ltC (DL.code (mk2 p)) (DL.code (mk2 q))=true:=by
 have e:¬p.1=q.1:=by omega
 simp[mk2,DL.code,aZ,ltC,fu,ltI,e,h]
theorem wC(ms:List (Int×Int)):∃rows:List (Int×Int),cB (ms.map mk2)=rows.map mk2∧rows.Perm ms∧rows.Pairwise λa b=>a.1≤b.1:=by
 have hp:=fM (ms.map mk2)
 have hs:=fU (ms.map mk2)
 have all:∀x∈cB (ms.map mk2),∃p,x=mk2 p:=λx hx=>by
  obtain⟨p,_,e⟩:=GaI.mp (hp.mem_iff.mp hx)
  exact⟨p,e.symm⟩
 have e:cB (ms.map mk2)=((cB (ms.map mk2)).map un2).map mk2:=by
  rw[GaR]
  conv=>lhs;rw[←Gch (cB (ms.map mk2))]
  apply GaQ
  intro x hx
  obtain⟨p,rfl⟩:=all x hx
  rfl
 refine⟨(cB (ms.map mk2)).map un2,e, ?_, ?_⟩
 ·have:=Gdc un2 hp
  rw[GaR] at this
  have e2:ms.map (un2∘mk2)=ms:=by
   conv=>rhs;rw[←Gch ms]
   exact GaQ λp _=>MG p
  rw[e2] at this
  exact this
 ·rw[e] at hs
  unfold fK at hs
  rw[GcY] at hs
  refine hs.imp λ{a b} h=> ?_
  by_cases c:b.1<a.1
  ·rw[Km c] at h;cases h
  ·omega
noncomputable def sm(f:Nat→Int):Nat→Int
 |0=>0
 |n+1=>sm f n+f n
theorem BP{α:Type}(w:α→Int)(d:α)(l:List α):∀k,k≤l.length→sm (λi=>w (l[i]?.getD d)) k=((l.take k).map w).sum
 |0,_=>by simp[sm]
 |k+1,h=>by
  rw[sm,BP w d l k (by omega),GbN (by omega),GaJ,List.sum_append]
  simp[show k<l.length by omega]
theorem Fv{f a:Nat→Int}{g k:Nat}(hgk:g≤k+1)(h1:∀i,i<g→f i=0)(h2:∀i,g≤i→i≤k→f i=a i)(h3:∀i,k<i→f i=0):∀n,sm f n=if n≤g then 0 else if n≤k+1 then sm a n -sm a g else sm a (k+1)-sm a g
 |0=>by simp[sm]
 |n+1=>by
  rw[sm,Fv hgk h1 h2 h3 n]
  by_cases c1:n+1≤g
  ·rw[Gag (by omega),Gag c1,h1 n (by omega)];rfl
  ·rw[Gae c1]
   by_cases c2:n+1≤k+1
   ·rw[Gag c2,h2 n (by omega) (by omega)]
    by_cases c3:n≤g
    ·have e:n=g:=by omega
     subst e
     rw[Gag c3,sm];omega
    ·rw[Gae c3,Gag (by omega),sm];omega
   ·rw[Gae c2,h3 n (by omega)]
    by_cases c3:n≤g
    ·have e:n=k+1:=by omega
     have e2:g=k+1:=by omega
     rw[Gag c3,e2];omega
    ·rw[Gae c3]
     by_cases c4:n≤k+1
     ·have e:n=k+1:=by omega
      rw[Gag c4,e];omega
     ·rw[Gae c4];omega
section
variable(rows:List (Int×Int))(H:Int)
noncomputable def hr(i:Nat):Int:=(rows[i]?.getD (0,0)).1
noncomputable def am(i:Nat):Int:=(rows[i]?.getD (0,0)).2
noncomputable def wt(H h:Int)(p:Int×Int):Int:=if h -H<p.1∧p.1≤h then p.2 else 0
noncomputable def W(h:Int):Int:=(rows.map (wt H h)).sum
end
variable{rows:List (Int×Int)}{H:Int}
theorem tJ(hs:rows.Pairwise λa b=>a.1≤b.1){i j:Nat}(h:i≤j)(hj:j<rows.length):hr rows i≤hr rows j:=by
 unfold hr
 have hi:i<rows.length:=by omega
 simp only[Gaa hi,Gaa hj,Option.getD_some]
 rcases Gdt h with e|e
 ·subst e;exact GbC _
 ·exact Gcf.mp hs i j hi hj e
theorem MH(hs:rows.Pairwise λa b=>a.1≤b.1){g k:Nat}(hk:k<rows.length)(hgk:g≤k)(h1:∀i,i<g→hr rows i≤hr rows k -H)(h2:hr rows k -H<hr rows g)(h3:k+1=rows.length∨hr rows k<hr rows (k+1)):
  W rows H (hr rows k)=sm (am rows) (k+1)-sm (am rows) g:=by
 have e:=BP (wt H (hr rows k)) (0,0) rows rows.length (Gap _)
 rw[Gde] at e
 unfold W
 rw[←e]
 have cut:=Fv (f:=λi=>if i<rows.length then wt H (hr rows k) (rows[i]?.getD (0,0)) else 0) (a:=am rows) (g:=g) (k:=k) (by omega)
  (λi hi=>by
   show(if i<rows.length then wt H (hr rows k) (rows[i]?.getD (0,0)) else 0)=_
   rw[Gag (by omega)]
   unfold wt
   have:=h1 i hi
   unfold hr at this⊢
   rw[Gae (by omega)])
  (λi i1 i2=>by
   show(if i<rows.length then wt H (hr rows k) (rows[i]?.getD (0,0)) else 0)=_
   rw[Gag (by omega)]
   unfold wt
   have a1:=tJ hs i1 (by omega)
   have a2:=tJ hs i2 hk
   unfold hr at a1 a2 h2⊢
   rw[Gag ⟨by omega,a2⟩];rfl)
  (λi hi=>by
   show(if i<rows.length then wt H (hr rows k) (rows[i]?.getD (0,0)) else 0)=_
   split
   ·rename_i hl
    have a1:hr rows (k+1)≤hr rows i:=tJ hs (by omega) hl
    rcases h3 with h3|h3
    ·omega
    ·unfold wt
     unfold hr at a1 h3⊢
     rw[Gae (by omega)]
   ·rfl) rows.length
 rw[Gae (by omega)] at cut
 have same:∀n,n≤rows.length→sm (λi=>if i<rows.length then wt H (hr rows k) (rows[i]?.getD (0,0)) else 0) n=sm (λi=>wt H (hr rows k) (rows[i]?.getD (0,0))) n:=by
  intro n
  induction n with
  |zero=>intro _;rfl
  |succ n ih=>intro hn;rw[sm,sm,ih (by omega),Gag (by omega)]
 rw[←same _ (Gap _),cut]
 split
 ·have e2:rows.length=k+1:=by omega
  rw[e2]
 ·rfl
noncomputable def oU(ms:D)(H:Int)(R:List D)(F:List D)(total gone k:Int)(row:D):DL.Env:=[some (.sh ms),some (.sh (.int H)),some (.lok (.lst R)),some (.own (.lst F)),some (.sh (.int total)),some (.sh (.int gone)),some (.sh (.int k)),some (.sh row)]
theorem rf{g:Nat}(hg:g<rows.length):atD (rows.map mk2) (g:Int)=some (.tup [.int (hr rows g),.int (am rows g)]):=by
 rw[dm,Gal,Gaa hg]
 unfold hr am
 simp[mk2,hg]
theorem BQ{ms:D}{R F:List D}{total gone k h a h' a' :Int}(e:atD R gone=some (.tup [.int h',.int a'])):fS (oU ms H R F total gone k (.tup [.int h,.int a]))=some (decide (h' ≤h -H)):=by
 unfold fS oU
 simp[e]
theorem HQ{ms:D}{R F:List D}{total gone k h a h' a' :Int}(e:atD R gone=some (.tup [.int h',.int a'])):iI (oU ms H R F total gone k (.tup [.int h,.int a]))=some (.nx (oU ms H R F (total -a') (gone+1) k (.tup [.int h,.int a]))):=by
 unfold iI oU
 simp[e]
theorem Fw{ms:D}{F:List D}{k:Nat}{kk a:Int}(hH:1≤H)(hk:k<rows.length):∀(m gone fuel:Nat) (total:Int),k -gone=m→gone≤k→m<fuel→∃g,gone≤g∧g≤k∧(∀i,gone≤i→i<g→hr rows i≤hr rows k -H)∧hr rows k -H<hr rows g∧
  gX fS iI fuel (oU ms H (rows.map mk2) F total gone kk (.tup [.int (hr rows k),.int a]))=some (.nx (oU ms H (rows.map mk2) F (total -(sm (am rows) g -sm (am rows) gone)) g kk (.tup [.int (hr rows k),.int a]))):=by
 intro m
 induction m with
 |zero=>
  intro gone fuel total hm hg hf
  have e:gone=k:=by omega
  subst e
  obtain⟨f,rfl⟩:∃f,fuel=f+1:=⟨fuel -1,by omega⟩
  refine⟨gone,Gap _,Gap _,λi h1 h2=>by omega,by omega, ?_⟩
  unfold gX
  rw[BQ (rf hk)]
  have c:¬hr rows gone≤hr rows gone -H:=by omega
  simp[c]
 |succ m ih=>
  intro gone fuel total hm hg hf
  obtain⟨f,rfl⟩:∃f,fuel=f+1:=⟨fuel -1,by omega⟩
  have hgl:gone<rows.length:=by omega
  unfold gX
  rw[BQ (rf hgl)]
  by_cases c:hr rows gone≤hr rows k -H
  ·obtain⟨g,q1,q2,q3,q4,q5⟩:=ih (gone+1) f (total -am rows gone) (by omega) (by omega) (by omega)
   refine⟨g,by omega,q2,λi h1 h2=> ?_,q4, ?_⟩
   ·rcases Gdt h1 with e|e
    ·subst e;exact c
    ·exact q3 i e h2
   ·simp only[c,decide_true,Option.bind_some,Gbq]
    rw[HQ (rf hgl)]
    simp only[Option.bind_some]
    have e1:((gone:Int)+1)=((gone+1:Nat):Int):=by omega
    rw[e1,q5,sm]
    have e2:total -am rows gone -(sm (am rows) g -(sm (am rows) gone+am rows gone))=total -(sm (am rows) g -sm (am rows) gone):=by omega
    rw[e2]
  ·refine⟨gone,Gap _,hg,λi h1 h2=>by omega,by omega, ?_⟩
   simp[c]
noncomputable def gk(rows:List (Int×Int))(j:Nat):Bool:=decide (j+1=rows.length)||decide (hr rows j<hr rows (j+1))
noncomputable def fnd(rows:List (Int×Int))(H:Int)(m:Nat):List (Int×Int):=((List.range m).filter (gk rows)).map λj=>(hr rows j,W rows H (hr rows j))
theorem wD{m:Nat}:fnd rows H (m+1)=fnd rows H m++(if gk rows m then[(hr rows m,W rows H (hr rows m))] else[]):=by
 unfold fnd
 rw[List.range_succ,Gcw,GaJ]
 congr 1
 cases h:gk rows m<;>simp[h]
theorem BR{m:Nat}:(fnd rows H m).length≤m:=by
 unfold fnd
 rw[Gah]
 exact Gbt (Gdj _ _) (by simp)
theorem HR{ms:D}{R F:List D}{total gone kk h a total' g' n:Int}{last:Bool}(hw:gX fS iI 100000 (oU ms H R F (total+a) gone kk (.tup [.int h,.int a]))=some (.nx (oU ms H R F total' g' kk (.tup [.int h,.int a]))))(hz:F.length<1000)(hn:(R.length:Int)=n)
  (hc:(kk+1=n∧last=true)∨(kk+1≠n∧∃h2 a2,atD R (kk+1)=some (.tup [.int h2,.int a2])∧last=decide (h<h2))):
  cX (oU ms H R F total gone kk (.tup [.int h,.int a]))=some (.nx (oU ms H R (if last then F++[.tup [.int h,.int total']] else F) total' g' kk (.tup [.int h,.int a]))):=by
 have z:F.length<16777216:=by omega
 unfold oU at*
 unfold cX ui
 rcases hc with⟨c,rfl⟩| ⟨c,h2,a2,e,rfl⟩
 ·simp[hw,hn,c,ah,z]
 ·by_cases c2:h<h2
  ·simp[hw,hn,c,e,c2,ah,z]
  ·simp[hw,hn,c,e,c2]
theorem Fx{ms:D}(hH:1≤H)(hs:rows.Pairwise λa b=>a.1≤b.1)(hl:rows.length<64):∃(y4 y5 y6 y7:Option Slot),forL (gT [6,7]) cX (fA 0 (rows.map mk2)) [some (.sh ms),some (.sh (.int H)),some (.lok (.lst (rows.map mk2))),some (.own (.lst [])),some (.sh (.int 0)),some (.sh (.int 0)),none,none]=
  some (.nx [some (.sh ms),some (.sh (.int H)),some (.lok (.lst (rows.map mk2))),some (.own (.lst ((fnd rows H rows.length).map mk2))),y4,y5,y6,y7]):=by
 obtain⟨e,h1,gone,total,y6,y7,h2,h3,h4,rfl⟩:=fj (g:=gT [6,7]) (body:=cX) (λm env=>∃(gone:Nat) (total:Int) (y6 y7:Option Slot),gone≤m∧total=sm (am rows) m -sm (am rows) gone∧(∀i,i<gone→∀j,m≤j+1→j<rows.length→hr rows i≤hr rows j -H)∧
   env=[some (.sh ms),some (.sh (.int H)),some (.lok (.lst (rows.map mk2))),some (.own (.lst ((fnd rows H m).map mk2))),some (.sh (.int total)),some (.sh (.int gone)),y6,y7]) (fA 0 (rows.map mk2)) 0
  [some (.sh ms),some (.sh (.int H)),some (.lok (.lst (rows.map mk2))),some (.own (.lst [])),some (.sh (.int 0)),some (.sh (.int 0)),none,none] ⟨0,0,none,none,Gap _,by simp[sm],λi hi=>by omega,rfl⟩ (by
   rintro k d e hd ⟨gone,total,y6,y7,h2,h3,h4,rfl⟩
   rw[jL,Gal] at hd
   cases hk:rows[k]? with
   |none=>rw[hk] at hd;cases hd
   |some p=>
    rw[hk] at hd
    have hkl:k<rows.length:=(Gac.mp hk).1
    simp only[GcI,Gcz] at hd
    subst hd
    rw[GbJ] at h2 h3 h4⊢
    have ep:mk2 p= .tup [.int (hr rows k),.int (am rows k)]:=by
     unfold mk2 hr am;rw[hk];rfl
    obtain⟨g,q1,q2,q3,q4,q5⟩:=Fw (rows:=rows) (ms:=ms) (F:=(fnd rows H k).map mk2) (kk:=(k:Int)) (a:=am rows k) hH hkl (k -gone) gone 100000 (total+am rows k) rfl h2 (by omega)
    have allg:∀i,i<g→hr rows i≤hr rows k -H:=λi hi=>by
     by_cases c:i<gone
     ·exact h4 i c k (by omega) hkl
     ·exact q3 i (by omega) hi
    have tot:total+am rows k -(sm (am rows) g -sm (am rows) gone)=sm (am rows) (k+1)-sm (am rows) g:=by
     rw[h3,sm];omega
    rw[tot] at q5
    have hlen:((rows.map mk2).length:Int)=(rows.length:Int):=by simp
    have ev:=HR (last:=gk rows k) q5 (GcM (by rw[Gah];exact BR) (by omega)) hlen (by
     by_cases c:k+1=rows.length
     ·exact .inl ⟨by omega,by unfold gk;simp[c]⟩
     ·refine .inr ⟨by omega,hr rows (k+1),am rows (k+1), ?_,by unfold gk;simp[c]⟩
      have:=rf (rows:=rows) (g:=k+1) (by omega)
      rw[show((k:Int)+1)=((k+1:Nat):Int) by omega]
      exact this)
    refine⟨_,_, ?_,ev,g,_,some (.sh (.int (k:Int))),some (.sh (.tup [.int (hr rows k),.int (am rows k)])),by omega,rfl,λi hi j hj hjl=> ?_, ?_⟩
    ·rw[ep];rfl
    ·have:=allg i hi
     have:=tJ hs (i:=k) (j:=j) (by omega) hjl
     omega
    ·rw[wD]
     unfold oU
     cases hL:gk rows k with
     |false=>simp
     |true=>
      have hw:=MH (H:=H) hs hkl q2 allg q4 (by
       unfold gk at hL
       rw[GaW] at hL
       exact hL.imp Gaw Gaw)
      simp[mk2,hw])
 rw[jK,Gah,GbJ] at h1
 exact⟨_,_,_,_,h1⟩
theorem nr{ms:List (Int×Int)}(hl:ms.length<64):sortedS [.lst (ms.map mk2)]=some ⟨.tn,.lst (cB (ms.map mk2))⟩:=by
 have h1:((ms.map mk2).length<64):=by simpa using hl
 unfold sortedS one kQ
 simp only[Option.bind_some]
 rw[Fu,GaG h1];rfl
theorem Fy{M R F:List D}{y4 y5 y6 y7:Option Slot}(es:sortedS [.lst M]=some ⟨.tn,.lst R⟩)(h1:forL (gT [6,7]) cX (fA 0 R) [some (.sh (.lst M)),some (.sh (.int H)),some (.lok (.lst R)),some (.own (.lst [])),some (.sh (.int 0)),some (.sh (.int 0)),none,none]=
  some (.nx [some (.sh (.lst M)),some (.sh (.int H)),some (.lok (.lst R)),some (.own (.lst F)),y4,y5,y6,y7]))(im:aN F=true):jI [.lst M,.int H]=some (.lst F):=by
 unfold jI qX
 simp[-forL,-fA,es,h1,ah,im]
theorem mE:∀(a b:List Int),a.Pairwise (λx y=>x<y)→b.Pairwise (λx y=>x<y)→(∀x,x∈a↔x∈b)→a=b
 |[],[],_,_,_=>rfl
 |[],y::b,_,_,h=>absurd ((h y).mpr Gak) (by simp)
 |x::a,[],_,_,h=>absurd ((h x).mp Gak) (by simp)
 |x::a,y::b,ha,hb,h=>by
  have ha' :=Gbl.mp ha
  have hb' :=Gbl.mp hb
  have exy:x=y:=by
   rcases Gay.mp ((h x).mp Gak) with e|e
   ·exact e
   ·rcases Gay.mp ((h y).mpr Gak) with e2|e2
    ·exact e2.symm
    ·have h3:=hb'.1 x e
     have h4:=ha'.1 y e2
     omega
  subst exy
  congr 1
  refine mE a b ha'.2 hb'.2 λz=> ⟨λhz=> ?_,λhz=> ?_⟩
  ·rcases Gay.mp ((h z).mp (Gaf _ hz)) with e|e
   ·have:=ha'.1 z hz;omega
   ·exact e
  ·rcases Gay.mp ((h z).mpr (Gaf _ hz)) with e|e
   ·have:=hb'.1 z hz;omega
   ·exact e
theorem Fz:∀(ns ks:List Int) (x:Int),x∈ns.foldl dd1 ks↔x∈ks∨x∈ns
 |[],ks,x=>by simp
 |n::ns,ks,x=>by
  rw[GbR,Fz ns (dd1 ks n) x]
  unfold dd1
  split
  ·rename_i c
   constructor
   ·rintro(h|h)
    ·exact .inl h
    ·exact .inr (Gaf _ h)
   ·rintro(h|h)
    ·exact .inl h
    ·rcases Gay.mp h with rfl|h
     ·exact .inl c
     ·exact .inr h
  ·simp only[Gax,Gay,Gcl,or_false]
   constructor
   ·rintro((h|h)|h)
    ·exact .inl h
    ·exact .inr (.inl h)
    ·exact .inr (.inr h)
   ·rintro(h|h|h)
    ·exact .inl (.inl h)
    ·exact .inl (.inr h)
    ·exact .inr h
theorem wF:∀(ns ks:List Int),ks.Nodup→(ns.foldl dd1 ks).Nodup
 |[],ks,h=>h
 |n::ns,ks,h=>by
  rw[GbR]
  refine wF ns _ ?_
  unfold dd1
  split
  ·exact h
  ·rename_i c
   rw[GcX]
   refine⟨h,by simp,λa ha b hb=> ?_⟩
   rw[Gct] at hb
   subst hb
   exactλe=>c (e▸ha)
theorem FA:∀(ns ks:List Int),(ns.foldl dd1 ks).length≤ks.length+ns.length
 |[],ks=>by simp
 |n::ns,ks=>by
  rw[GbR]
  have h:=FA ns (dd1 ks n)
  have h2:(dd1 ks n).length≤ks.length+1:=by unfold dd1;split<;>simp
  rw[GaF]
  omega
theorem wG{a b:Int}(h:a<b):ltC (DL.code (.int a)) (DL.code (.int b))=true:=by
 have e:¬a=b:=by omega
 simp[DL.code,aZ,ltC,fu,ltI,e,h]
theorem D9(l:List Int):∃s:List Int,s.Perm l∧s.Pairwise (λa b=>a≤b)∧cB (l.map D.int)=s.map D.int:=by
 have hp:=fM (l.map D.int)
 have hs:=fU (l.map D.int)
 have all:∀{ds:List D},(∀d∈ds,∃i:Int,d= .int i)→∃s:List Int,ds=s.map D.int:=by
  intro ds
  induction ds with
  |nil=>exactλ_=> ⟨[],rfl⟩
  |cons d ds ih=>
   intro h
   obtain⟨i,rfl⟩:=h d Gak
   obtain⟨s,rfl⟩:=ih λx hx=>h x (Gaf _ hx)
   exact⟨i::s,rfl⟩
 obtain⟨s,e⟩:=all (ds:=cB (l.map D.int)) λd hd=>by
  obtain⟨i,_,rfl⟩:=GaI.mp (hp.mem_iff.mp hd)
  exact⟨i,rfl⟩
 rw[e] at hp hs
 refine⟨s, ?_, ?_,e⟩
 ·have un:∀x:List Int,(x.map D.int).map (λd=>match d with| .int i=>i|_=>0)=x:=by
   intro x
   rw[GaR]
   exact(GaQ λ_ _=>rfl).trans (Gch x)
  have:=Gdc (λd=>match d with|D.int i=>i|_=>0) hp
  rw[un,un] at this
  exact this
 ·unfold fK at hs
  rw[GcY] at hs
  refine hs.imp λ{a b} h=> ?_
  by_cases c:b<a
  ·rw[wG c] at h;cases h
  ·omega
theorem FC(ns:List Int):∃S:List Int,cB ((ddF ns).map D.int)=S.map D.int∧S.Pairwise (λa b=>a<b)∧(∀x,x∈S↔x∈ns)∧S.length≤ns.length:=by
 obtain⟨s,h1,h2,h3⟩:=D9 (ddF ns)
 have nd:s.Nodup:=h1.nodup_iff.mpr (wF ns [] List.nodup_nil)
 have mem:∀x,x∈s↔x∈ns:=λx=>by rw[h1.mem_iff];unfold ddF;rw[Fz];simp
 refine⟨s,h3, ?_,mem, ?_⟩
 ·have:=h2.and nd
  exact this.imp λ{a b} h=>by
   have h1:=h.1
   have h2:a≠b:=h.2
   omega
 ·rw[h1.length_eq]
  have:=FA ns []
  simpa[ddF] using this
noncomputable def FD(ms:List (Int×Int))(H:Int)(S:List Int):List (Int×Int):=S.map λh=>(h,W ms H h)
theorem FE{l l' :List Int}(h:l.Perm l'):l.sum=l'.sum:=by
 induction h with
 |nil=>rfl
 |cons x _ ih=>simp[ih]
 |swap x y l=>simp;omega
 |trans _ _ h1 h2=>exact h1.trans h2
theorem Kn{ms:List (Int×Int)}(hp:rows.Perm ms)(h:Int):W rows H h=W ms H h:=by
 unfold W
 exact FE (Gdc _ hp)
theorem rh(hs:rows.Pairwise λa b=>a.1≤b.1):∀(m i:Nat),rows.length -i=m→i<rows.length→∃j,j<rows.length∧hr rows j=hr rows i∧gk rows j=true
 |0,i,hm,hi=>by omega
 |m+1,i,hm,hi=>by
  by_cases c:i+1=rows.length
  ·exact⟨i,hi,rfl,by unfold gk;simp[c]⟩
  ·by_cases c2:hr rows i<hr rows (i+1)
   ·exact⟨i,hi,rfl,by unfold gk;simp[c2]⟩
   ·obtain⟨j,h1,h2,h3⟩:=rh hs m (i+1) (by omega) (by omega)
    have:=tJ hs (i:=i) (j:=i+1) (by omega) (by omega)
    exact⟨j,h1,by rw[h2];omega,h3⟩
theorem HS{ms:List (Int×Int)}{S:List Int}(hs:rows.Pairwise λa b=>a.1≤b.1)(hp:rows.Perm ms)(hS:S.Pairwise λa b=>a<b)(hm:∀x,x∈S↔x∈ms.map (·.1)):fnd rows H rows.length=FD ms H S:=by
 have eT:((List.range rows.length).filter (gk rows)).map (hr rows)=S:=by
  refine mE _ _ ?_ hS λx=> ?_
  ·rw[GcY]
   have pr:((List.range rows.length).filter (gk rows)).Pairwise λi j=>i<j:=List.Pairwise.filter _ List.pairwise_lt_range
   refine(List.Pairwise.and_mem.mp pr).imp λ{i j} h=> ?_
   obtain⟨hi,hj,hij⟩:=h
   obtain⟨i1,i2⟩:=Gcq.mp hi
   obtain⟨j1,_⟩:=Gcq.mp hj
   have jl:=GbD.mp j1
   unfold gk at i2
   rw[GaW] at i2
   rcases i2 with i2|i2
   ·have:=Gaw i2;omega
   ·have a1:=Gaw i2
    have a2:=tJ hs (i:=i+1) (j:=j) (by omega) jl
    omega
  ·rw[hm,GaI,GaI]
   constructor
   ·rintro⟨j,hj,rfl⟩
    have jl:=GbD.mp (Gcq.mp hj).1
    exact⟨rows[j],hp.mem_iff.mp (GaB _),by unfold hr;simp[jl]⟩
   ·rintro⟨p,hp',rfl⟩
    obtain⟨i,hi,rfl⟩:=Gdq (hp.mem_iff.mpr hp')
    obtain⟨j,h1,h2,h3⟩:=rh hs (rows.length -i) i rfl hi
    refine⟨j,Gcq.mpr ⟨GbD.mpr h1,h3⟩, ?_⟩
    rw[h2]
    unfold hr
    simp[hi]
 unfold fnd FD
 rw[←eT,GaR]
 exact GaQ λj _=>by simp only[Function.comp];rw[Kn hp]
theorem FF{ms:D}{R F:List D}{total kk h a n:Int}{last:Bool}(hz:F.length<1000)(hn:(R.length:Int)=n)
  (hc:(kk+1=n∧last=true)∨(kk+1≠n∧∃h2 a2,atD R (kk+1)=some (.tup [.int h2,.int a2])∧last=decide (h<h2))):
  cX [some (.sh ms),some (.sh .non),some (.lok (.lst R)),some (.own (.lst F)),some (.sh (.int total)),some (.sh (.int 0)),some (.sh (.int kk)),some (.sh (.tup [.int h,.int a]))]=
   some (.nx [some (.sh ms),some (.sh .non),some (.lok (.lst R)),some (.own (.lst (if last then F++[.tup [.int h,.int (total+a)]] else F))),some (.sh (.int (total+a))),some (.sh (.int 0)),some (.sh (.int kk)),some (.sh (.tup [.int h,.int a]))]):=by
 have z:F.length<16777216:=by omega
 have hw:gX fS iI 100000 [some (.sh ms),some (.sh .non),some (.lok (.lst R)),some (.own (.lst F)),some (.sh (.int (total+a))),some (.sh (.int 0)),some (.sh (.int kk)),some (.sh (.tup [.int h,.int a]))]=some (.nx [some (.sh ms),some (.sh .non),some (.lok (.lst R)),some (.own (.lst F)),some (.sh (.int (total+a))),some (.sh (.int 0)),some (.sh (.int kk)),some (.sh (.tup [.int h,.int a]))]):=by
  have t:fS [some (.sh ms),some (.sh .non),some (.lok (.lst R)),some (.own (.lst F)),some (.sh (.int (total+a))),some (.sh (.int 0)),some (.sh (.int kk)),some (.sh (.tup [.int h,.int a]))]=some false:=by
   unfold fS
   simp
  unfold gX
  rw[t]
  simp
 unfold cX ui
 rcases hc with⟨c,rfl⟩| ⟨c,h2,a2,e,rfl⟩
 ·simp[hw,hn,c,ah,z]
 ·by_cases c2:h<h2
  ·simp[hw,hn,c,e,c2,ah,z]
  ·simp[hw,hn,c,e,c2]
theorem Dc{ms:D}(hH:∀p∈rows,∀q∈rows,q.1 -H<p.1)(hs:rows.Pairwise λa b=>a.1≤b.1)(hl:rows.length<64):∃(y4 y5 y6 y7:Option Slot),forL (gT [6,7]) cX (fA 0 (rows.map mk2)) [some (.sh ms),some (.sh .non),some (.lok (.lst (rows.map mk2))),some (.own (.lst [])),some (.sh (.int 0)),some (.sh (.int 0)),none,none]=
  some (.nx [some (.sh ms),some (.sh .non),some (.lok (.lst (rows.map mk2))),some (.own (.lst ((fnd rows H rows.length).map mk2))),y4,y5,y6,y7]):=by
 obtain⟨e,h1,total,y6,y7,h3,rfl⟩:=fj (g:=gT [6,7]) (body:=cX) (λm env=>∃(total:Int) (y6 y7:Option Slot),total=sm (am rows) m∧
   env=[some (.sh ms),some (.sh .non),some (.lok (.lst (rows.map mk2))),some (.own (.lst ((fnd rows H m).map mk2))),some (.sh (.int total)),some (.sh (.int 0)),y6,y7]) (fA 0 (rows.map mk2)) 0
  [some (.sh ms),some (.sh .non),some (.lok (.lst (rows.map mk2))),some (.own (.lst [])),some (.sh (.int 0)),some (.sh (.int 0)),none,none] ⟨0,none,none,by simp[sm],rfl⟩ (by
   rintro k d e hd ⟨total,y6,y7,h3,rfl⟩
   rw[jL,Gal] at hd
   cases hk:rows[k]? with
   |none=>rw[hk] at hd;cases hd
   |some p=>
    rw[hk] at hd
    have hkl:k<rows.length:=(Gac.mp hk).1
    simp only[GcI,Gcz] at hd
    subst hd
    rw[GbJ] at h3⊢
    have ep:mk2 p= .tup [.int (hr rows k),.int (am rows k)]:=by
     unfold mk2 hr am;rw[hk];rfl
    have hlen:((rows.map mk2).length:Int)=(rows.length:Int):=by simp
    have ev:=FF (ms:=ms) (R:=rows.map mk2) (F:=(fnd rows H k).map mk2) (total:=total) (kk:=(k:Int)) (h:=hr rows k) (a:=am rows k) (last:=gk rows k) (GcM (by rw[Gah];exact BR) (by omega)) hlen (by
     by_cases c:k+1=rows.length
     ·exact .inl ⟨by omega,by unfold gk;simp[c]⟩
     ·refine .inr ⟨by omega,hr rows (k+1),am rows (k+1), ?_,by unfold gk;simp[c]⟩
      have:=rf (rows:=rows) (g:=k+1) (by omega)
      rw[show((k:Int)+1)=((k+1:Nat):Int) by omega]
      exact this)
    refine⟨_,_, ?_,ev,total+am rows k,some (.sh (.int (k:Int))),some (.sh (.tup [.int (hr rows k),.int (am rows k)])),by rw[h3];rfl, ?_⟩
    ·rw[ep];rfl
    ·rw[wD]
     cases hL:gk rows k with
     |false=>simp
     |true=>
      have hr_in:∀i,i<rows.length→∃p∈rows,p.1=hr rows i:=λi hi=> ⟨rows[i],GaB _,by unfold hr;simp[hi]⟩
      have hw:=MH (H:=H) hs hkl (GbI k) (λi hi=>by omega) (by
       obtain⟨p,hp,e1⟩:=hr_in 0 (by omega)
       obtain⟨q,hq,e2⟩:=hr_in k hkl
       have:=hH p hp q hq
       omega) (by
       unfold gk at hL
       rw[GaW] at hL
       exact hL.imp Gaw Gaw)
      have tot:total+am rows k=W rows H (hr rows k):=by
       rw[hw,h3]
       show sm (am rows) k+am rows k=sm (am rows) (k+1)-sm (am rows) 0
       simp[sm]
      simp[mk2,tot])
 rw[jK,Gah,GbJ] at h1
 exact⟨_,_,_,_,h1⟩
theorem Dd{M R F:List D}{y4 y5 y6 y7:Option Slot}(es:sortedS [.lst M]=some ⟨.tn,.lst R⟩)(h1:forL (gT [6,7]) cX (fA 0 R) [some (.sh (.lst M)),some (.sh .non),some (.lok (.lst R)),some (.own (.lst [])),some (.sh (.int 0)),some (.sh (.int 0)),none,none]=
  some (.nx [some (.sh (.lst M)),some (.sh .non),some (.lok (.lst R)),some (.own (.lst F)),y4,y5,y6,y7]))(im:aN F=true):jI [.lst M,.non]=some (.lst F):=by
 unfold jI qX
 simp[-forL,-fA,es,h1,ah,im]
def HD(hd:D)(H:Int)(ms:List (Int×Int)):Prop:=(hd= .int H∧1≤H)∨(hd= .non∧∀p∈ms,∀q∈ms,q.1 -H<p.1)
theorem HD.perm{hd:D}{ms ms' :List (Int×Int)}(h:HD hd H ms)(hp:ms.Perm ms'):HD hd H ms' :=by
 rcases h with h| ⟨h1,h2⟩
 ·exact .inl h
 ·exact .inr ⟨h1,λp hp' q hq=>h2 p (hp.mem_iff.mpr hp') q (hp.mem_iff.mpr hq)⟩
theorem rm{hd:D}{ms ms' :List (Int×Int)}{S:List Int}(h:HD hd H ms)(hp:ms'.Perm ms)(hl:ms.length<64)(hS:S.Pairwise λa b=>a<b)(hm:∀x,x∈S↔x∈ms.map (·.1)):jI [.lst (ms'.map mk2),hd]=some (.lst ((FD ms H S).map mk2)):=by
 obtain⟨rows,e,hp2,hs⟩:=wC ms'
 have hp3:rows.Perm ms:=hp2.trans hp
 have hl2:rows.length<64:=by rw[hp3.length_eq];exact hl
 have es:=nr (ms:=ms') (by rw[hp.length_eq];exact hl)
 rw[e] at es
 rw[←HS hs hp3 hS hm]
 rcases h.perm hp3.symm with⟨rfl,hH⟩| ⟨rfl,hH⟩
 ·obtain⟨y4,y5,y6,y7,h⟩:=Fx (rows:=rows) (ms:= .lst (ms'.map mk2)) hH hs hl2
  exact Fy es h (BO _)
 ·obtain⟨y4,y5,y6,y7,h⟩:=Dc (rows:=rows) (ms:= .lst (ms'.map mk2)) hH hs hl2
  exact Dd es h (BO _)
noncomputable def gpF(os:List Order)(gs:List Tr)(r l:Int×Int):List Flt:=match os[r.2.toNat]?,os[l.2.toNat]? with
 |some a,some b=>if l.1 -r.1<si gs a b then[("gap",[r.2,r.1,l.2,l.1])] else[]
 |_,_=>[]
noncomputable def j9(os:List Order)(gs:List Tr)(w:Int)(r:Int×Int):List (Int×Int)→List Flt
 |[]=>[]
 |l::ls=>if l.1 -r.1≥w then[] else gpF os gs r l++j9 os gs w r ls
noncomputable def cj(os:List Order)(gs:List Tr)(w:Int):List (Int×Int)→List Flt
 |[]=>[]
 |r::rs=>j9 os gs w r rs++cj os gs w rs
theorem BS(os:List Order)(gs:List Tr)(r l:Int×Int):(gpF os gs r l).length≤1:=by
 unfold gpF
 split
 ·split<;>simp
 ·simp
theorem oV(os:List Order)(gs:List Tr)(w:Int)(r:Int×Int):∀ls,(j9 os gs w r ls).length≤ls.length
 |[]=>by simp[j9]
 |l::ls=>by
  unfold j9
  have h1:=oV os gs w r ls
  have h2:=BS os gs r l
  split
  ·simp
  ·simp;omega
theorem Ko{wd:D}{G R F:List D}{kv:List (List Key×D)}{w k r1 r2 l1 l2:Int}{x9:Option Slot}(c:l1 -r1≥w):
  bH [some (.sh wd),some (.sh (.tup G)),some (.own (.dT kv)),some (.sh (.int w)),some (.lok (.lst R)),some (.own (.lst F)),some (.sh (.int k)),some (.sh (.tup [.int r1,.int r2])),some (.sh (.tup [.int l1,.int l2])),x9]=
   some (.bk [some (.sh wd),some (.sh (.tup G)),some (.own (.dT kv)),some (.sh (.int w)),some (.lok (.lst R)),some (.own (.lst F)),some (.sh (.int k)),some (.sh (.tup [.int r1,.int r2])),some (.sh (.tup [.int l1,.int l2])),some (.sh (.int (l1 -r1)))]):=by
 unfold bH
 simp[c]
theorem Kp{A B C O G R F:List D}{kv:List (List Key×D)}{w k r1 r2 l1 l2 gb:Int}{o1 o2:D}{x9:Option Slot}(c:¬l1 -r1≥w)(h1:atD O r2=some o1)(h2:atD O l2=some o2)(eb:gC [.dT kv,o1,o2]=some (.int gb))(hz:F.length<100000):
  bH [some (.sh (.tup [.tup A,.tup B,.tup C,.tup O])),some (.sh (.tup G)),some (.own (.dT kv)),some (.sh (.int w)),some (.lok (.lst R)),some (.own (.lst F)),some (.sh (.int k)),some (.sh (.tup [.int r1,.int r2])),some (.sh (.tup [.int l1,.int l2])),x9]=
   some (.nx [some (.sh (.tup [.tup A,.tup B,.tup C,.tup O])),some (.sh (.tup G)),some (.own (.dT kv)),some (.sh (.int w)),some (.lok (.lst R)),some (.own (.lst (F++(if l1 -r1<gb then[D.tup [.str "gap",.int r2,.int r1,.int l2,.int l1]] else[])))),some (.sh (.int k)),some (.sh (.tup [.int r1,.int r2])),some (.sh (.tup [.int l1,.int l2])),some (.sh (.int (l1 -r1)))]):=by
 have z:F.length<16777216:=by omega
 unfold bH
 refine(av (e:=[some (.sh (.tup [.tup A,.tup B,.tup C,.tup O])),some (.sh (.tup G)),some (.own (.dT kv)),some (.sh (.int w)),some (.lok (.lst R)),some (.own (.lst F)),some (.sh (.int k)),some (.sh (.tup [.int r1,.int r2])),some (.sh (.tup [.int l1,.int l2])),some (.sh (.int (l1 -r1)))]) (by simp)).trans ?_
 have c' :l1 -r1<w:=by omega
 refine(av (e:=[some (.sh (.tup [.tup A,.tup B,.tup C,.tup O])),some (.sh (.tup G)),some (.own (.dT kv)),some (.sh (.int w)),some (.lok (.lst R)),some (.own (.lst F)),some (.sh (.int k)),some (.sh (.tup [.int r1,.int r2])),some (.sh (.tup [.int l1,.int l2])),some (.sh (.int (l1 -r1)))]) (by simp[c'])).trans ?_
 by_cases q:l1 -r1<gb
 ·simp[q,h1,h2,eb,z,ah]
 ·simp[q,h1,h2,eb]
theorem rn{w:World}{gs:List Tr}{wid k:Int}{A B C G R:List D}{r:Int×Int}(hr0:0≤r.2)(hr1:r.2<w.orders.length):∀(ls:List (Int×Int)) (fs:List Flt) (x8 x9:Option Slot),(∀l∈ls,0≤l.2∧l.2<w.orders.length)→fs.length+ls.length<100000→∃y8 y9,
  forL (gN 8) bH (ls.map mk2) [some (.sh (.tup [.tup A,.tup B,.tup C,.tup (w.orders.map aF)])),some (.sh (.tup G)),some (.own (.dT (kvT gs))),some (.sh (.int wid)),some (.lok (.lst R)),some (.own (.lst (fs.map aw))),some (.sh (.int k)),some (.sh (mk2 r)),x8,x9]=
   some (.nx [some (.sh (.tup [.tup A,.tup B,.tup C,.tup (w.orders.map aF)])),some (.sh (.tup G)),some (.own (.dT (kvT gs))),some (.sh (.int wid)),some (.lok (.lst R)),some (.own (.lst ((fs++j9 w.orders gs wid r ls).map aw))),some (.sh (.int k)),some (.sh (mk2 r)),y8,y9])
 |[],fs,x8,x9,_,_=> ⟨x8,x9,by simp[j9]⟩
 |l::ls,fs,x8,x9,hl,hz=>by
  rw[GaF] at hz
  by_cases c:l.1 -r.1≥wid
  ·have ev:=Ko (wd:= .tup [.tup A,.tup B,.tup C,.tup (w.orders.map aF)]) (G:=G) (R:=R) (F:=fs.map aw) (kv:=kvT gs) (w:=wid) (k:=k) (r1:=r.1) (r2:=r.2) (l1:=l.1) (l2:=l.2) (x9:=x9) c
   refine⟨some (.sh (mk2 l)),some (.sh (.int (l.1 -r.1))), ?_⟩
   unfold j9
   rw[Gag c,Gbb,Gaq]
   have e1:D.tup [.int r.1,.int r.2]=mk2 r:=rfl
   have e2:D.tup [.int l.1,.int l.2]=mk2 l:=rfl
   rw[e1,e2] at ev
   generalize mk2 l=ld at*
   simp only[forL,gN,GaU,GaV,Option.bind_some,ev]
  ·have l0:=hl l Gak
   obtain⟨n,hn⟩:=GaK hr0
   obtain⟨m,hm⟩:=GaK l0.1
   have hn' :n<w.orders.length:=by omega
   have hm' :m<w.orders.length:=by omega
   have h1:atD (w.orders.map aF) r.2=some (aF w.orders[n]):=by rw[hn,dm,Gal,Gaa hn'];rfl
   have h2:atD (w.orders.map aF) l.2=some (aF w.orders[m]):=by rw[hm,dm,Gal,Gaa hm'];rfl
   have eb:=oT (gs:=gs) (a:=w.orders[n]) (b:=w.orders[m])
   have ev:=Kp (A:=A) (B:=B) (C:=C) (G:=G) (R:=R) (F:=fs.map aw) (k:=k) (x9:=x9) c h1 h2 eb (by rw[Gah];omega)
   have eg:(if l.1 -r.1<si gs w.orders[n] w.orders[m] then[D.tup [.str "gap",.int r.2,.int r.1,.int l.2,.int l.1]] else[])=(gpF w.orders gs r l).map aw:=by
    unfold gpF
    rw[hn,hm,GaX,GaX,Gaa hn',Gaa hm']
    dsimp only
    split<;>rfl
   rw[eg,←GaJ] at ev
   have g1:=BS w.orders gs r l
   obtain⟨y8,y9,e⟩:=rn (A:=A) (B:=B) (C:=C) (G:=G) (R:=R) (gs:=gs) (wid:=wid) (k:=k) hr0 hr1 ls (fs++gpF w.orders gs r l) (some (.sh (mk2 l))) (some (.sh (.int (l.1 -r.1)))) (λx hx=>hl x (Gaf _ hx)) (by rw[Gav];omega)
   refine⟨y8,y9, ?_⟩
   conv=>rhs;unfold j9
   rw[Gae c,Gaq,←Gas]
   have e1:D.tup [.int r.1,.int r.2]=mk2 r:=rfl
   have e2:D.tup [.int l.1,.int l.2]=mk2 l:=rfl
   rw[e1,e2] at ev
   generalize mk2 l=ld at*
   simp only[forL,gN,GaU,GaV,Option.bind_some,ev]
   exact e
theorem HU{e0 e1 e2 e3 e5 e7 x8 x9:Option Slot}{R L:List D}{k:Int}{e' :DL.Env}(hs:slD (some (k+1)) none (.lst R)=some ⟨.tn,.lst L⟩)(h:forL (gN 8) bH L [e0,e1,e2,e3,some (.lok (.lst R)),e5,some (.sh (.int k)),e7,x8,x9]=some (.nx e')):
  cH [e0,e1,e2,e3,some (.lok (.lst R)),e5,some (.sh (.int k)),e7,x8,x9]=some (.nx e'):=by
 unfold cH
 simp[-forL,hs,h,freed]
theorem FG(R:List D)(j:Nat):slD (some ((j:Int)+1)) none (.lst R)=some ⟨.tn,.lst (R.drop (j+1))⟩:=by
 show some (⟨.tn,.lst (cutD R (some ((j:Int)+1)) none)⟩:RV)=_
 have e:sIx R.length 0 (some ((j:Int)+1))=min (j+1) R.length:=by
  show(if(j:Int)+1<0 then((j:Int)+1+(R.length:Int)).toNat else min ((j:Int)+1).toNat R.length)=_
  rw[Gae (by omega)]
  congr 1
 unfold cutD
 have e2:sIx R.length R.length none=R.length:=rfl
 rw[e,e2]
 congr 3
 rw[Gbu (by rw[GbV];omega)]
 by_cases c:j+1≤R.length
 ·rw[Gcb c]
 ·rw[Nat.min_eq_right (by omega),GbM,List.drop_of_length_le (by omega)]
theorem pC{w:World}{gs:List Tr}{wid:Int}{A B C G:List D}{rows:List (Int×Int)}(hr:∀l∈rows,0≤l.2∧l.2<w.orders.length)(hn:rows.length<64):∀(m j:Nat) (fs:List Flt) (x6 x7 x8 x9:Option Slot),rows.length -j=m→fs.length≤64*j→∃y6 y7 y8 y9,
  forL (gT [6,7]) cH (fA j ((rows.drop j).map mk2)) [some (.sh (.tup [.tup A,.tup B,.tup C,.tup (w.orders.map aF)])),some (.sh (.tup G)),some (.own (.dT (kvT gs))),some (.sh (.int wid)),some (.lok (.lst (rows.map mk2))),some (.own (.lst (fs.map aw))),x6,x7,x8,x9]=
   some (.nx [some (.sh (.tup [.tup A,.tup B,.tup C,.tup (w.orders.map aF)])),some (.sh (.tup G)),some (.own (.dT (kvT gs))),some (.sh (.int wid)),some (.lok (.lst (rows.map mk2))),some (.own (.lst ((fs++cj w.orders gs wid (rows.drop j)).map aw))),y6,y7,y8,y9])
 |0,j,fs,x6,x7,x8,x9,hm,hf=>by
  rw[List.drop_of_length_le (by omega)]
  exact⟨x6,x7,x8,x9,by simp[cj]⟩
 |m+1,j,fs,x6,x7,x8,x9,hm,hf=>by
  have hj:j<rows.length:=by omega
  have ed:rows.drop j=rows[j]::rows.drop (j+1):=Gbw hj
  have r0:=hr rows[j] (GaB hj)
  obtain⟨y8,y9,e⟩:=rn (w:=w) (gs:=gs) (wid:=wid) (k:=(j:Int)) (A:=A) (B:=B) (C:=C) (G:=G) (R:=rows.map mk2) (r:=rows[j]) r0.1 r0.2 (rows.drop (j+1)) fs x8 x9 (λl hl=>hr l (Gbs hl)) (by rw[GbV];omega)
  have lz:=oV w.orders gs wid rows[j] (rows.drop (j+1))
  rw[GbV] at lz
  obtain⟨z6,z7,z8,z9,e2⟩:=pC (w:=w) (gs:=gs) (wid:=wid) (A:=A) (B:=B) (C:=C) (G:=G) (rows:=rows) hr hn m (j+1) (fs++j9 w.orders gs wid rows[j] (rows.drop (j+1))) (some (.sh (.int (j:Int)))) (some (.sh (mk2 rows[j]))) y8 y9 (by omega) (by rw[Gav];omega)
  refine⟨z6,z7,z8,z9, ?_⟩
  have ev:=HU (FG (rows.map mk2) j) ((by rw[←Gdv];exact e):forL (gN 8) bH ((rows.map mk2).drop (j+1)) _=_)
  rw[ed,Gaq]
  conv=>rhs;unfold cj
  rw[←Gas]
  show forL (gT [6,7]) cH (D.tup [.int (j:Int),mk2 rows[j]]::fA (j+1) ((rows.drop (j+1)).map mk2)) _=_
  generalize rows[j]=rj at*
  generalize (j:Int)=ji at*
  generalize mk2 rj=rd at*
  simp only[forL,gT,gNs,GaU,GaV,Option.bind_some,ev]
  exact e2
noncomputable def wide(bs:List Tr):Int:=match bs.map (·.2.2) with
 |[]=>0
 |n::ns=>pY n ns
theorem HV{A B C O G B' R R' F:List D}{kv:List (List Key×D)}{wid:Int}{y6 y7 y8 y9:Option Slot}(hg:fg [.tup C]=some (.dT kv))(zc:C.length<1000)(hw:cn (gN 0) gL (ixE (vE 0) (kE (.int 2))) C [none]=some B')(hm:mmD pY (.int 0) (.lst B')=some ⟨.c,.int wid⟩)(zg:G.length<1000)(hc:cn (gN 0) gL (bI (a5 (ixE (vE 0) (kE (.int 1))) (a5 (ixE (vE 0) (kE (.int 0))) ao))) G [none]=some R)(hs:sortedS [.lst R]=some ⟨.tn,.lst R'⟩)
  (hl:forL (gT [6,7]) cH (fA 0 R') [some (.sh (.tup [.tup A,.tup B,.tup C,.tup O])),some (.sh (.tup G)),some (.own (.dT kv)),some (.sh (.int wid)),some (.lok (.lst R')),some (.own (.lst [])),none,none,none,none]=some (.nx [some (.sh (.tup [.tup A,.tup B,.tup C,.tup O])),some (.sh (.tup G)),some (.own (.dT kv)),some (.sh (.int wid)),some (.lok (.lst R')),some (.own (.lst F)),y6,y7,y8,y9]))(im:aN F=true):
  g8 [.tup [.tup A,.tup B,.tup C,.tup O],.tup G]=some (.lst F):=by
 have z1:C.length≤16777216:=by omega
 have z2:G.length≤16777216:=by omega
 have rk:jY (.dT kv)=⟨.tn,.dT kv⟩:=rfl
 refine bh rfl ?_
 unfold il
 refine(av (e:=[some (.sh (.tup [.tup A,.tup B,.tup C,.tup O])),some (.sh (.tup G)),some (.own (.dT kv)),none,none,none,none,none,none,none]) (by simp[bz,hg,rk])).trans ?_
 refine(av (e:=[some (.sh (.tup [.tup A,.tup B,.tup C,.tup O])),some (.sh (.tup G)),some (.own (.dT kv)),some (.sh (.int wid)),none,none,none,none,none,none]) (by simp[-cn,ah,DL.compEnv,fJ,hw,hm,z1])).trans ?_
 refine(av (e:=[some (.sh (.tup [.tup A,.tup B,.tup C,.tup O])),some (.sh (.tup G)),some (.own (.dT kv)),some (.sh (.int wid)),some (.own (.lst R')),none,none,none,none,none]) (by simp[-cn,ah,DL.compEnv,fJ,hc,hs,z2])).trans ?_
 refine(av (e:=[some (.sh (.tup [.tup A,.tup B,.tup C,.tup O])),some (.sh (.tup G)),some (.own (.dT kv)),some (.sh (.int wid)),some (.own (.lst R')),some (.own (.lst [])),none,none,none,none]) (by simp[ah])).trans ?_
 refine(av (e:=[some (.sh (.tup [.tup A,.tup B,.tup C,.tup O])),some (.sh (.tup G)),some (.own (.dT kv)),some (.sh (.int wid)),some (.own (.lst R')),some (.own (.lst F)),y6,y7,y8,y9]) (by simp[-forL,hl,freed])).trans ?_
 simp[im]
noncomputable def gvR(gv:List Tr):List (Int×Int):=gv.map λt=>(t.2.1,t.1)
theorem MI{w:World}{gv:List Tr}(W:bQ w)(hg:j8 w.orders.length gv)(hl:gv.length<64):∃rows:List (Int×Int),cB ((gvR gv).map mk2)=rows.map mk2∧rows.Perm (gvR gv)∧(rows.Pairwise λa b=>a.1≤b.1)∧g8 [bc w,.tup (gv.map trD)]=some (.lst ((cj w.orders (w.bC.foldl bf []) (wide w.bC) rows).map aw)):=by
 obtain⟨rows,r1,r2,r3⟩:=wC (gvR gv)
 refine⟨rows,r1,r2,r3, ?_⟩
 have lr:rows.length=gv.length:=by rw[r2.length_eq];simp[gvR]
 have hr:∀l∈rows,0≤l.2∧l.2<w.orders.length:=λl hl=>by
  obtain⟨t,ht,rfl⟩:=GaI.mp (r2.mem_iff.mp hl)
  exact hg t ht
 have b12:=W.b12
 have hw:=iJ (g:=gN 0) (f:=ixE (vE 0) (kE (.int 2))) trD (λenv=>∃y,env=[y]) (λt=>D.int t.2.2) w.bC [none] ⟨none,rfl⟩ (by
  rintro t ht env ⟨y,rfl⟩
  exact⟨_,rfl,⟨_,rfl⟩,.c,by simp[trD],rfl⟩)
 have hc:=iJ (g:=gN 0) (f:=bI (a5 (ixE (vE 0) (kE (.int 1))) (a5 (ixE (vE 0) (kE (.int 0))) ao))) trD (λenv=>∃y,env=[y]) (λt=>mk2 (t.2.1,t.1)) gv [none] ⟨none,rfl⟩ (by
  rintro t ht env ⟨y,rfl⟩
  exact⟨_,rfl,⟨_,rfl⟩,.c,by simp[trD,mk2,ah],rfl⟩)
 have e1:gv.map (λt=>mk2 (t.2.1,t.1))=(gvR gv).map mk2:=by unfold gvR;rw[GaR];rfl
 have e2:w.bC.map (λt=>D.int t.2.2)=(w.bC.map (·.2.2)).map D.int:=by rw[GaR];rfl
 rw[e1] at hc
 rw[e2] at hw
 have hm:mmD pY (.int 0) (.lst ((w.bC.map (·.2.2)).map D.int))=some ⟨.c,.int (wide w.bC)⟩:=by
  unfold mmD kQ wide
  simp only[Option.bind_some,CU]
  cases w.bC.map (·.2.2)<;>rfl
 have hs:=nr (ms:=gvR gv) (by simp[gvR];exact hl)
 rw[r1] at hs
 obtain⟨y6,y7,y8,y9,e⟩:=pC (w:=w) (gs:=w.bC.foldl bf []) (wid:=wide w.bC) (A:=w.cD.map dw) (B:=w.aI.map b6) (C:=w.bC.map trD) (G:=gv.map trD) (rows:=rows) hr (by omega) _ 0 [] none none none none rfl (by simp)
 rw[GbE,Gcv] at e
 exact HV (Kk b12) (by rw[Gah];omega) hw hm (by rw[Gah];omega) hc hs e (gy _)
noncomputable abbrev Tg:=(Int×Int)×List (Int×Int)
noncomputable def lE(st:List Tg):Rws:=st.map λe=>([Sum.inl e.1.1,Sum.inl e.1.2],D.lst (e.2.map mk2))
noncomputable def tk(os:List Order)(t:Tr):Int×Int:=match os[t.1.toNat]? with
 |some o=>(o.bO,o.bG)
 |none=>(0,0)
noncomputable def BU(st:List Tg)(k m:Int×Int):List Tg:=match st.findIdx? (λe=>decide (e.1=k)) with
 |some j=>st.set j (k,((st[j]?.map (·.2)).getD [])++[m])
 |none=>st++[(k,[m])]
theorem FH(k:Int×Int)(e:Tg):decide (([Sum.inl e.1.1,Sum.inl e.1.2]:List Key)=[Sum.inl k.1,Sum.inl k.2])=decide (e.1=k):=by
 rw[Gdf]
 obtain⟨⟨a,b⟩,l⟩:=e
 obtain⟨c,d⟩:=k
 simp
theorem FI{st:List Tg}{k m:Int×Int}(hz:st.length<1000)(hm:∀e∈st,e.2.length<1000):DY (lE st) [Sum.inl k.1,Sum.inl k.2] (mk2 m)=some (lE (BU st k m)):=by
 unfold DY BU
 have z:(lE st).length<ah:=by unfold lE ah;rw[Gah];omega
 rw[Gag z]
 have ef:(lE st).findIdx? (λp=>decide (p.1=[Sum.inl k.1,Sum.inl k.2]))=st.findIdx? (λe=>decide (e.1=k)):=by
  unfold lE
  rw[Gdy]
  congr 1
  funext e
  exact FH k e
 rw[ef]
 cases h:st.findIdx? (λe=>decide (e.1=k)) with
 |none=>
  dsimp only
  unfold lE
  rw[GaJ]
  rfl
 |some j=>
  obtain⟨hj,_⟩:=Gda.mp h
  have e1:(lE st)[j]? =some ([Sum.inl st[j].1.1,Sum.inl st[j].1.2],D.lst (st[j].2.map mk2)):=by
   unfold lE
   rw[Gal,Gaa hj]
   rfl
  have z2:(st[j].2.map mk2).length<ah:=by
   have:=hm st[j] (GaB hj)
   rw[Gah]
   unfold ah
   omega
  simp only[e1]
  rw[Gag z2]
  rw[Gaa hj]
  unfold lE
  rw[List.map_set]
  simp
structure sk(os:List Order)(pre:List Tr)(st:List Tg):Prop where
 nd:(st.map (·.1)).Nodup
 ms:∀e∈st,e.2=(pre.filter λt=>decide (tk os t=e.1)).map λt=>(t.2.1,t.2.2)
 cov:∀t∈pre,tk os t∈st.map (·.1)
 back:∀e∈st,∃t∈pre,tk os t=e.1
 ln:st.length≤pre.length
theorem sk.step{os:List Order}{pre:List Tr}{st:List Tg}(I:sk os pre st)(t:Tr):sk os (pre++[t]) (BU st (tk os t) (t.2.1,t.2.2)):=by
 obtain⟨nd,ms,cov,back,ln⟩:=I
 generalize hk:tk os t=k
 have flt:∀q:Int×Int,((pre++[t]).filter λt=>decide (tk os t=q))=(pre.filter λt=>decide (tk os t=q))++(if k=q then[t] else[]):=λq=>by
  rw[Gcw]
  congr 1
  by_cases c:k=q
  ·rw[Gag c]
   simp[hk,c]
  ·rw[Gae c]
   simp[hk,c]
 unfold BU
 cases h:st.findIdx? (λe=>decide (e.1=k)) with
 |none=>
  have no:=List.findIdx?_eq_none_iff.mp h
  have nk:k∉st.map (·.1):=λhm=>by
   obtain⟨e,he,ek⟩:=GaI.mp hm
   have:=no e he
   simp[ek] at this
  have pre0:(pre.filter λt=>decide (tk os t=k))=[]:=by
   rw[List.filter_eq_nil_iff]
   intro x hx
   have:=cov x hx
   simp
   intro q
   rw[q] at this
   exact nk this
  dsimp only
  refine⟨?_, ?_, ?_, ?_,by simp;omega⟩
  ·rw[GaJ,GcX]
   refine⟨nd,by simp, ?_⟩
   intro a ha b hb
   simp at hb
   rw[hb]
   exactλq=>nk (q▸ha)
  ·intro e he
   rcases Gax.mp he with he|he
   ·rw[flt,Gae (λq=>nk (GaI.mpr ⟨e,he,q.symm⟩)),Gbb]
    exact ms e he
   ·simp at he
    rw[he,flt,pre0]
    simp
  ·intro x hx
   rw[GaJ]
   rcases Gax.mp hx with hx|hx
   ·exact Gcc _ (cov x hx)
   ·simp at hx
    rw[hx,hk]
    simp
  ·intro e he
   rcases Gax.mp he with he|he
   ·obtain⟨x,hx,q⟩:=back e he
    exact⟨x,Gcc _ hx,q⟩
   ·simp at he
    rw[he]
    exact⟨t,by simp,hk⟩
 |some j=>
  obtain⟨hj,hp,_⟩:=Gda.mp h
  have ek:st[j].1=k:=Gaw hp
  dsimp only
  rw[Gaa hj]
  have keys:(st.set j (k,(((some st[j]).map (·.2)).getD [])++[(t.2.1,t.2.2)])).map (·.1)=st.map (·.1):=by
   rw[List.map_set]
   have:k=(st.map (·.1))[j]'(by simpa using hj):=by rw[GbX,ek]
   simp only
   conv=>lhs;arg 3;rw[this]
   exact List.set_getElem_self _
  have mem:∀e∈st.set j (k,(((some st[j]).map (·.2)).getD [])++[(t.2.1,t.2.2)]),e=(k,st[j].2++[(t.2.1,t.2.2)])∨(e∈st∧e.1≠k):=by
   intro e he
   obtain⟨i,hi,rfl⟩:=Gdq he
   have hi' :i<st.length:=by simpa using hi
   by_cases c:j=i
   ·subst c
    left
    simp
   ·right
    rw[List.getElem_set_ne c]
    refine⟨GaB hi',λq=>c ?_⟩
    have e1:(st.map (·.1))[j]'(by simpa using hj)=(st.map (·.1))[i]'(by simpa using hi'):=by rw[GbX,GbX,ek,q]
    exact(List.getElem_inj nd).mp e1
  refine⟨by rw[keys];exact nd, ?_, ?_, ?_,by simp;omega⟩
  ·intro e he
   rcases mem e he with q| ⟨q1,q2⟩
   ·rw[q]
    have:=ms st[j] (GaB hj)
    rw[ek] at this
    rw[flt,Gag rfl,GaJ,←this]
    rfl
   ·rw[flt,Gae (λz=>q2 z.symm),Gbb]
    exact ms e q1
  ·intro x hx
   rw[keys]
   rcases Gax.mp hx with hx|hx
   ·exact cov x hx
   ·simp at hx
    rw[hx,hk,←ek]
    exact GaI.mpr ⟨_,GaB hj,rfl⟩
  ·intro e he
   rcases mem e he with q| ⟨q1,q2⟩
   ·rw[q]
    exact⟨t,by simp,hk⟩
   ·obtain⟨x,hx,q⟩:=back e q1
    exact⟨x,Gcc _ hx,q⟩
theorem sk.MJ{os:List Order}{pre:List Tr}{st:List Tg}(I:sk os pre st){e:Tg}(he:e∈st):e.2.length≤pre.length:=by
 rw[I.ms e he,Gah]
 exact Gdj _ _
theorem HW{A B C O G:List D}{rows rows' :Rws}{OD:D}{n h a g s:Int}{x4:Option Slot}(hO:atD O n=some OD)(im:OD.imm=true)(h1:ixD OD (.int 1)=some (.int g))(h2:ixD OD (.int 2)=some (.int s))(hs:DY rows [Sum.inl g,Sum.inl s] (.tup [.int h,.int a])=some rows'):
  bT [some (.sh (.tup [.tup A,.tup B,.tup C,.tup O])),some (.sh (.tup G)),none,some (.sh (.tup [.int n,.int h,.int a])),x4] rows=some ([some (.sh (.tup [.tup A,.tup B,.tup C,.tup O])),some (.sh (.tup G)),none,some (.sh (.tup [.int n,.int h,.int a])),some (.sh OD)],rows'):=by
 unfold bT
 simp[hO,im,h1,h2,hs,ah,keysOf,keyOf,Bh]
theorem tK{w:World}(W:bQ w){A B C G:List D}:∀(gv pre:List Tr) (st:List Tg) (x3 x4:Option Slot),j8 w.orders.length gv→sk w.orders pre st→pre.length+gv.length<64→∃y3 y4 st',sk w.orders (pre++gv) st' ∧
  nF 3 bT (gv.map trD) [some (.sh (.tup [.tup A,.tup B,.tup C,.tup (w.orders.map aF)])),some (.sh (.tup G)),none,x3,x4] (lE st)=some ([some (.sh (.tup [.tup A,.tup B,.tup C,.tup (w.orders.map aF)])),some (.sh (.tup G)),none,y3,y4],lE st')
 |[],pre,st,x3,x4,_,I,_=> ⟨x3,x4,st,by rw[Gbb];exact I,by simp⟩
 |t::gv,pre,st,x3,x4,hg,I,hl=>by
  rw[GaF] at hl
  have g0:=hg t Gak
  obtain⟨n,hn⟩:=GaK g0.1
  have hn' :n<w.orders.length:=by omega
  have hO:atD (w.orders.map aF) t.1=some (aF w.orders[n]):=by
   rw[hn,dm,Gal,Gaa hn'];rfl
  have ok:=W.oo w.orders[n] (GaB hn')
  have ek:tk w.orders t=(w.orders[n].bO,w.orders[n].bG):=by
   unfold tk
   rw[hn,GaX,Gaa hn']
  have ln:=I.ln
  have sd:=FI (st:=st) (k:=tk w.orders t) (m:=(t.2.1,t.2.2)) (by omega) (λe he=>by have:=I.MJ he;omega)
  have ev:=HW (A:=A) (B:=B) (C:=C) (G:=G) (n:=t.1) (h:=t.2.1) (a:=t.2.2) (g:=w.orders[n].bO) (s:=w.orders[n].bG) (x4:=x4) hO (dZ _ ok.ti) rfl rfl (by rw[ek] at sd;exact sd)
  obtain⟨y3,y4,st',I',e⟩:=tK W (A:=A) (B:=B) (C:=C) (G:=G) gv (pre++[t]) _ (some (.sh (trD t))) (some (.sh (aF w.orders[n]))) (λx hx=>hg x (Gaf _ hx)) (I.step t) (by simp;omega)
  refine⟨y3,y4,st',by rw[Gas] at I';exact I', ?_⟩
  rw[Gaq]
  have td:D.tup [.int t.1,.int t.2.1,.int t.2.2]=trD t:=rfl
  rw[td] at ev
  rw[ek] at e
  generalize trD t=d at*
  simp only[nF,GaU,GaV,ev,Option.bind_some]
  exact e
theorem De{A B C O G:List D}{kv:Rws}{y3 y4:Option Slot}(ig:aN G=true)(h:nF 3 bT G [some (.sh (.tup [.tup A,.tup B,.tup C,.tup O])),some (.sh (.tup G)),none,none,none] []=some ([some (.sh (.tup [.tup A,.tup B,.tup C,.tup O])),some (.sh (.tup G)),none,y3,y4],kv)):cP [.tup [.tup A,.tup B,.tup C,.tup O],.tup G]=some (.dT kv):=by
 refine bh rfl ?_
 unfold dM
 simp[-nF,bz,ig,h]
theorem HX{w:World}{gv:List Tr}(W:bQ w)(hg:j8 w.orders.length gv)(hl:gv.length<64):∃st,sk w.orders gv st∧cP [bc w,.tup (gv.map trD)]=some (.dT (lE st)):=by
 obtain⟨y3,y4,st,I,e⟩:=tK W (A:=w.cD.map dw) (B:=w.aI.map b6) (C:=w.bC.map trD) (G:=gv.map trD) gv [] [] none none hg ⟨by simp,by simp,by simp,by simp,by simp⟩ (by simpa using hl)
 exact⟨st,by simpa using I,De (jt gv) e⟩
noncomputable def lF(ns:List Int):List Int:=(cB ((ddF ns).map D.int)).map unI
theorem rq(ns:List Int):(lF ns).Pairwise (λa b=>a<b)∧(∀x,x∈lF ns↔x∈ns)∧(lF ns).length≤ns.length:=by
 obtain⟨S,h1,h2,h3,h4⟩:=FC ns
 have e:lF ns=S:=by
  unfold lF
  rw[h1,GaR]
  conv=>rhs;rw[←Gch S]
  exact GaQ λ_ _=>rfl
 rw[e]
 exact⟨h2,h3,h4⟩
noncomputable def FJ:Cap→Int→Int→Bool
 | .flat H _,h,a=>decide (h -H<a)&&decide (a≤h)
 | .kilo H _ _,h,a=>decide (h -H<a)&&decide (a≤h)
 | .ever _,h,a=>decide (a≤h)
noncomputable def oW(c:Cap)(ms:List (Int×Int))(h:Int):Int:=(ms.map λp=>if FJ c h p.1 then p.2 else 0).sum
noncomputable def lG:Cap→D
 | .flat H _=> .int H
 | .kilo H _ _=> .int H
 | .ever _=> .non
theorem MK(ms:List (Int×Int)):∃H:Int,∀p∈ms,∀q∈ms,q.1 -H<p.1:=by
 have:∃B:Int,∀p∈ms,-B<p.1∧p.1<B:=by
  induction ms with
  |nil=>exact⟨0,by simp⟩
  |cons p ms ih=>
   obtain⟨B,hB⟩:=ih
   refine⟨(if B<0 then -B else B)+(if p.1<0 then -p.1 else p.1)+1, ?_⟩
   intro q hq
   rcases Gay.mp hq with rfl|hq
   ·split<;>split<;>omega
   ·have:=hB q hq
    split<;>split<;>omega
 obtain⟨B,hB⟩:=this
 refine⟨2*B,λp hp q hq=> ?_⟩
 have:=hB p hp
 have:=hB q hq
 omega
theorem FK{c:Cap}{ms:List (Int×Int)}(ok:pz c)(hl:ms.length<64):jI [.lst (ms.map mk2),lG c]=some (.lst (((lF (ms.map (·.1))).map λh=>(h,oW c ms h)).map mk2)):=by
 obtain⟨h1,h2,h3⟩:=rq (ms.map (·.1))
 have fin:∀(H:Int),(∀h,h∈ms.map (·.1)→∀p∈ms,wt H h p=if FJ c h p.1 then p.2 else 0)→FD ms H (lF (ms.map (·.1)))=(lF (ms.map (·.1))).map λh=>(h,oW c ms h):=λH e=>by
  unfold FD
  refine GaQ λh hh=> ?_
  unfold W oW
  rw[GaQ λp hp=>e h ((h2 h).mp hh) p hp]
 have lim:∀(H h:Int) (p:Int×Int),wt H h p=if(decide (h -H<p.1)&&decide (p.1≤h)) then p.2 else 0:=λH h p=>by
  unfold wt
  by_cases c1:h -H<p.1<;>by_cases c2:p.1≤h<;>simp[c1,c2]
 cases c with
 |flat H t=>
  rw[←fin H (λh _ p _=>lim H h p)]
  exact rm (.inl ⟨rfl,ok.1⟩) (List.Perm.refl _) hl h1 h2
 |kilo H t p=>
  rw[←fin H (λh _ p _=>lim H h p)]
  exact rm (.inl ⟨rfl,ok.1⟩) (List.Perm.refl _) hl h1 h2
 |ever t=>
  obtain⟨H,hH⟩:=MK ms
  rw[←fin H (λh hh p hp=>by
   obtain⟨q,hq,rfl⟩:=GaI.mp hh
   rw[lim]
   have:=hH p hp q hq
   simp[FJ,this])]
  exact rm (.inr ⟨rfl,hH⟩) (List.Perm.refl _) hl h1 h2
noncomputable def kl(ws:List Tr)(c:Cap)(g s k:Int)(r:Int×Int):List Flt:=match iA c (wgt g r.1 ws none) with
 |some top=>if r.2>top then[("cap",[g,s,k,r.1,r.2,top])] else[]
 |none=>[]
noncomputable def oX(ws:List Tr)(g s k:Int)(c:Cap)(ms:List (Int×Int)):List Flt:=((lF (ms.map (·.1))).map λh=>(h,oW c ms h)).flatMap (kl ws c g s k)
noncomputable def kF(ws:List Tr)(g s:Int)(ms:List (Int×Int)):Nat→List Cap→List Flt
 |_,[]=>[]
 |k,c::cs=>oX ws g s (k:Int) c ms++kF ws g s ms (k+1) cs
theorem rA(ws:List Tr)(c:Cap)(g s k:Int)(r:Int×Int):(kl ws c g s k r).length≤1:=by
 unfold kl
 split
 ·split<;>simp
 ·simp
theorem rC{α β:Type}(f:α→List β)(h:∀a,(f a).length≤1):∀l:List α,(l.flatMap f).length≤l.length
 |[]=>by simp
 |a::l=>by
  have h1:=h a
  have h2:=rC f h l
  simp
  simp at h2
  omega
theorem rD(ws:List Tr)(g s k:Int)(c:Cap)(ms:List (Int×Int)):(oX ws g s k c ms).length≤ms.length:=by
 unfold oX
 have h1:=rC _ (rA ws c g s k) ((lF (ms.map (·.1))).map λh=>(h,oW c ms h))
 have h2:=(rq (ms.map (·.1))).2.2
 rw[Gah] at h1 h2
 omega
theorem oY(ws:List Tr)(g s:Int)(ms:List (Int×Int)):∀(k:Nat) (cs:List Cap),(kF ws g s ms k cs).length≤cs.length*ms.length
 |_,[]=>by simp[kF]
 |k,c::cs=>by
  have h1:=rD ws g s (k:Int) c ms
  have h2:=oY ws g s ms (k+1) cs
  unfold kF
  rw[Gav,GaF,GdB]
  omega
noncomputable def Df(to:Option Int)(g s k r1 r2:Int):List D:=match to with
 |some top=>if r2>top then[D.tup [.str "cap",.int g,.int s,.int k,.int r1,.int r2,.int top]] else[]
 |none=>[]
theorem Kq{e0 e2 e5 e9 x11:Option Slot}{W F:List D}{T0:D}{g s k r1 r2:Int}{cd:D}{wo to:Option Int}(ew:gQ [.tup W,.int g,.int r1]=some (jf wo))(eb:jn [cd,jf wo]=some (jf to))(hz:F.length<100000):
  cF [e0,some (.sh (.tup W)),e2,some (.own (.lst F)),some (.sh (.tup [.int g,.int s])),e5,some (.sh (.int g)),some (.sh (.int k)),some (.sh cd),e9,some (.sh (.tup [.int r1,.int r2])),x11]=
   some (.nx [e0,some (.sh (.tup W)),e2,some (.own (.lst (F++Df to g s k r1 r2))),some (.sh (.tup [.int g,.int s])),e5,some (.sh (.int g)),some (.sh (.int k)),some (.sh cd),e9,some (.sh (.tup [.int r1,.int r2])),some (.sh (jf to))]):=by
 have z:F.length<16777216:=by omega
 have rw' :=cJ (jS wo)
 have rt:=cJ (jS to)
 unfold cF
 refine(av (e:=[e0,some (.sh (.tup W)),e2,some (.own (.lst F)),some (.sh (.tup [.int g,.int s])),e5,some (.sh (.int g)),some (.sh (.int k)),some (.sh cd),e9,some (.sh (.tup [.int r1,.int r2])),some (.sh (jf to))]) (by simp[ew,rw',eb,rt])).trans ?_
 cases to with
 |none=>simp[kC,dz,Df]
 |some top=>
  by_cases c:r2>top
  ·have c' :top<r2:=c
   simp[kC,dz,c',z,ah,Df]
  ·have c' :¬top<r2:=c
   simp[kC,dz,c',Df]
theorem wH{ws:List Tr}{c:Cap}{g s k:Int}{e0 e2 e5 e9:Option Slot}(ok:pz c):∀(rs:List (Int×Int)) (fs:List Flt) (x10 x11:Option Slot),fs.length+rs.length<100000→∃y10 y11,
  forL (gN 10) cF (rs.map mk2) [e0,some (.sh (.tup (ws.map trD))),e2,some (.own (.lst (fs.map aw))),some (.sh (.tup [.int g,.int s])),e5,some (.sh (.int g)),some (.sh (.int k)),some (.sh (cZ c)),e9,x10,x11]=
   some (.nx [e0,some (.sh (.tup (ws.map trD))),e2,some (.own (.lst ((fs++rs.flatMap (kl ws c g s k)).map aw))),some (.sh (.tup [.int g,.int s])),e5,some (.sh (.int g)),some (.sh (.int k)),some (.sh (cZ c)),e9,y10,y11])
 |[],fs,x10,x11,_=> ⟨x10,x11,by simp⟩
 |r::rs,fs,x10,x11,hz=>by
  rw[GaF] at hz
  have ew:=lC (ws:=ws) (g:=g) (h:=r.1)
  have eb:=AQ (c:=c) (w:=wgt g r.1 ws none) ok
  have ev:=Kq (e0:=e0) (e2:=e2) (e5:=e5) (e9:=e9) (x11:=x11) (F:=fs.map aw) (T0:= .non) (s:=s) (k:=k) (r2:=r.2) ew eb (by rw[Gah];omega)
  have eg:Df (iA c (wgt g r.1 ws none)) g s k r.1 r.2=(kl ws c g s k r).map aw:=by
   unfold kl Df
   cases iA c (wgt g r.1 ws none) with
   |none=>rfl
   |some top=>
    dsimp only
    split<;>rfl
  rw[eg,←GaJ] at ev
  have l1:=rA ws c g s k r
  obtain⟨y10,y11,e⟩:=wH (ws:=ws) (c:=c) (g:=g) (s:=s) (k:=k) (e0:=e0) (e2:=e2) (e5:=e5) (e9:=e9) ok rs (fs++kl ws c g s k r) (some (.sh (mk2 r))) (some (.sh (jf (iA c (wgt g r.1 ws none))))) (by rw[Gav];omega)
  refine⟨y10,y11, ?_⟩
  rw[Gaq,Gbk,←Gas]
  have e2:D.tup [.int r.1,.int r.2]=mk2 r:=rfl
  rw[e2] at ev
  generalize mk2 r=rd at*
  generalize cZ c=cd at*
  simp only[forL,gN,GaU,GaV,Option.bind_some,ev]
  exact e
theorem Kr{e0 e1 e2 e3 e4 e6 e7 x9 x10 x11:Option Slot}{M R:List D}{c:Cap}{e' :DL.Env}(hs:jI [.lst M,lG c]=some (.lst R))(h:forL (gN 10) cF R [e0,e1,e2,e3,e4,some (.sh (.lst M)),e6,e7,some (.sh (cZ c)),some (.sh (lG c)),x10,x11]=some (.nx e')):
  cG [e0,e1,e2,e3,e4,some (.sh (.lst M)),e6,e7,some (.sh (cZ c)),x9,x10,x11]=some (.nx e'):=by
 have rl:jY (.lst R)=⟨.tn,.lst R⟩:=rfl
 unfold cG
 refine(av (e:=[e0,e1,e2,e3,e4,some (.sh (.lst M)),e6,e7,some (.sh (cZ c)),some (.sh (lG c)),x10,x11]) ?_).trans ?_
 ·cases c<;>simp[cZ,lG,eqB]
 ·have e1' :∀d:D,d=lG c→gW none (kS (aH jI (a5 (vE 5) (a5 (vE 9) ao)))) (gN 10) cF [e0,e1,e2,e3,e4,some (.sh (.lst M)),e6,e7,some (.sh (cZ c)),some (.sh d),x10,x11]=some (.nx e'):=λd hd=>by
   rw[←hd] at hs h
   generalize cZ c=cd at*
   simp[-forL,hs,h,freed]
  exact e1' _ rfl
theorem tL{ws:List Tr}{g s:Int}{ms:List (Int×Int)}{e0 e2:Option Slot}(hm:ms.length<64):∀(cs:List Cap) (k:Nat) (fs:List Flt) (x7 x8 x9 x10 x11:Option Slot),(∀c∈cs,pz c)→fs.length+cs.length*ms.length<50000→∃y7 y8 y9 y10 y11,
  forL (gT [7,8]) cG (fA k (cs.map cZ)) [e0,some (.sh (.tup (ws.map trD))),e2,some (.own (.lst (fs.map aw))),some (.sh (.tup [.int g,.int s])),some (.sh (.lst (ms.map mk2))),some (.sh (.int g)),x7,x8,x9,x10,x11]=
   some (.nx [e0,some (.sh (.tup (ws.map trD))),e2,some (.own (.lst ((fs++kF ws g s ms k cs).map aw))),some (.sh (.tup [.int g,.int s])),some (.sh (.lst (ms.map mk2))),some (.sh (.int g)),y7,y8,y9,y10,y11])
 |[],k,fs,x7,x8,x9,x10,x11,_,_=> ⟨x7,x8,x9,x10,x11,by simp[kF]⟩
 |c::cs,k,fs,x7,x8,x9,x10,x11,ok,hz=>by
  have ok0:=ok c Gak
  rw[GaF,GdB] at hz
  have es:=FK (ms:=ms) ok0 hm
  have hl:=(rq (ms.map (·.1))).2.2
  rw[Gah] at hl
  obtain⟨y10,y11,e⟩:=wH (ws:=ws) (c:=c) (g:=g) (s:=s) (k:=(k:Int)) (e0:=e0) (e2:=e2) (e5:=some (.sh (.lst (ms.map mk2)))) (e9:=some (.sh (lG c))) ok0 ((lF (ms.map (·.1))).map λh=>(h,oW c ms h)) fs x10 x11 (by rw[Gah];omega)
  have ev:=Kr (x9:=x9) es e
  have lz:=rD ws g s (k:Int) c ms
  obtain⟨z7,z8,z9,z10,z11,e'⟩:=tL (ws:=ws) (g:=g) (s:=s) (ms:=ms) (e0:=e0) (e2:=e2) hm cs (k+1) (fs++oX ws g s (k:Int) c ms) (some (.sh (.int (k:Int)))) (some (.sh (cZ c))) (some (.sh (lG c))) y10 y11 (λx hx=>ok x (Gaf _ hx)) (by rw[Gav];omega)
  refine⟨z7,z8,z9,z10,z11, ?_⟩
  rw[Gaq]
  conv=>rhs;unfold kF
  rw[←Gas]
  show forL (gT [7,8]) cG (D.tup [.int (k:Int),cZ c]::fA (k+1) (cs.map cZ)) _=_
  unfold oX at e' ⊢
  generalize (k:Int)=ki at*
  generalize cZ c=cd at*
  simp only[forL,gT,gNs,GaU,GaV,Option.bind_some,ev]
  exact e'
noncomputable def tgF(ss:List js)(ws:List Tr)(e:Tg):List Flt:=kF ws e.1.1 e.1.2 e.2 0 ((ss[e.1.2.toNat]?.map (·.aT)).getD [])
theorem ML{A B C O W M Cs F F' :List D}{e2 x6 x7 x8 x9 x10 x11 y7 y8 y9 y10 y11:Option Slot}{g s:Int}{nm sz yg:D}(hS:atD B s=some (.tup [nm,sz,.tup Cs,yg]))
  (h:forL (gT [7,8]) cG (fA 0 Cs) [some (.sh (.tup [.tup A,.tup B,.tup C,.tup O])),some (.sh (.tup W)),e2,some (.own (.lst F)),some (.sh (.tup [.int g,.int s])),some (.sh (.lst M)),some (.sh (.int g)),x7,x8,x9,x10,x11]=some (.nx [some (.sh (.tup [.tup A,.tup B,.tup C,.tup O])),some (.sh (.tup W)),e2,some (.own (.lst F')),some (.sh (.tup [.int g,.int s])),some (.sh (.lst M)),some (.sh (.int g)),y7,y8,y9,y10,y11])):
  dB [some (.sh (.tup [.tup A,.tup B,.tup C,.tup O])),some (.sh (.tup W)),e2,some (.own (.lst F)),some (.sh (.tup [.int g,.int s])),some (.sh (.lst M)),x6,x7,x8,x9,x10,x11]=some (.nx [some (.sh (.tup [.tup A,.tup B,.tup C,.tup O])),some (.sh (.tup W)),e2,some (.own (.lst F')),some (.sh (.tup [.int g,.int s])),some (.sh (.lst M)),some (.sh (.int g)),y7,y8,y9,y10,y11]):=by
 unfold dB
 refine(av (e:=[some (.sh (.tup [.tup A,.tup B,.tup C,.tup O])),some (.sh (.tup W)),e2,some (.own (.lst F)),some (.sh (.tup [.int g,.int s])),some (.sh (.lst M)),some (.sh (.int g)),x7,x8,x9,x10,x11]) (by simp)).trans ?_
 simp[-forL,-fA,hS,h,freed]
theorem BV{w:World}(W:bQ w){ws:List Tr}{A C O:List D}{e2:Option Slot}:∀(st:List Tg) (fs:List Flt) (x4 x5 x6 x7 x8 x9 x10 x11:Option Slot),(∀e∈st,0≤e.1.2∧e.1.2<w.aI.length∧e.2.length<64)→fs.length+st.length*256<40000→∃y4 y5 y6 y7 y8 y9 y10 y11,
  forL (gT [4,5]) dB (bM (lE st)) [some (.sh (.tup [.tup A,.tup (w.aI.map b6),.tup C,.tup O])),some (.sh (.tup (ws.map trD))),e2,some (.own (.lst (fs.map aw))),x4,x5,x6,x7,x8,x9,x10,x11]=
   some (.nx [some (.sh (.tup [.tup A,.tup (w.aI.map b6),.tup C,.tup O])),some (.sh (.tup (ws.map trD))),e2,some (.own (.lst ((fs++st.flatMap (tgF w.aI ws)).map aw))),y4,y5,y6,y7,y8,y9,y10,y11])
 |[],fs,x4,x5,x6,x7,x8,x9,x10,x11,_,_=> ⟨x4,x5,x6,x7,x8,x9,x10,x11,by simp[lE,bM]⟩
 |e::st,fs,x4,x5,x6,x7,x8,x9,x10,x11,he,hz=>by
  rw[GaF,GdB] at hz
  obtain⟨s0,s1,ml⟩:=he e Gak
  obtain⟨n,hn⟩:=GaK s0
  have hn' :n<w.aI.length:=by omega
  have hS:atD (w.aI.map b6) e.1.2=some (.tup [.str w.aI[n].name,.tup ((w.aI[n].part::w.aI[n].more).map .int),.tup (w.aI[n].aT.map cZ),.int w.aI[n].young]):=by
   rw[hn,dm,Gal,Gaa hn'];rfl
  have so:=W.so w.aI[n] (GaB hn')
  have et:tgF w.aI ws e=kF ws e.1.1 e.1.2 e.2 0 w.aI[n].aT:=by
   unfold tgF
   rw[hn,GaX,Gaa hn']
   rfl
  have cl:=so.cl
  have lz:=oY ws e.1.1 e.1.2 e.2 0 w.aI[n].aT
  have lz2:w.aI[n].aT.length*e.2.length≤4*64:=Nat.mul_le_mul cl (by omega)
  obtain⟨y7,y8,y9,y10,y11,ec⟩:=tL (ws:=ws) (g:=e.1.1) (s:=e.1.2) (ms:=e.2) (e0:=some (.sh (.tup [.tup A,.tup (w.aI.map b6),.tup C,.tup O]))) (e2:=e2) ml w.aI[n].aT 0 fs x7 x8 x9 x10 x11 so.ok (by omega)
  have ev:=ML (x6:=x6) hS ec
  rw[←et] at ev lz
  obtain⟨z4,z5,z6,z7,z8,z9,z10,z11,e'⟩:=BV W (ws:=ws) (A:=A) (C:=C) (O:=O) (e2:=e2) st (fs++tgF w.aI ws e) (some (.sh (.tup [.int e.1.1,.int e.1.2]))) (some (.sh (.lst (e.2.map mk2)))) (some (.sh (.int e.1.1))) y7 y8 y9 y10 y11 (λx hx=>he x (Gaf _ hx)) (by rw[Gav];omega)
  refine⟨z4,z5,z6,z7,z8,z9,z10,z11, ?_⟩
  rw[Gbk,←Gas]
  have ei:bM (lE (e::st))=D.tup [.tup [.int e.1.1,.int e.1.2],.lst (e.2.map mk2)]::bM (lE st):=rfl
  rw[ei]
  generalize e.2.map mk2=M at*
  generalize w.aI.map b6=SS at*
  simp only[forL,gT,gNs,GaU,GaV,Option.bind_some,ev]
  exact e'
theorem HY{A B C O W G F:List D}{kv:Rws}{y4 y5 y6 y7 y8 y9 y10 y11:Option Slot}(hm:cP [.tup [.tup A,.tup B,.tup C,.tup O],.tup G]=some (.dT kv))
  (h:forL (gT [4,5]) dB (bM kv) [some (.sh (.tup [.tup A,.tup B,.tup C,.tup O])),some (.sh (.tup W)),some (.sh (.tup G)),some (.own (.lst [])),none,none,none,none,none,none,none,none]=some (.nx [some (.sh (.tup [.tup A,.tup B,.tup C,.tup O])),some (.sh (.tup W)),some (.sh (.tup G)),some (.own (.lst F)),y4,y5,y6,y7,y8,y9,y10,y11]))(im:aN F=true):
  fZ [.tup [.tup A,.tup B,.tup C,.tup O],.tup W,.tup G]=some (.lst F):=by
 have rk:jY (.dT kv)=⟨.tn,.dT kv⟩:=rfl
 refine bh rfl ?_
 unfold ij
 refine(av (e:=[some (.sh (.tup [.tup A,.tup B,.tup C,.tup O])),some (.sh (.tup W)),some (.sh (.tup G)),some (.own (.lst [])),none,none,none,none,none,none,none,none]) (by simp[bz,ah])).trans ?_
 refine(av (e:=[some (.sh (.tup [.tup A,.tup B,.tup C,.tup O])),some (.sh (.tup W)),some (.sh (.tup G)),some (.own (.lst F)),y4,y5,y6,y7,y8,y9,y10,y11]) (by simp[-forL,hm,rk,h,freed])).trans ?_
 simp[im]
theorem mh{α β:Type}(f:α→List β)(N:Nat):∀l:List α,(∀a∈l,(f a).length≤N)→(l.flatMap f).length≤l.length*N
 |[],_=>by simp
 |a::l,h=>by
  have h1:=h a Gak
  have h2:=mh f N l λx hx=>h x (Gaf _ hx)
  rw[Gbk,Gav,GaF,GdB]
  omega
theorem MM{w:World}{ws gv:List Tr}(W:bQ w)(hg:j8 w.orders.length gv)(hl:gv.length<64):∃st,sk w.orders gv st∧fZ [bc w,.tup (ws.map trD),.tup (gv.map trD)]=some (.lst ((st.flatMap (tgF w.aI ws)).map aw))∧(st.flatMap (tgF w.aI ws)).length≤20000:=by
 obtain⟨st,I,em⟩:=HX W hg hl
 have ln:=I.ln
 have he:∀e∈st,0≤e.1.2∧e.1.2<w.aI.length∧e.2.length<64:=λe hes=>by
  obtain⟨t,ht,ek⟩:=I.back e hes
  have g0:=hg t ht
  obtain⟨n,hn⟩:=GaK g0.1
  have hn' :n<w.orders.length:=by omega
  have ok:=W.oo w.orders[n] (GaB hn')
  have:tk w.orders t=(w.orders[n].bO,w.orders[n].bG):=by
   unfold tk
   rw[hn,GaX,Gaa hn']
  rw[this] at ek
  rw[←ek]
  have:=I.MJ hes
  exact⟨ok.s0,ok.s1,by omega⟩
 obtain⟨y4,y5,y6,y7,y8,y9,y10,y11,e⟩:=BV W (ws:=ws) (A:=w.cD.map dw) (C:=w.bC.map trD) (O:=w.orders.map aF) (e2:=some (.sh (.tup (gv.map trD)))) st [] none none none none none none none none he (by simp;omega)
 refine⟨st,I,HY em e (gy _), ?_⟩
 have h1:=mh (tgF w.aI ws) 256 st (λe hes=>by
  have h2:=oY ws e.1.1 e.1.2 e.2 0 ((w.aI[e.1.2.toNat]?.map (·.aT)).getD [])
  have h3:((w.aI[e.1.2.toNat]?.map (·.aT)).getD []).length≤4:=by
   cases h:w.aI[e.1.2.toNat]? with
   |none=>simp
   |some s=>exact(W.so s (GaL h)).cl
  have h4:=(he e hes).2.2
  have h5:=Nat.mul_le_mul h3 (Gdk h4)
  unfold tgF
  omega)
 omega
noncomputable def ja(w:World)(ws:List Tr)(t:Tr):List Flt:=match w.orders[t.1.toNat]? with
 |some o=>match w.aI[o.bG.toNat]?,w.cD[o.bO.toNat]? with
  |some s,some g=>(lD o s g.2 ws t).map λk=>(k,[t.1,t.2.1])
  |_,_=>[]
 |none=>[]
theorem wI{w:World}(W:bQ w){ws:List Tr}{t:Tr}(h0:0≤t.1)(h1:t.1<w.orders.length):fC [bc w,.tup (ws.map trD),trD t]=some (.lst ((ja w ws t).map aw))∧(ja w ws t).length≤5:=by
 obtain⟨n,hn⟩:=GaK h0
 have hn' :n<w.orders.length:=by omega
 have ok:=W.oo w.orders[n] (GaB hn')
 obtain⟨m,hm⟩:=GaK ok.s0
 have sl:=ok.s1
 have hm' :m<w.aI.length:=by omega
 obtain⟨g,hg⟩:=GaK ok.g0
 have gl:=ok.g1
 have hg' :g<w.cD.length:=by omega
 have hO:atD (w.orders.map aF) t.1=some (aF w.orders[n]):=by rw[hn,dm,Gal,Gaa hn'];rfl
 have hS:atD (w.aI.map b6) w.orders[n].bG=some (b6 w.aI[m]):=by rw[hm,dm,Gal,Gaa hm'];rfl
 have hG:atD (w.cD.map dw) w.orders[n].bO=some (dw w.cD[g]):=by rw[hg,dm,Gal,Gaa hg'];rfl
 have e:=Kg (C:=w.bC.map trD) (ws:=ws) (t:=t) hO ok.du hS (W.so _ (GaB hm')) hG (dZ _ ok.ti)
 have el:ja w ws t=(lD w.orders[n] w.aI[m] w.cD[g].2 ws t).map λk=>(k,[t.1,t.2.1]):=by
  unfold ja
  rw[hn,GaX,Gaa hn']
  dsimp only
  rw[hm,hg,GaX,GaX,Gaa hm',Gaa hg']
 constructor
 ·rw[el,GaR]
  exact e
 ·rw[el,Gah]
  unfold lD
  have h1:=df (dN w.orders[n].jg t.2.1) "astray"
  have h2:=df (decide (w.orders[n].most<t.2.2)) "most"
  have h3:=df (decide (t.2.2<1)||decide (¬t.2.2%w.aI[m].part=0)) "part"
  have h4:=df (w.aI[m].aT.any f7&&(wgt w.orders[n].bO t.2.1 ws none).isNone) "weight"
  have h5:=df (decide (t.2.1<w.cD[g].2+w.aI[m].young)) "young"
  simp only[Gav]
  omega
theorem Ks{e0 e1 e2 e3:Option Slot}{wd wsd gd:D}{F R:List D}(h:fC [wd,wsd,gd]=some (.lst R))(hz:F.length+R.length<100000):
  gR [some (.sh wd),e1,some (.sh wsd),e3,some (.own (.lst F)),some (.sh gd)]=some (.nx [some (.sh wd),e1,some (.sh wsd),e3,some (.own (.lst (F++R))),some (.sh gd)]):=by
 have z:F.length+R.length≤16777216:=by omega
 have rl:jY (.lst R)=⟨.tn,.lst R⟩:=rfl
 unfold gR
 simp[h,rl,z,ah]
theorem tN{w:World}(W:bQ w){ws:List Tr}{e1 e3:Option Slot}:∀(gv:List Tr) (fs:List Flt) (x5:Option Slot),j8 w.orders.length gv→fs.length+5*gv.length<100000→∃y5,
  forL (gN 5) gR (gv.map trD) [some (.sh (bc w)),e1,some (.sh (.tup (ws.map trD))),e3,some (.own (.lst (fs.map aw))),x5]=some (.nx [some (.sh (bc w)),e1,some (.sh (.tup (ws.map trD))),e3,some (.own (.lst ((fs++gv.flatMap (ja w ws)).map aw))),y5])
 |[],fs,x5,_,_=> ⟨x5,by simp⟩
 |t::gv,fs,x5,hg,hz=>by
  rw[GaF] at hz
  have g0:=hg t Gak
  obtain⟨e,l5⟩:=wI W (ws:=ws) g0.1 g0.2
  have ev:=Ks (e0:=none) (e1:=e1) (e2:=none) (e3:=e3) (F:=fs.map aw) e (by rw[Gah,Gah];omega)
  rw[←GaJ] at ev
  obtain⟨y5,e'⟩:=tN W (ws:=ws) (e1:=e1) (e3:=e3) gv (fs++ja w ws t) (some (.sh (trD t))) (λx hx=>hg x (Gaf _ hx)) (by rw[Gav];omega)
  refine⟨y5, ?_⟩
  rw[Gaq,Gbk,←Gas]
  generalize trD t=td at*
  generalize bc w=wd at*
  simp only[forL,gN,GaU,GaV,Option.bind_some,ev]
  exact e'
theorem wJ:∀(a b:List Int),mw (a.map D.int) (b.map D.int)=true
 |[],b=>by cases b<;>rfl
 |x::a,[]=>rfl
 |x::a,y::b=>by
  rw[Gaq,Gaq]
  unfold mw
  split
  ·exact wJ a b
  ·rfl
theorem FL(fs:List Flt):keysOk (fs.map aw)=true:=by
 have h1:(fs.map aw).all (mq 2)=true:=by
  rw[Gby,Gat]
  intro p _
  show((tyD (.str p.1)==2)&&(p.2.map D.int).all mj)=true
  rw[Gby,Gau]
  exact⟨rfl,Gat.mpr λ_ _=>rfl⟩
 have h2:((fs.map aw).all λx=>(fs.map aw).all λy=>vB x y)=true:=by
  rw[Gby,Gat]
  intro p _
  simp only[GbU]
  rw[Gby,Gat]
  intro q _
  show mw (.str p.1::p.2.map .int) (.str q.1::q.2.map .int)=true
  unfold mw
  split
  ·exact wJ _ _
  ·rfl
 unfold keysOk
 rw[h1,h2];simp
theorem mF:∀(a b:List Int),(a.map D.int).map aZ=(b.map D.int).map aZ→a=b
 |[],[],_=>rfl
 |[],_::_,h=>by simp at h
 |_::_,[],h=>by simp at h
 |x::a,y::b,h=>by
  rw[Gaq,Gaq,Gaq,Gaq] at h
  injection h with h1 h2
  have h3:[1,x]=[1,y]:=h1
  simp at h3
  rw[h3,mF a b h2]
theorem BW:∀(a b:List Nat),a.map Int.ofNat=b.map Int.ofNat→a=b
 |[],[],_=>rfl
 |[],_::_,h=>by simp at h
 |_::_,[],h=>by simp at h
 |x::a,y::b,h=>by
  rw[Gaq,Gaq] at h
  injection h with h1 h2
  rw[Int.ofNat.inj h1,BW a b h2]
theorem str_inj{a b:Str}(h:a.cps.toList.map Int.ofNat=b.cps.toList.map Int.ofNat):a=b:=by
 have h2:a.cps.toList=b.cps.toList:=BW _ _ h
 obtain⟨a⟩:=a
 obtain⟨b⟩:=b
 congr 1
 exact Array.ext' h2
theorem uP{f g:Flt}(h:DL.code (aw f)=DL.code (aw g)):f=g:=by
 have h' :aZ (.str f.1)::(f.2.map D.int).map aZ=aZ (.str g.1)::(g.2.map D.int).map aZ:=h
 injection h' with h1 h2
 have h3:(2:Int)::f.1.cps.toList.map Int.ofNat=2::g.1.cps.toList.map Int.ofNat:=h1
 injection h3 with _ h4
 exact Prod.ext (str_inj h4) (mF _ _ h2)
noncomputable def unF:D→Flt
 | .tup (.str k::ds)=>(k,ds.map unI)
 |_=>("",[])
theorem FN(f:Flt):unF (aw f)=f:=by
 show(f.1,(f.2.map D.int).map unI)=f
 rw[GaR]
 have:f.2.map (unI∘D.int)=f.2:=by
  conv=>rhs;rw[←Gch f.2]
  exact GaQ λ_ _=>rfl
 rw[this]
noncomputable def lH(fs:List Flt):List Flt:=(cB (fs.map aw)).map unF
theorem nu(fs:List Flt):(fs.map aw).map unF=fs:=by
 rw[GaR]
 conv=>rhs;rw[←Gch fs]
 exact GaQ λf _=>FN f
theorem wK(fs:List Flt):cB (fs.map aw)=(lH fs).map aw:=by
 unfold lH
 rw[GaR]
 conv=>lhs;rw[←Gch (cB (fs.map aw))]
 refine GaQ λx hx=> ?_
 obtain⟨f,_,rfl⟩:=GaI.mp ((fM _).mem_iff.mp hx)
 simp only[GbU,FN,id]
theorem km(fs:List Flt):(lH fs).Perm fs:=by
 have:=(fM (fs.map aw)).map unF
 rw[nu] at this
 exact this
theorem nX(fs:List Flt):fK ((lH fs).map aw):=by
 rw[←wK]
 exact fU _
theorem AR{a b:List Flt}(hp:a.Perm b)(h1:fK (a.map aw))(h2:fK (b.map aw)):a=b:=by
 have e:=jE (hp.map aw) h1 h2 (λx hx y hy hc=>by
  obtain⟨f,_,rfl⟩:=GaI.mp hx
  obtain⟨g,_,rfl⟩:=GaI.mp hy
  rw[uP hc])
 have:=congrArg (List.map unF) e
 rw[nu,nu] at this
 exact this
theorem uQ{fs gs:List Flt}(p:Flt→Bool)(hp:(fs.filter p).Perm gs):(lH fs).filter p=lH gs:=by
 refine AR (((km fs).filter p).trans (hp.trans (km gs).symm)) ?_ (nX gs)
 have h:=nX fs
 unfold fK at h⊢
 rw[GcY] at h⊢
 exact h.filter p
theorem rE(fs:List Flt)(hz:fs.length<1000000):fV [.lst (fs.map aw)]=some ⟨.tn,.lst ((lH fs).map aw)⟩:=by
 have z:(fs.map aw).length<1000000:=by rw[Gah];exact hz
 unfold fV one kQ
 simp only[Option.bind_some]
 rw[FL,GaG z,wK]
 rfl
theorem AS{wd:D}{W G F0 F1 F2 F3 F R:List D}{y5:Option Slot}(h0:F1++F2++F3=F0)(h1:fZ [wd,.tup W,.tup G]=some (.lst F1))(h2:g8 [wd,.tup G]=some (.lst F2))(h3:dW [wd,.tup G]=some (.lst F3))(z:F1.length+F2.length+F3.length<100000)
  (hl:forL (gN 5) gR G [some (.sh wd),some (.sh (.tup [.tup W,.tup G])),some (.sh (.tup W)),some (.sh (.tup G)),some (.own (.lst F0)),none]=some (.nx [some (.sh wd),some (.sh (.tup [.tup W,.tup G])),some (.sh (.tup W)),some (.sh (.tup G)),some (.own (.lst F)),y5]))(hs:fV [.lst F]=some ⟨.tn,.lst R⟩)(iw:aN W=true)(ig:aN G=true)(ir:aN R=true):
  lA [wd,.tup [.tup W,.tup G]]=some (.lst R):=by
 have r1:∀L:List D,jY (.lst L)=⟨.tn,.lst L⟩:=λ_=>rfl
 have z1:F1.length+F2.length≤16777216:=by omega
 have z2:F1.length+F2.length+F3.length≤16777216:=by omega
 refine bh rfl ?_
 unfold nS
 refine(av (e:=[some (.sh wd),some (.sh (.tup [.tup W,.tup G])),some (.sh (.tup W)),none,none,none]) (by simp[bz,iw])).trans ?_
 refine(av (e:=[some (.sh wd),some (.sh (.tup [.tup W,.tup G])),some (.sh (.tup W)),some (.sh (.tup G)),none,none]) (by simp[ig])).trans ?_
 refine(av (e:=[some (.sh wd),some (.sh (.tup [.tup W,.tup G])),some (.sh (.tup W)),some (.sh (.tup G)),some (.own (.lst F0)),none]) (by rw[←h0];simp[h1,h2,h3,r1,z1,z2,ah])).trans ?_
 refine(av (e:=[some (.sh wd),some (.sh (.tup [.tup W,.tup G])),some (.sh (.tup W)),some (.sh (.tup G)),some (.own (.lst F)),y5]) (by simp[-forL,hl,freed])).trans ?_
 simp[hs,ir]
theorem rF(os:List Order)(gs:List Tr)(w:Int):∀rows:List (Int×Int),rows.length<64→(cj os gs w rows).length≤64*rows.length
 |[],_=>by simp[cj]
 |r::rs,h=>by
  rw[GaF] at h
  have h1:=oV os gs w r rs
  have h2:=rF os gs w rs (by omega)
  unfold cj
  rw[Gav,GaF]
  omega
theorem wL{w:World}{ws gv:List Tr}(W:bQ w)(hg:j8 w.orders.length gv)(hl:gv.length<64):∃(st:List Tg) (rows:List (Int×Int)),sk w.orders gv st∧rows.Perm (gvR gv)∧cB ((gvR gv).map mk2)=rows.map mk2∧(rows.Pairwise λa b=>a.1≤b.1)∧
  lA [bc w,.tup [.tup (ws.map trD),.tup (gv.map trD)]]=some (.lst ((lH (st.flatMap (tgF w.aI ws)++cj w.orders (w.bC.foldl bf []) (wide w.bC) rows++twF (gv.foldl (cT w.orders) [])++gv.flatMap (ja w ws))).map aw))∧
  (st.flatMap (tgF w.aI ws)++cj w.orders (w.bC.foldl bf []) (wide w.bC) rows++twF (gv.foldl (cT w.orders) [])++gv.flatMap (ja w ws)).length<100000:=by
 obtain⟨st,I,h1,z1⟩:=MM (ws:=ws) W hg hl
 obtain⟨rows,r1,r2,r3,h2⟩:=MI W hg hl
 obtain⟨h3,z3⟩:=HM W hg hl
 have lr:rows.length=gv.length:=by rw[r2.length_eq];simp[gvR]
 have z2:=rF w.orders (w.bC.foldl bf []) (wide w.bC) rows (by omega)
 have z3' :(twF (gv.foldl (cT w.orders) [])).length≤64:=by
  unfold twF
  rw[Gah]
  have:=Gdj (λt:Tr=>decide (1<t.2.2)) (gv.foldl (cT w.orders) [])
  omega
 have z4:(gv.flatMap (ja w ws)).length≤gv.length*5:=mh _ 5 gv λt ht=>(wI W (ws:=ws) (hg t ht).1 (hg t ht).2).2
 obtain⟨y5,e⟩:=tN W (ws:=ws) (e1:=some (.sh (.tup [.tup (ws.map trD),.tup (gv.map trD)]))) (e3:=some (.sh (.tup (gv.map trD)))) gv (st.flatMap (tgF w.aI ws)++cj w.orders (w.bC.foldl bf []) (wide w.bC) rows++twF (gv.foldl (cT w.orders) [])) none hg (by simp only[Gav];omega)
 have zz:(st.flatMap (tgF w.aI ws)++cj w.orders (w.bC.foldl bf []) (wide w.bC) rows++twF (gv.foldl (cT w.orders) [])++gv.flatMap (ja w ws)).length<100000:=by
  simp only[Gav]
  omega
 refine⟨st,rows,I,r2,r1,r3, ?_,zz⟩
 generalize st.flatMap (tgF w.aI ws)=F1 at*
 generalize cj w.orders (w.bC.foldl bf []) (wide w.bC) rows=F2 at*
 generalize twF (gv.foldl (cT w.orders) [])=F3 at*
 rw[GaJ,GaJ] at e
 exact AS rfl h1 h2 h3 (by simp only[Gah];omega) e (rE _ (by omega)) (jt ws) (jt gv) (gy _)
theorem FP(i:Int):jr [.int i]=some (.bl true):=by
 unfold jr jq
 simp[jJ]
theorem tP{fd:D}{e0:Option Slot}:∀(ns:List Int) (x2:Option Slot),∃y2,forL (gN 2) dC (ns.map D.int) [e0,some (.sh fd),x2]=some (.nx [e0,some (.sh fd),y2])
 |[],x2=> ⟨x2,by simp⟩
 |n::ns,x2=>by
  have ev:dC [e0,some (.sh fd),some (.sh (.int n))]=some (.nx [e0,some (.sh fd),some (.sh (.int n))]):=by
   unfold dC
   simp[FP]
  obtain⟨y2,e⟩:=tP ns (some (.sh (.int n)))
  refine⟨y2, ?_⟩
  rw[Gaq]
  simp only[forL,gN,GaU,GaV,Option.bind_some,ev]
  exact e
theorem Dg{k:Str}{L:List D}{n:Int}{e0 x2 y2:Option Slot}(hn:cM [.tup (.str k::L)]=some ⟨.c,.int n⟩)(hn3:¬n<3)(hs:slD (some 1) none (.tup (.str k::L))=some ⟨.c,.tup L⟩)(h:forL (gN 2) dC L [e0,some (.sh (.tup (.str k::L))),x2]=some (.nx [e0,some (.sh (.tup (.str k::L))),y2])):
  fL [e0,some (.sh (.tup (.str k::L))),x2]=some (.nx [e0,some (.sh (.tup (.str k::L))),y2]):=by
 have hx:ixD (.tup (.str k::L)) (.int 0)=some (.str k):=rfl
 have hi:jJ "tuple" (.tup (.str k::L))=true:=rfl
 have hc:kR (.tup (.str k::L))=false:=rfl
 have hi2:jJ "str" (.str k)=true:=rfl
 have hc2:kR (.str k)=false:=rfl
 generalize D.tup (.str k::L)=fd at*
 unfold fL
 refine(av (e:=[e0,some (.sh fd),x2]) (by simp[hi,hc,hn,hn3,hx,hi2,hc2])).trans ?_
 simp[-forL,hs,h,freed]
theorem pD{e0:Option Slot}:∀(fs:List Flt) (x1 x2:Option Slot),(∀f∈fs,2≤f.2.length)→∃y1 y2,forL (gN 1) fL (fs.map aw) [e0,x1,x2]=some (.nx [e0,y1,y2])
 |[],x1,x2,_=> ⟨x1,x2,by simp⟩
 |f::fs,x1,x2,h=>by
  have h0:=h f Gak
  obtain⟨y2,e⟩:=tP (fd:=aw f) (e0:=e0) f.2 x2
  have hs:slD (some 1) none (.tup (.str f.1::f.2.map .int))=some ⟨.c,.tup (f.2.map .int)⟩:=by
   have e1:sIx (D.str f.1::f.2.map .int).length 0 (some 1)=1:=by
    show min 1 (D.str f.1::f.2.map .int).length=1
    simp
   have e2:sIx (D.str f.1::f.2.map .int).length (D.str f.1::f.2.map .int).length none=(D.str f.1::f.2.map .int).length:=rfl
   unfold slD
   dsimp only
   rw[e1,e2,Gae (by simp)]
   unfold cutD
   rw[e1,e2]
   simp only[List.drop_succ_cons,GbE]
   rw[Gbu (by simp)]
  have ev:=Dg (k:=f.1) (L:=f.2.map .int) (n:=((f.2.length+1:Nat):Int)) (by simp[cM]) (by omega) hs e
  obtain⟨z1,z2,e'⟩:=pD (e0:=e0) fs (some (.sh (aw f))) y2 λx hx=>h x (Gaf _ hx)
  refine⟨z1,z2, ?_⟩
  rw[Gaq]
  have fe:D.tup (.str f.1::f.2.map .int)=aw f:=rfl
  rw[fe] at ev
  generalize aw f=fd at*
  simp only[forL,gN,GaU,GaV,Option.bind_some,ev]
  exact e'
theorem FQ{fs:List Flt}(h:∀f∈fs,2≤f.2.length):gf [.lst (fs.map aw)]=some (.bl true):=by
 obtain⟨y1,y2,e⟩:=pD (e0:=some (.sh (.lst (fs.map aw)))) fs none none h
 refine bh rfl ?_
 unfold iz
 generalize fs.map aw=F at*
 refine(av (e:=[some (.sh (.lst F)),none,none]) (by simp[bz,jJ,kR])).trans ?_
 refine(av (e:=[some (.sh (.lst F)),y1,y2]) (by simp[-forL,e,freed])).trans ?_
 simp
theorem Kt(f:Flt):eqD (aw f) (aw f)=true:=by
 have h:=Fd f.2
 unfold aw
 simp[h]
theorem HZ(fs:List Flt):eqB (.lst (fs.map aw)) (.lst (fs.map aw))=some true:=by
 have h1:D.plain (.lst (fs.map aw))=true:=by
  show(fs.map aw).all (ay 19)=true
  rw[Gby,Gat]
  intro f _
  show((D.str f.1::f.2.map .int).all (ay 18))=true
  have:=AK 18 f.2
  simp only[GbB,this,Bool.and_true]
  rfl
 have h2:eqD (.lst (fs.map aw)) (.lst (fs.map aw))=true:=by
  show kP _ _=true
  induction fs with
  |nil=>rfl
  |cons f fs ih=>
   have h1:D.plain (.lst (fs.map aw))=true:=by
    rename D.plain _=true=>hp
    have hp' :((f::fs).map aw).all (ay 19)=true:=hp
    simp only[Gaq,GbB,Gau] at hp'
    exact hp'.2
   have:=ih h1
   rw[Gaq]
   show(eqD (aw f) (aw f)&&kP _ _)=true
   rw[Kt,this];rfl
 unfold eqB
 rw[h1,h2];rfl
theorem Dh{ws:List Tr}{c:Cap}{g s k:Int}{r:Int×Int}{f:Flt}(h:f∈kl ws c g s k r):f.1="cap"∧2≤f.2.length:=by
 unfold kl at h
 split at h
 ·split at h
  ·simp at h;rw[h];exact⟨rfl,by simp⟩
  ·simp at h
 ·simp at h
theorem rG{ws:List Tr}{g s:Int}{ms:List (Int×Int)}{f:Flt}:∀(cs:List Cap) (k:Nat),f∈kF ws g s ms k cs→f.1="cap"∧2≤f.2.length
 |[],k,h=>by simp[kF] at h
 |c::cs,k,h=>by
  unfold kF at h
  rcases Gax.mp h with h|h
  ·unfold oX at h
   obtain⟨r,_,hr⟩:=Gdg.mp h
   exact Dh hr
  ·exact rG cs (k+1) h
theorem wM{ss:List js}{ws:List Tr}{st:List Tg}{f:Flt}(h:f∈st.flatMap (tgF ss ws)):f.1="cap"∧2≤f.2.length:=by
 obtain⟨e,_,h⟩:=Gdg.mp h
 exact rG _ _ h
theorem FR{os:List Order}{gs:List Tr}{r l:Int×Int}{f:Flt}(h:f∈gpF os gs r l):f.1="gap"∧2≤f.2.length:=by
 unfold gpF at h
 split at h
 ·split at h
  ·simp at h;rw[h];exact⟨rfl,by simp⟩
  ·simp at h
 ·simp at h
theorem pE{os:List Order}{gs:List Tr}{w:Int}{r:Int×Int}{f:Flt}:∀ls:List (Int×Int),f∈j9 os gs w r ls→f.1="gap"∧2≤f.2.length
 |[],h=>by simp[j9] at h
 |l::ls,h=>by
  unfold j9 at h
  split at h
  ·simp at h
  ·rcases Gax.mp h with h|h
   ·exact FR h
   ·exact pE ls h
theorem kn{os:List Order}{gs:List Tr}{w:Int}{f:Flt}:∀ls:List (Int×Int),f∈cj os gs w ls→f.1="gap"∧2≤f.2.length
 |[],h=>by simp[cj] at h
 |l::ls,h=>by
  unfold cj at h
  rcases Gax.mp h with h|h
  ·exact pE _ h
  ·exact kn ls h
theorem wN{ts:List Tr}{f:Flt}(h:f∈twF ts):f.1="twice"∧2≤f.2.length:=by
 unfold twF at h
 obtain⟨t,_,rfl⟩:=GaI.mp h
 exact⟨rfl,by simp⟩
noncomputable def wO:List Str:=["astray","most","part","weight","young"]
theorem Ku{b:Bool}{x k:Str}(h:k∈kk b x):k=x:=by
 cases b<;>simp[kk] at h
 exact h
theorem wQ{o:Order}{s:js}{b:Int}{ws:List Tr}{t:Tr}{k:Str}(h:k∈lD o s b ws t):k∈wO:=by
 unfold lD at h
 unfold wO
 simp only[Gax] at h
 rcases h with(((h|h)|h)|h)|h<;>rw[Ku h]<;>simp
theorem rH{w:World}{ws:List Tr}{t:Tr}{f:Flt}(h:f∈ja w ws t):f.1∈wO∧2≤f.2.length:=by
 unfold ja at h
 split at h
 ·split at h
  ·obtain⟨k,hk,rfl⟩:=GaI.mp h
   exact⟨wQ hk,by simp⟩
  ·simp at h
 ·simp at h
theorem filter_all{α:Type}{p:α→Bool}{l:List α}(h:∀x∈l,p x=true):l.filter p=l:=List.filter_eq_self.mpr h
theorem oZ{α:Type}{p:α→Bool}{l:List α}(h:∀x∈l,p x=false):l.filter p=[]:=List.filter_eq_nil_iff.mpr λx hx=>by rw[h x hx];simp
theorem AU{w:World}(W:bQ w):(bc w).imm=true:=by
 have h1:=gh r6 w.cD
 have h2:=gh kh w.aI
 have h3:=jt w.bC
 have h4:aN (w.orders.map aF)=true:=by
  have:∀l:List Order,(∀o∈l,nU w.cD.length w.aI.length o)→aN (l.map aF)=true:=by
   intro l
   induction l with
   |nil=>intro _;rfl
   |cons o l ih=>
    intro h
    have h1:=dZ o (h o Gak).ti
    have h2:=ih λx hx=>h x (Gaf _ hx)
    rw[Gaq]
    simp[h1,h2]
  exact this w.orders W.oo
 unfold bc
 simp[h1,h2,h3,h4]
theorem FT{ns:List Int}(hl:ns.length≤63):∃(n:Nat) (len mn:Int),n<64∧cM [.scr ns]=some ⟨.c,.int len⟩∧nE [.int len,.int 30]=some ⟨.c,.int mn⟩∧mn+draw ns 12 4=(n:Int):=by
 have l:=aV ns 12 4 (by omega)
 refine⟨((if(30:Int)<ns.length then 30 else ns.length)+draw ns 12 4).toNat,ns.length,if(30:Int)<ns.length then 30 else ns.length, ?_,by simp[cM],rfl, ?_⟩
 ·split<;>omega
 ·split<;>omega
noncomputable def jb(k:Str)(f:Flt):Bool:=f.1==k
theorem Di(k:Str)(fs:List Flt):cn (gN 0) (bq eqB (ixE (vE 0) (kE (.int 0))) (kE (.str k))) (vE 0) (fs.map aw) [none]=some ((fs.filter (jb k)).map aw):=by
 refine ma (g:=gN 0) aw (λenv=>∃y,env=[y]) (jb k) aw fs _ ⟨none,rfl⟩ ?_
 rintro f hf env ⟨y,rfl⟩
 have im:(aw f).imm=true:=by
  have:=nT f.2
  simp[aw,this]
 have hx:ixD (aw f) (.int 0)=some (.str f.1):=rfl
 have hw:eqB (.str f.1) (.str k)=some (jb k f):=by unfold eqB jb;rfl
 generalize aw f=fd at*
 refine⟨[some (.sh fd)],rfl,⟨_,rfl⟩, ?_,λ_=> ⟨.c, ?_, ?_⟩⟩
 ·simp[hx,hw]
 ·simp[im]
 ·simp[RV.free]
theorem Dj{w:World}{ws gv T:List Tr}{st:List Tg}{gs:List Tr}{wd:Int}{rows:List (Int×Int)}:∀f∈st.flatMap (tgF w.aI ws)++cj w.orders gs wd rows++twF T++gv.flatMap (ja w ws),2≤f.2.length:=by
 intro f hf
 rcases Gax.mp hf with hf|hf
 ·rcases Gax.mp hf with hf|hf
  ·rcases Gax.mp hf with hf|hf
   ·exact(wM hf).2
   ·exact(kn _ hf).2
  ·exact(wN hf).2
 ·obtain⟨t,_,h⟩:=Gdg.mp hf
  exact(rH h).2
theorem FU{f:Flt}{k:Str}(h:f.1∈wO)(hk:wO.all (λx=> !(x==k))=true):jb k f=false:=by
 have:=Gat.mp hk _ h
 unfold jb
 simpa using this
theorem FV{w:World}{ws gv T:List Tr}{st:List Tg}{gs:List Tr}{wd:Int}{rows:List (Int×Int)}:(st.flatMap (tgF w.aI ws)++cj w.orders gs wd rows++twF T++gv.flatMap (ja w ws)).filter (jb "gap")=cj w.orders gs wd rows:=by
 rw[Gcw,Gcw,Gcw]
 rw[oZ (l:=st.flatMap (tgF w.aI ws)) λf hf=>by unfold jb;rw[(wM hf).1];rfl]
 rw[filter_all (l:=cj w.orders gs wd rows) λf hf=>by unfold jb;rw[(kn _ hf).1];rfl]
 rw[oZ (l:=twF T) λf hf=>by unfold jb;rw[(wN hf).1];rfl]
 rw[oZ λf hf=>by
  obtain⟨t,_,h⟩:=Gdg.mp hf
  exact FU (rH h).1 rfl]
 simp
theorem tQ(ts:List Tr)(o h v x y:Int):nj (oS ts o h v) x y=if o=x∧h=y then v else nj ts x y:=by
 unfold oS
 cases ha:ts.any (atT o h) with
 |true=>
  rw[Gag rfl]
  unfold nj
  rw[List.find?_map]
  by_cases c:o=x∧h=y
  ·rw[Gag c]
   obtain⟨rfl,rfl⟩:=c
   have e:(atT o h∘λt:Tr=>if atT o h t=true then(o,h,v) else t)=atT o h:=by
    funext t
    simp only[GbU]
    split
    ·rename_i c
     rw[c]
     exact GaG ⟨rfl,rfl⟩
    ·rfl
   rw[e]
   cases hf:ts.find? (atT o h) with
   |none=>
    obtain⟨t,ht,q⟩:=List.any_eq_true.mp ha
    exact absurd q (GcO.mp hf t ht)
   |some t=>
    have:=List.find?_some hf
    simp[this]
  ·rw[Gae c]
   have e:(atT x y∘λt:Tr=>if atT o h t=true then(o,h,v) else t)=atT x y:=by
    funext t
    simp only[GbU]
    split
    ·rename_i q
     have q' :=Gaw q
     have n1:atT x y (o,h,v)=false:=GaH c
     have n2:atT x y t=false:=GaH (by rw[q'.1,q'.2];exact c)
     rw[n1,n2]
    ·rfl
   rw[e]
   cases hf:ts.find? (atT x y) with
   |none=>rfl
   |some t=>
    have q0:atT x y t=true:=List.find?_some hf
    have q:=Gaw q0
    have n2:¬atT o h t=true:=λz=>by
     have z' :=Gaw z
     exact c ⟨by omega,by omega⟩
    simp[n2]
 |false=>
  rw[Gae (by simp)]
  unfold nj
  rw[List.find?_append]
  by_cases c:o=x∧h=y
  ·obtain⟨rfl,rfl⟩:=c
   have hf:ts.find? (atT o h)=none:=by
    rw[GcO]
    intro t ht q
    rw[List.any_eq_false] at ha
    exact ha t ht q
   rw[hf]
   have:atT o h (o,h,v)=true:=GaG ⟨rfl,rfl⟩
   simp[this]
  ·rw[Gae c]
   have:atT x y (o,h,v)=false:=GaH c
   cases hf:ts.find? (atT x y)<;>simp[this]
noncomputable def mt(x y:Int)(b:Tr):Bool:=decide ((b.1=x∧b.2.1=y)∨(b.1=y∧b.2.1=x))
theorem Dk(ts:List Tr)(b:Tr)(x y:Int):nj (bf ts b) x y=if mt x y b then b.2.2 else nj ts x y:=by
 unfold bf
 rw[tQ,tQ]
 unfold mt
 by_cases c1:b.2.1=x∧b.1=y
 ·rw[Gag c1,Gag (GaG (.inr ⟨c1.2,c1.1⟩))]
 ·rw[Gae c1]
  by_cases c2:b.1=x∧b.2.1=y
  ·rw[Gag c2,Gag (GaG (.inl c2))]
  ·rw[Gae c2,Gae]
   intro z
   rcases Gaw z with z|z
   ·exact c2 z
   ·exact c1 ⟨z.2,z.1⟩
theorem p7(x y:Int):∀(bs ts:List Tr),(∀b∈bs,b.1≤b.2.1)→(bs.map uM).Nodup→nj (bs.foldl bf ts) x y=match bs.find? (mt x y) with|some b=>b.2.2|none=>nj ts x y
 |[],ts,_,_=>rfl
 |b::bs,ts,le,nd=>by
  rw[Gaq,GbG] at nd
  rw[GbR,p7 x y bs (bf ts b) (λc hc=>le c (Gaf _ hc)) nd.2,Dk]
  by_cases c:mt x y b=true
  ·rw[List.find?_cons_of_pos c]
   have hf:bs.find? (mt x y)=none:=by
    rw[GcO]
    intro d hd q
    apply nd.1
    refine GaI.mpr ⟨d,hd, ?_⟩
    have c' :=Gaw c
    have q' :=Gaw q
    have l1:=le b Gak
    have l2:=le d (Gaf _ hd)
    unfold uM
    exact Prod.ext (by show d.1=b.1;omega) (by show d.2.1=b.2.1;omega)
   rw[hf]
   simp only[c,Gbq]
  ·rw[List.find?_cons_of_neg c]
   have c' :mt x y b=false:=by simpa using c
   rw[c']
   simp
theorem FW:∀(ns:List Int) (n:Int),n≤pY n ns∧∀m∈ns,m≤pY n ns
 |[],n=> ⟨GbC _,by simp⟩
 |k::ns,n=>by
  have h:=FW ns (if k>n then k else n)
  have e:pY n (k::ns)=pY (if k>n then k else n) ns:=rfl
  rw[e]
  refine⟨?_,λm hm=> ?_⟩
  ·have:=h.1
   split at this<;>split<;>omega
  ·rcases Gay.mp hm with rfl|hm
   ·have:=h.1
    split at this<;>split<;>omega
   ·exact h.2 m hm
theorem Ia{bs:List Tr}(pos:∀b∈bs,1≤b.2.2):0≤wide bs∧∀b∈bs,b.2.2≤wide bs:=by
 cases bs with
 |nil=>exact⟨by decide,by simp⟩
 |cons b bs=>
  have e:wide (b::bs)=pY b.2.2 (bs.map (·.2.2)):=rfl
  have h:=FW (bs.map (·.2.2)) b.2.2
  rw[e]
  have:=pos b Gak
  refine⟨by omega,λc hc=> ?_⟩
  rcases Gay.mp hc with rfl|hc
  ·exact h.1
  ·exact h.2 _ (GaI.mpr ⟨c,hc,rfl⟩)
theorem Kv{bs:List Tr}(le:∀b∈bs,b.1≤b.2.1)(pos:∀b∈bs,1≤b.2.2)(nd:(bs.map uM).Nodup)(a b:Order):si (bs.foldl bf []) a b≤wide bs:=by
 have w:=Ia pos
 unfold si
 split
 ·rw[p7 _ _ bs [] le nd]
  cases h:bs.find? (mt a.bG b.bG) with
  |none=>exact w.1
  |some c=>exact w.2 c (List.mem_of_find?_eq_some h)
 ·exact w.1
theorem wR{os:List Order}{gs:List Tr}{w:Int}(le:∀a b,si gs a b≤w){r l:Int×Int}(h:l.1 -r.1≥w):gpF os gs r l=[]:=by
 unfold gpF
 split
 ·rename_i a b _ _
  rw[Gae]
  have:=le a b
  omega
 ·rfl
theorem tR{os:List Order}{gs:List Tr}{w:Int}(le:∀a b,si gs a b≤w){r:Int×Int}:∀ls:List (Int×Int),(ls.Pairwise λa b=>a.1≤b.1)→j9 os gs w r ls=ls.flatMap (gpF os gs r)
 |[],_=>rfl
 |l::ls,h=>by
  rw[Gbl] at h
  unfold j9
  rw[Gbk]
  by_cases c:l.1 -r.1≥w
  ·rw[Gag c,wR le c]
   symm
   rw[Gcv,List.flatMap_eq_nil_iff]
   intro x hx
   have:=h.1 x hx
   exact wR le (by omega)
  ·rw[Gae c,tR le ls h.2]
noncomputable def prs(F:Int×Int→Int×Int→List Flt):List (Int×Int)→List Flt
 |[]=>[]
 |r::rs=>rs.flatMap (F r)++prs F rs
theorem rJ{os:List Order}{gs:List Tr}{w:Int}(le:∀a b,si gs a b≤w):∀ls:List (Int×Int),(ls.Pairwise λa b=>a.1≤b.1)→cj os gs w ls=prs (gpF os gs) ls
 |[],_=>rfl
 |l::ls,h=>by
  rw[Gbl] at h
  unfold cj prs
  rw[tR le ls h.2,rJ le ls h.2]
theorem wU(F:Int×Int→Int×Int→List Flt)(l:Int×Int):∀rs:List (Int×Int),(prs F (rs++[l])).Perm (prs F rs++rs.flatMap λr=>F r l)
 |[]=>by simp[prs]
 |r::rs=>by
  have ih:=wU F l rs
  rw[List.cons_append]
  unfold prs
  rw[Gdr,Gbk]
  simp only[Gbk,List.flatMap_nil,Gbb,Gas]
  refine Gbo _ ?_
  refine((Gbo _ ih)).trans ?_
  rw[←Gas,←Gas]
  exact GaY _ Gbj
theorem wV{α β:Type}{f g:α→List β}:∀l:List α,(∀x∈l,f x=g x)→l.flatMap f=l.flatMap g
 |[],_=>rfl
 |x::l,h=>by rw[Gbk,Gbk,h x Gak,wV l λy hy=>h y (Gaf _ hy)]
theorem tU{F G:Int×Int→Int×Int→List Flt}:∀rs:List (Int×Int),(rs.Pairwise λa b=>F a b=G a b)→prs F rs=prs G rs
 |[],_=>rfl
 |r::rs,h=>by
  rw[Gbl] at h
  unfold prs
  rw[tU rs h.2]
  congr 1
  exact wV rs h.1
noncomputable def jc(a b:Order)(r l:Int×Int)(c:Tr):List Flt:=if(a.bO=b.bO∧mt a.bG b.bG c=true)∧l.1 -r.1<c.2.2 then[("gap",[r.2,r.1,l.2,l.1])] else[]
noncomputable def lI(os:List Order)(bs:List Tr)(r l:Int×Int):List Flt:=match os[r.2.toNat]?,os[l.2.toNat]? with
 |some a,some b=>bs.flatMap (jc a b r l)
 |_,_=>[]
theorem wW{a b:Order}{r l:Int×Int}(hl:r.1≤l.1):∀bs:List Tr,(∀b∈bs,b.1≤b.2.1)→(bs.map uM).Nodup→bs.flatMap (jc a b r l)=if l.1 -r.1<(if a.bO=b.bO then(match bs.find? (mt a.bG b.bG) with|some c=>c.2.2|none=>0) else 0) then([("gap",[r.2,r.1,l.2,l.1])]:List Flt) else[]
 |[],_,_=>by
  rw[List.flatMap_nil,Gae]
  split
  ·show¬l.1 -r.1<0
   omega
  ·omega
 |c::bs,le,nd=>by
  rw[Gaq,GbG] at nd
  rw[Gbk,wW hl bs (λd hd=>le d (Gaf _ hd)) nd.2]
  by_cases g:a.bO=b.bO
  ·simp only[Gag g]
   by_cases m:mt a.bG b.bG c=true
   ·rw[List.find?_cons_of_pos m]
    have hf:bs.find? (mt a.bG b.bG)=none:=by
     rw[GcO]
     intro d hd q
     apply nd.1
     refine GaI.mpr ⟨d,hd, ?_⟩
     have c' :=Gaw m
     have q' :=Gaw q
     have l1:=le c Gak
     have l2:=le d (Gaf _ hd)
     unfold uM
     exact Prod.ext (by show d.1=c.1;omega) (by show d.2.1=c.2.1;omega)
    rw[hf]
    dsimp only
    rw[Gae (by omega:¬l.1 -r.1<0),Gbb]
    unfold jc
    by_cases q:l.1 -r.1<c.2.2
    ·rw[Gag ⟨⟨g,m⟩,q⟩,Gag q]
    ·rw[Gae (λz=>q z.2),Gae q]
   ·rw[List.find?_cons_of_neg m]
    have:jc a b r l c=[]:=by
     unfold jc
     rw[Gae (λz=>m z.1.2)]
    rw[this,Gcv]
  ·simp only[Gae g]
   have:jc a b r l c=[]:=by
    unfold jc
    rw[Gae (λz=>g z.1.1)]
   rw[this,Gcv]
theorem Ib{os:List Order}{bs:List Tr}(le:∀b∈bs,b.1≤b.2.1)(nd:(bs.map uM).Nodup){r l:Int×Int}(hl:r.1≤l.1):lI os bs r l=gpF os (bs.foldl bf []) r l:=by
 unfold lI gpF
 cases os[r.2.toNat]? with
 |none=>rfl
 |some a=>
  cases os[l.2.toNat]? with
  |none=>rfl
  |some b=>
   dsimp only
   rw[wW hl bs le nd]
   unfold si
   rw[p7 _ _ bs [] le nd]
   rfl
theorem FX(a b:Int):sortedS [.lst [.int a,.int b]]=some ⟨.tn,.lst (if a<b then[.int a,.int b] else[.int b,.int a])⟩:=by
 have k:keysOk [.int a,.int b]=true:=rfl
 have e:cB [.int a,.int b]=if a<b then[.int a,.int b] else[.int b,.int a]:=by
  show(if ltC (DL.code (.int a)) (DL.code (.int b)) then[D.int a,.int b] else[D.int b,.int a])=_
  have l:ltC (DL.code (.int a)) (DL.code (.int b))=decide (a<b):=by
   show fu (fu ltI) [[1,a]] [[1,b]]=_
   by_cases c:a=b
   ·subst c
    simp[fu]
   ·by_cases c2:a<b<;>simp[fu,ltI,c,c2]
  rw[l]
  by_cases c:a<b
  ·rw[GaG c,Gag rfl,Gag c]
  ·rw[GaH c,Gae (by simp),Gae c]
 unfold sortedS one kQ
 simp only[Option.bind_some]
 rw[k,e]
 rfl
theorem FY(u v x y:Int):eqB (.lst [.int u,.int v]) (.lst [.int x,.int y])=some (decide (u=x∧v=y)):=by
 unfold eqB
 by_cases c1:u=x<;>by_cases c2:v=y<;>simp[c1,c2]
theorem Ic{a b x y:Int}(le:x≤y){L:List D}(h:(if a<b then[D.int a,.int b] else[D.int b,.int a])=L):eqB (.lst L) (.lst [.int x,.int y])=some (mt a b (x,y,0)):=by
 subst h
 unfold mt
 split
 ·rename_i c
  rw[FY]
  congr 1
  rw[Gdf]
  show _↔(x=a∧y=b)∨(x=b∧y=a)
  omega
 ·rename_i c
  rw[FY]
  congr 1
  rw[Gdf]
  show _↔(x=a∧y=b)∨(x=b∧y=a)
  omega
theorem Ie{e0 e1:Option Slot}{R F L:List D}{OA OB:D}{g1 g2 s1 s2 i j r1 r2 l1 l2 c1 c2 c3:Int}{m:Bool}(hi:atD R i=some (.tup [.int r1,.int r2]))(hj:atD R j=some (.tup [.int l1,.int l2]))(a1:ixD OA (.int 1)=some (.int g1))(a2:ixD OA (.int 2)=some (.int s1))(b1:ixD OB (.int 1)=some (.int g2))(b2:ixD OB (.int 2)=some (.int s2))(hs:sortedS [.lst [.int s1,.int s2]]=some ⟨.tn,.lst L⟩)(he:eqB (.lst L) (.lst [.int c1,.int c2])=some m)(hz:F.length<100000):
  fI [e0,e1,some (.own (.lst R)),some (.sh OA),some (.own (.lst F)),some (.sh (.int j)),some (.sh (.int i)),some (.sh OB),some (.sh (.tup [.int c1,.int c2,.int c3]))]=
   some (.nx [e0,e1,some (.own (.lst R)),some (.sh OA),some (.own (.lst (F++if(g1=g2∧m=true)∧l1 -r1<c3 then[D.tup [.str "gap",.int r2,.int r1,.int l2,.int l1]] else[]))),some (.sh (.int j)),some (.sh (.int i)),some (.sh OB),some (.sh (.tup [.int c1,.int c2,.int c3]))]):=by
 have z:F.length<16777216:=by omega
 unfold fI
 by_cases g:g1=g2
 ·have ge:eqB (.int g1) (.int g2)=some true:=by unfold eqB;simp[g]
  cases m with
  |false=>
   rw[Gae (by simp)]
   simp[a1,b1,ge,a2,b2,hs,he,ah]
  |true=>
   by_cases q:l1 -r1<c3
   ·rw[Gag ⟨⟨g,rfl⟩,q⟩]
    simp[a1,b1,ge,a2,b2,hs,he,hi,hj,q,z,ah]
   ·rw[Gae (λw=>q w.2)]
    simp[a1,b1,ge,a2,b2,hs,he,hi,hj,q,ah]
 ·have ge:eqB (.int g1) (.int g2)=some false:=by unfold eqB;simp[g]
  rw[Gae (λw=>g w.1.1)]
  simp[a1,b1,ge]
theorem tV{e0 e1:Option Slot}{R:List D}{a b:Order}{i j:Int}{r l:Int×Int}(hi:atD R i=some (mk2 r))(hj:atD R j=some (mk2 l)):∀(bs:List Tr) (fs:List Flt) (x8:Option Slot),(∀b∈bs,b.1≤b.2.1)→fs.length+bs.length<90000→∃y8,
  forL (gN 8) fI (bs.map trD) [e0,e1,some (.own (.lst R)),some (.sh (aF a)),some (.own (.lst (fs.map aw))),some (.sh (.int j)),some (.sh (.int i)),some (.sh (aF b)),x8]=
   some (.nx [e0,e1,some (.own (.lst R)),some (.sh (aF a)),some (.own (.lst ((fs++bs.flatMap (jc a b r l)).map aw))),some (.sh (.int j)),some (.sh (.int i)),some (.sh (aF b)),y8])
 |[],fs,x8,_,_=> ⟨x8,by simp⟩
 |c::bs,fs,x8,le,hz=>by
  rw[GaF] at hz
  have he:=Ic (a:=a.bG) (b:=b.bG) (le c Gak) rfl
  have ev:=Ie (e0:=e0) (e1:=e1) (F:=fs.map aw) (OA:=aF a) (OB:=aF b) (c3:=c.2.2) hi hj rfl rfl rfl rfl (FX a.bG b.bG) he (by rw[Gah];omega)
  have em:mt a.bG b.bG (c.1,c.2.1,0)=mt a.bG b.bG c:=rfl
  rw[em] at ev
  have eg:(if(a.bO=b.bO∧mt a.bG b.bG c=true)∧l.1 -r.1<c.2.2 then[D.tup [.str "gap",.int r.2,.int r.1,.int l.2,.int l.1]] else[])=(jc a b r l c).map aw:=by
   unfold jc
   split<;>rfl
  rw[eg,←GaJ] at ev
  have n1:(jc a b r l c).length≤1:=by unfold jc;split<;>simp
  obtain⟨y8,e⟩:=tV (e0:=e0) (e1:=e1) hi hj bs (fs++jc a b r l c) (some (.sh (trD c))) (λd hd=>le d (Gaf _ hd)) (by rw[Gav];omega)
  refine⟨y8, ?_⟩
  rw[Gaq,Gbk,←Gas]
  have td:D.tup [.int c.1,.int c.2.1,.int c.2.2]=trD c:=rfl
  rw[td] at ev
  generalize trD c=cd at*
  simp only[forL,gN,GaU,GaV,Option.bind_some,ev]
  exact e
theorem Ig{A B C O R:List D}{e1 e4 x3 x7 x8:Option Slot}{OA OB:D}{i j r1 r2 l1 l2:Int}{e' :DL.Env}(hi:atD R i=some (.tup [.int r1,.int r2]))(hj:atD R j=some (.tup [.int l1,.int l2]))(ha:atD O r2=some OA)(hb:atD O l2=some OB)(ia:OA.imm=true)(ib:OB.imm=true)
  (h:forL (gN 8) fI C [some (.sh (.tup [.tup A,.tup B,.tup C,.tup O])),e1,some (.own (.lst R)),some (.sh OA),e4,some (.sh (.int j)),some (.sh (.int i)),some (.sh OB),x8]=some (.nx e')):
  dE [some (.sh (.tup [.tup A,.tup B,.tup C,.tup O])),e1,some (.own (.lst R)),x3,e4,some (.sh (.int j)),some (.sh (.int i)),x7,x8]=some (.nx e'):=by
 unfold dE
 refine(av (e:=[some (.sh (.tup [.tup A,.tup B,.tup C,.tup O])),e1,some (.own (.lst R)),some (.sh OA),e4,some (.sh (.int j)),some (.sh (.int i)),x7,x8]) (by simp[hi,ha,ia])).trans ?_
 refine(av (e:=[some (.sh (.tup [.tup A,.tup B,.tup C,.tup O])),e1,some (.own (.lst R)),some (.sh OA),e4,some (.sh (.int j)),some (.sh (.int i)),some (.sh OB),x8]) (by simp[hj,hb,ib])).trans ?_
 simp[-forL,h,freed]
noncomputable def jT(os:List Order)(bs:List Tr)(rows:List (Int×Int))(l:Int×Int)(i:Nat):List Flt:=(rows.take i).flatMap λr=>lI os bs r l
noncomputable def i7(os:List Order)(bs:List Tr)(rows:List (Int×Int))(j:Nat):List Flt:=(List.range j).flatMap λj=>jT os bs rows (rows[j]?.getD (0,0)) j
theorem AV{os:List Order}{bs:List Tr}{rows:List (Int×Int)}{l:Int×Int}{i:Nat}(hi:i<rows.length):jT os bs rows l (i+1)=jT os bs rows l i++lI os bs rows[i] l:=by
 unfold jT
 rw[GbN hi,Gdr]
 simp
theorem rK{os:List Order}{bs:List Tr}{rows:List (Int×Int)}{j:Nat}(hj:j<rows.length):i7 os bs rows (j+1)=i7 os bs rows j++jT os bs rows rows[j] j:=by
 unfold i7
 rw[List.range_succ,Gdr]
 simp[Gaa hj]
theorem tW{os:List Order}{bs:List Tr}{rows:List (Int×Int)}:∀j,j≤rows.length→(i7 os bs rows j).Perm (prs (lI os bs) (rows.take j))
 |0,_=>by simp[i7,prs]
 |j+1,h=>by
  rw[rK (by omega),GbN (by omega:j<rows.length)]
  exact(GaY _ (tW j (by omega))).trans (wU (lI os bs) rows[j] (rows.take j)).symm
theorem tX{os:List Order}{bs:List Tr}{r l:Int×Int}:(lI os bs r l).length≤bs.length:=by
 unfold lI
 split
 ·rename_i a b _ _
  exact rC _ (λc=>by unfold jc;split<;>simp) bs
 ·simp
theorem uR{rows:List (Int×Int)}{i:Nat}(hi:i<rows.length):atD (rows.map mk2) (i:Int)=some (mk2 rows[i]):=by
 rw[dm,Gal,Gaa hi];rfl
theorem Ih{w:World}(W:bQ w){rows:List (Int×Int)}{e1 x3 x6 x7 x8:Option Slot}{fs:List Flt}(hr:∀l∈rows,0≤l.2∧l.2<w.orders.length)(hn:rows.length<64){j:Nat}(hj:j<rows.length)(hf:fs.length≤64*64*12):∃y3 y6 y7 y8,
  forL (gN 6) dE (bx 0 j) [some (.sh (bc w)),e1,some (.own (.lst (rows.map mk2))),x3,some (.own (.lst (fs.map aw))),some (.sh (.int (j:Int))),x6,x7,x8]=
   some (.nx [some (.sh (bc w)),e1,some (.own (.lst (rows.map mk2))),y3,some (.own (.lst ((fs++jT w.orders w.bC rows rows[j] j).map aw))),some (.sh (.int (j:Int))),y6,y7,y8]):=by
 have b12:=W.b12
 obtain⟨en,h1,y3,y6,y7,y8,_,rfl⟩:=fj (g:=gN 6) (body:=dE) (λi env=>∃y3 y6 y7 y8,(jT w.orders w.bC rows rows[j] i).length≤12*i∧env=[some (.sh (bc w)),e1,some (.own (.lst (rows.map mk2))),y3,some (.own (.lst ((fs++jT w.orders w.bC rows rows[j] i).map aw))),some (.sh (.int (j:Int))),y6,y7,y8]) (bx 0 j) 0 [some (.sh (bc w)),e1,some (.own (.lst (rows.map mk2))),x3,some (.own (.lst (fs.map aw))),some (.sh (.int (j:Int))),x6,x7,x8] ⟨x3,x6,x7,x8,by simp[jT],by simp[jT]⟩ (by
  rintro i d en hd ⟨y3,y6,y7,y8,hl,rfl⟩
  obtain⟨hi,rfl⟩:=cS hd
  rw[GbJ] at hl⊢
  have e0' :(0:Int)+(i:Int)=(i:Int):=by omega
  rw[e0',AV (by omega:i<rows.length)]
  have hri:=hr rows[i] (GaB (by omega))
  have hrj:=hr rows[j] (GaB hj)
  obtain⟨n,hn1⟩:=GaK hri.1
  obtain⟨m,hm1⟩:=GaK hrj.1
  have hn' :n<w.orders.length:=by omega
  have hm' :m<w.orders.length:=by omega
  have ha:atD (w.orders.map aF) rows[i].2=some (aF w.orders[n]):=by rw[hn1,dm,Gal,Gaa hn'];rfl
  have hb:atD (w.orders.map aF) rows[j].2=some (aF w.orders[m]):=by rw[hm1,dm,Gal,Gaa hm'];rfl
  have oa:=W.oo w.orders[n] (GaB hn')
  have ob:=W.oo w.orders[m] (GaB hm')
  have ep:lI w.orders w.bC rows[i] rows[j]=w.bC.flatMap (jc w.orders[n] w.orders[m] rows[i] rows[j]):=by
   unfold lI
   rw[hn1,hm1,GaX,GaX,Gaa hn',Gaa hm']
  have pl:=tX (os:=w.orders) (bs:=w.bC) (r:=rows[i]) (l:=rows[j])
  obtain⟨z8,eb⟩:=tV (e0:=some (.sh (bc w))) (e1:=e1) (a:=w.orders[n]) (b:=w.orders[m]) (uR (by omega:i<rows.length)) (uR hj) w.bC (fs++jT w.orders w.bC rows rows[j] i) y8 (λb hb=>(W.bo.1 b hb).2.1) (by rw[Gav];omega)
  have ev:=Ig (x3:=y3) (x7:=y7) (A:=w.cD.map dw) (B:=w.aI.map b6) (uR (by omega:i<rows.length)) (uR hj) ha hb (dZ _ oa.ti) (dZ _ ob.ti) eb
  rw[←ep,Gas] at ev
  exact⟨_,_,rfl,ev,_,some (.sh (.int (i:Int))),_,_,by rw[Gav];omega,rfl⟩)
 rw[dY,GbJ] at h1
 exact⟨y3,y6,y7,y8,h1⟩
theorem Ij{e0 e1 e2 x3 e4 x6 x7 x8:Option Slot}{j:Int}{e' :DL.Env}(sm:bU j=true)(h:forL (gN 6) dE (bx 0 j.toNat) [e0,e1,e2,x3,e4,some (.sh (.int j)),x6,x7,x8]=some (.nx e')):dF [e0,e1,e2,x3,e4,some (.sh (.int j)),x6,x7,x8]=some (.nx e'):=by
 unfold dF
 simp[-forL,sm,h,freed]
theorem Dl{w:World}(W:bQ w){rows:List (Int×Int)}{e1:Option Slot}(hr:∀l∈rows,0≤l.2∧l.2<w.orders.length)(hn:rows.length<64):∃y3 y5 y6 y7 y8,(i7 w.orders w.bC rows rows.length).length≤64*64*12∧
  forL (gN 5) dF (bx 0 rows.length) [some (.sh (bc w)),e1,some (.own (.lst (rows.map mk2))),none,some (.own (.lst [])),none,none,none,none]=
   some (.nx [some (.sh (bc w)),e1,some (.own (.lst (rows.map mk2))),y3,some (.own (.lst ((i7 w.orders w.bC rows rows.length).map aw))),y5,y6,y7,y8]):=by
 have b12:=W.b12
 have rl:∀l i,i≤rows.length→(jT w.orders w.bC rows l i).length≤i*12:=λl i hi=>by
  unfold jT
  have:=mh (λr=>lI w.orders w.bC r l) 12 (rows.take i) (λr _=>by have:=tX (os:=w.orders) (bs:=w.bC) (r:=r) (l:=l);omega)
  rw[Gcj,Gcb hi] at this
  exact this
 obtain⟨en,h1,y3,y5,y6,y7,y8,hl,rfl⟩:=fj (g:=gN 5) (body:=dF) (λj env=>∃y3 y5 y6 y7 y8,(i7 w.orders w.bC rows j).length≤64*12*j∧env=[some (.sh (bc w)),e1,some (.own (.lst (rows.map mk2))),y3,some (.own (.lst ((i7 w.orders w.bC rows j).map aw))),y5,y6,y7,y8]) (bx 0 rows.length) 0 [some (.sh (bc w)),e1,some (.own (.lst (rows.map mk2))),none,some (.own (.lst [])),none,none,none,none] ⟨none,none,none,none,none,by simp[i7],by simp[i7]⟩ (by
  rintro j d en hd ⟨y3,y5,y6,y7,y8,hl,rfl⟩
  obtain⟨hj,rfl⟩:=cS hd
  rw[GbJ] at hl⊢
  have e0' :(0:Int)+(j:Int)=(j:Int):=by omega
  rw[e0',rK hj]
  have r12:=rl rows[j] j (by omega)
  obtain⟨z3,z6,z7,z8,e⟩:=Ih W (e1:=e1) (x3:=y3) (x6:=y6) (x7:=y7) (x8:=y8) (fs:=i7 w.orders w.bC rows j) hr hn hj (by omega)
  have ev:=Ij (j:=(j:Int)) (bY (by omega) (by omega)) (by rw[GaX];exact e)
  exact⟨_,_,rfl,ev,_,some (.sh (.int (j:Int))),_,_,_,by rw[Gav];omega,rfl⟩)
 rw[dY,GbJ] at h1 hl
 exact⟨y3,y5,y6,y7,y8,by omega,h1⟩
theorem FZ{wd:D}{W G R R' F:List D}{n:Int}{y3 y5 y6 y7 y8:Option Slot}(zg:G.length<1000)(hc:cn (gN 0) gL (bI (a5 (ixE (vE 0) (kE (.int 1))) (a5 (ixE (vE 0) (kE (.int 0))) ao))) G [none]=some R)(hs:sortedS [.lst R]=some ⟨.tn,.lst R'⟩)(hn:cM [.lst R']=some ⟨.c,.int n⟩)(sm:bU n=true)
  (h:forL (gN 5) dF (bx 0 n.toNat) [some (.sh wd),some (.sh (.tup [.tup W,.tup G])),some (.own (.lst R')),none,some (.own (.lst [])),none,none,none,none]=some (.nx [some (.sh wd),some (.sh (.tup [.tup W,.tup G])),some (.own (.lst R')),y3,some (.own (.lst F)),y5,y6,y7,y8]))(im:aN F=true):j7 [wd,.tup [.tup W,.tup G]]=some (.lst F):=by
 have z:G.length≤16777216:=by omega
 refine bh rfl ?_
 unfold kg
 refine(av (e:=[some (.sh wd),some (.sh (.tup [.tup W,.tup G])),some (.own (.lst R')),none,none,none,none,none,none]) (by simp[-cn,bz,ah,DL.compEnv,fJ,z,hc,hs])).trans ?_
 refine(av (e:=[some (.sh wd),some (.sh (.tup [.tup W,.tup G])),some (.own (.lst R')),none,some (.own (.lst [])),none,none,none,none]) (by simp[ah])).trans ?_
 refine(av (e:=[some (.sh wd),some (.sh (.tup [.tup W,.tup G])),some (.own (.lst R')),y3,some (.own (.lst F)),y5,y6,y7,y8]) (by simp[-forL,-kU,hn,sm,h,freed])).trans ?_
 simp[im]
theorem Kw{w:World}{ws gv:List Tr}{rows:List (Int×Int)}(W:bQ w)(hg:j8 w.orders.length gv)(hl:gv.length<64)(r1:cB ((gvR gv).map mk2)=rows.map mk2)(r2:rows.Perm (gvR gv)):j7 [bc w,.tup [.tup (ws.map trD),.tup (gv.map trD)]]=some (.lst ((i7 w.orders w.bC rows rows.length).map aw))∧(i7 w.orders w.bC rows rows.length).length≤64*64*12:=by
 have lr:rows.length=gv.length:=by rw[r2.length_eq];simp[gvR]
 have hr:∀l∈rows,0≤l.2∧l.2<w.orders.length:=λl hl=>by
  obtain⟨t,ht,rfl⟩:=GaI.mp (r2.mem_iff.mp hl)
  exact hg t ht
 have hc:=iJ (g:=gN 0) (f:=bI (a5 (ixE (vE 0) (kE (.int 1))) (a5 (ixE (vE 0) (kE (.int 0))) ao))) trD (λenv=>∃y,env=[y]) (λt=>mk2 (t.2.1,t.1)) gv [none] ⟨none,rfl⟩ (by
  rintro t ht env ⟨y,rfl⟩
  exact⟨_,rfl,⟨_,rfl⟩,.c,by simp[trD,mk2,ah],rfl⟩)
 have e1:gv.map (λt=>mk2 (t.2.1,t.1))=(gvR gv).map mk2:=by unfold gvR;rw[GaR];rfl
 rw[e1] at hc
 have hs:=nr (ms:=gvR gv) (by simp[gvR];exact hl)
 rw[r1] at hs
 obtain⟨y3,y5,y6,y7,y8,z,e⟩:=Dl W (e1:=some (.sh (.tup [.tup (ws.map trD),.tup (gv.map trD)]))) hr (by omega)
 exact⟨FZ (n:=(rows.length:Int)) (by rw[Gah];omega) hc hs (by simp[cM]) (bY (by omega) (by omega)) (by rw[GaX];exact e) (gy _),z⟩
theorem Ik{ns:List Int}{wd:D}{q11 q12 len mn nv:Int}{W G F Fl R:List D}(e1:gS [.scr ns]=some wd)(iwd:wd.imm=true)(d11:a9 [.scr ns,.int 11,.int 9]=some (.int q11))(e2:fG [.scr ns,wd,.int q11]=some (.tup W))(iw:aN W=true)(hl:cM [.scr ns]=some ⟨.c,.int len⟩)(hm:nE [.int len,.int 30]=some ⟨.c,.int mn⟩)(d12:a9 [.scr ns,.int 12,.int 4]=some (.int q12))(hn:mn+q12=nv)(e3:fH [.scr ns,wd,.int nv]=some (.tup G))(ig:aN G=true)(e4:lA [wd,.tup [.tup W,.tup G]]=some (.lst F))(e5:gf [.lst F]=some (.bl true))
  (zf:F.length≤16777216)(hc:cn (gN 0) (bq eqB (ixE (vE 0) (kE (.int 0))) (kE (.str "gap"))) (vE 0) F [none]=some R)(es:j7 [wd,.tup [.tup W,.tup G]]=some (.lst Fl))(eS:fV [.lst Fl]=some ⟨.tn,.lst R⟩)(eq:eqB (.lst R) (.lst R)=some true):qY [.scr ns]=some (.bl true):=by
 have rl:∀L:List D,jY (.lst L)=⟨.tn,.lst L⟩:=λ_=>rfl
 have rt:=cJ (d:= .tup W) (by simp[iw])
 have rg:=cJ (d:= .tup G) (by simp[ig])
 have rwd:=cJ iwd
 refine bh rfl ?_
 unfold Fc
 refine(av (e:=[some (.sh (.scr ns)),some (.sh wd),none,none,none]) (by simp[bz,e1,rwd])).trans ?_
 refine(av (e:=[some (.sh (.scr ns)),some (.sh wd),some (.sh (.tup W)),none,none]) (by simp[d11,e2,rt])).trans ?_
 refine(av (e:=[some (.sh (.scr ns)),some (.sh wd),some (.sh (.tup W)),some (.sh (.tup [.tup W,.tup G])),none]) (by simp[-DW,hl,hm,d12,hn,e3,rg,iw,ig,ah])).trans ?_
 refine(av (e:=[some (.sh (.scr ns)),some (.sh wd),some (.sh (.tup W)),some (.sh (.tup [.tup W,.tup G])),some (.own (.lst F))]) (by simp[e4,rl])).trans ?_
 refine(av (e:=[some (.sh (.scr ns)),some (.sh wd),some (.sh (.tup W)),some (.sh (.tup [.tup W,.tup G])),some (.own (.lst F))]) (by simp[e5])).trans ?_
 simp[-cn,ah,DL.compEnv,fJ,zf,hc,es,rl,eS,eq]
theorem G0(ns:List Int)(hl:ns.length≤63):qY [.scr ns]=some (.bl true):=by
 obtain⟨w,W,e1⟩:=HH ns
 have d11:=aO (ns:=ns) (k:=11) (m:=9) (by omega) (by omega) (by omega)
 have l11:=aV ns 11 9 (by omega)
 generalize draw ns 11 9=q11 at*
 obtain⟨q,rfl⟩:=GaK l11.1
 obtain⟨ws,_,e2⟩:=D2 (ns:=ns) (n:=q) W (by omega)
 have d12:=aO (ns:=ns) (k:=12) (m:=4) (by omega) (by omega) (by omega)
 obtain⟨n,len,mn,hn,hlen,hmn,hsum⟩:=FT hl
 obtain⟨gv,g1,g2,e3⟩:=D4 (ns:=ns) (n:=n) W hn
 obtain⟨st,rows,I,r2,r1,r3,e4,z⟩:=wL (ws:=ws) W g2 g1
 have words:=Dj (w:=w) (ws:=ws) (gv:=gv) (T:=gv.foldl (cT w.orders) []) (st:=st) (gs:=w.bC.foldl bf []) (wd:=wide w.bC) (rows:=rows)
 have flt:=FV (w:=w) (ws:=ws) (gv:=gv) (T:=gv.foldl (cT w.orders) []) (st:=st) (gs:=w.bC.foldl bf []) (wd:=wide w.bC) (rows:=rows)
 obtain⟨en,zn⟩:=Kw (ws:=ws) W g2 g1 r1 r2
 have le:∀b∈w.bC,b.1≤b.2.1:=λb hb=>(W.bo.1 b hb).2.1
 have pos:∀b∈w.bC,1≤b.2.2:=λb hb=>(W.bo.1 b hb).2.2.2
 have pm:(cj w.orders (w.bC.foldl bf []) (wide w.bC) rows).Perm (i7 w.orders w.bC rows rows.length):=by
  have h:=tW (os:=w.orders) (bs:=w.bC) (rows:=rows) rows.length (Gap _)
  rw[Gde] at h
  rw[rJ (Kv le pos W.bo.2) rows r3]
  rw[tU rows (r3.imp λ{a b} hab=>Ib le W.bo.2 hab)] at h
  exact h.symm
 generalize hA:st.flatMap (tgF w.aI ws)++cj w.orders (w.bC.foldl bf []) (wide w.bC) rows++twF (gv.foldl (cT w.orders) [])++gv.flatMap (ja w ws)=A at*
 have lst:gf [.lst ((lH A).map aw)]=some (.bl true):=FQ λf hf=>words f ((km _).mem_iff.mp hf)
 have hc:=Di "gap" (lH A)
 rw[uQ (gs:=i7 w.orders w.bC rows rows.length) (jb "gap") (by rw[flt];exact pm)] at hc
 have zf:((lH A).map aw).length≤16777216:=by
  rw[Gah,(km _).length_eq]
  omega
 exact Ik e1 (AU W) d11 e2 (jt ws) hlen hmn d12 hsum e3 (jt gv) e4 lst zf hc en (rE _ (by omega)) (HZ _)
end Maths
namespace Hd
open PySem PySem.W PyProof.Rows L2
noncomputable abbrev p0:=PySem.Challenge.pw_dosehouse_k43_faults_of_gaps
noncomputable def top(i:Nat):Stmt:=p0.main.body.getD i (.Pass ⟨0,0,0,0⟩)
noncomputable def view:Program:={p0 with main:={p0.main with body:=[1,3,4,6,8,10,11,12,13,14,15,16,17,18,20,21,22,23,24,25,26,27,28,29,30,31,32,33].map top}}
noncomputable abbrev fd (n:Str) (i:Nat) (m:Str) (t c:Nat):FuncData:=fnOf n n (lV (top i)) (jh (top i)) (aJ (top i)) .none .none .none (.str m t) none (.ref c) .none
noncomputable def fo(d:FuncData):Obj:=⟨.type "function",none,.func d,#[]⟩
noncomputable def co(n:Str)(t l k a:Nat)(x y:Value)(b u:Nat):Obj:={cls:= .type "code",data:= .fields #[.str n t,.str n (t+1),.str "/claim/cut.py" (t+2),.int l 0,.int k 0,.int 0 0,.int 0 0,.int 3 0,.ref a,.bool true,.int 181 0,.ref (a+1),.none,x,y,.ref b,.int u 0,.int l 0,.str "/claim/cut.py" (u+1)]}
noncomputable def e(P:Params)(n:Str)(t:Nat)(v:Value):DictEntry:=⟨PyData.keyHash P n,.str n t,v⟩
noncomputable def r(P:Params)(n:Str)(t a:Nat):DictEntry:=e P n t (.ref a)
noncomputable abbrev m0:Str:="dosehouse.bounds"
noncomputable abbrev m1:Str:="dosehouse.dues"
noncomputable abbrev m2:Str:="dosehouse.faults"
noncomputable abbrev m3:Str:="dosehouse.weights"
noncomputable abbrev m4:Str:="dosehouse.windows"
noncomputable abbrev m5:Str:="law_dosehouse_k43_faults_of_gaps"
noncomputable abbrev qu:=fd "bound" 1 m0 187 20
noncomputable abbrev nY:=fd "due_of" 3 m1 197 27
noncomputable abbrev nZ:=fd "astray" 4 m1 197 34
noncomputable abbrev ju:=fd "weight_at" 6 m3 219 41
noncomputable abbrev uS:=fd "sums" 8 m4 232 48
noncomputable abbrev fm:=fd "goes_by_weight" 10 m2 248 53
noncomputable abbrev gF:=fd "lone_faults" 11 m2 248 58
noncomputable abbrev dP:=fd "marks_by_target" 12 m2 248 65
noncomputable abbrev iC:=fd "cap_faults" 13 m2 248 72
noncomputable abbrev fq:=fd "gaps_by_stuffs" 14 m2 248 79
noncomputable abbrev gG:=fd "gap_between" 15 m2 248 86
noncomputable abbrev iD:=fd "gap_faults" 16 m2 248 91
noncomputable abbrev gm:=fd "twice_faults" 17 m2 248 96
noncomputable abbrev o4:=fd "faults" 18 m2 248 103
noncomputable abbrev ko:=fd "_law_draw" 20 m5 333 110
noncomputable abbrev kq:=fd "_law_caps" 21 m5 333 117
noncomputable abbrev iE:=fd "_law_stuffs" 22 m5 333 124
noncomputable abbrev ku:=fd "_law_bars" 23 m5 333 131
noncomputable abbrev kz:=fd "_law_dues" 24 m5 333 138
noncomputable abbrev jv:=fd "_law_world" 25 m5 333 145
noncomputable abbrev kA:=fd "_law_hour" 26 m5 333 152
noncomputable abbrev iF:=fd "_law_amount" 27 m5 333 159
noncomputable abbrev gH:=fd "_law_weights" 28 m5 333 164
noncomputable abbrev gI:=fd "_law_givings" 29 m5 333 169
noncomputable abbrev kB:=fd "_law_near" 30 m5 333 174
noncomputable abbrev jw:=fd "_law_whole" 31 m5 333 181
noncomputable abbrev iH:=fd "_law_listed" 32 m5 333 188
noncomputable abbrev BX:=fd "law" 33 m5 333 193
noncomputable def K(P:Params):Frag:=[(3,{cls:= .type "dict",data:= .dict #[e P "__name__" 165 (.str "law_dosehouse_k43_faults_of_gaps" 333),e P "__doc__" 166 (.none),e P "__package__" 167 (.none),e P "__loader__" 168 (.builtin "__main__.__loader__#opaque"),e P "__spec__" 169 (.none),r P "__annotations__" 170 6,r P "__builtins__" 171 4,e P "__file__" 173 (.str "/claim/cut.py" 172),e P "__cached__" 174 (.none),r P "bound" 196 21,r P "due_of" 209 28,r P "astray" 218 35,r P "weight_at" 231 42,r P "sums" 247 49,r P "goes_by_weight" 255 54,r P "lone_faults" 261 59,r P "marks_by_target" 272 66,r P "cap_faults" 290 73,r P "gaps_by_stuffs" 299 80,r P "gap_between" 308 87,r P "gap_faults" 314 92,r P "twice_faults" 320 97,r P "faults" 332 104,r P "_law_draw" 344 111,r P "_law_caps" 360 118,r P "_law_stuffs" 374 125,r P "_law_bars" 388 132,r P "_law_dues" 401 139,r P "_law_world" 420 146,r P "_law_hour" 435 153,r P "_law_amount" 448 160,r P "_law_weights" 454 165,r P "_law_givings" 460 170,r P "_law_near" 466 175,r P "_law_whole" 473 182,r P "_law_listed" 482 189,r P "law" 488 194] 37}),
 (21,fo qu),(20,co "bound" 189 2 2 15 (.ref 17) (.ref 18) 19 194),
 (28,fo nY),(27,co "due_of" 199 11 2 22 (.ref 24) (.ref 25) 26 207),
 (35,fo nZ),(34,co "astray" 210 20 2 29 (.ref 31) (.ref 32) 33 216),
 (42,fo ju),(41,co "weight_at" 221 26 3 36 (.ref 38) (.ref 39) 40 229),
 (49,fo uS),(48,co "sums" 234 33 2 43 (.ref 45) (.ref 46) 47 245),
 (54,fo fm),(53,co "goes_by_weight" 250 47 1 50 (.none) (.none) 52 253),
 (59,fo gF),(58,co "lone_faults" 256 49 3 55 (.none) (.none) 57 259),
 (66,fo dP),(65,co "marks_by_target" 262 67 2 60 (.ref 62) (.ref 63) 64 270),
 (73,fo iC),(72,co "cap_faults" 273 73 3 67 (.ref 69) (.ref 70) 71 288),
 (80,fo fq),(79,co "gaps_by_stuffs" 291 84 1 74 (.ref 76) (.ref 77) 78 297),
 (87,fo gG),(86,co "gap_between" 300 90 3 81 (.ref 83) (.ref 84) 85 306),
 (92,fo iD),(91,co "gap_faults" 309 94 2 88 (.none) (.none) 90 312),
 (97,fo gm),(96,co "twice_faults" 315 107 2 93 (.none) (.none) 95 318),
 (104,fo o4),(103,co "faults" 321 114 2 98 (.ref 100) (.ref 101) 102 330),
 (111,fo ko),(110,co "_law_draw" 335 122 3 105 (.ref 107) (.ref 108) 109 342),
 (118,fo kq),(117,co "_law_caps" 345 127 4 112 (.ref 114) (.ref 115) 116 358),
 (125,fo iE),(124,co "_law_stuffs" 361 141 2 119 (.ref 121) (.ref 122) 123 372),
 (132,fo ku),(131,co "_law_bars" 375 150 3 126 (.ref 128) (.ref 129) 130 386),
 (139,fo kz),(138,co "_law_dues" 389 159 3 133 (.ref 135) (.ref 136) 137 399),
 (146,fo jv),(145,co "_law_world" 402 167 1 140 (.ref 142) (.ref 143) 144 418),
 (153,fo kA),(152,co "_law_hour" 421 185 4 147 (.ref 149) (.ref 150) 151 433),
 (160,fo iF),(159,co "_law_amount" 436 198 4 154 (.ref 156) (.ref 157) 158 446),
 (165,fo gH),(164,co "_law_weights" 449 205 3 161 (.none) (.none) 163 452),
 (170,fo gI),(169,co "_law_givings" 455 214 3 166 (.none) (.none) 168 458),
 (175,fo kB),(174,co "_law_near" 461 223 2 171 (.none) (.none) 173 464),
 (182,fo jw),(181,co "_law_whole" 467 235 1 176 (.ref 178) (.ref 179) 180 471),
 (189,fo iH),(188,co "_law_listed" 474 237 1 183 (.ref 185) (.ref 186) 187 480),
 (194,fo BX),(193,co "law" 483 247 1 190 (.none) (.none) 192 486)]
noncomputable def as_:List Addr:=[3,21,20,28,27,35,34,42,41,49,48,54,53,59,58,66,65,73,72,80,79,87,86,92,91,97,96,104,103,111,110,118,117,125,124,132,131,139,138,146,145,153,152,160,159,165,164,170,169,175,174,182,181,189,188,194,193]
noncomputable def hook:Hook:=kHook K as_ (λ_=>rfl)
noncomputable def xt(s:Shared):Bool:=xlAt view [] s&&recOk (RowW.records (OpenRow.toRowW (OpenLaw.row PySem.Challenge.rw_dosehouse_k43_faults_of_gaps))) s
theorem left:LeftO p0 view [] xt hook.obs hook.val 2014:=λw=>by kernel_rfl
end Hd
seal L2.PE L2.PT L2.PW L2.PA L2.PS L2.PSs L2.PG L2.PGs L2.PI
namespace Der
open PySem PySem.Spec PyProof.Rows L2 DL Den
noncomputable abbrev top:=Hd.top
noncomputable abbrev wX:Stmt:=top 1
noncomputable abbrev tY:Stmt:=top 3
noncomputable abbrev tZ:Stmt:=top 4
noncomputable abbrev o5:Stmt:=top 6
noncomputable abbrev BY:Stmt:=top 8
noncomputable abbrev jx:Stmt:=top 10
noncomputable abbrev lJ:Stmt:=top 11
noncomputable abbrev jd:Stmt:=top 12
noncomputable abbrev mG:Stmt:=top 13
noncomputable abbrev jy:Stmt:=top 14
noncomputable abbrev lK:Stmt:=top 15
noncomputable abbrev mH:Stmt:=top 16
noncomputable abbrev kH:Stmt:=top 17
noncomputable abbrev u0:Stmt:=top 18
noncomputable abbrev pF:Stmt:=top 20
noncomputable abbrev pG:Stmt:=top 21
noncomputable abbrev mI:Stmt:=top 22
noncomputable abbrev pH:Stmt:=top 23
noncomputable abbrev pI:Stmt:=top 24
noncomputable abbrev o6:Stmt:=top 25
noncomputable abbrev pJ:Stmt:=top 26
noncomputable abbrev mJ:Stmt:=top 27
noncomputable abbrev lL:Stmt:=top 28
noncomputable abbrev lM:Stmt:=top 29
noncomputable abbrev pK:Stmt:=top 30
noncomputable abbrev o7:Stmt:=top 31
noncomputable abbrev mK:Stmt:=top 32
noncomputable abbrev G1:Stmt:=top 33
theorem all1{K:PySem.W.Frag}{fd:FuncData}{p0:Str}(h:∀v0:Value,bindArgs fd ⟨[v0],[]⟩=pure ([p0].zip [v0])):Binds K fd [p0] []:= .all λus hl=>match us,hl with|[v0],_=>h v0
theorem all2{K:PySem.W.Frag}{fd:FuncData}{p0 p1:Str}(h:∀v0 v1:Value,bindArgs fd ⟨[v0,v1],[]⟩=pure ([p0,p1].zip [v0,v1])):Binds K fd [p0,p1] []:= .all λus hl=>match us,hl with|[v0,v1],_=>h v0 v1
theorem uT{K:PySem.W.Frag}{fd:FuncData}{p0 p1 p2:Str}(h:∀v0 v1 v2:Value,bindArgs fd ⟨[v0,v1,v2],[]⟩=pure ([p0,p1,p2].zip [v0,v1,v2])):Binds K fd [p0,p1,p2] []:= .all λus hl=>match us,hl with|[v0,v1,v2],_=>h v0 v1 v2
theorem Kx{K:PySem.W.Frag}{fd:FuncData}{p0 p1 p2 p3:Str}(h:∀v0 v1 v2 v3:Value,bindArgs fd ⟨[v0,v1,v2,v3],[]⟩=pure ([p0,p1,p2,p3].zip [v0,v1,v2,v3])):Binds K fd [p0,p1,p2,p3] []:= .all λus hl=>match us,hl with|[v0,v1,v2,v3],_=>h v0 v1 v2 v3
section
variable{Pm:Params}{mg:Str→Option Value}
def Txt(Pm:Params)(mg:Str→Option Value):Prop:=∃h:Heap,(Hd.K Pm).In h∧h.Ns mainGlobals mg
theorem Txt.at{n:Str}{v:Value}(T:Txt Pm mg)(e:PySem.W.nsIn (Hd.K Pm) mainGlobals n=some (some v):=by kernel_rfl):mg n=some v:=let⟨_,X,G⟩:=T;PySem.W.mg_of X G e
theorem Txt.no{n:Str}(T:Txt Pm mg)(e:PySem.W.nsIn (Hd.K Pm) mainGlobals n=some none:=by kernel_rfl):mg n=none:=let⟨_,X,G⟩:=T;PySem.W.mg_none_of X G e
theorem mkF{x:Str}{st:Stmt}{f:Addr}{pm cd:Value}(l:(Hd.K Pm).lookup f=some (Hd.fo (PySem.W.fnOf x x (lV st) (jh st) (aJ st) .none .none .none pm none cd .none)):=by kernel_rfl)(c:PySem.W.codeIn (Hd.K Pm) cd x=true:=by kernel_rfl)(k:PySem.W.keepIn (Hd.K Pm) (.ref f)=true:=by kernel_rfl):Fun (Hd.K Pm) x x st f (PySem.W.fnOf x x (lV st) (jh st) (aJ st) .none .none .none pm none cd .none):=Jv l c k
theorem BZ:Fun (Hd.K Pm) "bound" "bound" wX 21 Hd.qu:=mkF
theorem ka:Binds (Hd.K Pm) Hd.qu ["cap","weight"] []:=all2 λ_ _=>rfl
theorem rL:Fun (Hd.K Pm) "due_of" "due_of" tY 28 Hd.nY:=mkF
theorem jQ:Binds (Hd.K Pm) Hd.nY ["order","hour"] []:=all2 λ_ _=>rfl
theorem wY:Fun (Hd.K Pm) "astray" "astray" tZ 35 Hd.nZ:=mkF
theorem lq:Binds (Hd.K Pm) Hd.nZ ["order","hour"] []:=all2 λ_ _=>rfl
theorem lN:Fun (Hd.K Pm) "weight_at" "weight_at" o5 42 Hd.ju:=mkF
theorem gP:Binds (Hd.K Pm) Hd.ju ["weights","guest","hour"] []:=uT λ_ _ _=>rfl
theorem G2:Fun (Hd.K Pm) "sums" "sums" BY 49 Hd.uS:=mkF
theorem qX:Binds (Hd.K Pm) Hd.uS ["marks","hours"] []:=all2 λ_ _=>rfl
theorem jU:Fun (Hd.K Pm) "goes_by_weight" "goes_by_weight" jx 54 Hd.fm:=mkF
theorem fb:Binds (Hd.K Pm) Hd.fm ["stuff"] []:=all1 λ_=>rfl
theorem mL:Fun (Hd.K Pm) "lone_faults" "lone_faults" lJ 59 Hd.gF:=mkF
theorem gA:Binds (Hd.K Pm) Hd.gF ["world","weights","giving"] []:=uT λ_ _ _=>rfl
theorem jz:Fun (Hd.K Pm) "marks_by_target" "marks_by_target" jd 66 Hd.dP:=mkF
theorem dM:Binds (Hd.K Pm) Hd.dP ["world","givings"] []:=all2 λ_ _=>rfl
theorem o8:Fun (Hd.K Pm) "cap_faults" "cap_faults" mG 73 Hd.iC:=mkF
theorem ij:Binds (Hd.K Pm) Hd.iC ["world","weights","givings"] []:=uT λ_ _ _=>rfl
theorem jV:Fun (Hd.K Pm) "gaps_by_stuffs" "gaps_by_stuffs" jy 80 Hd.fq:=mkF
theorem ff:Binds (Hd.K Pm) Hd.fq ["bars"] []:=all1 λ_=>rfl
theorem mM:Fun (Hd.K Pm) "gap_between" "gap_between" lK 87 Hd.gG:=mkF
theorem gB:Binds (Hd.K Pm) Hd.gG ["gaps","order","other"] []:=uT λ_ _ _=>rfl
theorem o9:Fun (Hd.K Pm) "gap_faults" "gap_faults" mH 92 Hd.iD:=mkF
theorem il:Binds (Hd.K Pm) Hd.iD ["world","givings"] []:=all2 λ_ _=>rfl
theorem lP:Fun (Hd.K Pm) "twice_faults" "twice_faults" kH 97 Hd.gm:=mkF
theorem g9:Binds (Hd.K Pm) Hd.gm ["world","givings"] []:=all2 λ_ _=>rfl
theorem wZ:Fun (Hd.K Pm) "faults" "faults" u0 104 Hd.o4:=mkF
theorem nS:Binds (Hd.K Pm) Hd.o4 ["world","book"] []:=all2 λ_ _=>rfl
theorem ar:Fun (Hd.K Pm) "_law_draw" "_law_draw" pF 111 Hd.ko:=mkF
theorem aq:Binds (Hd.K Pm) Hd.ko ["_law_script","_law_k","_law_many"] []:=uT λ_ _ _=>rfl
theorem rM:Fun (Hd.K Pm) "_law_caps" "_law_caps" pG 118 Hd.kq:=mkF
theorem kb:Binds (Hd.K Pm) Hd.kq ["_law_script","_law_k","_law_part","_law_scale"] []:=Kx λ_ _ _ _=>rfl
theorem oe:Fun (Hd.K Pm) "_law_stuffs" "_law_stuffs" mI 125 Hd.iE:=mkF
theorem ip:Binds (Hd.K Pm) Hd.iE ["_law_script","_law_scale"] []:=all2 λ_ _=>rfl
theorem rN:Fun (Hd.K Pm) "_law_bars" "_law_bars" pH 132 Hd.ku:=mkF
theorem kc:Binds (Hd.K Pm) Hd.ku ["_law_script","_law_many","_law_scale"] []:=uT λ_ _ _=>rfl
theorem rO:Fun (Hd.K Pm) "_law_dues" "_law_dues" pI 139 Hd.kz:=mkF
theorem j4:Binds (Hd.K Pm) Hd.kz ["_law_script","_law_k","_law_scale"] []:=uT λ_ _ _=>rfl
theorem pL:Fun (Hd.K Pm) "_law_world" "_law_world" o6 146 Hd.jv:=mkF
theorem jo:Binds (Hd.K Pm) Hd.jv ["_law_script"] []:=all1 λ_=>rfl
theorem rP:Fun (Hd.K Pm) "_law_hour" "_law_hour" pJ 153 Hd.kA:=mkF
theorem kf:Binds (Hd.K Pm) Hd.kA ["_law_script","_law_world_here","_law_order","_law_k"] []:=Kx λ_ _ _ _=>rfl
theorem og:Fun (Hd.K Pm) "_law_amount" "_law_amount" mJ 160 Hd.iF:=mkF
theorem iq:Binds (Hd.K Pm) Hd.iF ["_law_script","_law_world_here","_law_order","_law_k"] []:=Kx λ_ _ _ _=>rfl
theorem mN:Fun (Hd.K Pm) "_law_weights" "_law_weights" lL 165 Hd.gH:=mkF
theorem gD:Binds (Hd.K Pm) Hd.gH ["_law_script","_law_world_here","_law_many"] []:=uT λ_ _ _=>rfl
theorem mO:Fun (Hd.K Pm) "_law_givings" "_law_givings" lM 170 Hd.gI:=mkF
theorem gE:Binds (Hd.K Pm) Hd.gI ["_law_script","_law_world_here","_law_many"] []:=uT λ_ _ _=>rfl
theorem rQ:Fun (Hd.K Pm) "_law_near" "_law_near" pK 175 Hd.kB:=mkF
theorem kg:Binds (Hd.K Pm) Hd.kB ["_law_world_here","_law_book"] []:=all2 λ_ _=>rfl
theorem pM:Fun (Hd.K Pm) "_law_whole" "_law_whole" o7 182 Hd.jw:=mkF
theorem jq:Binds (Hd.K Pm) Hd.jw ["_law_found"] []:=all1 λ_=>rfl
theorem oh:Fun (Hd.K Pm) "_law_listed" "_law_listed" mK 189 Hd.iH:=mkF
theorem iz:Binds (Hd.K Pm) Hd.iH ["_law_found"] []:=all1 λ_=>rfl
theorem MN:Fun (Hd.K Pm) "law" "law" G1 194 Hd.BX:=mkF
theorem Txt.MO(T:Txt Pm mg):mg "law"=some (.ref 194):=T.at
theorem Fc:Binds (Hd.K Pm) Hd.BX ["_law_script"] []:=all1 λ_=>rfl
theorem Txt.MP(T:Txt Pm mg):mg "any"=none:=T.no
theorem Txt.Ky(T:Txt Pm mg):mg "bool"=none:=T.no
theorem Txt.lQ(T:Txt Pm mg):mg "enumerate"=none:=T.no
theorem Txt.MQ(T:Txt Pm mg):mg "int"=none:=T.no
theorem Txt.gn(T:Txt Pm mg):mg "isinstance"=none:=T.no
theorem Txt.jA(T:Txt Pm mg):mg "len"=none:=T.no
theorem Txt.Kz(T:Txt Pm mg):mg "list"=none:=T.no
theorem Txt.IH(T:Txt Pm mg):mg "max"=none:=T.no
theorem Txt.II(T:Txt Pm mg):mg "min"=none:=T.no
theorem Txt.gJ(T:Txt Pm mg):mg "range"=none:=T.no
theorem Txt.gU(T:Txt Pm mg):mg "sorted"=none:=T.no
theorem Txt.MR(T:Txt Pm mg):mg "str"=none:=T.no
theorem Txt.jB(T:Txt Pm mg):mg "tuple"=none:=T.no
end
theorem b5{X:Cx}{e:Expr}{pos p:Pos}{k m np:Nat}{fa:Addr}{fd:FuncData}{ps:List Str}{sp:List D→Option D}{x:Str}{st:Stmt}{es:List Expr}{r:DA}(F:cC X.prog X.w X.K X.mg X.base CX0 k fa fd ps (spD X.K np sp))(hr:gV m X.A)(hg:Gl X x)(hm:X.mg x=some (.ref fa))(hF:Fun X.K x x st fa fd)(hb:Binds X.K fd ps [])(ha:PAd X (e::es) r)(hl:∀env rs,r env=some rs→rs.length=np)(hk:k≤m:=by decide)(hdb:(x==("__debug__":Str))=false:=by decide)(he:starEach (e::es) X.env=(false,eval e X.env)::starEach es X.env:=by rfl)(hpl:(backTo pos (starEach es X.env)).any (·.1)=false:=by rfl):PEd X (.Call (.Name x p) (e::es) [] pos) (aH sp r):=GQ F (hr.mono hk) hg hm hF.kp hb Lz ha hl hdb he hpl
seal Hd.K
section
variable{P:Program}{w:World}{Pm:Params}{mg:Str→Option Value}{base:Heap}
theorem G3:aW ["cap","weight"] ["cap","weight"] (aJ wX):=gp
theorem G4(T:Txt Pm mg):cC P w (Hd.K Pm) mg base CX0 1 21 Hd.qu ["cap","weight"] (spD (Hd.K Pm) 2 jn):=by
 refine cU BZ G3 rfl λcdv A outer s H E hr=> ?_
 have hu:=dh hr
 have hu20:=cg hr
 refine a8 0 _ λv0=>a8 1 _ λv1=> ?_
 exact(ae (bL (aU (c9 hu20) cf (af hu (v0 _) a6) bA (aM _))
  (aA (aY (af hu (v0 _) a6)))
  b8)
 (ae (bL (aU (c9 hu20) cf (af hu (v0 _) a6) bA (aM _))
  (aA (aY (af hu (v0 _) a6)))
  b8)
 (ae (bL (aU Ab uq (v1 _) iQ (aM _))
  (aA (aY iQ))
  b8)
 (aA (aY (lW (bB (v1 _) (af hu (v0 _) a6)) (af hu (v0 _) a6)))))))
theorem u3:aW ["order","hour","dues","behind","k"] ["order","hour"] (aJ tY):=gp
theorem u4(T:Txt Pm mg):cC P w (Hd.K Pm) mg base CX0 1 28 Hd.nY ["order","hour"] (spD (Hd.K Pm) 2 iY):=by
 refine cU rL u3 rfl λcdv A outer s H E hr=> ?_
 have sc:=u3
 have hu:=dh hr
 have hu20:=cg hr
 refine a8 0 _ λv0=>a8 1 _ λv1=>a8 2 _ λv2=>a8 3 _ λv3=>a8 4 _ λv4=>ai 2 "dues" λl2=>ai 3 "behind" λl3=>ai 4 "k" λl4=> ?_
 exact(ae (az (i:=2) sc.nd rfl l2 (af hu (v0 _) a6))
 (ae (bL (aU (c9 hu20) cf (af hu (v2 _) a6) bA (aM _))
  (aA (aY iQ))
  b8)
 (ae (az (i:=3) sc.nd rfl l3 (iU (v1 _) (iU (af hu (v2 _) a6) (af hu (v2 _) a6))))
 (ae (az (i:=4) sc.nd rfl l4 (lW (v3 _) (af hu (v2 _) a6)))
 (ae (bL (vF (oE (Eb Dz Ao nC jZ a6 (v4 _) (af hu (v2 _) a6))) (ur (aU pb kX (iU (v3 _) (bB (v4 _) (af hu (v2 _) a6))) (aC (af hu (v2 _) a6) (af hu (v2 _) a6)) (aM _)))).pt
  (aA (aY iQ))
  b8)
 (aA (aY (v4 _))))))))
theorem u5:aW ["order","hour","dues"] ["order","hour"] (aJ tZ):=gp
theorem Dm(T:Txt Pm mg):cC P w (Hd.K Pm) mg base CX0 2 35 Hd.nZ ["order","hour"] (spD (Hd.K Pm) 2 lu):=by
 refine cU wY u5 rfl λcdv A outer s H E hr=> ?_
 have sc:=u5
 have hu:=dh hr
 have hu20:=cg hr
 refine a8 0 _ λv0=>a8 1 _ λv1=>a8 2 _ λv2=>ai 2 "dues" λl2=>aB "due_of" λg_due_of=> ?_
 exact(ae (az (i:=2) sc.nd rfl l2 (af hu (v0 _) a6))
 (ae (bL (aU (c9 hu20) cf (af hu (v2 _) a6) bA (aM _))
  (aA (aY (uo nC jZ (v1 _) (af hu (v2 _) a6) (aM _))))
  b8)
 (aA (aY (uo Ab uq (b5 (u4 T) hr g_due_of T.at rL jQ (a4 (v0 _) (a4 (v1 _) aa)) (a7 (a7 au))) iQ (aM _))))))
theorem oj:aW ["weights","guest","hour","found","row"] ["weights","guest","hour"] (aJ o5):=gp
theorem om(T:Txt Pm mg):cC P w (Hd.K Pm) mg base CX0 1 42 Hd.ju ["weights","guest","hour"] (spD (Hd.K Pm) 3 gQ):=by
 refine cU lN oj rfl λcdv A outer s H E hr=> ?_
 have sc:=oj
 have hu:=dh hr
 have hu20:=cg hr
 refine a8 0 _ λv0=>a8 1 _ λv1=>a8 2 _ λv2=>a8 3 _ λv3=>a8 4 _ λv4=>ai 3 "found" λl3=>ai 4 "row" λl4=> ?_
 exact(ae (az (i:=3) sc.nd rfl l3 iQ)
 (ae (cy (l:=(some 0)) GaE rfl (fP (v0 _)) (aP (i:=4) sc.nd rfl l4)
  (aA (bL (k4 (aU (c9 hu20) cf (af hu (v4 _) a6) (v1 _) (aM _)) (i8 (aU Dz Ao (af hu (v4 _) a6) (v2 _) (aM _)))).pt
  (aA (az (i:=3) sc.nd rfl l3 (af hu (v4 _) a6)))
  b8)))
 (aA (aY (v3 _)))))
theorem C0:aW ["marks","hours","rows","found","total","gone","k","row"] ["marks","hours"] (aJ BY):=gp
theorem Il(T:Txt Pm mg):cC P w (Hd.K Pm) mg base CX0 1 49 Hd.uS ["marks","hours"] (spD (Hd.K Pm) 2 jI):=by
 refine cU G2 C0 rfl λcdv A outer s H E hr=> ?_
 have sc:=C0
 have hu:=dh hr
 have hu20:=cg hr
 refine a8 0 _ λv0=>a8 1 _ λv1=>a8 2 _ λv2=>a8 3 _ λv3=>a8 4 _ λv4=>a8 5 _ λv5=>a8 6 _ λv6=>a8 7 _ λv7=>ai 2 "rows" λl2=>ai 3 "found" λl3=>dH 3 "found" λw3=>ai 4 "total" λl4=>ai 5 "gone" λl5=>ai 6 "k" λl6=>ai 7 "row" λl7=>aB "enumerate" λg_enumerate=>aB "len" λg_len=>aB "sorted" λg_sorted=> ?_
 exact(ae (az (i:=2) sc.nd rfl l2 (bS cO dD g_sorted T.gU fR (a4 (v0 _) aa)))
 (ae (az (i:=3) sc.nd rfl l3 (bJ aa))
 (ae (az (i:=4) sc.nd rfl l4 a6)
 (ae (az (i:=5) sc.nd rfl l5 a6)
 (ae (cy (l:=(some 2)) GaE rfl (uC g_enumerate T.lQ (v2 _)) (n8 rfl (cN (aP (i:=6) sc.nd rfl l6) (cN (aP (i:=7) sc.nd rfl l7) k5)))
  (ae (az (i:=4) sc.nd rfl l4 (aC (v4 _) (af hu (v7 _) a6)))
 (ae (Eg GaE (k4 (aU uc qF (v1 _) iQ (aM _)) (i8 (aU Dz Ao (af hu (af hu (v2 _) (v5 _)) a6) (iU (af hu (v7 _) a6) (v1 _)) (aM _)))).pt
  (ae (az (i:=4) sc.nd rfl l4 (iU (v4 _) (af hu (af hu (v2 _) (v5 _)) a6)))
 (aA (az (i:=5) sc.nd rfl l5 (aC (v5 _) a6)))))
 (aA (bL (vF (aU (c9 hu20) cf (aC (v6 _) a6) (bS (cL.or bV) bW g_len T.jA fW (a4 (v2 _) aa)) (aM _)) (ur (aU pb kX (af hu (af hu (v2 _) (aC (v6 _) a6)) a6) (af hu (v7 _) a6) (aM _)))).pt
  (aA (bN (i:=3) rfl w3 (b4 (a4 (af hu (v7 _) a6) (a4 (v4 _) aa)))))
  b8)))))
 (aA (aY (v3 _))))))))
theorem oq:aW ["stuff"] ["stuff"] (aJ jx):=gp
theorem ot(T:Txt Pm mg):cC P w (Hd.K Pm) mg base CX0 1 54 Hd.fm ["stuff"] (spD (Hd.K Pm) 1 fc):=by
 refine cU jU oq rfl λcdv A outer s H E hr=> ?_
 have hu:=dh hr
 have hu20:=cg hr
 refine a8 0 _ λv0=>aB "any" λg_any=> ?_
 exact(aA (aY (bS (Cz (by rfl)) CB g_any T.MP JF (a4 (lY (N:=["cap"]) (l:=none) rfl (by exact⟨rfl,rfl,rfl,rfl,rfl,by decide,rfl,rfl⟩) (fP (af hu (v0 _) a6)) jM ⟨λ_ _ _ _ _=>(aP (i:=0) (gY (by decide+kernel)) rfl (cE rfl) (gZ rfl)),λ_ _ _ _ _=>gw,λ_ _ _ _ _=>(uo (c9 (by exact hu20)) cf (af (by exact hu) (cR (i:=0) (hN:=rfl) (hv:=bw rfl)) a6) bA (aM _))⟩) aa))))
theorem lR:aW ["world","weights","giving","number","hour","amount","order","stuff","kinds"] ["world","weights","giving"] (aJ lJ):=gp
theorem rR(T:Txt Pm mg):cC P w (Hd.K Pm) mg base CX0 3 59 Hd.gF ["world","weights","giving"] (spD (Hd.K Pm) 3 fC):=by
 refine cU mL lR rfl λcdv A outer s H E hr=> ?_
 have sc:=lR
 have hu:=dh hr
 have hu20:=cg hr
 refine a8 0 _ λv0=>a8 1 _ λv1=>a8 2 _ λv2=>a8 3 _ λv3=>a8 4 _ λv4=>a8 5 _ λv5=>a8 6 _ λv6=>a8 7 _ λv7=>a8 8 _ λv8=>ai 3 "number" λl3=>ai 4 "hour" λl4=>ai 5 "amount" λl5=>ai 6 "order" λl6=>ai 7 "stuff" λl7=>ai 8 "kinds" λl8=>dH 8 "kinds" λw8=>aB "astray" λg_astray=>aB "goes_by_weight" λg_goes_by_weight=>aB "weight_at" λg_weight_at=> ?_
 exact(ae (az (i:=3) sc.nd rfl l3 (af hu (v2 _) a6))
 (ae (az (i:=4) sc.nd rfl l4 (af hu (v2 _) a6))
 (ae (az (i:=5) sc.nd rfl l5 (af hu (v2 _) a6))
 (ae (az (i:=6) sc.nd rfl l6 (af hu (af hu (v0 _) a6) (v3 _)))
 (ae (az (i:=7) sc.nd rfl l7 (af hu (af hu (v0 _) a6) (af hu (v6 _) a6)))
 (ae (az (i:=8) sc.nd rfl l8 (bJ aa))
 (ae (bL (n5 (b5 (Dm T) hr g_astray T.at wY lq (a4 (v6 _) (a4 (v4 _) aa)) (a7 (a7 au))))
  (aA (bN (i:=8) rfl w8 bA))
  b8)
 (ae (bL (aU pb kX (v5 _) (af hu (af hu (v6 _) a6) a6) (aM _))
  (aA (bN (i:=8) rfl w8 bA))
  b8)
 (ae (bL (vF (aU nC jZ (v5 _) a6 (aM _)) (ur (aU (Ek hu20) El (n4 (v5 _) (af hu (af hu (v7 _) a6) a6)) a6 (aM _)))).pt
  (aA (bN (i:=8) rfl w8 bA))
  b8)
 (ae (bL (k4 (n5 (b5 (ot T) hr g_goes_by_weight T.at jU fb (a4 (v7 _) aa) (a7 au))) (i8 (aU Ab uq (b5 (om T) hr g_weight_at T.at lN gP (a4 (v1 _) (a4 (af hu (v6 _) a6) (a4 (v4 _) aa))) (a7 (a7 (a7 au)))) iQ (aM _)))).pt
  (aA (bN (i:=8) rfl w8 bA))
  b8)
 (ae (bL (aU nC jZ (v4 _) (aC (af hu (af hu (af hu (v0 _) a6) (af hu (v6 _) a6)) a6) (af hu (v7 _) a6)) (aM _))
  (aA (bN (i:=8) rfl w8 bA))
  b8)
 (aA (aY (lY (N:=["kind","number","hour"]) (l:=(some 8)) rfl (by exact⟨rfl,rfl,rfl,rfl,rfl,by decide,rfl,rfl⟩) (fP (v8 _)) jM ⟨λ_ _ _ _ _=>(aP (i:=0) (gY (by decide+kernel)) rfl (cE rfl) (gZ rfl)),λ_ _ _ _ _=>gw,λ_ _ _ _ _=>(b4 (a4 (cR (i:=0) (hN:=rfl) (hv:=bw rfl)) (a4 (cR (i:=1) (hN:=rfl) (hv:=vM rfl)) (a4 (cR (i:=2) (hN:=rfl) (hv:=vM rfl)) aa))))⟩))))))))))))))
theorem je:aW ["world","givings","found","giving","order"] ["world","givings"] (aJ jd):=gp
theorem ny(T:Txt Pm mg):cC P w (Hd.K Pm) mg base CX0 1 66 Hd.dP ["world","givings"] (spD (Hd.K Pm) 2 cP):=by
 refine cU jz je rfl λcdv A outer s H E hr=> ?_
 have sc:=je
 have hu:=dh hr
 refine a8 0 _ λv0=>a8 1 _ λv1=>a8 3 _ λv3=>a8 4 _ λv4=>ai 2 "found" λl2=> ?_
 exact(CQ (i:=2) sc.nd rfl l2 (by first|exact Or.inl rfl|exact Or.inr (Or.inl rfl)|exact Or.inr (Or.inr rfl)) (K7 (i:=2) (j:=3) GaE rfl (v1 _) sc.nd rfl (by first|exact Or.inl rfl|exact Or.inr rfl) (by decide) (Fb (K5 (i:=2) (j:=4) sc.nd rfl (by first|exact Or.inl rfl|exact Or.inr rfl) (by decide) (af hu (af hu (v0 _) a6) (af hu (v3 _) a6)))
 (HC (K6 (i:=2) hu rfl (by first|exact Or.inl rfl|exact Or.inr (Or.inl rfl)|exact Or.inr (Or.inr rfl)) (b4 (a4 (af hu (v4 _) a6) (a4 (af hu (v4 _) a6) aa))) (b4 (a4 (af hu (v3 _) a6) (a4 (af hu (v3 _) a6) aa))))))))
theorem mP:aW ["world","weights","givings","found","target","marks","guest","k","cap","hours","row","top"] ["world","weights","givings"] (aJ mG):=gp
theorem sr(T:Txt Pm mg):cC P w (Hd.K Pm) mg base CX0 2 73 Hd.iC ["world","weights","givings"] (spD (Hd.K Pm) 3 fZ):=by
 refine cU o8 mP rfl λcdv A outer s H E hr=> ?_
 have sc:=mP
 have hu:=dh hr
 have hu20:=cg hr
 refine a8 0 _ λv0=>a8 1 _ λv1=>a8 2 _ λv2=>a8 3 _ λv3=>a8 4 _ λv4=>a8 5 _ λv5=>a8 6 _ λv6=>a8 7 _ λv7=>a8 8 _ λv8=>a8 9 _ λv9=>a8 10 _ λv10=>a8 11 _ λv11=>ai 3 "found" λl3=>dH 3 "found" λw3=>ai 4 "target" λl4=>ai 5 "marks" λl5=>ai 6 "guest" λl6=>ai 7 "k" λl7=>ai 8 "cap" λl8=>ai 9 "hours" λl9=>ai 10 "row" λl10=>ai 11 "top" λl11=>aB "bound" λg_bound=>aB "enumerate" λg_enumerate=>aB "marks_by_target" λg_marks_by_target=>aB "sums" λg_sums=>aB "weight_at" λg_weight_at=> ?_
 exact(ae (az (i:=3) sc.nd rfl l3 (bJ aa))
 (ae (cy (l:=none) GaE rfl (EM (b5 (ny T) hr g_marks_by_target T.at jz dM (a4 (v0 _) (a4 (v2 _) aa)) (a7 (a7 au)))) (n8 rfl (cN (aP (i:=4) sc.nd rfl l4) (cN (aP (i:=5) sc.nd rfl l5) k5)))
  (ae (az (i:=6) sc.nd rfl l6 (af hu (v4 _) a6))
 (aA (cy (l:=none) GaE rfl (uC g_enumerate T.lQ (af hu (af hu (af hu (v0 _) a6) (af hu (v4 _) a6)) a6)) (n8 rfl (cN (aP (i:=7) sc.nd rfl l7) (cN (aP (i:=8) sc.nd rfl l8) k5)))
  (ae (az (i:=9) sc.nd rfl l9 (Ea (aU (c9 hu20) cf (af hu (v8 _) a6) bA (aM _)) iQ (af hu (v8 _) a6)))
 (aA (cy (l:=none) GaE rfl (fP (b5 (Il T) hr g_sums T.at G2 qX (a4 (v5 _) (a4 (v9 _) aa)) (a7 (a7 au)))) (aP (i:=10) sc.nd rfl l10)
  (ae (az (i:=11) sc.nd rfl l11 (b5 (G4 T) hr g_bound T.at BZ ka (a4 (v8 _) (a4 (b5 (om T) hr g_weight_at T.at lN gP (a4 (v1 _) (a4 (v6 _) (a4 (af hu (v10 _) a6) aa))) (a7 (a7 (a7 au)))) aa)) (a7 (a7 au))))
 (aA (bL (k4 (aU uc qF (v11 _) iQ (aM _)) (i8 (aU pb kX (af hu (v10 _) a6) (v11 _) (aM _)))).pt
  (aA (bN (i:=3) rfl w3 (b4 (a4 bA (a4 (v6 _) (a4 (af hu (v4 _) a6) (a4 (v7 _) (a4 (af hu (v10 _) a6) (a4 (af hu (v10 _) a6) (a4 (v11 _) aa))))))))))
  b8))))))))))
 (aA (aY (v3 _)))))
theorem jC:aW ["bars","gaps","bar"] ["bars"] (aJ jy):=gp
theorem ou(T:Txt Pm mg):cC P w (Hd.K Pm) mg base CX0 1 80 Hd.fq ["bars"] (spD (Hd.K Pm) 1 fg):=by
 refine cU jV jC rfl λcdv A outer s H E hr=> ?_
 have sc:=jC
 have hu:=dh hr
 refine a8 0 _ λv0=>a8 1 _ λv1=>a8 2 _ λv2=>ai 1 "gaps" λl1=>ai 2 "bar" λl2=> ?_
 exact(ae (az (i:=1) sc.nd rfl l1 nL)
 (ae (cy (l:=(some 0)) GaE rfl (fP (v0 _)) (aP (i:=2) sc.nd rfl l2)
  (ae (oH (i:=1) hu rfl (by first|exact Or.inl rfl|exact Or.inr (Or.inl rfl)|exact Or.inr (Or.inr rfl)) (b4 (a4 (af hu (v2 _) a6) (a4 (af hu (v2 _) a6) aa))) (af hu (v2 _) a6))
 (aA (oH (i:=1) hu rfl (by first|exact Or.inl rfl|exact Or.inr (Or.inl rfl)|exact Or.inr (Or.inr rfl)) (b4 (a4 (af hu (v2 _) a6) (a4 (af hu (v2 _) a6) aa))) (af hu (v2 _) a6)))))
 (aA (aY (v1 _)))))
theorem rT:aW ["gaps","order","other"] ["gaps","order","other"] (aJ lK):=gp
theorem rV(T:Txt Pm mg):cC P w (Hd.K Pm) mg base CX0 1 87 Hd.gG ["gaps","order","other"] (spD (Hd.K Pm) 3 gC):=by
 refine cU mM rT rfl λcdv A outer s H E hr=> ?_
 have hu:=dh hr
 have hu20:=cg hr
 refine a8 0 _ λv0=>a8 1 _ λv1=>a8 2 _ λv2=> ?_
 exact(ae (bL (aU (Ek hu20) El (af hu (v1 _) a6) (af hu (v2 _) a6) (aM _))
  (aA (aY a6))
  b8)
 (aA (aY (Bz hu (v0 _) (b4 (a4 (af hu (v1 _) a6) (a4 (af hu (v2 _) a6) aa))) a6 ⟨rfl,rfl,rfl,rfl⟩))))
theorem mQ:aW ["world","givings","gaps","widest","rows","found","k","row","later","apart"] ["world","givings"] (aJ mH):=gp
theorem su(T:Txt Pm mg):cC P w (Hd.K Pm) mg base CX0 2 92 Hd.iD ["world","givings"] (spD (Hd.K Pm) 2 g8):=by
 refine cU o9 mQ rfl λcdv A outer s H E hr=> ?_
 have sc:=mQ
 have hu:=dh hr
 refine a8 0 _ λv0=>a8 1 _ λv1=>a8 2 _ λv2=>a8 3 _ λv3=>a8 4 _ λv4=>a8 5 _ λv5=>a8 6 _ λv6=>a8 7 _ λv7=>a8 8 _ λv8=>a8 9 _ λv9=>ai 2 "gaps" λl2=>ai 3 "widest" λl3=>ai 4 "rows" λl4=>ai 5 "found" λl5=>dH 5 "found" λw5=>ai 6 "k" λl6=>ai 7 "row" λl7=>ai 8 "later" λl8=>ai 9 "apart" λl9=>aB "enumerate" λg_enumerate=>aB "gap_between" λg_gap_between=>aB "gaps_by_stuffs" λg_gaps_by_stuffs=>aB "max" λg_max=>aB "sorted" λg_sorted=> ?_
 exact(ae (az (i:=2) sc.nd rfl l2 (b5 (ou T) hr g_gaps_by_stuffs T.at jV ff (a4 (af hu (v0 _) a6) aa) (a7 au)))
 (ae (az (i:=3) sc.nd rfl l3 (Hm rfl g_max T.IH (lY (N:=["bar"]) (l:=none) rfl (by exact⟨rfl,rfl,rfl,rfl,rfl,by decide,rfl,rfl⟩) (fP (af hu (v0 _) a6)) jM ⟨λ_ _ _ _ _=>(aP (i:=0) (gY (by decide+kernel)) rfl (cE rfl) (gZ rfl)),λ_ _ _ _ _=>gw,λ_ _ _ _ _=>(af (by exact hu) (cR (i:=0) (hN:=rfl) (hv:=bw rfl)) a6)⟩) Dq (λ_ _ _=> .int _) rfl))
 (ae (az (i:=4) sc.nd rfl l4 (bS cO dD g_sorted T.gU fR (a4 (lY (N:=["giving"]) (l:=(some 1)) rfl (by exact⟨rfl,rfl,rfl,rfl,rfl,by decide,rfl,rfl⟩) (fP (v1 _)) jM ⟨λ_ _ _ _ _=>(aP (i:=0) (gY (by decide+kernel)) rfl (cE rfl) (gZ rfl)),λ_ _ _ _ _=>gw,λ_ _ _ _ _=>(b4 (a4 (af (by exact hu) (cR (i:=0) (hN:=rfl) (hv:=bw rfl)) a6) (a4 (af (by exact hu) (cR (i:=0) (hN:=rfl) (hv:=bw rfl)) a6) aa)))⟩) aa)))
 (ae (az (i:=5) sc.nd rfl l5 (bJ aa))
 (ae (cy (l:=(some 4)) GaE rfl (uC g_enumerate T.lQ (v4 _)) (n8 rfl (cN (aP (i:=6) sc.nd rfl l6) (cN (aP (i:=7) sc.nd rfl l7) k5)))
  (aA (cy (l:=none) GaE rfl (fP (vO (v4 _) (tq (aC (v6 _) a6)) tm)) (aP (i:=8) sc.nd rfl l8)
  (ae (az (i:=9) sc.nd rfl l9 (iU (af hu (v8 _) a6) (af hu (v7 _) a6)))
 (ae (bL (aU Lm JA (v9 _) (v3 _) (aM _))
  (aA Ee)
  b8)
 (aA (bL (aU nC jZ (v9 _) (b5 (rV T) hr g_gap_between T.at mM gB (a4 (v2 _) (a4 (af hu (af hu (v0 _) a6) (af hu (v7 _) a6)) (a4 (af hu (af hu (v0 _) a6) (af hu (v8 _) a6)) aa))) (a7 (a7 (a7 au)))) (aM _))
  (aA (bN (i:=5) rfl w5 (b4 (a4 bA (a4 (af hu (v7 _) a6) (a4 (af hu (v7 _) a6) (a4 (af hu (v8 _) a6) (a4 (af hu (v8 _) a6) aa))))))))
  b8)))))))
 (aA (aY (v5 _))))))))
theorem kI:aW ["world","givings","counts","giving","k"] ["world","givings"] (aJ kH):=gp
theorem qf(T:Txt Pm mg):cC P w (Hd.K Pm) mg base CX0 2 97 Hd.gm ["world","givings"] (spD (Hd.K Pm) 2 dW):=by
 refine cU lP kI rfl λcdv A outer s H E hr=> ?_
 have sc:=kI
 have hu:=dh hr
 refine a8 0 _ λv0=>a8 1 _ λv1=>a8 2 _ λv2=>a8 3 _ λv3=>a8 4 _ λv4=>ai 2 "counts" λl2=>dH 2 "counts" λw2=>ai 3 "giving" λl3=>ai 4 "k" λl4=>aB "due_of" λg_due_of=> ?_
 exact(ae (az (i:=2) sc.nd rfl l2 nL)
 (ae (cy (l:=(some 1)) GaE rfl (fP (v1 _)) (aP (i:=3) sc.nd rfl l3)
  (ae (az (i:=4) sc.nd rfl l4 (b5 (u4 T) hr g_due_of T.at rL jQ (a4 (af hu (af hu (v0 _) a6) (af hu (v3 _) a6)) (a4 (af hu (v3 _) a6) aa)) (a7 (a7 au))))
 (aA (bL (aU uc qF (v4 _) iQ (aM _))
  (aA (oH (i:=2) hu rfl (by first|exact Or.inl rfl|exact Or.inr (Or.inl rfl)|exact Or.inr (Or.inr rfl)) (b4 (a4 (af hu (v3 _) a6) (a4 (v4 _) aa))) (aC (Bz hu (v2 _) (b4 (a4 (af hu (v3 _) a6) (a4 (v4 _) aa))) a6 ⟨rfl,rfl,rfl,rfl⟩) a6)))
  b8))))
 (aA (aY (k9 (N:=["due","many"]) (i:=2) rfl w2 rfl (by exact⟨rfl,rfl,rfl,rfl,rfl,by decide,rfl,rfl⟩) qI ⟨λ_ _ _ _ _=>(n8 rfl (cN (aP (i:=0) (gY (by decide+kernel)) rfl (cE rfl) (gZ rfl)) (cN (aP (i:=1) (gY (by decide+kernel)) rfl (cE rfl) (gZ rfl)) k5))),λ_ _ _ _ _=>(t7 (aU pb kX (cR (i:=1) (hN:=rfl) (hv:=bw rfl)) a6 (aM _))),λ_ _ _ _ _=>(b4 (a4 bA (a4 (af (by exact hu) (cR (i:=0) (hN:=rfl) (hv:=bw rfl)) a6) (a4 (af (by exact hu) (cR (i:=0) (hN:=rfl) (hv:=bw rfl)) a6) aa))))⟩)))))
theorem u6:aW ["world","book","weights","givings","found","giving"] ["world","book"] (aJ u0):=gp
theorem Dn(T:Txt Pm mg):cC P w (Hd.K Pm) mg base CX0 4 104 Hd.o4 ["world","book"] (spD (Hd.K Pm) 2 lA):=by
 refine cU wZ u6 rfl λcdv A outer s H E hr=> ?_
 have sc:=u6
 have hu:=dh hr
 refine a8 0 _ λv0=>a8 1 _ λv1=>a8 2 _ λv2=>a8 3 _ λv3=>a8 4 _ λv4=>a8 5 _ λv5=>ai 2 "weights" λl2=>ai 3 "givings" λl3=>ai 4 "found" λl4=>dH 4 "found" λw4=>ai 5 "giving" λl5=>aB "cap_faults" λg_cap_faults=>aB "gap_faults" λg_gap_faults=>aB "lone_faults" λg_lone_faults=>aB "sorted" λg_sorted=>aB "twice_faults" λg_twice_faults=> ?_
 exact(ae (az (i:=2) sc.nd rfl l2 (af hu (v1 _) a6))
 (ae (az (i:=3) sc.nd rfl l3 (af hu (v1 _) a6))
 (ae (az (i:=4) sc.nd rfl l4 (aC (aC (b5 (sr T) hr g_cap_faults T.at o8 ij (a4 (v0 _) (a4 (v2 _) (a4 (v3 _) aa))) (a7 (a7 (a7 au)))) (b5 (su T) hr g_gap_faults T.at o9 il (a4 (v0 _) (a4 (v3 _) aa)) (a7 (a7 au)))) (b5 (qf T) hr g_twice_faults T.at lP g9 (a4 (v0 _) (a4 (v3 _) aa)) (a7 (a7 au)))))
 (ae (cy (l:=(some 3)) GaE rfl (fP (v3 _)) (aP (i:=5) sc.nd rfl l5)
  (aA (Cw (i:=4) rfl w4 (b5 (rR T) hr g_lone_faults T.at mL gA (a4 (v0 _) (a4 (v2 _) (a4 (v5 _) aa))) (a7 (a7 (a7 au)))))))
 (aA (aY (bS cO jH g_sorted T.gU fR (a4 (v4 _) aa))))))))
theorem pO:aW ["_law_script","_law_k","_law_many","_law_cell"] ["_law_script","_law_k","_law_many"] (aJ pF):=gp
theorem ak(T:Txt Pm mg):cC P w (Hd.K Pm) mg base CX0 1 111 Hd.ko ["_law_script","_law_k","_law_many"] (spD (Hd.K Pm) 3 a9):=by
 refine cU ar pO rfl λcdv A outer s H E hr=> ?_
 have sc:=pO
 have hu:=dh hr
 refine a8 0 _ λv0=>a8 1 _ λv1=>a8 2 _ λv2=>a8 3 _ λv3=>ai 3 "_law_cell" λl3=>aB "len" λg_len=> ?_
 exact(ae (az (i:=3) sc.nd rfl l3 a6)
 (ae (bL (aU pb kX (bS (cL.or bV) bW g_len T.jA fW (a4 (v0 _) aa)) a6 (aM _))
  (aA (az (i:=3) sc.nd rfl l3 (n4 (af hu (v0 _) (n4 (v1 _) (bS (cL.or bV) bW g_len T.jA fW (a4 (v0 _) aa)))) a6)))
  b8)
 (aA (aY (n4 (lW (n4 (bB (n4 (bB (aC (v3 _) a6) (aC (aC (bB (v1 _) (v1 _)) (v1 _)) a6)) a6) a6) a6) a6) (v2 _))))))
theorem pP:aW ["_law_script","_law_k","_law_part","_law_scale","_law_caps_here","_law_c","_law_at","_law_hours","_law_kind","_law_top"] ["_law_script","_law_k","_law_part","_law_scale"] (aJ pG):=gp
theorem A0(T:Txt Pm mg):cC P w (Hd.K Pm) mg base CX0 2 118 Hd.kq ["_law_script","_law_k","_law_part","_law_scale"] (spD (Hd.K Pm) 4 j0):=by
 refine cU rM pP rfl λcdv A outer s H E hr=> ?_
 have sc:=pP
 have hu:=dh hr
 have hu20:=cg hr
 refine a8 0 _ λv0=>a8 1 _ λv1=>a8 2 _ λv2=>a8 3 _ λv3=>a8 4 _ λv4=>a8 5 _ λv5=>a8 6 _ λv6=>a8 7 _ λv7=>a8 8 _ λv8=>a8 9 _ λv9=>ai 4 "_law_caps_here" λl4=>dH 4 "_law_caps_here" λw4=>ai 5 "_law_c" λl5=>ai 6 "_law_at" λl6=>ai 7 "_law_hours" λl7=>ai 8 "_law_kind" λl8=>ai 9 "_law_top" λl9=>aB "_law_draw" λaj=>aB "range" λg_range=>aB "tuple" λg_tuple=> ?_
 exact(ae (az (i:=4) sc.nd rfl l4 (bJ aa))
 (ae (cy (l:=none) GaE rfl (f9 g_range T.gJ (af hu (bJ (a4 a6 (a4 a6 (a4 a6 (a4 a6 (a4 a6 (a4 a6 aa))))))) (b5 (ak T) hr aj T.at ar aq (a4 (v0 _) (a4 (v1 _) (a4 a6 aa))) (a7 (a7 (a7 au)))))) (aP (i:=5) sc.nd rfl l5)
  (ae (az (i:=6) sc.nd rfl l6 (aC (aC (v1 _) a6) (bB a6 (v5 _))))
 (ae (az (i:=7) sc.nd rfl l7 (bB (v3 _) (aC a6 (b5 (ak T) hr aj T.at ar aq (a4 (v0 _) (a4 (v6 _) (a4 a6 aa))) (a7 (a7 (a7 au)))))))
 (ae (az (i:=8) sc.nd rfl l8 (b5 (ak T) hr aj T.at ar aq (a4 (v0 _) (a4 (aC (v6 _) a6) (a4 a6 aa))) (a7 (a7 (a7 au)))))
 (ae (bL (aU (c9 hu20) cf (v8 _) a6 (aM _))
  (aA (bN (i:=4) rfl w4 (b4 (a4 bA (a4 (v7 _) (a4 (bB (v2 _) (aC a6 (b5 (ak T) hr aj T.at ar aq (a4 (v0 _) (a4 (aC (v6 _) a6) (a4 a6 aa))) (a7 (a7 (a7 au)))))) aa))))))
  b8)
 (ae (bL (aU (c9 hu20) cf (v8 _) a6 (aM _))
  (ae (az (i:=9) sc.nd rfl l9 (bB (v2 _) (aC a6 (b5 (ak T) hr aj T.at ar aq (a4 (v0 _) (a4 (aC (v6 _) a6) (a4 a6 aa))) (a7 (a7 (a7 au)))))))
 (aA (bN (i:=4) rfl w4 (b4 (a4 bA (a4 (v7 _) (a4 (v9 _) (a4 (aC a6 (b5 (ak T) hr aj T.at ar aq (a4 (v0 _) (a4 (aC (v6 _) a6) (a4 a6 aa))) (a7 (a7 (a7 au))))) aa))))))))
  b8)
 (aA (bL (aU (c9 hu20) cf (v8 _) a6 (aM _))
  (aA (bN (i:=4) rfl w4 (b4 (a4 bA (a4 (bB (v2 _) (aC a6 (b5 (ak T) hr aj T.at ar aq (a4 (v0 _) (a4 (aC (v6 _) a6) (a4 a6 aa))) (a7 (a7 (a7 au)))))) aa)))))
  b8))))))))
 (aA (aY (iV cQ dU g_tuple T.jB gM (a4 (v4 _) aa))))))
theorem mR:aW ["_law_script","_law_scale","_law_stuffs_here","_law_s","_law_k","_law_part","_law_sizes","_law_young"] ["_law_script","_law_scale"] (aJ mI):=gp
theorem sv(T:Txt Pm mg):cC P w (Hd.K Pm) mg base CX0 3 125 Hd.iE ["_law_script","_law_scale"] (spD (Hd.K Pm) 2 gc):=by
 refine cU oe mR rfl λcdv A outer s H E hr=> ?_
 have sc:=mR
 have hu:=dh hr
 refine a8 0 _ λv0=>a8 1 _ λv1=>a8 2 _ λv2=>a8 3 _ λv3=>a8 4 _ λv4=>a8 5 _ λv5=>a8 6 _ λv6=>a8 7 _ λv7=>ai 2 "_law_stuffs_here" λl2=>dH 2 "_law_stuffs_here" λw2=>ai 3 "_law_s" λl3=>ai 4 "_law_k" λl4=>ai 5 "_law_part" λl5=>ai 6 "_law_sizes" λl6=>ai 7 "_law_young" λl7=>aB "_law_caps" λAZ=>aB "_law_draw" λaj=>aB "range" λg_range=>aB "tuple" λg_tuple=> ?_
 exact(ae (az (i:=2) sc.nd rfl l2 (bJ aa))
 (ae (cy (l:=none) GaE rfl (f9 g_range T.gJ (af hu (bJ (a4 a6 (a4 a6 (a4 a6 (a4 a6 (a4 a6 (a4 a6 aa))))))) (b5 (ak T) hr aj T.at ar aq (a4 (v0 _) (a4 a6 (a4 a6 aa))) (a7 (a7 (a7 au)))))) (aP (i:=3) sc.nd rfl l3)
  (ae (az (i:=4) sc.nd rfl l4 (aC a6 (bB a6 (v3 _))))
 (ae (az (i:=5) sc.nd rfl l5 (af hu (bJ (a4 a6 (a4 a6 (a4 a6 (a4 a6 (a4 (kW a6 a6) aa)))))) (b5 (ak T) hr aj T.at ar aq (a4 (v0 _) (a4 (v4 _) (a4 a6 aa))) (a7 (a7 (a7 au))))))
 (ae (az (i:=6) sc.nd rfl l6 (af hu (bJ (a4 (b4 (a4 (v5 _) aa)) (a4 (b4 (a4 (v5 _) (a4 (bB a6 (v5 _)) aa))) (a4 (b4 (a4 (v5 _) (a4 (bB a6 (v5 _)) (a4 (bB a6 (v5 _)) aa)))) aa)))) (b5 (ak T) hr aj T.at ar aq (a4 (v0 _) (a4 (aC (v4 _) a6) (a4 a6 aa))) (a7 (a7 (a7 au))))))
 (ae (az (i:=7) sc.nd rfl l7 (bB (af hu (bJ (a4 a6 (a4 (v1 _) aa))) (b5 (ak T) hr aj T.at ar aq (a4 (v0 _) (a4 (aC (v4 _) a6) (a4 a6 aa))) (a7 (a7 (a7 au))))) (b5 (ak T) hr aj T.at ar aq (a4 (v0 _) (a4 (aC (v4 _) a6) (a4 a6 aa))) (a7 (a7 (a7 au))))))
 (aA (bN (i:=2) rfl w2 (b4 (a4 (aC bA (af hu bA (v3 _))) (a4 (v6 _) (a4 (b5 (A0 T) hr AZ T.at rM kb (a4 (v0 _) (a4 (aC (v4 _) a6) (a4 (v5 _) (a4 (v1 _) aa)))) (a7 (a7 (a7 (a7 au))))) (a4 (v7 _) aa))))))))))))
 (aA (aY (iV cQ dU g_tuple T.jB gM (a4 (v2 _) aa))))))
theorem pQ:aW ["_law_script","_law_many","_law_scale","_law_bars_here","_law_i","_law_j","_law_k","_law_one"] ["_law_script","_law_many","_law_scale"] (aJ pH):=gp
theorem A1(T:Txt Pm mg):cC P w (Hd.K Pm) mg base CX0 2 132 Hd.ku ["_law_script","_law_many","_law_scale"] (spD (Hd.K Pm) 3 j3):=by
 refine cU rN pQ rfl λcdv A outer s H E hr=> ?_
 have sc:=pQ
 have hu20:=cg hr
 refine a8 0 _ λv0=>a8 1 _ λv1=>a8 2 _ λv2=>a8 3 _ λv3=>a8 4 _ λv4=>a8 5 _ λv5=>a8 6 _ λv6=>a8 7 _ λv7=>ai 3 "_law_bars_here" λl3=>dH 3 "_law_bars_here" λw3=>ai 4 "_law_i" λl4=>ai 5 "_law_j" λl5=>ai 6 "_law_k" λl6=>ai 7 "_law_one" λl7=>aB "_law_draw" λaj=>aB "len" λg_len=>aB "range" λg_range=>aB "tuple" λg_tuple=> ?_
 exact(ae (az (i:=3) sc.nd rfl l3 (bJ aa))
 (ae (cy (l:=none) GaE rfl (f9 g_range T.gJ (v1 _)) (aP (i:=4) sc.nd rfl l4)
  (aA (cy (l:=none) GaE rfl (Cv g_range T.gJ (v4 _) (v1 _)) (aP (i:=5) sc.nd rfl l5)
  (ae (az (i:=6) sc.nd rfl l6 (aC (aC a6 (bB a6 (v4 _))) (bB a6 (v5 _))))
 (aA (bL (k4 (aU nC jZ (bS (cL.or bV) bW g_len T.jA fW (a4 (v3 _) aa)) a6 (aM _)) (i8 (aU (c9 hu20) cf (b5 (ak T) hr aj T.at ar aq (a4 (v0 _) (a4 (v6 _) (a4 a6 aa))) (a7 (a7 (a7 au)))) a6 (aM _)))).pt
  (ae (az (i:=7) sc.nd rfl l7 (b4 (a4 (v4 _) (a4 (v5 _) (a4 (bB (v2 _) (aC a6 (b5 (ak T) hr aj T.at ar aq (a4 (v0 _) (a4 (aC (v6 _) a6) (a4 a6 aa))) (a7 (a7 (a7 au)))))) aa)))))
 (aA (CH (i:=3) rfl w3 (b5 (ak T) hr aj T.at ar aq (a4 (v0 _) (a4 (aC (v6 _) a6) (a4 (aC (bS (cL.or bV) bW g_len T.jA fW (a4 (v3 _) aa)) a6) aa))) (a7 (a7 (a7 au)))) (v7 _))))
  b8))))))
 (aA (aY (iV cQ dU g_tuple T.jB gM (a4 (v3 _) aa))))))
theorem pR:aW ["_law_script","_law_k","_law_scale","_law_every","_law_early","_law_late","_law_begin"] ["_law_script","_law_k","_law_scale"] (aJ pI):=gp
theorem A2(T:Txt Pm mg):cC P w (Hd.K Pm) mg base CX0 2 139 Hd.kz ["_law_script","_law_k","_law_scale"] (spD (Hd.K Pm) 3 j5):=by
 refine cU rO pR rfl λcdv A outer s H E hr=> ?_
 have sc:=pR
 have hu:=dh hr
 have hu20:=cg hr
 refine a8 0 _ λv0=>a8 1 _ λv1=>a8 2 _ λv2=>a8 3 _ λv3=>a8 4 _ λv4=>a8 5 _ λv5=>a8 6 _ λv6=>ai 3 "_law_every" λl3=>ai 4 "_law_early" λl4=>ai 5 "_law_late" λl5=>ai 6 "_law_begin" λl6=>aB "_law_draw" λaj=> ?_
 exact(ae (bL (aU (c9 hu20) cf (b5 (ak T) hr aj T.at ar aq (a4 (v0 _) (a4 (v1 _) (a4 a6 aa))) (a7 (a7 (a7 au)))) a6 (aM _))
  (aA (aY (b4 (a4 bA (a4 (bB (v2 _) (b5 (ak T) hr aj T.at ar aq (a4 (v0 _) (a4 (aC (v1 _) a6) (a4 a6 aa))) (a7 (a7 (a7 au))))) aa)))))
  b8)
 (ae (az (i:=3) sc.nd rfl l3 (bB (v2 _) (aC a6 (b5 (ak T) hr aj T.at ar aq (a4 (v0 _) (a4 (aC (v1 _) a6) (a4 a6 aa))) (a7 (a7 (a7 au)))))))
 (ae (az (i:=4) sc.nd rfl l4 (bB (v2 _) (b5 (ak T) hr aj T.at ar aq (a4 (v0 _) (a4 (aC (v1 _) a6) (a4 (lW (v3 _) (v2 _)) aa))) (a7 (a7 (a7 au))))))
 (ae (az (i:=5) sc.nd rfl l5 (bB (v2 _) (b5 (ak T) hr aj T.at ar aq (a4 (v0 _) (a4 (aC (v1 _) a6) (a4 (lW (iU (v3 _) (v4 _)) (v2 _)) aa))) (a7 (a7 (a7 au))))))
 (ae (az (i:=6) sc.nd rfl l6 (aC (v4 _) (bB (v2 _) (b5 (ak T) hr aj T.at ar aq (a4 (v0 _) (a4 (aC (v1 _) a6) (a4 a6 aa))) (a7 (a7 (a7 au)))))))
 (aA (aY (b4 (a4 bA (a4 (v6 _) (a4 (v3 _) (a4 (af hu (bJ (a4 a6 (a4 a6 (a4 a6 (a4 a6 (a4 a6 aa)))))) (b5 (ak T) hr aj T.at ar aq (a4 (v0 _) (a4 (aC (v1 _) a6) (a4 a6 aa))) (a7 (a7 (a7 au))))) (a4 (v4 _) (a4 (v5 _) aa))))))))))))))
theorem ox:aW ["_law_script","_law_scale","_law_guests","_law_g","_law_stuffs_here","_law_orders","_law_r","_law_k","_law_stuff","_law_most","_law_rule","_law_dues_here","_law_tapers"] ["_law_script"] (aJ o6):=gp
theorem uU(T:Txt Pm mg):cC P w (Hd.K Pm) mg base CX0 4 146 Hd.jv ["_law_script"] (spD (Hd.K Pm) 1 gS):=by
 refine cU pL ox rfl λcdv A outer s H E hr=> ?_
 have sc:=ox
 have hu:=dh hr
 have hu20:=cg hr
 refine a8 0 _ λv0=>a8 1 _ λv1=>a8 2 _ λv2=>a8 3 _ λv3=>a8 4 _ λv4=>a8 5 _ λv5=>a8 6 _ λv6=>a8 7 _ λv7=>a8 8 _ λv8=>a8 9 _ λv9=>a8 10 _ λv10=>a8 11 _ λv11=>a8 12 _ λv12=>ai 1 "_law_scale" λl1=>ai 2 "_law_guests" λl2=>dH 2 "_law_guests" λw2=>ai 3 "_law_g" λl3=>ai 4 "_law_stuffs_here" λl4=>ai 5 "_law_orders" λl5=>dH 5 "_law_orders" λw5=>ai 6 "_law_r" λl6=>ai 7 "_law_k" λl7=>ai 8 "_law_stuff" λl8=>ai 9 "_law_most" λl9=>ai 10 "_law_rule" λl10=>ai 11 "_law_dues_here" λl11=>ai 12 "_law_tapers" λl12=>aB "_law_bars" λB1=>aB "_law_draw" λaj=>aB "_law_dues" λAY=>aB "_law_stuffs" λuZ=>aB "len" λg_len=>aB "range" λg_range=>aB "tuple" λg_tuple=> ?_
 exact(ae (az (i:=1) sc.nd rfl l1 (af hu (bJ (a4 a6 (a4 a6 (a4 a6 (a4 a6 (a4 a6 (a4 (kW a6 a6) aa))))))) (b5 (ak T) hr aj T.at ar aq (a4 (v0 _) (a4 a6 (a4 a6 aa))) (a7 (a7 (a7 au))))))
 (ae (az (i:=2) sc.nd rfl l2 (bJ aa))
 (ae (cy (l:=none) GaE rfl (f9 g_range T.gJ (af hu (bJ (a4 a6 (a4 a6 (a4 a6 (a4 a6 (a4 a6 (a4 a6 aa))))))) (b5 (ak T) hr aj T.at ar aq (a4 (v0 _) (a4 a6 (a4 a6 aa))) (a7 (a7 (a7 au)))))) (aP (i:=3) sc.nd rfl l3)
  (aA (bN (i:=2) rfl w2 (b4 (a4 (aC bA (af hu bA (v3 _))) (a4 (bB (v1 _) (b5 (ak T) hr aj T.at ar aq (a4 (v0 _) (a4 (aC a6 (v3 _)) (a4 a6 aa))) (a7 (a7 (a7 au))))) aa))))))
 (ae (az (i:=4) sc.nd rfl l4 (b5 (sv T) hr uZ T.at oe ip (a4 (v0 _) (a4 (v1 _) aa)) (a7 (a7 au))))
 (ae (az (i:=5) sc.nd rfl l5 (bJ aa))
 (ae (cy (l:=none) GaE rfl (f9 g_range T.gJ (af hu (bJ (a4 a6 (a4 a6 (a4 a6 (a4 a6 (a4 a6 (a4 a6 aa))))))) (b5 (ak T) hr aj T.at ar aq (a4 (v0 _) (a4 a6 (a4 a6 aa))) (a7 (a7 (a7 au)))))) (aP (i:=6) sc.nd rfl l6)
  (ae (az (i:=7) sc.nd rfl l7 (aC a6 (bB a6 (v6 _))))
 (ae (az (i:=8) sc.nd rfl l8 (b5 (ak T) hr aj T.at ar aq (a4 (v0 _) (a4 (v7 _) (a4 (bS (cL.or bV) bW g_len T.jA fW (a4 (v4 _) aa)) aa))) (a7 (a7 (a7 au)))))
 (ae (az (i:=9) sc.nd rfl l9 (bB (af hu (af hu (af hu (v4 _) (v8 _)) a6) a6) (af hu (bJ (a4 a6 (a4 a6 (a4 a6 aa)))) (b5 (ak T) hr aj T.at ar aq (a4 (v0 _) (a4 (aC (v7 _) a6) (a4 a6 aa))) (a7 (a7 (a7 au)))))))
 (ae (az (i:=10) sc.nd rfl l10 (b4 (a4 (af hu (bJ (a4 bA (a4 bA (a4 bA aa)))) (n4 (v6 _) a6)) (a4 (aC a6 (b5 (ak T) hr aj T.at ar aq (a4 (v0 _) (a4 (aC (v7 _) a6) (a4 a6 aa))) (a7 (a7 (a7 au))))) (a4 (b5 (ak T) hr aj T.at ar aq (a4 (v0 _) (a4 (aC (v7 _) a6) (a4 a6 aa))) (a7 (a7 (a7 au)))) (a4 (v9 _) aa))))))
 (ae (az (i:=11) sc.nd rfl l11 (b5 (A2 T) hr AY T.at rO j4 (a4 (v0 _) (a4 (aC (v7 _) a6) (a4 (v1 _) aa))) (a7 (a7 (a7 au)))))
 (ae (az (i:=12) sc.nd rfl l12 (b4 aa))
 (ae (bL (k4 (aU (c9 hu20) cf (af hu (v11 _) a6) bA (aM _)) (i8 (aU pb kX (af hu (v11 _) a6) a6 (aM _)))).pt
  (aA (az (i:=12) sc.nd rfl l12 (b4 (a4 (b4 (a4 a6 (a4 a6 (a4 a6 aa)))) (a4 (b4 (a4 a6 (a4 a6 (a4 a6 aa)))) aa)))))
  b8)
 (aA (bN (i:=5) rfl w5 (b4 (a4 (aC bA (af hu bA (v6 _))) (a4 (b5 (ak T) hr aj T.at ar aq (a4 (v0 _) (a4 (aC (v7 _) a6) (a4 (bS (cL.or bV) bW g_len T.jA fW (a4 (v2 _) aa)) aa))) (a7 (a7 (a7 au)))) (a4 (v8 _) (a4 (v10 _) (a4 (v11 _) (a4 (v12 _) aa)))))))))))))))))
 (aA (aY (b4 (a4 (iV cQ dU g_tuple T.jB gM (a4 (v2 _) aa)) (a4 (v4 _) (a4 (b5 (A1 T) hr B1 T.at rN kc (a4 (v0 _) (a4 (bS (cL.or bV) bW g_len T.jA fW (a4 (v4 _) aa)) (a4 (v1 _) aa))) (a7 (a7 (a7 au)))) (a4 (iV cQ dU g_tuple T.jB gM (a4 (v5 _) aa)) aa)))))))))))))
theorem pS:aW ["_law_script","_law_world_here","_law_order","_law_k","_law_scale","_law_dues_here","_law_hour_here","_law_near_here","_law_ends"] ["_law_script","_law_world_here","_law_order","_law_k"] (aJ pJ):=gp
theorem A3(T:Txt Pm mg):cC P w (Hd.K Pm) mg base CX0 2 153 Hd.kA ["_law_script","_law_world_here","_law_order","_law_k"] (spD (Hd.K Pm) 4 j6):=by
 refine cU rP pS rfl λcdv A outer s H E hr=> ?_
 have sc:=pS
 have hu:=dh hr
 have hu20:=cg hr
 refine a8 0 _ λv0=>a8 1 _ λv1=>a8 2 _ λv2=>a8 3 _ λv3=>a8 4 _ λv4=>a8 5 _ λv5=>a8 6 _ λv6=>a8 7 _ λv7=>a8 8 _ λv8=>ai 4 "_law_scale" λl4=>ai 5 "_law_dues_here" λl5=>ai 6 "_law_hour_here" λl6=>ai 7 "_law_near_here" λl7=>ai 8 "_law_ends" λl8=>aB "_law_draw" λaj=>aB "max" λg_max=>aB "min" λg_min=> ?_
 exact(ae (az (i:=4) sc.nd rfl l4 (af hu (bJ (a4 a6 (a4 a6 (a4 a6 (a4 a6 (a4 a6 (a4 (kW a6 a6) aa))))))) (b5 (ak T) hr aj T.at ar aq (a4 (v0 _) (a4 a6 (a4 a6 aa))) (a7 (a7 (a7 au))))))
 (ae (az (i:=5) sc.nd rfl l5 (af hu (af hu (af hu (v1 _) a6) (v2 _)) a6))
 (ae (az (i:=6) sc.nd rfl l6 (bB (v4 _) (b5 (ak T) hr aj T.at ar aq (a4 (v0 _) (a4 (v3 _) (a4 a6 aa))) (a7 (a7 (a7 au))))))
 (ae (bL (k4 (aU (c9 hu20) cf (af hu (v5 _) a6) bA (aM _)) (i8 (aU pb kX (b5 (ak T) hr aj T.at ar aq (a4 (v0 _) (a4 (aC (v3 _) a6) (a4 a6 aa))) (a7 (a7 (a7 au)))) a6 (aM _)))).pt
  (ae (az (i:=7) sc.nd rfl l7 (aC (af hu (v5 _) a6) (bB (b5 (ak T) hr aj T.at ar aq (a4 (v0 _) (a4 (v3 _) (a4 (bS (sJ (by rfl)) qG g_min T.II Em (a4 (af hu (v5 _) a6) (a4 a6 aa))) aa))) (a7 (a7 (a7 au)))) (af hu (v5 _) a6))))
 (ae (az (i:=8) sc.nd rfl l8 (bJ (a4 (v7 _) (a4 (iU (v7 _) (af hu (v5 _) a6)) (a4 (aC (v7 _) (af hu (v5 _) a6)) (a4 (iU (iU (v7 _) (af hu (v5 _) a6)) a6) (a4 (aC (aC (v7 _) (af hu (v5 _) a6)) a6) (a4 (v7 _) aa))))))))
 (aA (az (i:=6) sc.nd rfl l6 (bS (Ca (by rfl)) Ap g_max T.IH En (a4 a6 (a4 (af hu (v8 _) (b5 (ak T) hr aj T.at ar aq (a4 (v0 _) (a4 (aC (v3 _) a6) (a4 a6 aa))) (a7 (a7 (a7 au))))) aa)))))))
  b8)
 (ae (bL (aU (c9 hu20) cf (b5 (ak T) hr aj T.at ar aq (a4 (v0 _) (a4 (aC (v3 _) a6) (a4 a6 aa))) (a7 (a7 (a7 au)))) a6 (aM _))
  (aA (az (i:=6) sc.nd rfl l6 (aC (v6 _) a6)))
  b8)
 (ae (bL (aU (c9 hu20) cf (b5 (ak T) hr aj T.at ar aq (a4 (v0 _) (a4 (aC (v3 _) a6) (a4 a6 aa))) (a7 (a7 (a7 au)))) a6 (aM _))
  (aA (az (i:=6) sc.nd rfl l6 (kW a6 a6)))
  b8)
 (aA (aY (v6 _)))))))))
theorem mS:aW ["_law_script","_law_world_here","_law_order","_law_k","_law_part","_law_many","_law_odd"] ["_law_script","_law_world_here","_law_order","_law_k"] (aJ mJ):=gp
theorem sC(T:Txt Pm mg):cC P w (Hd.K Pm) mg base CX0 2 160 Hd.iF ["_law_script","_law_world_here","_law_order","_law_k"] (spD (Hd.K Pm) 4 fh):=by
 refine cU og mS rfl λcdv A outer s H E hr=> ?_
 have sc:=mS
 have hu:=dh hr
 have hu20:=cg hr
 refine a8 0 _ λv0=>a8 1 _ λv1=>a8 2 _ λv2=>a8 3 _ λv3=>a8 4 _ λv4=>a8 5 _ λv5=>a8 6 _ λv6=>ai 4 "_law_part" λl4=>ai 5 "_law_many" λl5=>ai 6 "_law_odd" λl6=>aB "_law_draw" λaj=> ?_
 exact(ae (az (i:=4) sc.nd rfl l4 (af hu (af hu (af hu (af hu (v1 _) a6) (af hu (af hu (af hu (v1 _) a6) (v2 _)) a6)) a6) a6))
 (ae (az (i:=5) sc.nd rfl l5 (bB (v4 _) (aC a6 (b5 (ak T) hr aj T.at ar aq (a4 (v0 _) (a4 (aC (v3 _) a6) (a4 a6 aa))) (a7 (a7 (a7 au)))))))
 (ae (az (i:=6) sc.nd rfl l6 (bJ (a4 a6 (a4 (E9 (v5 _)) (a4 (aC (v5 _) a6) (a4 (kW a6 a6) (a4 (bB (v4 _) a6) (a4 (E9 a6) aa))))))))
 (ae (bL (aU (c9 hu20) cf (b5 (ak T) hr aj T.at ar aq (a4 (v0 _) (a4 (aC (v3 _) a6) (a4 a6 aa))) (a7 (a7 (a7 au)))) a6 (aM _))
  (aA (aY (af hu (v6 _) (b5 (ak T) hr aj T.at ar aq (a4 (v0 _) (a4 (aC (v3 _) a6) (a4 a6 aa))) (a7 (a7 (a7 au)))))))
  b8)
 (aA (aY (v5 _)))))))
theorem lS:aW ["_law_script","_law_world_here","_law_many","_law_scale","_law_kept","_law_n","_law_spot"] ["_law_script","_law_world_here","_law_many"] (aJ lL):=gp
theorem rW(T:Txt Pm mg):cC P w (Hd.K Pm) mg base CX0 2 165 Hd.gH ["_law_script","_law_world_here","_law_many"] (spD (Hd.K Pm) 3 fG):=by
 refine cU mN lS rfl λcdv A outer s H E hr=> ?_
 have sc:=lS
 have hu:=dh hr
 have hu20:=cg hr
 refine a8 0 _ λv0=>a8 1 _ λv1=>a8 2 _ λv2=>a8 3 _ λv3=>a8 5 _ λv5=>a8 6 _ λv6=>ai 3 "_law_scale" λl3=>ai 4 "_law_kept" λl4=>dH 4 "_law_kept" λw4=>ai 5 "_law_n" λl5=>ai 6 "_law_spot" λl6=>aB "_law_draw" λaj=>aB "len" λg_len=>aB "range" λg_range=>aB "sorted" λg_sorted=>aB "tuple" λg_tuple=> ?_
 exact(ae (az (i:=3) sc.nd rfl l3 (af hu (bJ (a4 a6 (a4 a6 (a4 a6 (a4 a6 (a4 a6 (a4 (kW a6 a6) aa))))))) (b5 (ak T) hr aj T.at ar aq (a4 (v0 _) (a4 a6 (a4 a6 aa))) (a7 (a7 (a7 au))))))
 (ae (az (i:=4) sc.nd rfl l4 nL)
 (ae (cy (l:=none) GaE rfl (f9 g_range T.gJ (v2 _)) (aP (i:=5) sc.nd rfl l5)
  (ae (az (i:=6) sc.nd rfl l6 (b4 (a4 (b5 (ak T) hr aj T.at ar aq (a4 (v0 _) (a4 (aC a6 (v5 _)) (a4 (bS (cL.or bV) bW g_len T.jA fW (a4 (af hu (v1 _) a6) aa)) aa))) (a7 (a7 (a7 au)))) (a4 (bB (v3 _) (b5 (ak T) hr aj T.at ar aq (a4 (v0 _) (a4 (aC a6 (v5 _)) (a4 a6 aa))) (a7 (a7 (a7 au))))) aa))))
 (ae (bL (k4 (aU nC jZ (v5 _) (bS (cL.or bV) bW g_len T.jA fW (a4 (af hu (v1 _) a6) aa)) (aM _)) (i8 (aU (c9 hu20) cf (b5 (ak T) hr aj T.at ar aq (a4 (v0 _) (a4 a6 (a4 a6 aa))) (a7 (a7 (a7 au)))) a6 (aM _)))).pt
  (aA (az (i:=6) sc.nd rfl l6 (b4 (a4 (v5 _) (a4 a6 aa)))))
  b8)
 (aA (oH (i:=4) hu rfl (by first|exact Or.inl rfl|exact Or.inr (Or.inl rfl)|exact Or.inr (Or.inr rfl)) (v6 _) (af hu (bJ (a4 (aC a6 (b5 (ak T) hr aj T.at ar aq (a4 (v0 _) (a4 (aC a6 (v5 _)) (a4 a6 aa))) (a7 (a7 (a7 au))))) (a4 (kW a6 a6) aa))) (lW (b5 (ak T) hr aj T.at ar aq (a4 (v0 _) (a4 (aC a6 (v5 _)) (a4 a6 aa))) (a7 (a7 (a7 au)))) a6)))))))
 (aA (aY (iV cQ dU g_tuple T.jB gM (a4 (bS cO dD g_sorted T.gU fR (a4 (k9 (N:=["_law_spot","_law_weight"]) (i:=4) rfl w4 rfl (by exact⟨rfl,rfl,rfl,rfl,rfl,by decide,rfl,rfl⟩) qI ⟨λ_ _ _ _ _=>(n8 rfl (cN (aP (i:=0) (gY (by decide+kernel)) rfl (cE rfl) (gZ rfl)) (cN (aP (i:=1) (gY (by decide+kernel)) rfl (cE rfl) (gZ rfl)) k5))),λ_ _ _ _ _=>gw,λ_ _ _ _ _=>(b4 (a4 (af (by exact hu) (cR (i:=0) (hN:=rfl) (hv:=bw rfl)) a6) (a4 (af (by exact hu) (cR (i:=0) (hN:=rfl) (hv:=bw rfl)) a6) (a4 (cR (i:=1) (hN:=rfl) (hv:=bw rfl)) aa))))⟩) aa)) aa)))))))
theorem lT:aW ["_law_script","_law_world_here","_law_many","_law_kept","_law_n","_law_order","_law_spot"] ["_law_script","_law_world_here","_law_many"] (aJ lM):=gp
theorem rX(T:Txt Pm mg):cC P w (Hd.K Pm) mg base CX0 3 170 Hd.gI ["_law_script","_law_world_here","_law_many"] (spD (Hd.K Pm) 3 fH):=by
 refine cU mO lT rfl λcdv A outer s H E hr=> ?_
 have sc:=lT
 have hu:=dh hr
 have hu20:=cg hr
 refine a8 0 _ λv0=>a8 1 _ λv1=>a8 2 _ λv2=>a8 4 _ λv4=>a8 5 _ λv5=>a8 6 _ λv6=>ai 3 "_law_kept" λl3=>dH 3 "_law_kept" λw3=>ai 4 "_law_n" λl4=>ai 5 "_law_order" λl5=>ai 6 "_law_spot" λl6=>aB "_law_amount" λuX=>aB "_law_draw" λaj=>aB "_law_hour" λB0=>aB "len" λg_len=>aB "range" λg_range=>aB "sorted" λg_sorted=>aB "tuple" λg_tuple=> ?_
 exact(ae (az (i:=3) sc.nd rfl l3 nL)
 (ae (cy (l:=none) GaE rfl (f9 g_range T.gJ (v2 _)) (aP (i:=4) sc.nd rfl l4)
  (ae (az (i:=5) sc.nd rfl l5 (b5 (ak T) hr aj T.at ar aq (a4 (v0 _) (a4 (aC a6 (v4 _)) (a4 (bS (cL.or bV) bW g_len T.jA fW (a4 (af hu (v1 _) a6) aa)) aa))) (a7 (a7 (a7 au)))))
 (ae (az (i:=6) sc.nd rfl l6 (b4 (a4 (v5 _) (a4 (b5 (A3 T) hr B0 T.at rP kf (a4 (v0 _) (a4 (v1 _) (a4 (v5 _) (a4 (aC a6 (v4 _)) aa)))) (a7 (a7 (a7 (a7 au))))) aa))))
 (ae (oH (i:=3) hu rfl (by first|exact Or.inl rfl|exact Or.inr (Or.inl rfl)|exact Or.inr (Or.inr rfl)) (v6 _) (b5 (sC T) hr uX T.at og iq (a4 (v0 _) (a4 (v1 _) (a4 (v5 _) (a4 (aC a6 (v4 _)) aa)))) (a7 (a7 (a7 (a7 au))))))
 (aA (bL (aU (c9 hu20) cf (b5 (ak T) hr aj T.at ar aq (a4 (v0 _) (a4 (aC a6 (v4 _)) (a4 a6 aa))) (a7 (a7 (a7 au)))) a6 (aM _))
  (aA (oH (i:=3) hu rfl (by first|exact Or.inl rfl|exact Or.inr (Or.inl rfl)|exact Or.inr (Or.inr rfl)) (v6 _) (aC (kW a6 a6) (v4 _))))
  b8))))))
 (aA (aY (iV cQ dU g_tuple T.jB gM (a4 (bS cO dD g_sorted T.gU fR (a4 (k9 (N:=["_law_spot","_law_amount_here"]) (i:=3) rfl w3 rfl (by exact⟨rfl,rfl,rfl,rfl,rfl,by decide,rfl,rfl⟩) qI ⟨λ_ _ _ _ _=>(n8 rfl (cN (aP (i:=0) (gY (by decide+kernel)) rfl (cE rfl) (gZ rfl)) (cN (aP (i:=1) (gY (by decide+kernel)) rfl (cE rfl) (gZ rfl)) k5))),λ_ _ _ _ _=>gw,λ_ _ _ _ _=>(b4 (a4 (af (by exact hu) (cR (i:=0) (hN:=rfl) (hv:=bw rfl)) a6) (a4 (af (by exact hu) (cR (i:=0) (hN:=rfl) (hv:=bw rfl)) a6) (a4 (cR (i:=1) (hN:=rfl) (hv:=bw rfl)) aa))))⟩) aa)) aa))))))
theorem pT:aW ["_law_world_here","_law_book","_law_rising","_law_one","_law_listed_here","_law_j","_law_i","_law_other","_law_bar"] ["_law_world_here","_law_book"] (aJ pK):=gp
theorem A4(T:Txt Pm mg):cC P w (Hd.K Pm) mg base CX0 1 175 Hd.kB ["_law_world_here","_law_book"] (spD (Hd.K Pm) 2 j7):=by
 refine cU rQ pT rfl λcdv A outer s H E hr=> ?_
 have sc:=pT
 have hu:=dh hr
 have hu20:=cg hr
 refine a8 0 _ λv0=>a8 1 _ λv1=>a8 2 _ λv2=>a8 3 _ λv3=>a8 4 _ λv4=>a8 5 _ λv5=>a8 6 _ λv6=>a8 7 _ λv7=>a8 8 _ λv8=>ai 2 "_law_rising" λl2=>ai 3 "_law_one" λl3=>ai 4 "_law_listed_here" λl4=>dH 4 "_law_listed_here" λw4=>ai 5 "_law_j" λl5=>ai 6 "_law_i" λl6=>ai 7 "_law_other" λl7=>ai 8 "_law_bar" λl8=>aB "len" λg_len=>aB "range" λg_range=>aB "sorted" λg_sorted=> ?_
 exact(ae (az (i:=2) sc.nd rfl l2 (bS cO dD g_sorted T.gU fR (a4 (lY (N:=["_law_one"]) (l:=none) rfl (by exact⟨rfl,rfl,rfl,rfl,rfl,by decide,rfl,rfl⟩) (fP (af hu (v1 _) a6)) jM ⟨λ_ _ _ _ _=>(aP (i:=0) (gY (by decide+kernel)) rfl (cE rfl) (gZ rfl)),λ_ _ _ _ _=>gw,λ_ _ _ _ _=>(b4 (a4 (af (by exact hu) (cR (i:=0) (hN:=rfl) (hv:=bw rfl)) a6) (a4 (af (by exact hu) (cR (i:=0) (hN:=rfl) (hv:=bw rfl)) a6) aa)))⟩) aa)))
 (ae (az (i:=4) sc.nd rfl l4 (bJ aa))
 (ae (cy (l:=none) GaE rfl (f9 g_range T.gJ (bS (cL.or bV) bW g_len T.jA fW (a4 (v2 _) aa))) (aP (i:=5) sc.nd rfl l5)
  (aA (cy (l:=none) GaE rfl (f9 g_range T.gJ (v5 _)) (aP (i:=6) sc.nd rfl l6)
  (ae (az (i:=3) sc.nd rfl l3 (af hu (af hu (v0 _) a6) (af hu (af hu (v2 _) (v6 _)) a6)))
 (ae (az (i:=7) sc.nd rfl l7 (af hu (af hu (v0 _) a6) (af hu (af hu (v2 _) (v5 _)) a6)))
 (aA (cy (l:=none) GaE rfl (fP (af hu (v0 _) a6)) (aP (i:=8) sc.nd rfl l8)
  (aA (bL (k4 (aU (c9 hu20) cf (af hu (v3 _) a6) (af hu (v7 _) a6) (aM _)) (i8 (aU (c9 hu20) cf (bS cO dD g_sorted T.gU fR (a4 (bJ (a4 (af hu (v3 _) a6) (a4 (af hu (v7 _) a6) aa))) aa)) (bJ (a4 (af hu (v8 _) a6) (a4 (af hu (v8 _) a6) aa))) (aM _)))).pt
  (aA (bL (aU nC jZ (iU (af hu (af hu (v2 _) (v5 _)) a6) (af hu (af hu (v2 _) (v6 _)) a6)) (af hu (v8 _) a6) (aM _))
  (aA (bN (i:=4) rfl w4 (b4 (a4 bA (a4 (af hu (af hu (v2 _) (v6 _)) a6) (a4 (af hu (af hu (v2 _) (v6 _)) a6) (a4 (af hu (af hu (v2 _) (v5 _)) a6) (a4 (af hu (af hu (v2 _) (v5 _)) a6) aa))))))))
  b8))
  b8)))))))))
 (aA (aY (v4 _))))))
theorem uV:aW ["_law_found"] ["_law_found"] (aJ o7):=gp
theorem uW(T:Txt Pm mg):cC P w (Hd.K Pm) mg base CX0 1 182 Hd.jw ["_law_found"] (spD (Hd.K Pm) 1 jr):=by
 refine cU pM uV rfl λcdv A outer s H E hr=> ?_
 refine a8 0 _ λv0=>aB "bool" λg_bool=>aB "int" λg_int=>aB "isinstance" λg_isinstance=> ?_
 exact(aA (aY (JC (qH GX (v0 _) g_isinstance T.gn g_int T.MQ JG) (JB (JD (qH Ep (v0 _) g_isinstance T.gn g_bool T.Ky GV))))))
theorem mT:aW ["_law_found","_law_one","_law_num"] ["_law_found"] (aJ mK):=gp
theorem sD(T:Txt Pm mg):cC P w (Hd.K Pm) mg base CX0 2 189 Hd.iH ["_law_found"] (spD (Hd.K Pm) 1 gf):=by
 refine cU oh mT rfl λcdv A outer s H E hr=> ?_
 have sc:=mT
 have hu:=dh hr
 refine a8 0 _ λv0=>a8 1 _ λv1=>a8 2 _ λv2=>ai 1 "_law_one" λl1=>ai 2 "_law_num" λl2=>aB "isinstance" λg_isinstance=>aB "_law_whole" λA6=>aB "len" λg_len=>aB "list" λg_list=>aB "str" λg_str=>aB "tuple" λg_tuple=> ?_
 exact(ae (bL (oE (n5 (qH Eo (v0 _) g_isinstance T.gn g_list T.Kz GW)))
  (aA (aY vD))
  b8)
 (ae (cy (l:=(some 0)) GaE rfl (fP (v0 _)) (aP (i:=1) sc.nd rfl l1)
  (ae (bL (vF (oE (n5 (qH kit_tuple (v1 _) g_isinstance T.gn g_tuple T.jB gM))) (vF (aU nC jZ (bS (cL.or bV) bW g_len T.jA fW (a4 (v1 _) aa)) a6 (aM _)) (ur (oE (n5 (qH GY (af hu (v1 _) a6) g_isinstance T.gn g_str T.MR JH)))))).pt
  (aA (aY vD))
  b8)
 (aA (cy (l:=none) GaE rfl (fP (vO (v1 _) (tq a6) tm)) (aP (i:=2) sc.nd rfl l2)
  (aA (bL (oE (n5 (b5 (uW T) hr A6 T.at pM jq (a4 (v2 _) aa) (a7 au))))
  (aA (aY vD))
  b8))))))
 (aA (aY vD))))
theorem G5:aW ["_law_script","_law_world_here","_law_weights_here","_law_book","_law_found"] ["_law_script"] (aJ G1):=gp
theorem KA(T:Txt Pm mg):cC P w (Hd.K Pm) mg base CX0 5 194 Hd.BX ["_law_script"] (spD (Hd.K Pm) 1 qY):=by
 refine cU MN G5 rfl λcdv A outer s H E hr=> ?_
 have sc:=G5
 have hu:=dh hr
 have hu20:=cg hr
 refine a8 0 _ λv0=>a8 1 _ λv1=>a8 2 _ λv2=>a8 3 _ λv3=>a8 4 _ λv4=>ai 1 "_law_world_here" λl1=>ai 2 "_law_weights_here" λl2=>ai 3 "_law_book" λl3=>ai 4 "_law_found" λl4=>aB "faults" λg_faults=>aB "_law_draw" λaj=>aB "_law_givings" λsE=>aB "_law_listed" λuY=>aB "_law_near" λAX=>aB "_law_weights" λsF=>aB "_law_world" λA5=>aB "len" λg_len=>aB "min" λg_min=>aB "sorted" λg_sorted=> ?_
 exact(ae (az (i:=1) sc.nd rfl l1 (b5 (uU T) hr A5 T.at pL jo (a4 (v0 _) aa) (a7 au)))
 (ae (az (i:=2) sc.nd rfl l2 (b5 (rW T) hr sF T.at mN gD (a4 (v0 _) (a4 (v1 _) (a4 (b5 (ak T) hr aj T.at ar aq (a4 (v0 _) (a4 a6 (a4 a6 aa))) (a7 (a7 (a7 au)))) aa))) (a7 (a7 (a7 au)))))
 (ae (az (i:=3) sc.nd rfl l3 (b4 (a4 (v2 _) (a4 (b5 (rX T) hr sE T.at mO gE (a4 (v0 _) (a4 (v1 _) (a4 (aC (bS (sJ (by rfl)) qG g_min T.II Em (a4 (bS (cL.or bV) bW g_len T.jA fW (a4 (v0 _) aa)) (a4 a6 aa))) (b5 (ak T) hr aj T.at ar aq (a4 (v0 _) (a4 a6 (a4 a6 aa))) (a7 (a7 (a7 au))))) aa))) (a7 (a7 (a7 au)))) aa))))
 (ae (az (i:=4) sc.nd rfl l4 (b5 (Dn T) hr g_faults T.at wZ nS (a4 (v1 _) (a4 (v3 _) aa)) (a7 (a7 au))))
 (ae (bL (oE (n5 (b5 (sD T) hr uY T.at oh iz (a4 (v4 _) aa) (a7 au))))
  (aA (aY vD))
  b8)
 (aA (aY (uo (c9 hu20) cf (lY (N:=["_law_one"]) (l:=(some 4)) rfl (by exact⟨rfl,rfl,rfl,rfl,rfl,by decide,rfl,rfl⟩) (fP (v4 _)) jM ⟨λ_ _ _ _ _=>(aP (i:=0) (gY (by decide+kernel)) rfl (cE rfl) (gZ rfl)),λ_ _ _ _ _=>(t7 (aU (c9 (by exact hu20)) cf (af (by exact hu) (cR (i:=0) (hN:=rfl) (hv:=bw rfl)) a6) bA (aM _))),λ_ _ _ _ _=>(cR (i:=0) (hN:=rfl) (hv:=bw rfl))⟩) (bS cO jH g_sorted T.gU fR (a4 (b5 (A4 T) hr AX T.at rQ kg (a4 (v1 _) (a4 (v3 _) aa)) (a7 (a7 au))) aa)) (aM _)))))))))
end
theorem all_mk{l:PySem.W.OpenLaw}{w:World}{h:Heap}{mg:Str→Option Value}{fa:Addr}(X:(Hd.K w.params).In h)(G:h.Ns mainGlobals mg)(hfa:mg "law"=some (.ref fa)):
  ∃fd:FuncData,(∀(s:Shared) (v:Value),BindsTo s fd ⟨[v],[]⟩ [("_law_script",v)])∧∀base:Heap,(Hd.K w.params).In base→base.Ns mainGlobals mg→cC l.prog w (Hd.K w.params) mg base CX0 5 fa fd ["_law_script"] (spD (Hd.K w.params) 1 qY):=by
 have T:Txt w.params mg:=⟨h,X,G⟩
 have e:=hfa.symm.trans T.MO
 cases e
 exact⟨_,λs v=> .of_eq rfl,λbase _ _=>KA T⟩
theorem walk{l:PySem.W.OpenLaw}{q:Program}{loose:List Str}{XP:(Str→Option Value)→Heap→Prop}{YP:World→Heap→Prop}{d:DefRec}{K:Params→PySem.W.Frag}(hn:l.most=some 63)(hdf:d.params.defaults=[])
  (hY:∀(w:World) (h:Heap),YP w h→(K w.params).In h)(true_:∀ns:List Int,ns.length≤63→qY [.scr ns]=some (.bl true))
  (F:∀(w:World) (mg:Str→Option Value) (fa:Addr) (h:Heap),(K w.params).In h→h.Ns mainGlobals mg→mg d.name=some (.ref fa)→
   ∃fd:FuncData,(∀(s:Shared) (u:Value),BindsTo s fd ⟨[u],[]⟩ [("_law_script",u)])∧∀base:Heap,(K w.params).In base→base.Ns mainGlobals mg→cC l.prog w (K w.params) mg base CX0 5 fa fd ["_law_script"] (spD (K w.params) 1 qY)):
  PySem.W.WalkO q loose XP YP l.row.toRowW d [] (λf vs=>PySem.call f vs):=
 L2.GA (n:=63) (k:=5) (x:="_law_script") (CX:=λ_=>CX0) (sp:=λw=>spD (K w.params) 1 qY) hn (by decide) hdf ⟨rfl,by decide,by decide⟩ hY F (λ_ _ a ns hl hO hS=>JE hO hS (true_ ns hl)) λ_ _ _ _ _ z=>z
end Der
open PySem PySem.W PyProof.Rows
set_option maxRecDepth 100000 in
set_option maxHeartbeats 0 in
theorem PySem.Challenge.cw_dosehouse_k43_faults_of_gaps_holds : PySem.Challenge.rw_dosehouse_k43_faults_of_gaps.Holds := by
 refine holds_law (by kernel_rfl) λsaid=> ?_
 refine holds_open (q:=Hd.view) (loose:=[]) (Xt:=Hd.xt) (XP:=XL Hd.view []) (Yf:=Hook.obs Hd.hook) (Ya:=Hook.val Hd.hook) (YP:=Hook.says Hd.hook) (N:=2014) Hd.left (Hook.of Hd.hook) (Hook.keeps Hd.hook) (λs e=>xl_of s (Bool.and_eq_true_iff.mp e).1) XL.keeps (by rfl) (by rfl) (by rfl) (λs e=>recFacts_of (Bool.and_eq_true_iff.mp e).2) (by rfl) said (by decide+kernel) ⟨rfl,rfl,rfl,rfl,rfl,by decide+kernel⟩ ?hw ?hc
 case hw=>w_witness2
 case hc=>exact Der.walk (l:=PySem.Challenge.rw_dosehouse_k43_faults_of_gaps) (K:=Hd.K) rfl rfl (λw h Y=>PySem.W.kIn_of Y) Maths.G0 λw mg fa h KX G hmg=>Der.all_mk KX G hmg
