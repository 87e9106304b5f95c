import PyProof.Rows.All
import Wide.All
import OpenK.AllK
import PySem.Challenge.RW_dosehouse_k50_entries_of_a_house
set_option Elab.async false
set_option linter.all false
set_option maxRecDepth 100000
set_option maxHeartbeats 0
set_option genSizeOf false
set_option compiler.extract_closed false
set_option genInjectivity false
theorem Za1(h:True:=by rfl):True:=h
theorem Za2(h:True:=by decide):True:=h
theorem Za3(h:True:=by first|exact .inl rfl|exact .inr rfl|assumption):True:=h
def Gaa:=@List.getElem?_set_ne
def Gab:=@PySem.wpAny_bind
def Gac:=@Option.map_eq_some_iff
def Gad:=@PySem.Heap.get?_push_of_some
def Gae:=@List.getElem?_eq_some_iff
def Gaf:=@if_pos
def Gag:=@if_neg
def Gah:=@PySem.wpAny_pure
def Gai:=@Bool.false_ne_true
def Gaj:=@List.size_toArray
def Gak:=@Nat.lt_of_lt_of_le
def Gal:=@PySem.Heap.lt_size
def Gam:=@Bool.and_eq_true
def Gan:=@List.all_eq_true
def Gao:=@Nat.le_refl
def Gap:=@List.map_cons
def Gaq:=@List.length_map
def Gar:=@List.mem_cons_of_mem
def Gas:=@List.getElem?_map
def Gat:=@PySem.Heap.get?_push_size
def Gau:=@Nat.ne_of_lt
def Gav:=@List.mem_cons_self
def Gaw:=@List.mem_cons
def Gax:=@Bool.false_eq_true
def Gay:=@Ne.symm
def Gaz:=@List.length_cons
def GaA:=@List.getElem?_append_right
def GaB:=@List.getElem?_set_self
def GaC:=@decide_eq_true
def GaD:=@decide_eq_false
def GaE:=@PySem.PassesOwn.never
def GaF:=@List.getElem?_eq_getElem
def GaG:=@List.lookup_cons
def GaH:=@List.mem_of_getElem?
def GaI:=@of_decide_eq_true
def GaJ:=@List.getElem?_append_left
def GaK:=@List.length_filter_le
def GaL:=@List.set_cons_succ
def GaM:=@List.set_cons_zero
def GaN:=@Nat.lt_irrefl
def GaO:=@List.all_cons
def GaP:=@List.getElem?_eq_none
def GaQ:=@Nat.le_trans
def GaR:=@Bool.or_eq_true
def GaS:=@PySem.wpAny_newObj_type
def GaT:=@PySem.Heap.get?_update_other
def GaU:=@List.mem_append_right
def GaV:=@List.append_nil
def GaW:=@if_false
def GaX:=@Nat.zero_le
def GaY:=@List.mem_map
def GaZ:=@if_true
def Gba:=@PySem.Heap.get?_update_self
def Gbb:=@List.length_append
def Gbc:=@PySem.sizeLine_eq
def Gbd:=@List.getElem_mem
def Gbe:=@PySem.W.kia_one
def Gbf:=@List.map_append
def Gbg:=@PySem.wpAny_mono
def Gbh:=@List.filter_cons
def Gbi:=@PySem.wpAny_holding
def Gbj:=@beq_iff_eq
def Gbk:=@List.find?_cons
def Gbl:=@PySem.wpAny_Call_Name_kw
def Gbm:=@List.filter_cons_of_neg
def Gbn:=@List.filter_cons_of_pos
def Gbo:=@PySem.wpAny_truthy_bool
def Gbp:=@Nat.ne_of_gt
def Gbq:=@PySem.Calls.callWith_builtin
def Gbr:=@Array.getElem?_eq_some_iff
def Gbs:=@List.mem_range
def Gbt:=@PySem.Calls.spliced_cons
def Gbu:=@PySem.W.callWith_K
def Gbv:=@PySem.tupleKind_room_in1
def Gbw:=@List.mem_singleton
def Gbx:=@List.drop_eq_getElem_cons
def Gby:=@List.mem_append
def Gbz:=@List.map_map
def GbA:=@List.getElem?_replicate
def GbB:=@Array.length_toList
def GbC:=@List.map_congr_left
def GbD:=@List.length_take
def GbE:=@PySem.wpAny_call_entry
def GbF:=@List.map_nil
def GbG:=@List.all_map
def GbH:=@PySem.wpAny_passesOwn
def GbI:=@List.nodup_cons
def GbJ:=@PySem.wpAny_ite_false
def GbK:=@List.any_eq_false
def GbL:=@PySem.Calls.evalArgs_plain
def GbM:=@PySem.Heap.size_push
def GbN:=@PySem.wpAny_ite_true
def GbO:=@Nat.lt_succ_self
def GbP:=@beq_eq_false_iff_ne
def GbQ:=@PyProof.Rows.slot_tuple_getitem
def GbR:=@PySem.wpAny_callSpecial?_slot
def GbS:=@PySem.F.plainAttrs_dict
def GbT:=@PySem.F.plainAttrs_list
def GbU:=@List.length_eq_zero_iff
def GbV:=@List.mem_filter
def GbW:=@PySem.wpAny_execs_nil
def GbX:=@PySem.wpAny_call
def GbY:=@List.pairwise_cons
def GbZ:=@PySem.wpAny_typeNameOfWhole_itemiter
def Gca:=@Int.le_refl
def Gcb:=@List.find?_cons_of_neg
def Gcc:=@PySem.F.slot_dict_itemiterator_next
def Gce:=@PySem.Calls.spliced_nil
def Gcf:=@List.append_assoc
def Gcg:=@PySem.wpAny_loadPart_at
def Gch:=@PySem.codeAny_mono
def Gci:=@PySem.W.methodCall_KW
def Gcj:=@List.length_singleton
def Gck:=@Bool.and_false
def Gcl:=@PyProof.Rows.kmk_tree
def Gcm:=@PyProof.Rows.callWith_type1
def Gcn:=@Array.getD_eq_getD_getElem?
def Gco:=@Nat.le_of_not_lt
def Gcp:=@PySem.codeAny_call_builtin
def Gcq:=@PySem.F.excBase_ValueError
def Gcr:=@Nat.le_succ
def Gcs:=@Option.isNone_iff_eq_none
def Gct:=@PySem.F.args_tuple_add_2
def Gcu:=@PySem.wpAny_pyIter_tuple
def Gcv:=@Nat.lt_or_ge
def Gcw:=@Nat.eq_or_lt_of_le
def Gcx:=@PySem.W.looks_findIn
def Gcy:=@Int.not_lt
def Gcz:=@PySem.F.slot_dict_itemiterator_iter
def GcA:=@PySem.F.entry_tuple_add
def GcB:=@List.eraseIdx_cons_succ
def GcC:=@PySem.wpAny_Call_method
def GcD:=@PySem.wpAny_dictEntries
def GcE:=@PySem.wpAny_pyIter_enum
def GcF:=@PySem.F.slot_tuple_add
def GcG:=@PySem.wpAny_of_eq
def GcH:=@List.find?_cons_of_pos
def GcI:=@List.drop_of_length_le
def GcJ:=@List.any_cons
def GcK:=@List.length_drop
def GcL:=@List.drop_length
def GcM:=@List.any_eq_true
def GcN:=@List.getElem_map
def GcO:=@List.length_replicate
def GcP:=@PySem.F.slot_dict_get
def GcQ:=@PySem.wpAny_notOrdered_dict
def GcR:=@Nat.le_of_lt
def GcS:=@PySem.Heap.get?_none_of_le
def GcT:=@PyProof.Rows.callWith_builtin1
def GcU:=@PySem.call_meetsIn
def GcV:=@PySem.codeAny_builtin
def GcW:=@PySem.Around.under_plainId
def GcX:=@List.filterMap_cons
def GcY:=@PySem.W.plainGet_of
def GcZ:=@List.zip_cons_cons
def Gda:=@Int.emod_lt_of_pos
def Gdb:=@Bool.and_true
def Gdc:=@Option.isSome_map
def Gdd:=@List.ext_getElem?
def Gde:=@Option.some.injEq
def Gdf:=@Nat.lt_succ_of_lt
def Gdg:=@List.getElem?_set
def Gdh:=@Int.le_of_lt
namespace L2
open PySem PySem.Spec PyProof.Rows
abbrev Key:=Sum Int Str
noncomputable def wC:Key->Value->Bool
 | .inl k,v=>Value.isInt k v
 | .inr x,v=>Value.isStrOf x v
noncomputable def RI(w:World):Key->Int
 | .inl k=>hashInt k
 | .inr x=>hashStr w x
theorem cV:∀{k:Key} {v:Value},wC k v=true->(∃i t,k=Sum.inl i/\v=Value.int i t)\/(∃x t,k=Sum.inr x/\v=Value.str x t)
 | .inl i,v,h=>by
  obtain⟨t,e⟩:=Value.isInt_shape (k:=i) (v:=v) h;exact .inl ⟨i,t,rfl,e⟩
 | .inr x,v,h=>by
  obtain⟨t,e⟩:=Value.isStrOf_shape (x:=x) (v:=v) h;exact .inr ⟨x,t,rfl,e⟩
theorem Fh(i:Int)(t:Tok):wC (.inl i) (.int i t)=true:=by simp[wC,Value.isInt]
theorem Fj(x:Str)(t:Tok):wC (.inr x) (.str x t)=true:=by simp[wC,Value.isStrOf]
theorem MC(a b:Int):decide ((Sum.inl a:Key)=Sum.inl b)=(a==b):=by
 by_cases e:a=b
 .subst e;simp
 .have h:¬(Sum.inl a:Key)=Sum.inl b:=λq=>e (Sum.inl.inj q);rw[GaD h];exact(GbP.mpr e).symm
theorem ME(a b:Str):decide ((Sum.inr a:Key)=Sum.inr b)=decide (a=b):=by
 by_cases e:a=b
 .subst e;simp
 .have h:¬(Sum.inr a:Key)=Sum.inr b:=λq=>e (Sum.inr.inj q);rw[GaD h,GaD e]
theorem MF(a:Int)(b:Str):decide ((Sum.inl a:Key)=Sum.inr b)=false:=GaD (λq=>nomatch q)
theorem MG(a:Str)(b:Int):decide ((Sum.inr a:Key)=Sum.inl b)=false:=GaD (λq=>nomatch q)
noncomputable def cy(prog:Program)(w:World):PySem.KeyKind prog w Key where
 is:=wC
 hash:=RI w
 inj:=λv a b ha hb=>by
  rcases cV ha with⟨i,t,rfl,rfl⟩| ⟨x,t,rfl,rfl⟩
  .rcases cV hb with⟨j,u,rfl,e⟩| ⟨y,u,rfl,e⟩
   .injection e with e1 _;rw[e1]
   .exact nomatch e
  .rcases cV hb with⟨j,u,rfl,e⟩| ⟨y,u,rfl,e⟩
   .exact nomatch e
   .injection e with e1 _;rw[e1]
 byValue:=λk v h=>by
  rcases cV h with⟨i,t,rfl,rfl⟩| ⟨x,t,rfl,rfl⟩<;>rfl
 pyHash:=λhv h=>by
  rcases cV hv with⟨i,t,rfl,rfl⟩| ⟨x,t,rfl,rfl⟩
  .exact wpAny_pyHash_int h
  .exact wpAny_pyHash_str h
 eqBool:=λhu hv h=>by
  rcases cV hu with⟨i,t,rfl,rfl⟩| ⟨x,t,rfl,rfl⟩
  .rcases cV hv with⟨j,u,rfl,rfl⟩| ⟨y,u,rfl,rfl⟩
   .rw[MC] at h;exact wpAny_eqBool_int h
   .rw[MF] at h;exact SeqAt.EqAt.int_str i t y u _ _ _ _ h
  .rcases cV hv with⟨j,u,rfl,rfl⟩| ⟨y,u,rfl,rfl⟩
   .rw[MG] at h;exact SeqAt.EqAt.str_int x t j u _ _ _ _ h
   .rw[ME] at h;exact wpAny_eqBool_str h
 «strs» :=λk x t v h=>by
  rcases cV h with⟨i,u,rfl,e⟩| ⟨y,u,rfl,e⟩
  .exact nomatch e
  .injection e with e1 _
   subst e1;cases v<;>rfl
theorem Bf(prog:Program)(w:World)(i:Int)(t:Tok):(cy prog w).is (.inl i) (.int i t)=true:=Fh i t
theorem Bg(prog:Program)(w:World)(x:Str)(t:Tok):(cy prog w).is (.inr x) (.str x t)=true:=Fj x t
set_option genInjectivity true in
inductive V where
 |non|bl (b:Bool)|int (i:Int)|str (x:Str)|byt (b:Array UInt8)|flt (b:UInt64)|ref (a:Addr)|ty (n:String)
 deriving DecidableEq
def RelV:V->Value->Prop
 | .non,u=>u=Value.none
 | .bl b,u=>u=Value.bool b
 | .int i,u=>∃t,u=Value.int i t
 | .str x,u=>∃t,u=Value.str x t
 | .byt b,u=>∃t,u=Value.bytes b t
 | .flt b,u=>∃t,u=Value.float b t
 | .ref a,u=>u=Value.ref a
 | .ty n,u=>u=Value.type n
abbrev Vals:List V->List Value->Prop:=Paired RelV
theorem Vals.length{xs:List V}{us:List Value}(r:Vals xs us):xs.length=us.length:=Paired.length r
theorem Vals.get:∀{xs:List V} {us:List Value} {i:Nat} {x:V},Vals xs us->xs[i]? =some x->∃u,us[i]? =some u/\RelV x u
 |_,_,_,_,.nil,e=>by simp at e
 |_,_,0,_,.cons r _,e=>by simp at e;subst e;exact⟨_,rfl,r⟩
 |_,_,i+1,x,.cons _ t,e=>by
  obtain⟨u,h1,h2⟩:=Vals.get (i:=i) (x:=x) t (by simpa using e);exact⟨u,by simpa using h1,h2⟩
theorem Vals.set{x:V}{u:Value}(r:RelV x u):∀{xs:List V} {us:List Value} (i:Nat),Vals xs us->Vals (xs.set i x) (us.set i u)
 |_,_,_,.nil=> .nil
 |_,_,0,.cons _ t=> .cons r t
 |_,_,i+1,.cons q t=> .cons q (Vals.set r i t)
theorem Vals.append{xs ys:List V}{us ws:List Value}(p:Vals xs us)(s:Vals ys ws):Vals (xs++ys) (us++ws):=by
 induction p with
 |nil=>exact s
 |cons r t ih=>exact .cons r ih
theorem Vals.take:∀{xs:List V} {us:List Value} (n:Nat),Vals xs us->Vals (xs.take n) (us.take n)
 |_,_,0,_=> .nil
 |_,_,_+1,.nil=> .nil
 |_,_,n+1,.cons r t=> .cons r (Vals.take n t)
theorem Vals.drop:∀{xs:List V} {us:List Value} (n:Nat),Vals xs us->Vals (xs.drop n) (us.drop n)
 |_,_,0,r=>r
 |_,_,_+1,.nil=> .nil
 |_,_,n+1,.cons _ t=>Vals.drop n t
def mR:Option V->Option Value->Prop
 |some v,some u=>RelV v u
 |none,none=>True
 |_,_=>False
def KV{Y:Type}:List (Y×V)->List (Y×Value)->Prop:=Paired λ(p:Y×V) (q:Y×Value)=>p.1=q.1/\RelV p.2 q.2
noncomputable def kV:Key->V
 | .inl i=> .int i
 | .inr x=> .str x
inductive HO where
 |lst (xs:List V)
 |tup (xs:List V)
 |dK (et:List (Key×V))|dT (et:List (List Key×V))
 |set (S:Int->Bool) (n:Nat)
 |ins (C dx:Addr) (fs:List (Str×V))
 |own (x:Addr)
 |xd (fs:List (Str×V))
 |met (f x:Addr)
 |rng (lo hi:Int)
 |frz (o:Obj) (u:HO)
 |tbl (ps:Array Value)
 |ext (φ:Heap->Prop)
abbrev Hp:=Addr->Option HO
noncomputable def upd(H:Hp)(a:Addr)(o:HO):Hp:=λb=>if b=a then some o else H b
variable{o:HO}{a:Addr}{H:Hp}
theorem aC:upd H a o a=some o:=by unfold upd;rw[Gaf rfl]
variable{b:Addr}
theorem ak(h:b≠a):upd H a o b=H b:=by unfold upd;rw[Gag h]
variable{u:HO}
theorem Dy:upd (upd H a o) a u=upd H a u:=by
 funext b;unfold upd;split<;>rfl
theorem oR(h:H a=some o)(h' :H b=some u)(d:o≠u):a≠b:=by
 intro e;subst e;rw[h] at h';exact d (Option.some.inj h')
theorem bc(h:H a=some o)(h' :H b=none):a≠b:=by
 intro e;subst e;rw[h] at h';cases h'
section
variable(P:Program)(w:World)
def bx(H:Hp)(h:Heap)(a:Addr):HO->Prop
 | .lst xs=>xs.length<=sizeLine/\∃(eA:List Value) (n:Nat),Vals xs eA/\h.get? a=some {cls:= .type "list",data:= .seq eA.toArray n}
 | .tup xs=>xs.length<=sizeLine/\∃eA:List Value,Vals xs eA/\IsTup h a eA.toArray
 | .dK et=>et.length<=sizeLine/\(a==sysModules)=false/\∃vs,KV et vs/\h.DictOf (cy P w) a vs
 | .dT et=>et.length<=sizeLine/\(a==sysModules)=false/\∃xs:List (List Key×Addr×Value),
   Paired (λ(p:List Key×V) (q:List Key×Addr×Value)=>p.1=q.1/\H q.2.1=some (.tup (p.1.map kV))/\RelV p.2 q.2.2) et xs/\
   ∃o es ep,h.get? a=some o/\o.ExactDict/\o.data= .dict es ep/\es.toList=xs.map (entryOfKey (tupleKind (cy P w)))/\(xs.map (·.1)).Nodup
 | .set S n=>h.SetOf (intKind P w) a S n
 | .ins C dx fs=>H dx=some (.own a)/\fs.length<=1000/\dx≠a/\h.get? a=some (PySem.W.instObj C dx)/\
   ∃mA,h.Ns1 dx mA/\(∀f,mR (fs.lookup f) (mA f))/\PySem.Within mA (fs.map (·.1))
 | .own _=>∃o,h.get? a=some o
 | .xd fs=>∃mA,h.Ns1 a mA/\∀f,mR (fs.lookup f) (mA f)
 | .rng lo hi=>∃t u v,h.get? a=some {cls:= .type "range",data:= .fields #[.int lo t,.int hi u,.int 1 v]}
 | .frz o u=>h.get? a=some o/\bx H h a u
 | .tbl ps=>h.get? a=some {cls:= .none,data:= .fields ps}
 | .met f x=>h.get? a=some (PySem.W.methodObj (.ref f) (.ref x))
 | .ext φ=>φ h/\(∃o,h.get? a=some o)/\∀h1 h2:Heap,φ h1->(∀o,h1.get? a=some o->h2.get? a=some o)->φ h2
def HOk(H:Hp)(h:Heap):Prop:=∀a o,H a=some o->bx P w H h a o
end
section
variable{P:Program}{w:World}{H H' :Hp}{h h' :Heap}{a:Addr}{o:HO}
theorem bx.lt(x:bx P w H h a o):a<h.objs.size:=by
 cases o with
 |lst xs=>obtain⟨_,_,_,_,e⟩:=x;exact Gal e
 |tup xs=>obtain⟨_,_,_,p⟩:=x;exact p.lt
 |dK et=>obtain⟨_,_,_,_,o,_,_,e,_⟩:=x;exact Gal e
 |dT et=>obtain⟨_,_,_,_,o,_,_,e,_⟩:=x;exact Gal e
 |set S n=>obtain⟨o,_,_,_,e,_⟩:=x;exact Gal e
 |ins C dx fs=>obtain⟨_,_,_,e,_⟩:=x;exact Gal e
 |own y=>obtain⟨_,e⟩:=x;exact Gal e
 |xd fs=>obtain⟨_,⟨_,_,_,e,_⟩,_⟩:=x;exact Gal e
 |rng lo hi=>obtain⟨_,_,_,e⟩:=x;exact Gal e
 |frz ob u=>obtain⟨e,_⟩:=x;exact Gal e
 |tbl ps=>exact Gal (show h.get? a=some _ from x)
 |met f y=>exact Gal (show h.get? a=some _ from x)
 |ext φ=>obtain⟨_,⟨_,e⟩,_⟩:=x;exact Gal e
theorem Paired.JO{α β:Type}{F G:α->β->Prop}{l₁:List α}{l₂:List β}(p:Paired F l₁ l₂)(f:∀a b,F a b->G a b):Paired G l₁ l₂:=by
 induction p with
 |nil=>exact .nil
 |cons r t ih=>exact .cons (f _ _ r) ih
theorem bx.dC(x:bx P w H h a o)(k:∀b u,(b=a\/H b=some (.own a))->h.get? b=some u->h'.get? b=some u)
  (ho:∀b,H b=some (.own a)->H' b=some (.own a))(ht:∀b xs,H b=some (.tup xs)->H' b=some (.tup xs)):bx P w H' h' a o:=by
 induction o with
 |lst xs=>obtain⟨z,eA,n,r,e⟩:=x;exact⟨z,eA,n,r,k _ _ (.inl rfl) e⟩
 |tup xs=>obtain⟨z,eA,r,ob,e,c⟩:=x;exact⟨z,eA,r,ob,k _ _ (.inl rfl) e,c⟩
 |dK et=>obtain⟨z,y,vs,r,ob,es,ep,e,c⟩:=x;exact⟨z,y,vs,r,ob,es,ep,k _ _ (.inl rfl) e,c⟩
 |dT et=>
  obtain⟨z,y,xs,r,ob,es,ep,e,c⟩:=x;exact⟨z,y,xs,Paired.JO r λp q z=> ⟨z.1,ht _ _ z.2.1,z.2.2⟩,ob,es,ep,k _ _ (.inl rfl) e,c⟩
 |set S n=>obtain⟨ob,es,ep,t,e,c⟩:=x;exact⟨ob,es,ep,t,k _ _ (.inl rfl) e,c⟩
 |ins C dx fs=>
  obtain⟨d,z,ne,e,mA,⟨od,es,ep,e2,c⟩,r⟩:=x;exact⟨ho _ d,z,ne,k _ _ (.inl rfl) e,mA,⟨od,es,ep,k _ _ (.inr d) e2,c⟩,r⟩
 |own y=>obtain⟨ob,e⟩:=x;exact⟨ob,k _ _ (.inl rfl) e⟩
 |xd fs=>obtain⟨mA,⟨od,es,ep,e,c⟩,r⟩:=x;exact⟨mA,⟨od,es,ep,k _ _ (.inl rfl) e,c⟩,r⟩
 |rng lo hi=>obtain⟨t,u,v,e⟩:=x;exact⟨t,u,v,k _ _ (.inl rfl) e⟩
 |frz ob u ih=>obtain⟨e,q⟩:=x;exact⟨k _ _ (.inl rfl) e,ih q⟩
 |tbl ps=>
  have e:h.get? a=some {cls:= .none,data:= .fields ps}:=x;show h'.get? a=some {cls:= .none,data:= .fields ps};exact k a _ (.inl rfl) e
 |met f y=>
  have e:h.get? a=some (PySem.W.methodObj (.ref f) (.ref y)):=x;show h'.get? a=some (PySem.W.methodObj (.ref f) (.ref y));exact k a _ (.inl rfl) e
 |ext φ=>obtain⟨p,⟨o,e⟩,st⟩:=x;exact⟨st _ _ p λo q=>k _ _ (.inl rfl) q,⟨o,k _ _ (.inl rfl) e⟩,st⟩
theorem HOk.lt(x:HOk P w H h)(e:H a=some o):a<h.objs.size:=(x a o e).lt
theorem HOk.fresh(x:HOk P w H h)(e:h.objs.size<=a):H a=none:=by
 cases q:H a with
 |none=>rfl
 |some u=>exact absurd (Gak (x.lt q) e) (GaN _)
theorem HOk.kept(x:HOk P w H h)(k:∀b u,h.get? b=some u->h'.get? b=some u):HOk P w H h' :=λa o e=>
 (x a o e).dC (λb u _ q=>k b u q) (λ_ q=>q) λ_ _ q=>q
theorem HOk.laid(x:HOk P w H h)(k:∀b u,h.get? b=some u->h'.get? b=some u)(hp:h.objs.size<=a)(new:bx P w (upd H a o) h' a o):HOk P w (upd H a o) h' :=λb u e=>by
 have hn:=x.fresh hp;by_cases hb:b=a
 .subst hb;rw[aC] at e;cases e;exact new
 .rw[ak hb] at e;exact(x b u e).dC (λc v _ q=>k c v q) (λc q=>by rw[ak (bc q hn)];exact q) λc xs q=>by rw[ak (bc q hn)];exact q
end
def Rd(H:Hp)(a:Addr)(u:HO):Prop:=H a=some u\/∃o,H a=some (.frz o u)
variable{h:Heap}
theorem Rd.ok{P:Program}{w:World}(r:Rd H a u)(x:HOk P w H h):bx P w H h a u:=by
 rcases r with r| ⟨o,r⟩
 .exact x a u r
 .obtain⟨_,q⟩:=x a _ r;exact q
def Mut:Option HO->Prop
 |some (.lst _)=>True
 |some (.dK _)=>True
 |some (.dT _)=>True
 |some (.set _ _)=>True
 |some (.ins _ _ _)=>True
 |some (.ext _)=>True
 |_=>False
section
variable{P:Program}{w:World}{H:Hp}{h h' :Heap}{x e:Addr}{o' :HO}
theorem HOk.write(ok:HOk P w H h)(mu:Mut (H x))(he:e=x\/H e=some (.own x))(k:∀b u,b≠e->h.get? b=some u->h'.get? b=some u)(SU:∃u,h'.get? e=some u)
  (new:bx P w (upd H x o') h' x o'):HOk P w (upd H x o') h' :=λb u q=>by
 have nown:∀c y,H c=some (.own y)->c≠x:=λc y r z=>by subst z;rw[r] at mu;exact mu
 have ntup:∀c xs,H c=some (.tup xs)->c≠x:=λc xs r z=>by subst z;rw[r] at mu;exact mu
 by_cases hb:b=x
 .subst hb;rw[aC] at q;cases q;exact new
 .rw[ak hb] at q;by_cases hbe:b=e
  .have q' :H b=some (.own x):=by
    rcases he with z|z
    .exact absurd (hbe.trans z) hb
    .rw[hbe];exact z
   rw[q] at q';cases q'
   obtain⟨v,hv⟩:=SU;exact⟨v,by rw[hbe];exact hv⟩
  .refine(ok b u q).dC (λc v hc r=>k c v ?_ r) (λc r=>by rw[ak (nown c b r)];exact r) λc xs r=>by rw[ak (ntup c xs r)];exact r
   rcases hc with rfl|hc
   .exact hbe
   .rintro rfl;rcases he with z|z
    .exact nown c b hc z
    .rw[hc] at z;cases z;exact hb rfl
end
structure Un(fs ex:List Addr)(H H' :Hp)(h h' :Heap):Prop where
 keep:∀b o,h.get? b=some o->H b=none->b∉fs->b∉ex->h'.get? b=some o
 slot:∀b o,h.get? b=some o->H b=none->b∈fs->b∉ex->∃sl,h'.get? b=some {o with slots:=sl}
 free:∀b o,h.get? b=some o->H b=none->b∉ex->H' b=none
 there:∀b o,h.get? b=some o->b∉ex->∃o',h'.get? b=some o'
 o9:∀b xs,H b=some (.tup xs)->H' b=some (.tup xs)
 mL:∀b o u,H b=some (.frz o u)->H' b=some (.frz o u)
 qj:∀b ps,H b=some (.tbl ps)->∃more,H' b=some (.tbl (ps++more))
section
variable{fs TU ex Ww :List Addr}{H H1 H2:Hp}{h h1 h2 h' :Heap}{a x e:Addr}{o:HO}
theorem Un.any(u:Un fs ex H H1 h h1){b:Addr}{ob:Obj}(q:h.get? b=some ob)(n:H b=none)(hx:b∉ex):∃sl,h1.get? b=some {ob with slots:=sl}:=by
 by_cases hb:b∈fs
 .exact u.slot b ob q n hb hx
 .exact⟨ob.slots,u.keep b ob q n hb hx⟩
theorem Un.kept(k:∀b u,h.get? b=some u->h'.get? b=some u):Un fs ex H H h h' :=
 ⟨λb ob q _ _ _=>k b ob q,λb ob q _ _ _=> ⟨ob.slots,k b ob q⟩,λ_ _ _ n _=>n,λb ob q _=> ⟨ob,k b ob q⟩,λ_ _ q=>q,λ_ _ _ q=>q,λ_ ps q=> ⟨#[],by rw[q];simp⟩⟩
theorem Un.refl:Un fs ex H H h h:=Un.kept λ_ _ q=>q
theorem Un.laid(k:∀b u,h.get? b=some u->h'.get? b=some u)(hp:h.objs.size<=a)(hn:H a=none):Un fs ex H (upd H a o) h h' where
 keep:=λb u q _ _ _=>k b u q
 slot:=λb u q _ _ _=> ⟨u.slots,k b u q⟩
 free:=λb u q n _=>by rw[ak (Gau (Gak (Gal q) hp))];exact n
 there:=λb u q _=> ⟨u,k b u q⟩
 o9:=λb xs q=>by rw[ak (bc q hn)];exact q
 mL:=λb u xs q=>by rw[ak (bc q hn)];exact q
 qj:=λb ps q=> ⟨#[],by rw[ak (bc q hn),q];simp⟩
theorem Un.write(mu:Mut (H x))(he:e=x\/H e=some (.own x))(k:∀b u,b≠e->h.get? b=some u->h'.get? b=some u)(SU:∃u,h'.get? e=some u):Un fs ex H (upd H x o) h h' :=by
 have hx:∀b,H b=none->b≠x:=λb n z=>by subst z;rw[n] at mu;exact mu
 have hb:∀b,H b=none->b≠e:=λb n z=>by
  subst z;rcases he with r|r
  .exact hx b n r
  .rw[n] at r;cases r
 have hm:∀b u,H b=some u->¬Mut (some u)->b≠x:=λb u q nm z=>by subst z;rw[q] at mu;exact nm mu
 refine⟨λb u q n _ _=>k b u (hb b n) q,λb u q n _ _=> ⟨u.slots,k b u (hb b n) q⟩,λb u q n _=>by rw[ak (hx b n)];exact n,λb u q _=> ?_,
  λb xs q=>by rw[ak (hm b _ q λz=>z)];exact q,λb u xs q=>by rw[ak (hm b _ q λz=>z)];exact q,λb ps q=> ⟨#[],by rw[ak (hm b _ q λz=>z),q];simp⟩⟩
 by_cases hbe:b=e
 .subst hbe;exact SU
 .exact⟨u,k b u hbe q⟩
end
noncomputable def trk(h:Heap)(H:Hp):List Addr:=(List.range h.objs.size).filter λa=>(H a).isSome
noncomputable def Ao(h:Heap)(H:Hp):Heap:=PySem.W.hideAll h (trk h H)
theorem Fl(h:Heap)(H:Hp):(Ao h H).objs.size=h.objs.size:=PySem.W.hideAll_size _ _
theorem GB{o:Obj}(e:h.get? b=some o)(n:H b=none):(Ao h H).get? b=some o:=
 PySem.W.hideAll_get _ e λhm=>by
  have q:(H b).isSome=true:=(GbV.mp hm).2;rw[n] at q;simp at q
theorem JP{o:Obj}(e:(Ao h H).get? b=some o):h.get? b=some o/\H b=none:=by
 have e' :h.get? b=some o:=PySem.W.of_hideAll (trk h H) e;refine⟨e', ?_⟩;cases q:H b with
 |none=>rfl
 |some x=>
  have hm:b∈trk h H:=GbV.mpr ⟨Gbs.mpr (Gal e'),by simp[q]⟩;have z:(Ao h H).get? b=none:=PySem.W.hideAll_none (trk h H) hm;rw[z] at e;cases e
noncomputable def JQ(g h:Heap)(L:Addr):List (Addr×Obj):=(List.range h.objs.size).filterMap λa=>if a=L\/(g.get? a).isSome=true then none else(h.get? a).map λo=>(a,o)
noncomputable def rest(g h:Heap)(L d:Addr):List (Addr×Obj):=(JQ g h L).filter λp=>decide (p.1≠d)
structure Mod(K:PySem.W.Frag)(mg:Str->Option Value)(base:Heap):Prop where
 kin:K.In base
 glob:base.Ns mainGlobals mg
 blt:∃mb,base.Ns builtinsNs mb/\∀x:Str,x≠"__name__"->mb x=bootBuiltins x
 nolimit:base.NoLimit
structure Cx where
 prog:Program
 w:World
 K:PySem.W.Frag
 mg:Str->Option Value
 base:Heap
 A:Around
 N:List Str
 s₀:Shared
 H0:Hp
 env:Env
 outer:List Env
 stack:List Env
 ex:List Addr
 fn:Str->Bool
 calm:Bool
 pn:List (Addr×Obj)
 xe:Value->Shared->Prop
noncomputable def frs(l:List Env):List Addr:=l.filterMap (·.frame)
noncomputable abbrev Cx.fs (X:Cx):List Addr:=frs X.outer
def Vis(sc:Scope)(x:Str):Prop:=sc.names.lookup x=some .local\/sc.names.lookup x=some .cell\/sc.names.lookup x=some .free
def Loc(sc:Scope)(x:Str):Prop:=sc.names.lookup x=some .local\/sc.names.lookup x=some .cell
def Look(env:Env)(h:Heap)(m:Str->Option Value)(x:Str)(u:Value):Prop:=
 (env.kindOf x=some .local/\m x=some u)\/((env.kindOf x=some .cell\/env.kindOf x=some .free)/\∃c,env.cells.lookup x=some c/\h.IsCell c (some u))
structure Cx.Ok(X:Cx):Prop where
 mod:Mod X.K X.mg X.base
 kind:X.env.scope.kind= .function
 glob:X.env.globals=mainGlobals
 blt:X.env.builtins=builtinsNs
 above:X.s₀.heap.objs.size<=X.env.locals
 inj:∀x y c,X.env.cells.lookup x=some c->X.env.cells.lookup y=some c->x=y
 has:∀x,(X.env.kindOf x=some .cell\/X.env.kindOf x=some .free)->∃c,X.env.cells.lookup x=some c
 cab:∀x c,X.fn x=true->X.env.cells.lookup x=some c->X.s₀.heap.objs.size<=c
 hd:X.calm=true->X.A.handled=none
 frames:X.A.frames=some X.stack
 stk:X.stack=X.outer\/(X.stack=X.env::X.outer/\X.env.frame=some X.env.locals)
 exf:∀b∈X.ex,b≠X.env.locals/\∀x c,X.env.cells.lookup x=some c->c≠b
 bs:∀b o,X.base.get? b=some o->X.s₀.heap.get? b=some o/\X.H0 b=none
 bsz:X.base.objs.size<=X.s₀.heap.objs.size
 Ds:∀b o,X.base.get? b=some o->b∉X.ex
 Dt:∀b∈X.ex,b∉X.fs
 ql:X.s₀.heap.FunFrames X.base X.outer
 frf:∀b∈X.fs,X.H0 b=none
structure Inv(X:Cx)(ee:List (Addr×Obj))(σ:List (Option V))(H:Hp)(s:Shared):Prop where
 ok:X.Ok
 os:s.os=X.s₀.os
 bare:AllBare s.gens
 base:Un X.fs X.ex X.H0 H X.s₀.heap s.heap
 loc:∃m,s.heap.Ns X.env.locals m/\∀(i:Nat) (x:Str) (v:V),X.N[i]? =some x->σ[i]? =some (some v)->Vis X.env.scope x->∃u,RelV v u/\Look X.env s.heap m x u
 cell:∀x c,X.env.cells.lookup x=some c->∃v,s.heap.IsCell c v
 free:H X.env.locals=none
 jc:∀x c,X.env.cells.lookup x=some c->H c=none
 pin:∀p∈X.pn++ee,s.heap.get? p.1=some p.2/\H p.1=none/\p.1≠X.env.locals/\p.1∉X.fs/\∀v,p.2.data≠ .cell v
 hok:HOk X.prog X.w H s.heap
 len:σ.length=X.N.length
section
variable{X:Cx}{ee:List (Addr×Obj)}{σ:List (Option V)}{H H' :Hp}{s:Shared}{h' :Heap}
theorem Cx.Ok.RJ(ok:X.Ok){b:Addr}{o:Obj}(e:X.base.get? b=some o):b∉X.fs:=λhb=>by
 have:=(ok.ql.mem hb).1;rw[e] at this;cases this
theorem Inv.bs(I:Inv X ee σ H s):∀b o,X.base.get? b=some o->s.heap.get? b=some o/\H b=none:=λb o e=>
 ⟨I.base.keep b o (I.ok.bs b o e).1 (I.ok.bs b o e).2 (I.ok.RJ e) (I.ok.Ds b o e),I.base.free b o (I.ok.bs b o e).1 (I.ok.bs b o e).2 (I.ok.Ds b o e)⟩
theorem Inv.bk(I:Inv X ee σ H s):∀b o,X.base.get? b=some o->s.heap.get? b=some o:=λb o e=>(I.bs b o e).1
theorem Inv.mod(I:Inv X ee σ H s):Mod X.K X.mg X.base:=I.ok.mod
theorem Inv.kIn(I:Inv X ee σ H s):X.K.In s.heap:=I.ok.mod.kin.keeps I.bk
theorem Inv.lt(I:Inv X ee σ H s):X.env.locals<s.heap.objs.size:=let⟨_,hn,_⟩:=I.loc;hn.lt
theorem Inv.sz(I:Inv X ee σ H s):X.s₀.heap.objs.size<=s.heap.objs.size:=GaQ I.ok.above (GcR I.lt)
theorem Inv.RK(I:Inv X ee σ H s){a:Addr}(h:s.heap.objs.size<=a):a∉X.fs:=λhb=>by
 obtain⟨_,o,ho,_⟩:=I.ok.ql.mem hb;exact absurd (Gak (Gal ho) (GaQ I.sz h)) (GaN _)
theorem Inv.cne(I:Inv X ee σ H s):∀x c,X.env.cells.lookup x=some c->c≠X.env.locals:=λx c e z=>by
 obtain⟨v,o,ho,hd⟩:=I.cell x c e;obtain⟨m,⟨o',es,ep,yB,xY,_⟩,_⟩:=I.loc;rw[z,yB] at ho;cases ho;rw[xY] at hd;cases hd
theorem Inv.ql(I:Inv X ee σ H s):s.heap.FunFrames X.base X.outer:=by
 have all:∀(l:List Env),(∀b∈frs l,b∈X.fs)->X.s₀.heap.FunFrames X.base l->s.heap.FunFrames X.base l:=by
  intro l;induction l with
  |nil=>intro _ _;trivial
  |cons env r ih=>
   intro hs hl;obtain⟨hk,⟨L,o,hf,hn,ho,hd⟩,hr⟩:=hl;have hL:L∈X.fs:=hs L (by unfold frs;rw[GcX,hf];exact Gav);obtain⟨sl,e⟩:=I.base.slot L o ho (I.ok.frf L hL) hL λz=>I.ok.Dt L z hL;exact⟨hk,⟨L,_,hf,hn,e,hd⟩,ih (λb hb=>hs b (by unfold frs;rw[GcX,hf];exact Gar _ hb)) hr⟩
 exact all X.outer (λ_ hb=>hb) I.ok.ql
theorem Inv.stack(I:Inv X ee σ H s):s.heap.FunFrames X.base X.stack:=by
 rcases I.ok.stk with e| ⟨e,hf⟩
 .rw[e];exact I.ql
 .rw[e];obtain⟨m,hn,_⟩:=I.loc;refine .cons (by rw[I.ok.kind];decide) hf hn ?_ I.ql;exact GcS (GaQ I.ok.bsz I.ok.above)
theorem Inv.uu(I:Inv X ee σ H s):∀b∈frs X.stack,b∈X.env.locals::X.fs:=λb hb=>by
 rcases I.ok.stk with e| ⟨e,hf⟩
 .rw[e] at hb;exact Gar _ hb
 .rw[e] at hb;unfold frs at hb;rw[GcX,hf] at hb;exact hb
theorem Inv.qm(I:Inv X ee σ H s):∀b∈frs X.stack,H b=none:=λb hb=>by
 rcases Gaw.mp (I.uu b hb) with e|hb
 .rw[e];exact I.free
 .obtain⟨_,o,ho,_⟩:=I.ok.ql.mem hb;exact I.base.free b o ho (I.ok.frf b hb) λz=>I.ok.Dt b z hb
variable{ch:List Addr}{t' :Nat}
theorem Inv.step{g' :Array GenState}{d' :Drawn}(I:Inv X ee σ H s)
  (yX:∀b∈ch,(b∈X.ex\/X.s₀.heap.objs.size<=b)/\b≠X.env.locals/\(∀x c,X.env.cells.lookup x=some c->c≠b)/\∀p∈X.pn++ee,p.1≠b)
  (keep:∀b o,b≠X.env.locals->b∉X.fs->b∉ch->s.heap.get? b=some o->H b=none->h'.get? b=some o)
  (slot:∀b o,b≠X.env.locals->b∈X.fs->b∉ch->s.heap.get? b=some o->H b=none->∃sl,h'.get? b=some {o with slots:=sl})(free:∀b o,b∉ch->s.heap.get? b=some o->H b=none->H' b=none)
  (there:∀b o,b∉ch->s.heap.get? b=some o->∃o',h'.get? b=some o')
  (o9:∀b xs,H b=some (.tup xs)->H' b=some (.tup xs))(mL:∀b o u,H b=some (.frz o u)->H' b=some (.frz o u))(qj:∀b ps,H b=some (.tbl ps)->∃more,H' b=some (.tbl (ps++more)))
  (ns:∀m,s.heap.Ns X.env.locals m->h'.Ns X.env.locals m)(hok:HOk X.prog X.w H' h')(hg:AllBare g'):
  Inv X ee σ H' {s with heap:=h',gens:=g',drawn:=d',toks:=t' }:=by
 have neL:∀b o,X.s₀.heap.get? b=some o->b≠X.env.locals:=λb o e=>Gau (Gak (Gal e) I.ok.above);have neC:∀b o,X.s₀.heap.get? b=some o->b∉X.ex->b∉ch:=λb o e hx hb=>by
  rcases(yX b hb).1 with z|z
  .exact hx z
  .exact absurd (Gak (Gal e) z) (GaN _)
 have cellK:∀x c,X.env.cells.lookup x=some c->∀v,s.heap.IsCell c v->h'.IsCell c v:=λx c e v ⟨o,ho,hd⟩=>by
  have nch:c∉ch:=λz=>(yX c z).2.2.1 x c e rfl;by_cases hc:c∈X.fs
  .obtain⟨sl,q⟩:=slot c o (I.cne x c e) hc nch ho (I.jc x c e);exact⟨_,q,hd⟩
  .exact⟨o,keep c o (I.cne x c e) hc nch ho (I.jc x c e),hd⟩
 refine⟨I.ok,I.os,hg,⟨λb o e n hb hx=> ?_,λb o e n hb hx=> ?_,λb o e n hx=> ?_,λb o e hx=> ?_,λb xs e=>o9 b xs (I.base.o9 b xs e),λb o xs e=>mL b o xs (I.base.mL b o xs e),λb ps e=> ?_⟩, ?_,λx c e=> ?_, ?_,λx c e=> ?_,λp hp=> ?_,hok,I.len⟩
 .exact keep b o (neL b o e) hb (neC b o e hx) (I.base.keep b o e n hb hx) (I.base.free b o e n hx)
 .obtain⟨sl,e1⟩:=I.base.slot b o e n hb hx;obtain⟨TB,e2⟩:=slot b _ (neL b o e) hb (neC b o e hx) e1 (I.base.free b o e n hx);exact⟨TB,e2⟩
 .obtain⟨o',e1⟩:=I.base.there b o e hx;exact free b o' (neC b o e hx) e1 (I.base.free b o e n hx)
 .obtain⟨o',e1⟩:=I.base.there b o e hx;exact there b o' (neC b o e hx) e1
 .obtain⟨m1,e1⟩:=I.base.qj b ps e;obtain⟨m2,e2⟩:=qj b _ e1;exact⟨m1++m2,by rw[e2,Array.append_assoc]⟩
 .obtain⟨m,hn,hl⟩:=I.loc;refine⟨m,ns m hn,λi x v e1 e2 e3=> ?_⟩;obtain⟨u,r,l⟩:=hl i x v e1 e2 e3;refine⟨u,r, ?_⟩;rcases l with l| ⟨k,c,e,z⟩
  .exact .inl l
  .exact .inr ⟨k,c,e,cellK x c e _ z⟩
 .obtain⟨v,z⟩:=I.cell x c e;exact⟨v,cellK x c e v z⟩
 .obtain⟨m,⟨o,_,_,ho,_⟩,_⟩:=I.loc;exact free _ o (λz=>(yX _ z).2.1 rfl) ho I.free
 .obtain⟨v,o,ho,hd⟩:=I.cell x c e;exact free c o (λz=>(yX c z).2.2.1 x c e rfl) ho (I.jc x c e)
 .obtain⟨e,n,ne,nf,d⟩:=I.pin p hp;have nch:p.1∉ch:=λz=>(yX p.1 z).2.2.2 p hp rfl;exact⟨keep p.1 p.2 ne nf nch e n,free p.1 p.2 nch e n,ne,nf,d⟩
theorem Inv.un(I:Inv X ee σ H s)(u:Un X.fs [] H H' s.heap h')(hok:HOk X.prog X.w H' h'):Inv X ee σ H' {s with heap:=h',toks:=t' }:=by
 obtain⟨m,⟨o,es,ep,ho,r⟩,_⟩:=id I.loc;obtain⟨sl,hL⟩:=u.any ho I.free (by simp);exact I.step (g' :=s.gens) (d' :=s.drawn) (ch:=[]) (λ_ z=>nomatch z) (λb o _ hb _ e n=>u.keep b o e n hb (by simp)) (λb o _ hb _ e n=>u.slot b o e n hb (by simp)) (λb o _ e n=>u.free b o e n (by simp)) (λb o _ e=>u.there b o e (by simp)) u.o9 u.mL u.qj (λm' hm=>by
  obtain⟨o',yf,TV,yB,r'⟩:=hm;rw[ho] at yB;cases yB
  exact⟨_,yf,TV,hL,r'⟩) hok I.bare
theorem Inv.call{g' :Array GenState}{d' :Drawn}(I:Inv X ee σ H s)(u:Un (frs X.stack) ch H H' s.heap h')(hok:HOk X.prog X.w H' h')(hg:AllBare g')
  (yX:∀b∈ch,(b∈X.ex\/X.s₀.heap.objs.size<=b)/\b≠X.env.locals/\(∀x c,X.env.cells.lookup x=some c->c≠b)/\∀p∈X.pn++ee,p.1≠b):
  Inv X ee σ H' {s with heap:=h',gens:=g',drawn:=d',toks:=t' }:=by
 obtain⟨m,⟨o,es,ep,ho,r⟩,_⟩:=id I.loc;obtain⟨sl,hL⟩:=u.any ho I.free λz=>(yX _ z).2.1 rfl;exact I.step (ch:=ch) yX (λb o hL hb hc e n=>u.keep b o e n (λz=>(Gaw.mp (I.uu b z)).elim hL hb) hc) (λb o _ _ hc e n=>u.any e n hc) (λb o hc e n=>u.free b o e n hc) (λb o hc e=>u.there b o e hc) u.o9 u.mL u.qj (λm' hm=>by
  obtain⟨o',yf,TV,yB,r'⟩:=hm;rw[ho] at yB;cases yB
  exact⟨_,yf,TV,hL,r'⟩) hok hg
theorem Inv.turned{it:Addr}(I:Inv X ee σ H s)(k:∀b o,b≠it->s.heap.get? b=some o->h'.get? b=some o)(hn:H it=none)(hL:it≠X.env.locals)
  (h1:it∈X.ex\/X.s₀.heap.objs.size<=it)(h2:∀x c,X.env.cells.lookup x=some c->c≠it)(h3:∀p∈X.pn++ee,p.1≠it):Inv X ee σ H {s with heap:=h',toks:=t' }:=by
 have nit:∀b u,H b=some u->b≠it:=λb u e z=>by rw[z,hn] at e;cases e
 refine I.step (g' :=s.gens) (d' :=s.drawn) (ch:=[it]) (λb hb=> ?_) (λb o _ _ hc e _=>k b o (λz=>hc (by simp[z])) e) (λb o _ _ hc e _=> ⟨o.slots,k b o (λz=>hc (by simp[z])) e⟩) (λ_ _ _ _ n=>n)
  (λb o hc e=> ⟨o,k b o (λz=>hc (by simp[z])) e⟩) (λ_ _ e=>e) (λ_ _ _ e=>e) (λb ps e=> ⟨#[],by rw[e];simp⟩) (λm hm=> ?_) (λb u e=> ?_) I.bare
 .have e:b=it:=by simpa using hb
  subst e;exact⟨h1,hL,h2,h3⟩
 .obtain⟨o,es,ep,ho,r⟩:=hm;exact⟨o,es,ep,k _ o (Gay hL) ho,r⟩
 .refine(I.hok b u e).dC (λc v hc q=>k c v ?_ q) (λ_ q=>q) λ_ _ q=>q;rcases hc with z|z
  .rw[z];exact nit b u e
  .exact nit c _ z
theorem Inv.tok(I:Inv X ee σ H s)(t:Nat):Inv X ee σ H {s with toks:=t}:=I.un (h' :=s.heap) (t' :=t) Un.refl I.hok
theorem Inv.kept{t' :Nat}(I:Inv X ee σ H s)(k:∀b u,s.heap.get? b=some u->h'.get? b=some u):Inv X ee σ H {s with heap:=h',toks:=t' }:=I.un (Un.kept k) (I.hok.kept k)
theorem Inv.laid{a:Addr}{o:HO}{t' :Nat}(I:Inv X ee σ H s)(k:∀b u,s.heap.get? b=some u->h'.get? b=some u)(hp:s.heap.objs.size<=a)(new:bx X.prog X.w (upd H a o) h' a o):
  Inv X ee σ (upd H a o) {s with heap:=h',toks:=t' }:=I.un (Un.laid k hp (I.hok.fresh hp)) (I.hok.laid k hp new)
theorem Inv.write{x e:Addr}{o:HO}{t' :Nat}(I:Inv X ee σ H s)(mu:Mut (H x))(he:e=x\/H e=some (.own x))(k:∀b u,b≠e->s.heap.get? b=some u->h'.get? b=some u)(SU:∃u,h'.get? e=some u)
  (new:bx X.prog X.w (upd H x o) h' x o):Inv X ee σ (upd H x o) {s with heap:=h',toks:=t' }:=I.un (Un.write mu he k SU) (I.hok.write mu he k SU new)
theorem Inv.Dz{yy :List (Addr×Obj)}(I:Inv X ee σ H s)(h:∀p∈yy,s.heap.get? p.1=some p.2/\H p.1=none/\p.1≠X.env.locals/\p.1∉X.fs/\∀v,p.2.data≠ .cell v):Inv X yy σ H s:=
 ⟨I.ok,I.os,I.bare,I.base,I.loc,I.cell,I.free,I.jc,λp hp=>(Gby.mp hp).elim (λz=>I.pin p (List.mem_append_left _ z)) (h p),I.hok,I.len⟩
variable{x:Str}{i:Nat}
theorem uw{N:List Str}(hN:N.Nodup){j:Nat}(a:N[i]? =some x)(b:N[j]? =some x):i=j:=by
 obtain⟨h1,e1⟩:=Gae.mp a;obtain⟨h2,e2⟩:=Gae.mp b;exact(List.getElem_inj hN).mp (e1.trans e2.symm)
variable{u:Value}{v:V}{A:Around}
theorem Fm{M:Model}{E:Value->Shared->Prop}{Q:Unit->Shared->Prop}(I:Inv X ee σ H s)(hN:X.N.Nodup)(hi:X.N[i]? =some x)(hx:Loc X.env.scope x)(r:RelV v u)
  (h:∀s',Inv X ee (σ.set i (some v)) H s' ->(∃a,Heap.SameBut a s.heap s'.heap/\(a=X.env.locals\/X.env.cells.lookup x=some a))->Q () s')(hf:autoParam (X.fn x=true\/X.env.scope.names.lookup x=some .local) Za3._auto_1):wpAny M A (storeName X.env x u) Q E s:=by
 obtain⟨m,hn,hl⟩:=id I.loc;have hcls:(X.env.scope.kind== .class||(X.env.scope.kind== .module&&X.env.locals !=X.env.globals))=false:=by rw[I.ok.kind];rfl
 have hiσ:i<σ.length:=by rw[I.len];exact(Gae.mp hi).1
 have cne:=I.cne;have tracked:∀{a:Addr} {h' :Heap},(∃o,s.heap.get? a=some o/\H a=none)->Heap.SameBut a s.heap h' ->HOk X.prog X.w H h' :=λ{a h'} ha hs b ob e=>by
  obtain⟨_,_,ye⟩:=ha;refine(I.hok b ob e).dC (λc w' hc q=>(hs.2 c ?_).trans q) (λ_ q=>q) λ_ _ q=>q;rintro rfl;rcases hc with rfl|hc
  .rw[ye] at e;cases e
  .rw[ye] at hc;cases hc
 rcases hx with hk|hk
 .refine wpAny_storeName_local hk hn (λh' Ur hs=> ?_) hcls;obtain⟨oL,_,_,TK,_⟩:=id hn;refine h _ ⟨I.ok,I.os,I.bare,⟨λb o e n hb hx=> ?_,λb o e n hb hx=> ?_,I.base.free,λb o e hx=> ?_,I.base.o9,I.base.mL,I.base.qj⟩,⟨_,Ur,λj y v' e1 e2 e3=> ?_⟩,λy c e=> ?_,I.free,I.jc,λp hp=> ?_,tracked ⟨oL,TK,I.free⟩ hs,by simpa using I.len⟩ ⟨_,hs,.inl rfl⟩
  .exact(hs.2 b (Gau (Gak (Gal e) I.ok.above))).trans (I.base.keep b o e n hb hx)
  .obtain⟨sl,e1⟩:=I.base.slot b o e n hb hx;exact⟨sl,(hs.2 b (Gau (Gak (Gal e) I.ok.above))).trans e1⟩
  .obtain⟨o',e1⟩:=I.base.there b o e hx;exact⟨o',(hs.2 b (Gau (Gak (Gal e) I.ok.above))).trans e1⟩
  .by_cases hj:j=i
   .subst hj;rw[hi] at e1;cases e1
    rw[GaB hiσ] at e2;cases e2;exact⟨u,r,.inl ⟨hk,by simp⟩⟩
   .rw[Gaa (Gay hj)] at e2;obtain⟨u',r',q⟩:=hl j y v' e1 e2 e3;refine⟨u',r', ?_⟩;rcases q with⟨k,e⟩| ⟨k,c,e,z⟩
    .refine .inl ⟨k, ?_⟩;have:y≠x:=λe=>hj (uw hN e1 (e▸hi));simp[this,e]
    .exact .inr ⟨k,c,e,z.sameBut hs (cne y c e)⟩
  .obtain⟨w',z⟩:=I.cell y c e;exact⟨w',z.sameBut hs (cne y c e)⟩
  .obtain⟨e,n,ne,nf,d⟩:=I.pin p hp;exact⟨(hs.2 p.1 ne).trans e,n,ne,nf,d⟩
 .have hfn:X.fn x=true:=by
   rcases hf with z|z
   .exact z
   .rw[z] at hk;cases hk
  obtain⟨c,hc⟩:=I.ok.has x (.inl hk);obtain⟨w',z⟩:=I.cell x c hc;refine wpAny_storeName_cell I.ok.kind hk hc z (λh' zQ hs=> ?_);obtain⟨oc,V2,Um⟩:=id z;refine h {s with heap:=h' } ⟨I.ok,I.os,I.bare,⟨λb o e n hb hx=> ?_,λb o e n hb hx=> ?_,I.base.free,λb o e hx=> ?_,I.base.o9,I.base.mL,I.base.qj⟩,⟨m,hn.sameBut hs (Gay (cne x c hc)),λj y v' e1 e2 e3=> ?_⟩,λy c' e=> ?_,I.free,I.jc,λp hp=> ?_,tracked ⟨oc,V2,I.jc x c hc⟩ hs,by simpa using I.len⟩ ⟨c,hs,.inr hc⟩
  .exact(hs.2 b (Gau (Gak (Gal e) (I.ok.cab x c hfn hc)))).trans (I.base.keep b o e n hb hx)
  .obtain⟨sl,e1⟩:=I.base.slot b o e n hb hx;exact⟨sl,(hs.2 b (Gau (Gak (Gal e) (I.ok.cab x c hfn hc)))).trans e1⟩
  .obtain⟨o',e1⟩:=I.base.there b o e hx;exact⟨o',(hs.2 b (Gau (Gak (Gal e) (I.ok.cab x c hfn hc)))).trans e1⟩
  .by_cases hj:j=i
   .subst hj;rw[hi] at e1;cases e1
    rw[GaB hiσ] at e2;cases e2;exact⟨u,r,.inr ⟨.inl hk,c,hc,zQ⟩⟩
   .rw[Gaa (Gay hj)] at e2;obtain⟨u',r',q⟩:=hl j y v' e1 e2 e3;refine⟨u',r', ?_⟩;rcases q with q| ⟨k,c',e,z'⟩
    .exact .inl q
    .refine .inr ⟨k,c',e,z'.sameBut hs ?_⟩;rintro rfl;exact hj (uw hN e1 (I.ok.inj _ _ _ e hc▸hi))
  .by_cases hcc:c' =c
   .subst hcc;exact⟨_,zQ⟩
   .obtain⟨w2,z2⟩:=I.cell y c' e;exact⟨w2,z2.sameBut hs hcc⟩
  .obtain⟨e,n,ne,nf,d⟩:=I.pin p hp;refine⟨(hs.2 p.1 ?_).trans e,n,ne,nf,d⟩;intro q;rw[q,V2] at e;have q' :oc=p.2:=Option.some.inj e;exact d w' (by rw[<-q'];exact Um)
theorem mZ{M:Model}{E:Value->Shared->Prop}{Q:Unit->Shared->Prop}(I:Inv X ee σ H s)(hN:X.N.Nodup)(hi:X.N[i]? =some x)(hx:Loc X.env.scope x)(r:RelV v u)
  (h:∀s',Inv X ee (σ.set i (some v)) H s' ->Q () s')(hf:autoParam (X.fn x=true\/X.env.scope.names.lookup x=some .local) Za3._auto_1):wpAny M A (storeName X.env x u) Q E s:=
 Fm I hN hi hx r (λs' I' _=>h s' I') hf
theorem Inv.Bh{s' :Shared}(I:Inv X ee σ H s)(ho:s'.os=s.os)(u:Un (frs X.stack) ch H H' s.heap s'.heap)(hok:HOk X.prog X.w H' s'.heap)(hg:AllBare s'.gens)
  (yX:∀b∈ch,(b∈X.ex\/X.s₀.heap.objs.size<=b)/\b≠X.env.locals/\(∀x c,X.env.cells.lookup x=some c->c≠b)/\∀p∈X.pn++ee,p.1≠b):Inv X ee σ H' s' :=by
 obtain⟨h',g',d',t',o'⟩:=s';have e:o' =s.os:=ho;subst e;exact I.call (g' :=g') (t' :=t') (d' :=d') u hok hg yX
end
abbrev XK:=Value->Option Addr->Hp->Prop
abbrev St:=List (Option V)
abbrev VK:=V->Hp->Prop
abbrev TE:=St->Hp->VK->Prop
abbrev TT:=St->Hp->(Bool->Hp->Prop)->Prop
abbrev TA:=St->Hp->(List V->Hp->Prop)->Prop
structure Ends where
 nx:St->Hp->Prop
 rt:VK
 bk:St->Hp->Prop:=λ_ _=>False
 ct:St->Hp->Prop:=λ_ _=>False
abbrev TS:=Ends->St->Hp->Prop
def EP(X:Cx)(ee:List (Addr×Obj))(σ:St)(Q:VK)(u:Value)(s' :Shared):Prop:=∃v H',Inv X ee σ H' s' /\RelV v u/\Q v H'
def TP(X:Cx)(ee:List (Addr×Obj))(σ:St)(Q:Bool->Hp->Prop)(b:Bool)(s' :Shared):Prop:=∃H',Inv X ee σ H' s' /\Q b H'
def AP(X:Cx)(ee:List (Addr×Obj))(σ:St)(Q:List V->Hp->Prop)(us:List Value)(s' :Shared):Prop:=∃vs H',Inv X ee σ H' s' /\Vals vs us/\Q vs H'
def SP(X:Cx)(ee:List (Addr×Obj))(D:Ends)(f:Flow)(s' :Shared):Prop:=
 match f with
 | .next=>∃σ' H',Inv X ee σ' H' s' /\D.nx σ' H'
 | .brk=>∃σ' H',Inv X ee σ' H' s' /\D.bk σ' H'
 | .cont=>∃σ' H',Inv X ee σ' H' s' /\D.ct σ' H'
 | .ret u=>∃v σ' H',Inv X ee σ' H' s' /\RelV v u/\D.rt v H'
def PE(X:Cx)(e:Expr)(t:TE):Prop:=
 ∀(ee:List (Addr×Obj)) (s:Shared) (σ:St) (H:Hp) (Q:VK),Inv X ee σ H s->t σ H Q->wpAny (model X.prog X.w) X.A (eval e X.env) (EP X ee σ Q) X.xe s
def PT(X:Cx)(e:Expr)(t:TT):Prop:=
 ∀(ee:List (Addr×Obj)) (s:Shared) (σ:St) (H:Hp) (Q:Bool->Hp->Prop),Inv X ee σ H s->t σ H Q->wpAny (model X.prog X.w) X.A (isTrue e X.env (eval e X.env)) (TP X ee σ Q) X.xe s
def PW(X:Cx)(e:Expr)(t:TT):Prop:=
 ∀(whole:Sem Value) (ee:List (Addr×Obj)) (s:Shared) (σ:St) (H:Hp) (Q:Bool->Hp->Prop),Inv X ee σ H s->t σ H Q->wpAny (model X.prog X.w) X.A (isTrue e X.env whole) (TP X ee σ Q) X.xe s
theorem PW.pt{X:Cx}{e:Expr}{t:TT}(h:PW X e t):PT X e t:=h _
def PA(X:Cx)(es:List Expr)(t:TA):Prop:=
 ∀(pos:Pos) (ee:List (Addr×Obj)) (s:Shared) (σ:St) (H:Hp) (Q:List V->Hp->Prop),Inv X ee σ H s->t σ H Q->wpAny (model X.prog X.w) X.A (spliced (backTo pos (starEach es X.env))) (AP X ee σ Q) X.xe s
def PS(X:Cx)(st:Stmt)(t:TS):Prop:=
 ∀(ee:List (Addr×Obj)) (s:Shared) (σ:St) (H:Hp) (D:Ends),Inv X ee σ H s->t D σ H->wpAny (model X.prog X.w) X.A (exec st X.env) (SP X ee D) X.xe s
def PSs(X:Cx)(st:List Stmt)(t:TS):Prop:=
 ∀(ee:List (Addr×Obj)) (s:Shared) (σ:St) (H:Hp) (D:Ends),Inv X ee σ H s->t D σ H->wpAny (model X.prog X.w) X.A (execs st X.env) (SP X ee D) X.xe s
theorem thn{α:Type}{t:Sem α}{Q Q' :α->Shared->Prop}{M:Model}{A:Around}{E:Value->Shared->Prop}{s:Shared}(h:wpAny M A t Q E s)(hQ:∀a s,Q a s->Q' a s):wpAny M A t Q' E s:=Gbg h hQ λ_ _ x=>x
section
variable{X:Cx}
def Ap(i:Nat):TE:=λσ H Q=>∃v,σ[i]? =some (some v)/\Q v H
def tC(v:V):TE:=λ_ H Q=>Q v H
variable{pos:Pos}{x:Str}
theorem g6{i:Nat}(hN:X.N[i]? =some x)(hv:Vis X.env.scope x)(hd:autoParam ((x==("__debug__":Str))=false) Za2._auto_1)(xp:autoParam ((x==("__classdict__":Str))=false) Za2._auto_1):PE X (.Name x pos) (Ap i):=by
 intro ee s σ H Q I h;obtain⟨v,e,h⟩:=h;obtain⟨m,hn,hl⟩:=I.loc;obtain⟨u,r,l⟩:=hl i x v hN e hv;have fin:EP X ee σ Q u s:=⟨v,H,I,r,h⟩
 rcases l with⟨hk,hm⟩| ⟨hk,c,hc,xO⟩
 .exact wpAny_Name (wpAny_loadName_local I.ok.kind hk hn hm fin) hd
 .rcases hk with hk|hk
  .exact wpAny_Name (wpAny_loadName_cell I.ok.kind hk hc xO fin) hd
  .exact wpAny_Name (wpAny_loadName_free I.ok.kind hk hc xO fin xp) hd
theorem GC{i j pos}:PE X (.Constant (.int i) j pos) (tC (.int i)):=λ_ _ _ H _ I h=>wpAny_Constant_int ⟨.int i,H,I.tok _,⟨_,rfl⟩,h⟩
theorem LQ{b j pos}:PE X (.Constant (.bool b) j pos) (tC (.bl b)):=λ_ _ _ H _ I h=>Constant_bool ⟨.bl b,H,I,rfl,h⟩
theorem MH{j pos}:PE X (.Constant .none j pos) (tC .non):=λ_ _ _ H _ I h=>Constant_none ⟨.non,H,I,rfl,h⟩
theorem MI{x j pos}:PE X (.Constant (.str x) j pos) (tC (.str x)):=λ_ _ _ H _ I h=>Calls.Constant_str ⟨.str x,H,I.tok _,⟨_,rfl⟩,h⟩
def Gl(X:Cx)(x:Str):Prop:=X.env.kindOf x=some .globalImplicit
variable{u:Value}{H:Hp}{σ:St}{s:Shared}{ee:List (Addr×Obj)}
theorem kq{E:Value->Shared->Prop}{Q:Value->Shared->Prop}(I:Inv X ee σ H s)(hg:Gl X x)(hm:X.mg x=some u)(h:Q u s)
  (hd:autoParam ((x==("__debug__":Str))=false) Za2._auto_1):wpAny (model X.prog X.w) X.A (eval (.Name x pos) X.env) Q E s:=
 Calls.Name_function_global I.ok.kind hg (Calls.loadGlobal_global (by rw[I.ok.glob];exact I.mod.glob.keeps I.bk) hm h) hd
theorem rS{E:Value->Shared->Prop}{Q:Value->Shared->Prop}(I:Inv X ee σ H s)(hg:Gl X x)(hm:X.mg x=none)(hv:bootBuiltins x=some u)(h:Q u s)
  (hn:autoParam (x≠"__name__") Za2._auto_1)(hd:autoParam ((x==("__debug__":Str))=false) Za2._auto_1):wpAny (model X.prog X.w) X.A (eval (.Name x pos) X.env) Q E s:=by
 obtain⟨mb,h1,h2⟩:=I.mod.blt;exact Calls.Name_function_global I.ok.kind hg (Calls.loadGlobal_builtin (by rw[I.ok.glob];exact I.mod.glob.keeps I.bk) hm (by rw[I.ok.blt];exact h1.keeps I.bk) ((h2 x hn).trans hv) h) hd
variable{v:V}
theorem lQ(hg:Gl X x)(hm:X.mg x=some u)(r:RelV v u)(hd:autoParam ((x==("__debug__":Str))=false) Za2._auto_1):PE X (.Name x pos) (tC v):=
 λ_ _ _ H _ I h=>kq I hg hm ⟨v,H,I,r,h⟩ hd
theorem DB(hg:Gl X x)(hm:X.mg x=none)(hv:bootBuiltins x=some u)(r:RelV v u)(hn:autoParam (x≠"__name__") Za2._auto_1)(hd:autoParam ((x==("__debug__":Str))=false) Za2._auto_1):PE X (.Name x pos) (tC v):=
 λ_ _ _ H _ I h=>rS I hg hm hv ⟨v,H,I,r,h⟩ hn hd
variable{a b:Expr}{ta tb:TE}{pos:Pos}
def tB(t:TE):TT:=λσ H Q=>t σ H λx H1=>∃c,x= .bl c/\Q c H1
theorem GD{e:Expr}{t:TE}(h:PE X e t)(he:∀whole,isTrue e X.env whole=(do let v<-whole;standAt e.pos;holding [v] (truthy v)):=by intro _;rfl):PT X e (tB t):=by
 intro ee s σ H Q I hw;refine isTrue_plain (thn (h ee s σ H _ I hw) λv s1 ⟨x,H1,I1,r1,q1⟩=> ?_) (he _);obtain⟨d,rfl,q⟩:=q1;cases r1;exact Gbo ⟨H1,I1,q⟩
variable{tA Tz :TT}{rest:List Expr}
def RL(t u:TT):TT:=λσ H Q=>t σ H λc H1=>if c=true then u σ H1 Q else Q false H1
def tOr(t u:TT):TT:=λσ H Q=>t σ H λc H1=>if c=true then Q true H1 else u σ H1 Q
def RM(t:TT):TT:=λσ H Q=>t σ H λc H1=>Q (!c) H1
theorem JR(ha:PT X a tA):PW X (.BoolOp .And [a] pos) tA:=by
 intro wh ee s σ H Q I h;refine isTrue_and (thn (ha ee s σ H Q I h) λc s1 e=> ?_);cases c with
 |true=>exact isTrue_and_nil e
 |false=>exact e
theorem MJ(ha:PT X a tA):PW X (.BoolOp .Or [a] pos) tA:=by
 intro wh ee s σ H Q I h;refine isTrue_or (thn (ha ee s σ H Q I h) λc s1 e=> ?_);cases c with
 |false=>exact isTrue_or_nil e
 |true=>exact e
theorem MM(ha:PT X a tA)(hb:PW X (.BoolOp .And (b::rest) pos) Tz):PW X (.BoolOp .And (a::b::rest) pos) (RL tA Tz):=by
 intro wh ee s σ H Q I h;refine isTrue_and (thn (ha ee s σ H _ I h) λc s1 ⟨H1,I1,q1⟩=> ?_);cases c with
 |true=>exact hb wh ee s1 σ H1 Q I1 q1
 |false=>exact⟨H1,I1,q1⟩
theorem LR(ha:PT X a tA)(hb:PW X (.BoolOp .Or (b::rest) pos) Tz):PW X (.BoolOp .Or (a::b::rest) pos) (tOr tA Tz):=by
 intro wh ee s σ H Q I h;refine isTrue_or (thn (ha ee s σ H _ I h) λc s1 ⟨H1,I1,q1⟩=> ?_);cases c with
 |true=>exact⟨H1,I1,q1⟩
 |false=>exact hb wh ee s1 σ H1 Q I1 q1
theorem GF(ha:PT X a tA):PT X (.UnaryOp .Not a pos) (RM tA):=by
 intro ee s σ H Q I h;exact isTrue_not (ha ee s σ H (λc H1=>Q (!c) H1) I h)
def Pf(ta tb:TE):TE:=λσ H Q=>ta σ H λx H1=>∃c,x= .bl c/\if c=true then tb σ H1 Q else Q (.bl false) H1
def Pg(ta:TE):TE:=λσ H Q=>ta σ H λx H1=>∃c,x= .bl c/\Q (.bl (!c)) H1
theorem MN{op}{t:TE}(h:PE X a t):PE X (.BoolOp op [a] pos) t:=λee s σ H Q I hw=>BoolOp_one (h ee s σ H Q I hw)
theorem MO(ha:PE X a ta)(hb:PE X (.BoolOp .And (b::rest) pos) tb):PE X (.BoolOp .And (a::b::rest) pos) (Pf ta tb):=by
 intro ee s σ H Q I h;refine BoolOp_and (thn (ha ee s σ H _ I h) λv s1 ⟨x,H1,I1,r1,q1⟩=> ?_);obtain⟨c,rfl,q1⟩:=q1;cases r1;refine Gbo ?_;cases c with
 |true=>exact hb ee s1 σ H1 Q I1 q1
 |false=>exact⟨.bl false,H1,I1,rfl,q1⟩
theorem MP(ha:PE X a ta):PE X (.UnaryOp .Not a pos) (Pg ta):=by
 intro ee s σ H Q I h;refine UnaryOp_ (thn (ha ee s σ H _ I h) λv s1 ⟨x,H1,I1,r1,q1⟩=> ?_);obtain⟨c,rfl,q1⟩:=q1;cases r1;exact not_of (Gbo ⟨.bl (!c),H1,I1,rfl,q1⟩)
def tIf(t:TT)(ta tb:TE):TE:=λσ H Q=>t σ H λc H1=>if c=true then ta σ H1 Q else tb σ H1 Q
theorem GG{c:Expr}(hc:PT X c tA)(ha:PE X a ta)(hb:PE X b tb):PE X (.IfExp c a b pos) (tIf tA ta tb):=by
 intro ee s σ H Q I h;refine wpAny_IfExp (thn (hc ee s σ H _ I h) λd s1 ⟨H1,I1,q1⟩=> ?_);cases d with
 |true=>exact ha ee s1 σ H1 Q I1 q1
 |false=>exact hb ee s1 σ H1 Q I1 q1
end
def SqL(K:PySem.W.Frag)(H:Hp)(a:Addr)(xs:List V):Prop:=
 Rd H a (.lst xs)\/
  ∃(o:Obj) (eA:Array Value) (n:Nat),K.lookup a=some o/\o.cls= .type "list"/\o.dict=none/\o.data= .seq eA n/\eA.size<=sizeLine/\Vals xs eA.toList
def SqT(K:PySem.W.Frag)(H:Hp)(a:Addr)(xs:List V):Prop:=
 Rd H a (.tup xs)\/
  ∃(o:Obj) (eA:Array Value) (n:Nat),K.lookup a=some o/\o.cls= .type "tuple"/\o.data= .seq eA n/\eA.size<=sizeLine/\Vals xs eA.toList
noncomputable def RN:Value->Option V
 | .none=>some .non
 | .bool b=>some (.bl b)
 | .int i _=>some (.int i)
 | .str x _=>some (.str x)
 | .bytes b _=>some (.byt b)
 | .float b _=>some (.flt b)
 | .ref a=>some (.ref a)
 | .type n=>some (.ty n)
 |_=>none
variable{u:Value}
theorem RelV.abs{x:V}(r:RelV x u):RN u=some x:=by
 cases x with
 |non=>cases r;rfl
 |bl _=>cases r;rfl
 |int _=>obtain⟨t,rfl⟩:=r;rfl
 |str _=>obtain⟨t,rfl⟩:=r;rfl
 |byt _=>obtain⟨t,rfl⟩:=r;rfl
 |flt _=>obtain⟨t,rfl⟩:=r;rfl
 |ref _=>cases r;rfl
 |ty _=>cases r;rfl
theorem RelV.inj{x y:V}{u:Value}(r:RelV x u)(q:RelV y u):x=y:=Option.some.inj (r.abs.symm.trans q.abs)
theorem Vals.inj{xs ys:List V}{us:List Value}(p:Vals xs us)(q:Vals ys us):xs=ys:=by
 induction p generalizing ys with
 |nil=>cases q;rfl
 |cons r t ih=>cases q with|cons r' t' =>rw[r.inj r',ih t']
section
variable{X:Cx}{ee:List (Addr×Obj)}{σ:St}{H:Hp}{s:Shared}{a:Addr}{xs ys:List V}
theorem SqT.of{K:PySem.W.Frag}(h:H a=some (.tup xs)):SqT K H a xs:= .inl (.inl h)
theorem Inv.list(I:Inv X ee σ H s)(h:SqL X.K H a xs):∃eA:List Value,Vals xs eA/\PlainL s.heap a eA.toArray/\xs.length<=sizeLine:=by
 rcases h with h| ⟨o,eA,n,hk,hc,hd,hs,hz,r⟩
 .obtain⟨z,eA,n,r,e⟩:=h.ok I.hok;exact⟨eA,r,⟨_,n,e,rfl,rfl,rfl⟩,z⟩
 .refine⟨eA.toList,r,⟨o,n,I.kIn a o hk,hc,hd,by simpa using hs⟩, ?_⟩;have e:=r.length;simp only[GbB] at e;lia
theorem Inv.tuple(I:Inv X ee σ H s)(h:SqT X.K H a xs):∃eA:List Value,Vals xs eA/\IsTup s.heap a eA.toArray/\xs.length<=sizeLine:=by
 rcases h with h| ⟨o,eA,n,hk,hc,hs,hz,r⟩
 .obtain⟨z,eA,r,p⟩:=h.ok I.hok;exact⟨eA,r,p,z⟩
 .refine⟨eA.toList,r,⟨o,I.kIn a o hk,hc,n,by simpa using hs⟩, ?_⟩;have e:=r.length;simp only[GbB] at e;lia
theorem Inv.Bi(I:Inv X ee σ H s)(h:SqL X.K H a xs)(h' :SqL X.K H a ys):xs=ys:=by
 obtain⟨eA,r,⟨o,n,e,_,_,d⟩,_⟩:=I.list h;obtain⟨its',r',⟨o',n',e',_,_,d'⟩,_⟩:=I.list h';rw[e] at e';cases e'
 rw[d] at d';injection d' with d1 _
 have:eA=its' :=by simpa using congrArg Array.toList d1
 subst this;exact r.inj r'
theorem Inv.wD(I:Inv X ee σ H s)(h:SqT X.K H a xs)(h' :SqT X.K H a ys):xs=ys:=by
 obtain⟨eA,r,⟨o,e,_,n,d⟩,_⟩:=I.tuple h;obtain⟨its',r',⟨o',e',_,n',d'⟩,_⟩:=I.tuple h';rw[e] at e';cases e'
 rw[d] at d';injection d' with d1 _
 have:eA=its' :=by simpa using congrArg Array.toList d1
 subst this;exact r.inj r'
end
noncomputable abbrev Cx.oM (X:Cx) (E:Value->Shared->Prop):Cx:={X with xe:=E}
noncomputable abbrev Cx.nox (X:Cx):Cx:=X.oM λ_ _=>False
theorem Cx.Ok.oM{X:Cx}(ok:X.Ok)(E:Value->Shared->Prop):(X.oM E).Ok:=
 ⟨ok.mod,ok.kind,ok.glob,ok.blt,ok.above,ok.inj,ok.has,ok.cab,ok.hd,ok.frames,ok.stk,ok.exf,ok.bs,ok.bsz,ok.Ds,ok.Dt,ok.ql,ok.frf⟩
variable{X:Cx}
theorem Cx.Ok.iC{E:Value->Shared->Prop}(ok:(X.oM E).Ok):X.Ok:=
 ⟨ok.mod,ok.kind,ok.glob,ok.blt,ok.above,ok.inj,ok.has,ok.cab,ok.hd,ok.frames,ok.stk,ok.exf,ok.bs,ok.bsz,ok.Ds,ok.Dt,ok.ql,ok.frf⟩
section
variable{X:Cx}{ee:List (Addr×Obj)}{σ:St}{H:Hp}{s:Shared}{E:Value->Shared->Prop}
theorem Inv.oM(I:Inv X ee σ H s)(E:Value->Shared->Prop):Inv (X.oM E) ee σ H s:=⟨I.ok.oM E,I.os,I.bare,I.base,I.loc,I.cell,I.free,I.jc,I.pin,I.hok,I.len⟩
theorem Inv.iC(I:Inv (X.oM E) ee σ H s):Inv X ee σ H s:=⟨I.ok.iC,I.os,I.bare,I.base,I.loc,I.cell,I.free,I.jc,I.pin,I.hok,I.len⟩
theorem SP.iC{D:Ends}{f:Flow}{s' :Shared}(h:SP (X.oM E) ee D f s'):SP X ee D f s' :=by
 cases f with
 |next=>obtain⟨σ',H',I,q⟩:=h;exact⟨σ',H',I.iC,q⟩
 |brk=>obtain⟨σ',H',I,q⟩:=h;exact⟨σ',H',I.iC,q⟩
 |cont=>obtain⟨σ',H',I,q⟩:=h;exact⟨σ',H',I.iC,q⟩
 |ret u=>obtain⟨v,σ',H',I,r,q⟩:=h;exact⟨v,σ',H',I.iC,r,q⟩
theorem PE.nox{e:Expr}{t:TE}(h:PE X.nox e t):PE X e t:=λee s σ H Q I hw=>
 Gbg (h ee s σ H Q (I.oM _) hw) (λ_ _ ⟨v,H',I',r,q⟩=> ⟨v,H',I'.iC,r,q⟩) λ_ _ z=>False.elim z
theorem PT.nox{e:Expr}{t:TT}(h:PT X.nox e t):PT X e t:=λee s σ H Q I hw=>
 Gbg (h ee s σ H Q (I.oM _) hw) (λ_ _ ⟨H',I',q⟩=> ⟨H',I'.iC,q⟩) λ_ _ z=>False.elim z
theorem PSs.nox{st:List Stmt}{t:TS}(h:PSs X.nox st t):PSs X st t:=λee s σ H D I hw=>
 Gbg (h ee s σ H D (I.oM _) hw) (λ_ _ q=>q.iC) λ_ _ z=>False.elim z
end
section
variable{X:Cx}{st:Stmt}{rest:List Stmt}{t u:TS}{e:Expr}{te:TE}{pos:Pos}
def Ph:TS:=λD σ H=>D.nx σ H
def RO(t u:TS):TS:=λD σ H=>t {D with nx:=u D} σ H
theorem DC:PSs X [] Ph:=λ_ _ σ H _ I h=>GbW ⟨σ,H,I,h⟩
theorem g7(h1:PS X st t)(h2:PSs X rest u):PSs X (st::rest) (RO t u):=by
 intro ee s σ H D I h;refine wpAny_execs_cons (thn (h1 ee s σ H {D with nx:=u D} I h) λf s1 q=> ?_);cases f with
 |next=>
  obtain⟨σ',H',I',q⟩:=q;exact h2 ee s1 σ' H' D I' q
 |ret v=>exact q
 |brk=>exact q
 |cont=>exact q
theorem jm(h1:PS X st t):PSs X [st] t:=by
 intro ee s σ H D I h;refine wpAny_execs_cons (thn (h1 ee s σ H D I h) λf s1 q=> ?_);cases f with
 |next=>exact GbW q
 |ret v=>exact q
 |brk=>exact q
 |cont=>exact q
def MQ:TS:=λD σ H=>D.bk σ H
theorem GH:PS X (.Break pos) MQ:=λ_ _ σ H _ I h=>wpAny_Break ⟨σ,H,I,h⟩
theorem Inv.quiet{ee:List (Addr×Obj)}{σ:St}{H:Hp}{s:Shared}(I:Inv X ee σ H s):interactive X.env=false:=by simp[interactive,I.ok.kind]
def Pj(te:TE):TS:=λD σ H=>te σ H λ_ H1=>D.nx σ H1
theorem u7(he:PE X e te)(hs:autoParam (swapsWith e none pos.line X.env=pure false) Za1._auto_1):PS X (.Expr e pos) (Pj te):=by
 intro ee s σ H D I h;exact wpAny_Expr_any (thn (he ee s σ H _ I h) λv s1 ⟨x,H1,I1,r1,q1⟩=> ⟨σ,H1,I1,q1⟩) I.quiet hs
def RP(te:TE):TS:=λD σ H=>te σ H D.rt
theorem Aq(he:PE X e te):PS X (.Return (some e) pos) (RP te):=by
 intro ee s σ H D I h;exact wpAny_Return_some (thn (he ee s σ H _ I h) λv s1 ⟨x,H1,I1,r1,q1⟩=> ⟨x,σ,H1,I1,r1,q1⟩)
def RQ(c:TT)(t u:TS):TS:=λD σ H=>c σ H λb H1=>if b=true then t D σ H1 else u D σ H1
theorem Bj{c:Expr}{a b:List Stmt}{tc:TT}(hc:PT X c tc)(ha:PSs X a t)(hb:PSs X b u):PS X (.If c a b pos) (RQ tc t u):=by
 intro ee s σ H D I h;refine wpAny_If (thn (hc ee s σ H _ I h) λd s1 ⟨H1,I1,q1⟩=> ?_);cases d with
 |true=>exact ha ee s1 σ H1 D I1 q1
 |false=>exact hb ee s1 σ H1 D I1 q1
end
abbrev TG:=V->St->Hp->(St->Hp->Prop)->Prop
abbrev TGs:=List V->St->Hp->(St->Hp->Prop)->Prop
def PG(X:Cx)(target:Expr)(t:TG):Prop:=
 ∀(ee:List (Addr×Obj)) (s:Shared) (σ:St) (H:Hp) (v:V) (u:Value) (Q:St->Hp->Prop),Inv X ee σ H s->RelV v u->t v σ H Q->
  wpAny (model X.prog X.w) X.A (assign target X.env u) (λ_ s' =>∃σ' H',Inv X ee σ' H' s' /\Q σ' H') X.xe s
def PGs(X:Cx)(ts:List Expr)(t:TGs):Prop:=
 ∀(ee:List (Addr×Obj)) (s:Shared) (σ:St) (H:Hp) (vs:List V) (us:List Value) (Q:St->Hp->Prop),Inv X ee σ H s->Vals vs us->t vs σ H Q->
  wpAny (model X.prog X.w) X.A (assignInOrder ((assignEach ts X.env).map (·.2)) us) (λ_ s' =>∃σ' H',Inv X ee σ' H' s' /\Q σ' H') X.xe s
abbrev RS:=V->V->V->Hp->(Hp->Prop)->Prop
def Pk(X:Cx)(t:RS):Prop:=
 ∀(ee:List (Addr×Obj)) (s:Shared) (σ:St) (H:Hp) (o i v:V) (ov iv u:Value) (Q:Hp->Prop),Inv X ee σ H s->RelV o ov->RelV i iv->RelV v u->t o i v H Q->
  wpAny (model X.prog X.w) X.A (setItem ov iv u) (λ_ s' =>∃H',Inv X ee σ H' s' /\Q H') X.xe s
section
variable{X:Cx}{pos:Pos}
def GI(i:Nat):TG:=λv σ H Q=>Q (σ.set i (some v)) H
variable{x:Str}{i:Nat}
theorem Ar(hN:X.N.Nodup)(hi:X.N[i]? =some x)(hx:Loc X.env.scope x)(hf:autoParam (X.fn x=true\/X.env.scope.names.lookup x=some .local) Za3._auto_1):PG X (.Name x pos) (GI i):=by
 intro ee s σ H v u Q I r h;exact wpAny_assign_Name (mZ I hN hi hx r (λs' I' => ⟨_,H,I',h⟩) hf)
def RT:TGs:=λvs σ H Q=>vs=[]/\Q σ H
def Pl(t:TG)(u:TGs):TGs:=λvs σ H Q=>∃v r,vs=v::r/\t v σ H λσ' H' =>u r σ' H' Q
theorem JS:PGs X [] RT:=by
 intro ee s σ H vs us Q I r h;obtain⟨e,h⟩:=h;subst e;cases r;exact assignInOrder_nil ⟨σ,H,I,h⟩
variable{es:List Expr}
theorem GJ{e:Expr}{t:TG}{u:TGs}(h1:PG X e t)(h2:PGs X es u)
  (hs:autoParam ((assignEach (e::es) X.env).map (·.2)=assign e X.env::(assignEach es X.env).map (·.2)) Za1._auto_1):PGs X (e::es) (Pl t u):=by
 intro ee s σ H vs us Q I r h;obtain⟨v,vr,e1,h⟩:=h;subst e1;cases r with
 |cons r rr=>
  rw[hs];refine assignInOrder_cons (thn (h1 ee s σ H _ _ _ I r h) λ_ s1 ⟨σ1,H1,I1,q1⟩=> ?_);exact h2 ee s1 σ1 H1 _ _ Q I1 rr q1
def RU(K:PySem.W.Frag)(n:Nat)(t:TGs):TG:=λv σ H Q=>∃a xs,v= .ref a/\SqT K H a xs/\xs.length=n/\t xs σ H Q
theorem MU{k:Nat}{t:TGs}{n:Nat}(hc:X.calm=true)(h:PGs X es t)
  (hn:autoParam ((assignEach es X.env).length=n) Za1._auto_1)(xR:autoParam ((assignEach es X.env).findIdx? (·.1)=none) Za1._auto_1):PG X (.Tuple es k pos) (RU X.K n t):=by
 intro ee s σ H v u Q I r hw;obtain⟨a,xs,e1,hq,hl,hw⟩:=hw;subst e1;cases r;obtain⟨eA,rv,ht,hz⟩:=I.tuple hq;refine assign_Tuple_tuple (I.ok.hd hc) ht (by simp[hn,<-hl,rv.length]) xR λh' hx=> ?_;have I1:Inv X ee σ H {s with heap:=h' }:=I.kept (t' :=s.toks) λb o e=>hx b o (Gau (Gal e)) e;exact h ee _ σ H xs _ Q I1 (by simpa using rv) hw
def Po(te:TE)(g:TG):TS:=λD σ H=>te σ H λx H1=>g x σ H1 D.nx
theorem lR{e:Expr}{te:TE}{pos' :Pos}(hN:X.N.Nodup)(hi:X.N[i]? =some x)(hx:Loc X.env.scope x)(he:PE X e te)(hs:autoParam (swapsWith e (some (.Name x pos')) pos.line X.env=pure false) Za1._auto_1)(hf:autoParam (X.fn x=true\/X.env.scope.names.lookup x=some .local) Za3._auto_1):
  PS X (.Assign [.Name x pos'] e pos) (Po te (GI i)):=by
 intro ee s σ H D I h;refine wpAny_Assign_Name (thn (he ee s σ H _ I h) λv s1 ⟨y,H1,I1,r1,q1⟩=> ?_) hs;exact mZ I1 hN hi hx r1 (λs2 I2=> ⟨_,H1,I2,q1⟩) hf
end
section
variable{X:Cx}{pos:Pos}
def MV(c:TT)(tb:TS):TS:=λD σ H=>∃W:Nat->St->Hp->Prop,(∃m,W m σ H)/\∀m σ H,W m σ H->
 c σ H λb H1=>if b=true then∃N:St->Hp->Prop,(∀σ' H',N σ' H' ->∃m',m' <m/\W m' σ' H')/\tb {D with nx:=N,ct:=N,bk:=D.nx} σ H1 else D.nx σ H1
theorem GK{c:Expr}{body:List Stmt}{tc:TT}{tb:TS}(hp:PassesOwn (model X.prog X.w) X.A X.env X.xe)(hc:PT X c tc)(hb:PSs X body tb):PS X (.While c body [] pos) (MV tc tb):=by
 intro ee s σ H D I h;obtain⟨W,⟨m0,w0⟩,turn⟩:=h;refine wpAny_While (codeAny_whileLoop (λn s' =>∃σ' H',Inv X ee σ' H' s' /\W n σ' H') ?_ m0 ⟨σ,H,I,w0⟩);rintro n s1 ⟨σ1,H1,I1,w1⟩;refine GbH hp (thn (hc ee s1 σ1 H1 _ I1 (turn n σ1 H1 w1)) λb s2 ⟨H2,I2,q2⟩=> ?_);cases b with
 |true=>
  obtain⟨N,hN,q2⟩:=q2;rw[Gaf rfl];refine GbH hp (thn (hb ee s2 σ1 H2 _ I2 q2) λf s3 q3=> ?_);cases f with
  |next=>
   obtain⟨σ3,H3,I3,n3⟩:=q3;obtain⟨m',hm,w3⟩:=hN σ3 H3 n3;exact⟨m',hm,σ3,H3,I3,w3⟩
  |cont=>
   obtain⟨σ3,H3,I3,n3⟩:=q3;obtain⟨m',hm,w3⟩:=hN σ3 H3 n3;exact⟨m',hm,σ3,H3,I3,w3⟩
  |brk=>exact q3
  |ret v=>exact q3
 |false=>
  rw[Gag Gai];exact GbW ⟨σ1,H2,I2,q2⟩
end
structure It where
 go:Nat->Hp->Prop
 yld:Nat->Hp->V->Hp->Prop
 stop:Nat->Hp->Prop
def pK(X:Cx)(ee:List (Addr×Obj))(H:Hp)(b:Addr):Prop:=
 H b=none/\b≠X.env.locals/\b∉X.fs/\(b∈X.ex\/X.s₀.heap.objs.size<=b)/\(∀x c,X.env.cells.lookup x=some c->c≠b)/\∀p∈X.pn++ee,p.1≠b
variable{s:Shared}
theorem Inv.Fo{ee:List (Addr×Obj)}{σ:St}{H H' :Hp}{b:Addr}(I:Inv X ee σ H s)(hb:s.heap.objs.size<=b)(hn:H' b=none):pK X ee H' b:=by
 refine⟨hn,Gbp (Gak I.lt hb),I.RK hb,.inr (GaQ I.sz hb),λx c e z=> ?_,λp hp z=> ?_⟩
 .obtain⟨v,q⟩:=I.cell x c e;exact absurd (Gak q.lt (by rw[z];exact hb)) (GaN _)
 .exact absurd (Gak (Gal (I.pin p hp).1) (by rw[z];exact hb)) (GaN _)
structure Turn(P:Program)(w:World)(K:PySem.W.Frag)(tg:Expr)(J:It)(fp:List Addr)(it:Addr)(tn:Nat->Heap->Prop):Prop where
 mem:it∈fp
 obj:∀i h,tn i h->∀b∈fp,∃o,h.get? b=some o/\∀v,o.data≠ .cell v
 keep:∀i h h',tn i h->(∀b∈fp,∀o,h.get? b=some o->h'.get? b=some o)->tn i h'
 item:∀(X:Cx),X.prog=P->X.w=w->X.K=K->X.calm=true->∀(i:Nat) (ee:List (Addr×Obj)) (s:Shared) (σ:St) (H:Hp) (E:Value->Shared->Prop),Inv X ee σ H s->(∀b∈fp,pK X ee H b)->tn i s.heap->J.go i H->
  wpAny (model P w) X.A (pyNext (.ref it)) (λr s1=>∃u,r=some u/\
   wpAny (model P w) X.A (letOwnedTupleGo tg (.ref it) u) (λ_ s2=>∃x H',Inv X ee σ H' s2/\RelV x u/\J.yld i H x H' /\tn (i+1) s2.heap/\∀b∈fp,H' b=none) E s1) E s
 done:∀(X:Cx),X.prog=P->X.w=w->X.K=K->X.calm=true->∀(i:Nat) (ee:List (Addr×Obj)) (s:Shared) (σ:St) (H:Hp) (E:Value->Shared->Prop),Inv X ee σ H s->(∀b∈fp,pK X ee H b)->tn i s.heap->J.stop i H->
  wpAny (model P w) X.A (pyNext (.ref it)) (λr s1=>r=none/\Inv X ee σ H s1) E s
 self:∀(A:Around) (i:Nat) (s:Shared) (Q:Value->Shared->Prop) (E:Value->Shared->Prop),tn i s.heap->Q (.ref it) s->wpAny (model P w) A (pyIter (.ref it)) Q E s
abbrev TI:=St->Hp->(It->Hp->Prop)->Prop
def PIE(X:Cx)(ee:List (Addr×Obj))(σ:St)(tg:Expr)(R:It->Hp->Prop)(TC:Value)(s2:Shared):Prop:=
 ∃(it:Addr) (fp:List Addr) (tn:Nat->Heap->Prop) (J:It) (H' :Hp),TC= .ref it/\Inv X ee σ H' s2/\Turn X.prog X.w X.K tg J fp it tn/\tn 0 s2.heap/\(∀b∈fp,pK X ee H' b)/\R J H'
def PI(X:Cx)(tg iter:Expr)(wi:TI):Prop:=
 ∀(ee:List (Addr×Obj)) (s:Shared) (σ:St) (H:Hp) (R:It->Hp->Prop),Inv X ee σ H s->wi σ H R->
  wpAny (model X.prog X.w) X.A (eval iter X.env) (λv s1=>wpAny (model X.prog X.w) X.A (pyIter v) (PIE X ee σ tg R) X.xe s1) X.xe s
variable{tg:Expr}
theorem GL{M:Model}{A:Around}{E:Value->Shared->Prop}{it:Addr}{o:Obj}{n:String}{vs:Array Value}{Q:Unit->Shared->Prop}(ho:s.heap.get? it=some o)(hc:o.cls= .type n)(hd:o.data= .fields vs)
  (hn:["enumerate","zip","dict_itemiterator","dict_reverseitemiterator","odict_iterator","itertools.zip_longest","itertools.pairwise"].contains n=false)(hQ:Q () s):wpAny M A (letOwnedTupleGo tg (.ref it) u) Q E s:=by
 unfold letOwnedTupleGo;cases tg<;>first
  |exact Gah hQ
  |(cases u<;>first
    |exact Gah hQ
    |(refine Gab (wpAny_load ho ?_)
      rw[hc,hd];show wpAny M A (if(["enumerate","zip","dict_itemiterator","dict_reverseitemiterator","odict_iterator","itertools.zip_longest","itertools.pairwise"].contains n&&vs[0]? ==some (rawInt _))=true then _ else _) Q E s;rw[Gag (by intro h;rw[hn,Bool.false_and] at h;cases h)];exact Gah hQ))
noncomputable def Itl(K:PySem.W.Frag)(a:Addr):It:=
 ⟨λi H=>∃xs x,SqL K H a xs/\xs[i]? =some x,λi H x H' =>H' =H/\∀xs,SqL K H a xs->xs[i]? =some x,λi H=>∃xs,SqL K H a xs/\xs.length<=i⟩
noncomputable def Itt(K:PySem.W.Frag)(a:Addr):It:=
 ⟨λi H=>∃xs x,SqT K H a xs/\xs[i]? =some x,λi H x H' =>H' =H/\∀xs,SqT K H a xs->xs[i]? =some x,λi H=>∃xs,SqT K H a xs/\xs.length<=i⟩
noncomputable def Itr(lo:Int)(n:Nat):It:=⟨λi _=>i<n,λi H x H' =>H' =H/\x= .int (lo+i),λi _=>n<=i⟩
variable{w:World}{P:Program}
theorem Fp{K:PySem.W.Frag}(a it:Addr):Turn P w K tg (Itl K a) [it] it (λi h=>h.IsListIter it a i) where
 mem:=by simp
 obj:=λi h st b hb=>by
  have e:b=it:=by simpa using hb
  subst e;obtain⟨o,e,c,d⟩:=st;exact⟨o,e,λv z=>by rw[d] at z;cases z⟩
 keep:=λi h h' st k=>st.at λo e=>k it (by simp) o e
 item:=by
  intro X hP hw hK hc i ee s σ H E I hf st hg;subst hP hw hK;obtain⟨xs,x,hq,hx⟩:=hg;obtain⟨eA,rv,p,hz⟩:=I.list hq;obtain⟨u,hu,ru⟩:=rv.get hx;obtain⟨f0,f1,f2,f3,f4,f5⟩:=hf it (by simp);refine wpAny_pyNext_list_item st p.isList (x:=u) (by simpa using hu) λh' yR sb=> ?_;have I1:Inv X ee σ H {s with heap:=h' }:=I.turned (t' :=s.toks) (λb o hb e=>(sb.2 b hb).trans e) f0 f1 f3 f4 f5;obtain⟨o,e,c,d⟩:=id yR;exact⟨u,rfl,GL (s:={s with heap:=h' }) e c d (by decide) ⟨x,H,I1,ru,⟨rfl,λys hy=>by rw[I.Bi hy hq];exact hx⟩,yR,λb hb=>(hf b hb).1⟩⟩
 done:=by
  intro X hP hw hK hc i ee s σ H E I hf st hg;subst hP hw hK;obtain⟨xs,hq,hx⟩:=hg;obtain⟨eA,rv,p,hz⟩:=I.list hq;obtain⟨f0,f1,f2,f3,f4,f5⟩:=hf it (by simp);have hl:=rv.length;exact wpAny_pyNext_list_end (I.ok.hd hc) st p.isList (by simp;lia) λh' eb=> ⟨rfl,I.turned (t' :=s.toks) (λb o hb e=>eb b o hb e) f0 f1 f3 f4 f5⟩
 self:=λ_ _ _ _ _ st h=>wpAny_pyIter_listiter st h
theorem Cj{K:PySem.W.Frag}(a it:Addr):Turn P w K tg (Itt K a) [it] it (λi h=>h.IsTupleIter it a i) where
 mem:=by simp
 obj:=λi h st b hb=>by
  have e:b=it:=by simpa using hb
  subst e;obtain⟨o,e,c,d⟩:=st;exact⟨o,e,λv z=>by rw[d] at z;cases z⟩
 keep:=λi h h' st k=>st.at λo e=>k it (by simp) o e
 item:=by
  intro X hP hw hK hc i ee s σ H E I hf st hg;subst hP hw hK;obtain⟨xs,x,hq,hx⟩:=hg;obtain⟨eA,rv,p,hz⟩:=I.tuple hq;obtain⟨u,hu,ru⟩:=rv.get hx;obtain⟨f0,f1,f2,f3,f4,f5⟩:=hf it (by simp);refine wpAny_pyNext_tuple_item st (show s.heap.IsTuple a eA.toArray from p) (x:=u) (by simpa using hu) λh' yR sb=> ?_;have I1:Inv X ee σ H {s with heap:=h' }:=I.turned (t' :=s.toks) (λb o hb e=>(sb.2 b hb).trans e) f0 f1 f3 f4 f5;obtain⟨o,e,c,d⟩:=id yR;exact⟨u,rfl,GL (s:={s with heap:=h' }) e c d (by decide) ⟨x,H,I1,ru,⟨rfl,λys hy=>by rw[I.wD hy hq];exact hx⟩,yR,λb hb=>(hf b hb).1⟩⟩
 done:=by
  intro X hP hw hK hc i ee s σ H E I hf st hg;subst hP hw hK;obtain⟨xs,hq,hx⟩:=hg;obtain⟨eA,rv,p,hz⟩:=I.tuple hq;obtain⟨f0,f1,f2,f3,f4,f5⟩:=hf it (by simp);have hl:=rv.length;exact wpAny_pyNext_tuple_end (I.ok.hd hc) st (show s.heap.IsTuple a eA.toArray from p) (by simp;lia) λh' eb=> ⟨rfl,I.turned (t' :=s.toks) (λb o hb e=>eb b o hb e) f0 f1 f3 f4 f5⟩
 self:=λ_ _ _ _ _ st h=>wpAny_pyIter_tupleiter st h
theorem Ck{K:PySem.W.Frag}(it:Addr)(lo:Int)(n:Nat):Turn P w K tg (Itr lo n) [it] it (λi h=>IsRangeIter h it (lo+(i:Nat)*1) ((n:Int)-(i:Nat)) 1) where
 mem:=by simp
 obj:=λi h st b hb=>by
  have e:b=it:=by simpa using hb
  subst e;exact⟨_,st,λv z=>by
   have z' :Data.fields _=Data.cell v:=z;cases z'⟩
 keep:=λi h h' st k=>k it (by simp) _ st
 item:=by
  intro X hP hw hK hc i ee s σ H E I hf st hg;subst hP hw hK;obtain⟨f0,f1,f2,f3,f4,f5⟩:=hf it (by simp);have W:=Walks.range (prog:=X.prog) (w:=X.w) (I.ok.hd hc) it lo 1 n;refine W.item i s _ _ hg st λv h' tk hv yR kk=> ?_;obtain⟨t,rfl⟩:=hv;have I1:Inv X ee σ H {s with heap:=h',toks:=tk}:=I.turned (λb o hb e=>kk b o (by simpa using hb) e) f0 f1 f3 f4 f5;refine⟨_,rfl,GL (s:={s with heap:=h',toks:=tk}) (n:="range_iterator") yR rfl rfl (by decide) ⟨.int (lo+i),H,I1,⟨t, ?_⟩,⟨rfl,rfl⟩,yR,λb hb=>(hf b hb).1⟩⟩;rw[Int.mul_one]
 done:=by
  intro X hP hw hK hc i ee s σ H E I hf st hg;subst hP hw hK;obtain⟨f0,f1,f2,f3,f4,f5⟩:=hf it (by simp);exact wpAny_pyNext_range_end (I.ok.hd hc) st (by have:n<=i:=hg;lia) λh' eb=> ⟨rfl,I.turned (t' :=s.toks) (λb o hb e=>eb b o hb e) f0 f1 f3 f4 f5⟩
 self:=λ_ _ _ _ _ st h=>wpAny_pyIter_rangeiter st h
section
variable{X:Cx}{tg:Expr}
variable{s:Shared}{H:Hp}{σ:St}{ee:List (Addr×Obj)}
theorem ux{R:It->Hp->Prop}{E:Value->Shared->Prop}{lo hi:Int}{t u v:Tok}{tk:Nat}(I:Inv X ee σ H s)(h1: -(2^62)<=lo)(h2:lo<2^62)(h3: -(2^62)<=hi)(h4:hi<2^62)
  (q:R (Itr lo (hi -lo).toNat) H):wpAny (model X.prog X.w) X.A (pyIter (.ref s.heap.objs.size)) (PIE X ee σ tg R) E {s with heap:=s.heap.push {cls:= .type "range",data:= .fields #[.int lo t,.int hi u,.int 1 v]},toks:=tk}:=by
 refine wpAny_pyIter_range (IsRange.new ..) (small_one h1 h2 h3 h4) ?_;have I1:Inv X ee σ H {s with heap:=s.heap.push {cls:= .type "range",data:= .fields #[.int lo t,.int hi u,.int 1 v]},toks:=tk}:=I.kept λb o e=>Gad _ e;refine⟨(s.heap.push {cls:= .type "range",data:= .fields #[.int lo t,.int hi u,.int 1 v]}).objs.size,[(s.heap.push {cls:= .type "range",data:= .fields #[.int lo t,.int hi u,.int 1 v]}).objs.size],_,_,H,rfl,
  I1.kept (t' :=tk) λb o e=>Gad _ e,Ck _ lo (hi -lo).toNat, ?_,λb hb=> ?_,q⟩
 .have e1:lo+((0:Nat):Int)*1=lo:=by simp
  have e2:(((hi -lo).toNat:Nat):Int)-((0:Nat):Int)=Builtin.Range.rangeSize lo hi 1:=by rw[rangeSize_one];split<;>lia
  show IsRangeIter _ _ (lo+((0:Nat):Int)*1) ((((hi -lo).toNat:Nat):Int)-((0:Nat):Int)) 1;rw[e1,e2];exact Gat _ rfl
 .have e:b=(s.heap.push {cls:= .type "range",data:= .fields #[.int lo t,.int hi u,.int 1 v]}).objs.size:=by simpa using hb
  subst e;exact I1.Fo (Gao _) (I1.hok.fresh (Gao _))
def Pp(ta:TA):TI:=λσ H R=>ta σ H λvs H1=>∃j:Int,vs=[.int j]/\-(2^62)<=j/\j<2^62/\R (Itr 0 j.toNat) H1
variable{pos:Pos}
theorem wF{a:Expr}{ta:TA}{p:Pos}(hg:Gl X "range")(hm:X.mg "range"=none)(ha:PA X [a] ta)(hs:autoParam (starEach [a] X.env=[(false,eval a X.env)]) Za1._auto_1):PI X tg (.Call (.Name "range" p) [a] [] pos) (Pp ta):=by
 intro ee s σ H R I h;refine Call_ (rS I hg hm boot_range (Gcm (thn (ha pos ee s σ H _ I h) λus s1 ⟨vs,H1,I1,r1,q1⟩=> ?_) hs rfl));obtain⟨j,e,q1,q2,q⟩:=q1;subst e;cases r1 with
 |cons r rr=>
  cases rr;obtain⟨t,rfl⟩:=r;exact call_range_1 (ux I1 (by lia) (by lia) q1 q2 (by simpa using q))
def RW(wi:TI)(g:TG)(tb:TS):TS:=λD σ H=>wi σ H λJ H1=>∃W:Nat->Nat->St->Hp->Prop,(∃m,W 0 m σ H1)/\∀i m σ H,W i m σ H->
 (J.stop i H/\D.nx σ H)\/(J.go i H/\∃N:St->Hp->Prop,(∀σ' H',N σ' H' ->∃m',m' <m/\W (i+1) m' σ' H')/\∀x H',J.yld i H x H' ->g x σ H' λσ2 H2=>tb {D with nx:=N,ct:=N,bk:=D.nx} σ2 H2)
noncomputable def uy(fp:List Addr)(h:Heap):List (Addr×Obj):=fp.filterMap λb=>(h.get? b).map λo=>(b,o)
variable{h:Heap}{fp:List Addr}
theorem lS{b:Addr}{o:Obj}(hb:b∈fp)(e:h.get? b=some o):(b,o)∈uy fp h:=List.mem_filterMap.mpr ⟨b,hb,by rw[e];rfl⟩
theorem Fq{p:Addr×Obj}(hp:p∈uy fp h):p.1∈fp/\h.get? p.1=some p.2:=by
 obtain⟨b,hb,e⟩:=List.mem_filterMap.mp hp;cases q:h.get? b with
 |none=>rw[q] at e;cases e
 |some o=>
  rw[q] at e;have e' :(b,o)=p:=Option.some.inj e;subst e';exact⟨hb,q⟩
theorem Inv.pinned(I:Inv X ee σ H s)(hf:∀b∈fp,pK X ee H b)(ho:∀b∈fp,∃o,s.heap.get? b=some o/\∀v,o.data≠ .cell v):Inv X (ee++uy fp s.heap) σ H s:=
 I.Dz λp hp=>(Gby.mp hp).elim (λz=>I.pin p (GaU _ z)) λz=>by
  obtain⟨hb,e⟩:=Fq z;obtain⟨f0,f1,f2,_⟩:=hf p.1 hb;obtain⟨o,e',d⟩:=ho p.1 hb;rw[e] at e';cases e'
  exact⟨e,f0,f1,f2,d⟩
theorem Inv.qo{pl:List (Addr×Obj)}(I:Inv X (ee++pl) σ H s):Inv X ee σ H s:=I.Dz λp hp=>I.pin p (GaU _ (List.mem_append_left _ hp))
theorem Cm{iter:Expr}{body:List Stmt}{wi:TI}{g:TG}{tb:TS}(hp:PassesOwn (model X.prog X.w) X.A X.env X.xe)(hc:X.calm=true)(hi:PI X tg iter wi)(hg:PG X tg g)(hb:PSs X body tb)
  (hs:∀x,foldedSetIterable iter X.env x=pure x:=by intro _;rfl):PS X (.For tg iter body [] pos) (RW wi g tb):=by
 intro ee s σ H D I h;refine wpAny_For (thn (hi ee s σ H _ I h) λv s1 h1=>thn h1 λTC s2 h2=> ?_) hs;obtain⟨it,fp,tn,J,H2,e,I2,T,T4,f2,W,⟨m0,w0⟩,turn⟩:=h2;subst e;have stat:∀{H' :Hp},(∀b∈fp,H' b=none)->∀b∈fp,pK X ee H' b:=λhn b hb=> ⟨hn b hb,(f2 b hb).2⟩;refine codeAny_forLoop_any (λn s' =>∃i σ' H',Inv X ee σ' H' s' /\tn i s'.heap/\(∀b∈fp,H' b=none)/\W i n σ' H') ?_ m0 ⟨0,σ,H2,I2,T4,λb hb=>(f2 b hb).1,w0⟩;rintro n s3 ⟨i,σ3,H3,I3,UQ,V9,w3⟩;rcases turn i n σ3 H3 w3 with⟨stop,qn⟩| ⟨go,N,hN,step⟩
 .refine GbH hp (thn (T.done X rfl rfl rfl hc i ee s3 σ3 H3 X.xe I3 (stat V9) UQ stop) λr s4 ⟨hr,I4⟩=> ?_);subst hr;exact GbW ⟨σ3,H3,I4,qn⟩
 .refine GbH hp (thn (T.item X rfl rfl rfl hc i ee s3 σ3 H3 X.xe I3 (stat V9) UQ go) λr s4 ⟨u,hr,h4⟩=> ?_);subst hr;refine GbH hp (thn h4 λ_ s5 ⟨x,H5,I5,r5,y5,zA,UG⟩=> ?_);have I5' :=I5.pinned (stat UG) (T.obj _ _ zA);refine GbH hp (thn (hg _ s5 σ3 H5 x u _ I5' r5 (step x H5 y5)) λ_ s6 ⟨σ6,H6,I6,q6⟩=> ?_);refine GbH hp (thn (hb _ s6 σ6 H6 _ I6 q6) λf s7 q7=> ?_);have again:∀{σ7:St} {H7:Hp},Inv X (ee++uy fp s5.heap) σ7 H7 s7->N σ7 H7->∃m,m<n/\∃i σ' H',Inv X ee σ' H' s7/\tn i s7.heap/\(∀b∈fp,H' b=none)/\W i m σ' H' :=λ{σ7 H7} I7 n7=>by
   obtain⟨m',hm,w7⟩:=hN σ7 H7 n7;refine⟨m',hm,i+1,σ7,H7,I7.qo,T.keep _ _ _ zA λb hb o e=>(I7.pin (b,o) (GaU _ (GaU _ (lS hb e)))).1,λb hb=> ?_,w7⟩;obtain⟨o,e,d⟩:=T.obj _ _ zA b hb;exact(I7.pin (b,o) (GaU _ (GaU _ (lS hb e)))).2.1
  cases f with
  |next=>obtain⟨σ7,H7,I7,n7⟩:=q7;exact again I7 n7
  |cont=>obtain⟨σ7,H7,I7,n7⟩:=q7;exact again I7 n7
  |brk=>obtain⟨σ7,H7,I7,q7⟩:=q7;exact⟨σ7,H7,I7.qo,q7⟩
  |ret v=>obtain⟨x7,σ7,H7,I7,r7,q7⟩:=q7;exact⟨x7,σ7,H7,I7.qo,r7,q7⟩
end
abbrev R2:=V->V->Hp->VK->Prop
def OpR(X:Cx)(f:Value->Value->Sem Value)(r:R2):Prop:=
 ∀(ee:List (Addr×Obj)) (s:Shared) (σ:St) (H:Hp) (x y:V) (v u:Value) (Q:VK),Inv X ee σ H s->RelV x v->RelV y u->r x y H Q->
  wpAny (model X.prog X.w) X.A (f v u) (EP X ee σ Q) X.xe s
def j0(X:Cx)(f:Value)(r:List V->Hp->VK->Prop):Prop:=
 ∀(ee:List (Addr×Obj)) (s:Shared) (σ:St) (H:Hp) (xs:List V) (us:List Value) (Q:VK),Inv X ee σ H s->Vals xs us->r xs H Q->
  wpAny (model X.prog X.w) X.A (call f us) (EP X ee σ Q) X.xe s
def tOp(r:R2)(ta tb:TE):TE:=λσ H Q=>ta σ H λx H1=>tb σ H1 λy H2=>r x y H2 Q
def rI(C:Int->Int->Prop)(g:Int->Int->V):R2:=λx y H Q=>∃i j,x= .int i/\y= .int j/\C i j/\Q (g i j) H
def rI0(g:Int->Int->V):R2:=λx y H Q=>∃i j,x= .int i/\y= .int j/\Q (g i j) H
section
variable{X:Cx}{a b c:Expr}{ta tb tc:TE}{pos:Pos}
theorem MW(ha:PE X a ta)(hb:PE X b tb){ee:List (Addr×Obj)}{s:Shared}{σ:St}{H:Hp}{R:V->V->Hp->Prop}(I:Inv X ee σ H s)
  (h:ta σ H λx H1=>tb σ H1 λy H2=>R x y H2){Q:Value->Shared->Prop}{f:Value->Value->Sem Value}
  (hf:∀v u s2 x y H2,Inv X ee σ H2 s2->RelV x v->RelV y u->R x y H2->wpAny (model X.prog X.w) X.A (f v u) Q X.xe s2):
  wpAny (model X.prog X.w) X.A (eval a X.env) (λv s₁=>wpAny (model X.prog X.w) X.A (eval b X.env) (λu s₂=>wpAny (model X.prog X.w) X.A (f v u) Q X.xe s₂) X.xe s₁) X.xe s:=by
 refine thn (ha ee s σ H _ I h) λv s1 ⟨x,H1,I1,r1,q1⟩=> ?_;refine thn (hb ee s1 σ H1 _ I1 q1) λu s2 ⟨y,H2,I2,r2,q2⟩=> ?_;exact hf v u s2 x y H2 I2 r1 r2 q2
theorem Pq{op:Operator}{r:R2}(ho:OpR X (binaryOp op) r)(ha:PE X a ta)(hb:PE X b tb):PE X (.BinOp a op b pos) (tOp r ta tb):=by
 intro ee s σ H Q I h;exact wpAny_BinOp (MW ha hb I h λv u s2 x y H2 I2 rx ry q=>ho ee s2 σ H2 x y v u Q I2 rx ry q)
variable{g:Int->Int->Int}
theorem opI{f:Value->Value->Sem Value}{C:Int->Int->Prop}
  (rule:∀(i j:Int) (t u:Tok) (s:Shared) (Q:Value->Shared->Prop) (E:Value->Shared->Prop),C i j->Q (.int (g i j) s.toks) {s with toks:=s.toks+1}->wpAny (model X.prog X.w) X.A (f (.int i t) (.int j u)) Q E s):
  OpR X f (rI C λi j=> .int (g i j)):=by
 intro ee s σ H x y v u Q I rx ry h;obtain⟨i,j,rfl,rfl,hc,q⟩:=h;obtain⟨t,rfl⟩:=rx;obtain⟨t',rfl⟩:=ry;exact rule i j t t' s _ _ hc ⟨.int (g i j),H,I.tok _,⟨_,rfl⟩,q⟩
theorem Pr{f:Value->Value->Sem Value}
  (rule:∀(i j:Int) (t u:Tok) (s:Shared) (Q:Value->Shared->Prop) (E:Value->Shared->Prop),Q (.int (g i j) s.toks) {s with toks:=s.toks+1}->wpAny (model X.prog X.w) X.A (f (.int i t) (.int j u)) Q E s):
  OpR X f (rI0 λi j=> .int (g i j)):=by
 intro ee s σ H x y v u Q I rx ry h;obtain⟨i,j,rfl,rfl,q⟩:=h;obtain⟨t,rfl⟩:=rx;obtain⟨t',rfl⟩:=ry;exact rule i j t t' s _ _ ⟨.int (g i j),H,I.tok _,⟨_,rfl⟩,q⟩
theorem JT{f:Value->Value->Sem Value}{g:Int->Int->Bool}
  (rule:∀(i j:Int) (t u:Tok) (s:Shared) (Q:Value->Shared->Prop) (E:Value->Shared->Prop),Q (.bool (g i j)) s->wpAny (model X.prog X.w) X.A (f (.int i t) (.int j u)) Q E s):
  OpR X f (rI0 λi j=> .bl (g i j)):=by
 intro ee s σ H x y v u Q I rx ry h;obtain⟨i,j,rfl,rfl,q⟩:=h;obtain⟨t,rfl⟩:=rx;obtain⟨t',rfl⟩:=ry;exact rule i j t t' s _ _ ⟨.bl (g i j),H,I,rfl,q⟩
def Pt(i j:Int):Prop:=0<j/\j<1073741824
def Pu(i j:Int):Prop:=0<=j/\j<=1000000/\i.natAbs<2^64
def JU(i j:Int):Prop:=(-(2^64)<i/\i<2^64)\/(-(2^64)<j/\j<2^64)
theorem JU.ok{i j:Int}(h:JU i j):IntMulOk i j:=by
 rcases h with⟨h1,h2⟩| ⟨h1,h2⟩
 .exact .of_left (intBits_le_64 h1 h2)
 .exact .of_right (intBits_le_64 h1 h2)
theorem MY:OpR X (binaryOp .Add) (rI0 λi j=> .int (i+j)):=Pr λ_ _ _ _ _ _ _ q=>add_int q
theorem MZ:OpR X (binaryOp .Sub) (rI0 λi j=> .int (i -j)):=Pr λ_ _ _ _ _ _ _ q=>sub_int q
theorem N0:OpR X (binaryOp .Mult) (rI JU λi j=> .int (i*j)):=opI λ_ _ _ _ _ _ _ hc q=>mul_int q hc.ok
theorem JV:OpR X (binaryOp .FloorDiv) (rI Pt λi j=> .int (i/j)):=opI λi j _ _ _ _ _ hc q=>by
 have h1:(0:Int)<j:=hc.1;have h2:j<1073741824:=hc.2;exact floordiv_int (by lia) (by rw[Int.fdiv_eq_ediv_of_nonneg i (by lia)];exact q) (.inl (PyProof.noPylong_small (by lia)))
theorem N5:OpR X (binaryOp .Mod) (rI (λ_ j=>0<j) λi j=> .int (i%j)):=opI λi j _ _ _ _ _ hc q=>by
 have h1:(0:Int)<j:=hc;exact mod_int' (by lia) (by rw[Int.fmod_eq_emod_of_nonneg i (by lia)];exact q)
theorem N6:OpR X (binaryOp .Pow) (rI Pu λi j=> .int (i^j.toNat)):=opI λ_ _ _ _ _ _ _ hc q=>pow_int_small hc.1 hc.2.1 hc.2.2 q
end
section
variable{X:Cx}{a b c:Expr}{ta tb tc:TE}{pos:Pos}
theorem GN{ee:List (Addr×Obj)}{σ:St}{H:Hp}{s:Shared}{Q:VK}{k k' :Bool}(I:Inv X ee σ H s)(q:Q (.bl k) H)(e:k=k'):EP X ee σ Q (.bool k') s:=by
 subst e;exact⟨.bl k,H,I,rfl,q⟩
theorem Bk:OpR X (compareOp .Lt) (rI0 λi j=> .bl (decide (i<j))):=JT λ_ _ _ _ _ _ _ q=>lt_int q
theorem GO:OpR X (compareOp .LtE) (rI0 λi j=> .bl (decide (i<=j))):=JT λ_ _ _ _ _ _ _ q=>le_int q
theorem uz:OpR X (compareOp .Gt) (rI0 λi j=> .bl (decide (j<i))):=JT λ_ _ _ _ _ _ _ q=>gt_int q
theorem Pw:OpR X (compareOp .GtE) (rI0 λi j=> .bl (decide (j<=i))):=JT λ_ _ _ _ _ _ _ q=>ge_int q
theorem lT:OpR X (compareOp .Is) (λx y H Q=>y= .non/\Q (.bl (decide (x= .non))) H):=by
 intro ee s σ H x y v u Q I rx ry h;obtain⟨rfl,q⟩:=h;cases ry;refine is_none_gen (GN I q ?_);cases x<;>first
  |(cases rx;rfl)
  |(obtain⟨t,rfl⟩:=rx;rfl)
theorem qp:OpR X (compareOp .IsNot) (λx y H Q=>y= .non/\Q (.bl (!decide (x= .non))) H):=by
 intro ee s σ H x y v u Q I rx ry h;obtain⟨rfl,q⟩:=h;cases ry;refine isnot_none_gen (GN I q ?_);cases x<;>first
  |(cases rx;rfl)
  |(obtain⟨t,rfl⟩:=rx;rfl)
theorem OpR.or{f:Value->Value->Sem Value}{r r' :R2}(h:OpR X f r)(h' :OpR X f r'):OpR X f (λx y H Q=>r x y H Q\/r' x y H Q):=by
 intro ee s σ H x y v u Q I rx ry q;rcases q with q|q
 .exact h ee s σ H x y v u Q I rx ry q
 .exact h' ee s σ H x y v u Q I rx ry q
theorem aI(b:Expr){op:CmpOp}(h:autoParam (op≠ .In) Za2._auto_1)(h2:autoParam (op≠ .NotIn) Za2._auto_1):behindInMarks op b=false:=by
 have e1:(op==CmpOp.In)=false:=by cases op<;>first|rfl|exact absurd rfl h
 have e2:(op==CmpOp.NotIn)=false:=by cases op<;>first|rfl|exact absurd rfl h2
 cases b<;>simp[behindInMarks,e1,e2]
theorem JW{op:CmpOp}{r:R2}(ho:OpR X (compareOp op) r)(ha:PE X a ta)(hb:PE X b tb)(hm:behindInMarks op b=false):PE X (.Compare a [op] [b] pos) (tOp r ta tb):=by
 intro ee s σ H Q I h;exact wpAny_Compare1 (MW ha hb I h λv u s2 x y H2 I2 rx ry q=>ho ee s2 σ H2 x y v u Q I2 rx ry q) hm
def LS(t:TE):TT:=λσ H Q=>t σ H λx H' =>∃k,x= .bl k/\Q k H'
theorem DD{op:CmpOp}{r:R2}(ho:OpR X (compareOp op) r)(ha:PE X a ta)(hb:PE X b tb)(hm:behindInMarks op b=false):PT X (.Compare a [op] [b] pos) (LS (tOp r ta tb)):=by
 intro ee s σ H Q I h;refine wpAny_isTrue_Compare1 (thn (ha ee s σ H _ I h) λv s1 ⟨x,H1,I1,r1,q1⟩=>thn (hb ee s1 σ H1 _ I1 q1) λu s2 ⟨y,H2,I2,r2,q2⟩=>
  thn (ho ee s2 σ H2 x y v u _ I2 r1 r2 q2) λc s3 ⟨z,H3,I3,r3,k,e,q3⟩=> ?_) hm
 subst e;cases r3;exact Gbo ⟨H3,I3,q3⟩
def N7(r r' :R2)(ta tb tc:TE):TE:=λσ H Q=>ta σ H λx H1=>tb σ H1 λy H2=>r x y H2 λz H3=>∃k,z= .bl k/\
 (if k=true then tc σ H3 λw' H4=>r' y w' H4 Q else Q (.bl false) H3)
theorem GP{op zB :CmpOp}{r r' :R2}(ho:OpR X (compareOp op) r)(yB :OpR X (compareOp zB) r')(ha:PE X a ta)(hb:PE X b tb)(hc:PE X c tc)
  (hm:lastMarks [op,zB] [b,c]=false:=by with_unfolding_all rfl):PT X (.Compare a [op,zB] [b,c] pos) (LS (N7 r r' ta tb tc)):=by
 intro ee s σ H Q I h;refine isTrue_chain (thn (ha ee s σ H _ I h) λv s1 ⟨x,H1,I1,r1,q1⟩=>test_link (thn (hb ee s1 σ H1 _ I1 q1) λu s2 ⟨y,H2,I2,r2,q2⟩=>
  thn (ho ee s2 σ H2 x y v u _ I2 r1 r2 q2) λd s3 ⟨z,H3,I3,r3,k,e,q3⟩=> ?_)) hm
 subst e;cases r3;refine Gbo ?_;cases k with
 |false=>
  obtain⟨k',e',q'⟩:=q3;cases e';exact ite_ff ⟨H3,I3,q'⟩
 |true=>
  refine ite_tt (test_last (thn (hc ee s3 σ H3 _ I3 q3) λw' s4 ⟨z',H4,I4,r4,q4⟩=>thn (yB ee s4 σ H4 y z' u w' _ I4 r2 r4 q4) λd' s5 ⟨z2,H5,I5,r5,k2,e2,q5⟩=> ?_));subst e2;cases r5;exact Gbo ⟨H5,I5,q5⟩
theorem uA:(sizeLine:Nat)<2^63:=by rw[Gbc];decide
theorem Co:OpR X (binaryOp .Add) (λx y H Q=>∃i j,x= .str i/\y= .str j/\i.length+j.length<=sizeLine/\Q (.str (i++j)) H):=by
 intro ee s σ H x y v u Q I rx ry h;obtain⟨i,j,rfl,rfl,hz,q⟩:=h;obtain⟨t,rfl⟩:=rx;obtain⟨t',rfl⟩:=ry;exact add_str (λt' tk=> ⟨.str (i++j),H,I.tok _,⟨_,rfl⟩,q⟩) hz
variable{us:List Value}{x:V}
theorem vals1(r:Vals [x] us):∃u,us=[u]/\RelV x u:=by
 cases r with
 |cons r1 r2=>cases r2;exact⟨_,rfl,r1⟩
theorem vals2{y:V}(r:Vals [x,y] us):∃u w',us=[u,w']/\RelV x u/\RelV y w' :=by
 cases r with
 |cons r1 r2=>
  cases r2 with
  |cons r3 r4=>cases r4;exact⟨_,_,rfl,r1,r3⟩
theorem Fs(hc:X.calm=true):j0 X (.builtin "min") (λxs H Q=>∃i j,xs=[.int i,.int j]/\Q (.int (if j<i then j else i)) H):=by
 intro ee s σ H xs us Q I r h;obtain⟨i,j,rfl,q⟩:=h;obtain⟨u,w',rfl,⟨t,rfl⟩,⟨t',rfl⟩⟩:=vals2 r;refine min_two_ints (I.ok.hd hc) λh' tk k=> ⟨_,H,I.kept k, ?_,q⟩;by_cases hj:j<i
 .rw[Gaf hj,Gaf hj];exact⟨_,rfl⟩
 .rw[Gag hj,Gag hj];exact⟨_,rfl⟩
def Px(K:PySem.W.Frag)(x:V)(H:Hp)(n:Nat):Prop:=
 match x with
 | .str y=>y.length<=sizeLine/\n=y.length
 | .byt y=>y.size<=sizeLine/\n=y.size
 | .ref p=>(∃xs,SqL K H p xs/\n=xs.length)\/∃xs,SqT K H p xs/\n=xs.length
 |_=>False
theorem j3:j0 X (.builtin "len") (λxs H Q=>∃x n,xs=[x]/\Px X.K x H n/\Q (.int n) H):=by
 intro ee s σ H xs us Q I r h;obtain⟨x,n,rfl,e,q⟩:=h;obtain⟨u,rfl,rx⟩:=vals1 r;have hl:=uA;have hs:sizeLine=16777216:=Gbc;cases x with
 |str y=>
  obtain⟨t,rfl⟩:=rx;obtain⟨hy,e'⟩:y.length<=sizeLine/\n=y.length:=e;subst e';exact len_str (by lia) ⟨.int _,H,I.tok _,⟨_,rfl⟩,q⟩
 |byt y=>
  obtain⟨t,rfl⟩:=rx;obtain⟨hy,e'⟩:y.size<=sizeLine/\n=y.size:=e;subst e';exact PySem.W.len_bytes (by lia) ⟨.int _,H,I.tok _,⟨_,rfl⟩,q⟩
 |ref p=>
  cases rx;have e' :(∃xs,SqL X.K H p xs/\n=xs.length)\/∃xs,SqT X.K H p xs/\n=xs.length:=e;rcases e' with⟨xs,hx,e'⟩| ⟨xs,hx,e'⟩
  .subst e';obtain⟨eA,r',pl,hz⟩:=I.list hx;have h8:=r'.length;exact Calls.call_len_list pl.isList (by simp only[Gaj];lia) ⟨.int xs.length,H,I.tok _,⟨_,by simp only[Gaj];rw[h8]⟩,q⟩
  .subst e';obtain⟨eA,r',pl,hz⟩:=I.tuple hx;have h8:=r'.length;exact len_tuple pl (by simp only[Gaj];lia) ⟨.int xs.length,H,I.tok _,⟨_,by simp only[Gaj];rw[h8]⟩,q⟩
 |_=>exact(show False from e).elim
end
structure Cp(h:Heap)(x dx C:Addr)(mA:Str->Option Value):Prop where
 obj:h.get? x=some (PySem.W.instObj C dx)
 ns:h.Ns1 dx mA
 ne:dx≠x
variable{mA:Str->Option Value}{dx:Addr}{h:Heap}
theorem Ft(n:h.Ns1 dx mA):∃od,h.get? dx=some od/\∀name,PySem.W.lookIn name od=some (mA name):=by
 obtain⟨o,es,ep,ho,hd,hk,_,hm⟩:=n;refine⟨o,ho,λname=> ?_⟩;have e:=hm name;unfold nsFind findBy at e;rw[<-Array.find?_toList] at e;unfold PySem.W.lookIn;rw[hd];dsimp only;split
 .rename_i y q;rw[q] at e;exact congrArg some e
 .rename_i q;rw[q] at e;have a:es.toList.any (·.refKey)=false:=by
   rw[GbK];intro y hy;obtain⟨z,t,hW⟩:=hk y (Array.mem_toList_iff.mp hy);simp[DictEntry.refKey,hW]
  have a' :¬es.toList.any (·.refKey)=true:=by rw[a];exact Gai
  rw[Gag a'];exact congrArg some e
variable{C:Addr}
theorem Cp.look{x:Addr}(I:Cp h x dx C mA):∃od,PySem.W.InstAt h x (PySem.W.instObj C dx) C (some od)/\∀name,PySem.W.lookIn name od=some (mA name):=
 let⟨od,ho,hl⟩:=Ft I.ns
 ⟨od,⟨I.obj,rfl,rfl,ho⟩,hl⟩
section
variable{prog:Program}{w:World}{A:Around}{E:Value->Shared->Prop}{s:Shared}{K:PySem.W.Frag}{x dx C f:Addr}{mA:Str->Option Value}{name:Str}{v:Value}
theorem get_map{expr:Bool}{Q:Value->Shared->Prop}(X:K.In s.heap)(I:Cp s.heap x dx C mA)(hg:PySem.W.plainGet K C name=true)(hh:PySem.W.hasDictIn K C=true)
  (ha:PySem.W.findIn K (.ref C) name=some none)(hv:mA name=some v)(zF :PySem.W.handedIn v=true)(h:Q v {s with toks:=s.toks+1}):
  wpAny (model prog w) A (getAttr (.ref x) name expr) Q E s:=by
 obtain⟨od,J,hl⟩:=I.look;exact PySem.W.get_value X J (GcY hg).1 (PySem.W.findObj_own hh ha rfl (by rw[hl,hv])) zF h
theorem GQ{pl:Sem Bool}{Q:Value×List Value->Shared->Prop}(X:K.In s.heap)(I:Cp s.heap x dx C mA)(hg:PySem.W.plainGet K C name=true)
  (hf:PySem.W.findIn K (.ref C) name=some (some (.ref f)))(ht:PySem.W.isFn K (.ref f)=true)(hv:mA name=none)(h:Q (.ref f,[.ref x]) s):
  wpAny (model prog w) A (getMethod (.ref x) name pl) Q E s:=by
 obtain⟨od,J,hl⟩:=I.look;exact PySem.W.method_fn X J (GcY hg).1 (GcY hg).2 hf (Gbj.mp ht) (by show(PySem.W.lookIn name od).map (·.isSome)=some false;rw[hl,hv];rfl) h
theorem JX{ns:List Str}{Q:Unit->Shared->Prop}(X:K.In s.heap)(I:Cp s.heap x dx C mA)
  (hs:PySem.W.findIn K (.ref C) "__setattr__"=some (some (.builtin "object.__setattr__")))(hp:PySem.W.plainOver K C=true)(ht:PySem.W.takerIn K C name=some none)(hh:PySem.W.hasDictIn K C=true)
  (hw:PySem.Within mA ns)(hsz:ns.length<=sizeLine)
  (h:∀h',Cp h' x dx C (λy=>if y=name then some v else mA y)->Heap.SameBut dx s.heap h' ->Q () {s with heap:=h',toks:=s.toks+2}):
  wpAny (model prog w) A (setAttr (.ref x) name v) Q E s:=by
 obtain⟨od,J,hl⟩:=I.look;refine PySem.W.set_plain X J hs (PySem.W.osa_open (s:={s with toks:=s.toks+1}) (r:=none) X J hp ht λb=> ?_);obtain⟨cd,hc,xY⟩:=PySem.W.any_some hh;have hx:s.heap.get? x=some ⟨.ref C,some dx,.plain,#[]⟩:=I.obj;refine Gab (Gah (Gab (Gab (wpAny_loadPart hx (Gab (PySem.W.Looks.here (s:={s with toks:=s.toks+1}) (PySem.W.looks_clsIn X hc) ?_))))));rw[xY];refine Gah (a:=some dx) (Gab (Gah (Gab ?_)));refine wpAny_nsSet1 (s:={s with toks:=s.toks+1}) I.ns λh' SN xE=> ?_;obtain⟨oD,Wx,Wy,VJ,VW,VX⟩:=SN.count (PySem.Within.cons name v hw);refine Gab (wpAny_lookBehind VJ (by rw[VW];exact pastItsLine_dict (GaQ VX (by rw[Gaz];lia))) ?_);exact Gah (h _ ⟨(xE.2 _ (Gay I.ne)).trans I.obj,SN,I.ne⟩ xE)
theorem GR{R:Result->Shared->Prop}{vs:List Value}{kw:List (Str×Value)}(X:K.In s.heap)(hm:PySem.W.makesIn K C=true)
  (hi:PySem.W.findIn K (.ref C) "__init__"=some (some (.ref f)))(hf:PySem.W.typeIn K (.ref f)=some (.type "function"))
  (h:codeAny (model prog w) (A.under (.builtin "type.__call__" ⟨.ref C::vs,kw⟩)) (.call (.ref f) ⟨.ref (s.heap.objs.size+1)::vs,kw⟩) (PySem.W.InitBack (s.heap.objs.size+1) R)
   {s with heap:=(s.heap.push PySem.W.emptyDict).push (PySem.W.instObj C s.heap.objs.size)}):
  codeAny (model prog w) A (.call (.ref C) ⟨vs,kw⟩) R s:=by
 obtain⟨hh,g,d,t,os⟩:=s;exact PySem.W.make_core (PySem.W.makes_of X hm) (PySem.W.looks_findIn X hi) (λself=>PySem.W.bind_fn X self hf) (.inl rfl) h
end
noncomputable def mU(f:Str)(v:V):List (Str×V)->List (Str×V)
 |[]=>[(f,v)]
 |(g,x)::r=>if g=f then(g,v)::r else(g,x)::mU f v r
theorem sR(f g:Str)(v:V):∀fs:List (Str×V),(mU f v fs).lookup g=if g=f then some v else fs.lookup g
 |[]=>by
  show List.lookup g [(f,v)]=_;by_cases h:g=f
  .have hb:(g==f)=true:=Gbj.mpr h;simp only[List.lookup,hb,Gaf h]
  .have hb:(g==f)=false:=GbP.mpr h;simp only[List.lookup,hb,Gag h]
 |(k,x)::r=>by
  have ih:=sR f g v r;rw[show mU f v ((k,x)::r)=(if k=f then(k,v)::r else(k,x)::mU f v r) from rfl];by_cases hk:k=f
  .rw[Gaf hk];by_cases h:g=k
   .have hb:(g==k)=true:=Gbj.mpr h;simp only[List.lookup,hb,Gaf (h.trans hk)]
   .have hb:(g==k)=false:=GbP.mpr h;simp only[List.lookup,hb,Gag (λe:g=f=>h (e.trans hk.symm))]
  .rw[Gag hk];by_cases h:g=k
   .have hb:(g==k)=true:=Gbj.mpr h;simp only[List.lookup,hb,Gag (λe:g=f=>hk (h.symm.trans e))]
   .have hb:(g==k)=false:=GbP.mpr h;simp only[List.lookup,hb];exact ih
theorem rT(f:Str)(v:V):∀fs:List (Str×V),f∈(mU f v fs).map (·.1)/\∀g,g∈fs.map (·.1)->g∈(mU f v fs).map (·.1)
 |[]=> ⟨by simp[mU],λg h=>by simp at h⟩
 |(k,x)::r=>by
  obtain⟨i1,i2⟩:=rT f v r;rw[show mU f v ((k,x)::r)=(if k=f then(k,v)::r else(k,x)::mU f v r) from rfl];by_cases hk:k=f
  .rw[Gaf hk];subst hk;exact⟨by simp,λg h=>by simpa using h⟩
  .rw[Gag hk];refine⟨?_,λg h=> ?_⟩
   .rw[Gap];exact Gar _ i1
   .rw[Gap] at h⊢;rcases Gaw.mp h with e|e
    .exact Gaw.mpr (.inl e)
    .exact Gar _ (i2 g e)
theorem sS(f:Str)(v:V):∀fs:List (Str×V),(mU f v fs).length<=fs.length+1
 |[]=>by simp[mU]
 |(k,x)::r=>by
  have ih:=sS f v r;rw[show mU f v ((k,x)::r)=(if k=f then(k,v)::r else(k,x)::mU f v r) from rfl];by_cases hk:k=f
  .rw[Gaf hk,Gaz,Gaz];lia
  .rw[Gag hk,Gaz,Gaz];lia
variable{o:Option Value}{v:V}
theorem mR.some_of(r:mR (some v) o):∃u,o=some u/\RelV v u:=by
 cases o with
 |none=>exact(show False from r).elim
 |some u=>exact⟨u,rfl,r⟩
theorem mR.none_of(r:mR none o):o=none:=by
 cases o with
 |none=>rfl
 |some u=>exact(show False from r).elim
theorem Fu{u:Value}(r:RelV v u):PySem.W.handedIn u=true:=by
 cases v with
 |non=>cases(show u=Value.none from r);rfl
 |bl b=>cases(show u=Value.bool b from r);rfl
 |int i=>obtain⟨t,e⟩:=(show∃t,u=Value.int i t from r);cases e;rfl
 |str x=>obtain⟨t,e⟩:=(show∃t,u=Value.str x t from r);cases e;rfl
 |byt b=>obtain⟨t,e⟩:=(show∃t,u=Value.bytes b t from r);cases e;rfl
 |flt b=>obtain⟨t,e⟩:=(show∃t,u=Value.float b t from r);cases e;rfl
 |ref a=>cases(show u=Value.ref a from r);rfl
 |ty n=>cases(show u=Value.type n from r);rfl
section
variable{P:Program}{w:World}{H H' :Hp}{h h' :Heap}{a C dx:Addr}{fs TU :List (Str×V)}
theorem u9(hok:HOk P w H h)(e:H a=some (.ins C dx fs)):∃mA,Cp h a dx C mA/\(∀f,mR (fs.lookup f) (mA f))/\PySem.Within mA (fs.map (·.1))/\fs.length<=1000/\H dx=some (.own a):=by
 obtain⟨d,z,ne,ob,mA,n,r,q⟩:=(show bx P w H h a (.ins C dx fs) from hok a _ e)
 exact⟨mA,⟨ob,n,ne⟩,r,q,z,d⟩
end
structure Cls(K:PySem.W.Frag)(C:Addr):Prop where
 pg:PySem.W.plainGet K C Str.empty=true
 hd:PySem.W.hasDictIn K C=true
 po:PySem.W.plainOver K C=true
 sa:PySem.W.findIn K (.ref C) "__setattr__"=some (some (.builtin "object.__setattr__"))
theorem Cls.get{K:PySem.W.Frag}(c:Cls K C)(f:Str):PySem.W.plainGet K C f=true:=c.pg
def kR(K:PySem.W.Frag)(C:Addr)(f:Str):Prop:=PySem.W.findIn K (.ref C) f=some none
theorem kR.Py{K:PySem.W.Frag}{f:Str}(n:kR K C f):PySem.W.takerIn K C f=some none:=by
 unfold PySem.W.takerIn;rw[show PySem.W.findIn K (.ref C) f=some none from n]
 rfl
structure Meth(K:PySem.W.Frag)(C:Addr)(m:Str)(f:Addr):Prop where
 at_:PySem.W.findIn K (.ref C) m=some (some (.ref f))
 fn:PySem.W.isFn K (.ref f)=true
 kp:PySem.W.keepIn K (.ref f)=true
section
variable{X:Cx}{ee:List (Addr×Obj)}{σ:St}{H:Hp}{s:Shared}{a C dx:Addr}{fs:List (Str×V)}{f:Str}{v:V}{A:Around}{E:Value->Shared->Prop}
theorem Cq{b:Bool}{Q:Value->Shared->Prop}(I:Inv X ee σ H s)(e:H a=some (.ins C dx fs))(c:Cls X.K C)(n:kR X.K C f)(l:fs.lookup f=some v)
  (h:∀u s',Inv X ee σ H s' ->RelV v u->Q u s'):wpAny (model X.prog X.w) A (getAttr (.ref a) f b) Q E s:=by
 obtain⟨mA,O,r,_,_,_⟩:=u9 I.hok e;obtain⟨u,hu,ru⟩:=mR.some_of (v:=v) (o:=mA f) (by rw[<-l];exact r f);exact get_map I.kIn O (c.get f) c.hd n hu (Fu ru) (h u _ (I.tok _) ru)
theorem pL{m:Str}{g:Addr}{pl:Sem Bool}{Q:Value×List Value->Shared->Prop}(I:Inv X ee σ H s)(e:H a=some (.ins C dx fs))(c:Cls X.K C)(k:Meth X.K C m g)(l:fs.lookup m=none)
  (h:Q (.ref g,[.ref a]) s):wpAny (model X.prog X.w) A (getMethod (.ref a) m pl) Q E s:=by
 obtain⟨mA,O,r,_,_,_⟩:=u9 I.hok e;have hn:mA m=none:=mR.none_of (by rw[<-l];exact r m);exact GQ I.kIn O (c.get m) k.at_ k.fn hn h
theorem Cr{y:V}{u:Value}{Q:Unit->Shared->Prop}(I:Inv X ee σ H s)(e:H a=some (.ins C dx fs))(c:Cls X.K C)(n:kR X.K C f)(hl:fs.length<1000)(ry:RelV y u)
  (h:∀s',Inv X ee σ (upd H a (.ins C dx (mU f y fs))) s' ->Q () s'):wpAny (model X.prog X.w) A (setAttr (.ref a) f u) Q E s:=by
 obtain⟨mA,O,r,wi,_,ho⟩:=u9 I.hok e;have hz:(fs.map (·.1)).length<=sizeLine:=by rw[Gaq,Gbc];lia
 refine JX I.kIn O c.sa c.po n.Py c.hd wi hz λh' O' sb=>h _ ?_;have hd:∃o,h'.get? dx=some o:=let⟨o,_,_,e',_⟩:=O'.ns;⟨o,e'⟩
 refine I.write (x:=a) (e:=dx) (by rw[e];exact True.intro) (.inr ho) (λb q hb z=>(sb.2 b hb).trans z) hd ?_;refine⟨by rw[ak O.ne];exact ho, ?_,O.ne,O'.obj,_,O'.ns,λg=> ?_,λg hg=> ?_⟩
 .have:=sS f y fs;lia
 .show mR ((mU f y fs).lookup g) (if g=f then some u else mA g);rw[sR];by_cases q:g=f
  .rw[Gaf q,Gaf q];exact ry
  .rw[Gag q,Gag q];exact r g
 .by_cases q:g=f
  .rw[q];exact(rT f y fs).1
  .refine(rT f y fs).2 g (wi g λz=>hg ?_);show(if g=f then some u else mA g)=none;rw[Gag q];exact z
theorem Inv.made(I:Inv X ee σ H s):Inv X ee σ (upd (upd H s.heap.objs.size (.own (s.heap.objs.size+1))) (s.heap.objs.size+1) (.ins C s.heap.objs.size []))
  {s with heap:=(s.heap.push PySem.W.emptyDict).push (PySem.W.instObj C s.heap.objs.size)}:=by
 have e1:(s.heap.push PySem.W.emptyDict).get? s.heap.objs.size=some PySem.W.emptyDict:=Gat s.heap rfl;have e2:((s.heap.push PySem.W.emptyDict).push (PySem.W.instObj C s.heap.objs.size)).get? (s.heap.objs.size+1)=some (PySem.W.instObj C s.heap.objs.size):=by
  have:=Gat (s.heap.push PySem.W.emptyDict) (o:=PySem.W.instObj C s.heap.objs.size) rfl
  rwa[GbM] at this
 have e3:(s.heap.push PySem.W.emptyDict).Ns s.heap.objs.size (λ_=>none):=⟨PySem.W.emptyDict,#[],_,e1,rfl,(λe he=>absurd he (by simp)),λ_=>rfl⟩
 have I1:=I.laid (a:=s.heap.objs.size) (o:= .own (s.heap.objs.size+1)) (h' :=s.heap.push PySem.W.emptyDict) (t' :=s.toks) (λb u q=>Gad _ q) (Gao _) ⟨_,e1⟩;refine I1.laid (a:=s.heap.objs.size+1) (o:= .ins C s.heap.objs.size []) (t' :=s.toks) (λb u q=>Gad _ q) (Nat.le_of_eq (GbM _ _)) ?_;have ne:s.heap.objs.size≠s.heap.objs.size+1:=Gau (GbO _);refine⟨by rw[ak ne,aC],GaX _,ne,e2,λ_=>none,(Heap.Ns1.of_empty e3).at λo q=>Gad _ q,λ_=>True.intro,λy hy=>absurd rfl hy⟩
theorem DF{prog:Program}{w:World}{env:Env}{e:Expr}{f:Str}{pos:Pos}{s:Shared}{Q:Value->Shared->Prop}(hb:attributeBase e f env (eval e env)=eval e env)
  (h:wpAny (model prog w) A (eval e env) (λo s₁=>wpAny (model prog w) A (getAttr o f true) Q E s₁) E s):wpAny (model prog w) A (eval (.Attribute e f pos) env) Q E s:=
 Attribute_any_ h (by rw[arm_eval_Attribute,hb])
end
def RY(K:PySem.W.Frag)(ta:TE)(f:Str):TE:=λσ H Q=>ta σ H λx H1=>∃a C dx fs v,x= .ref a/\H1 a=some (.ins C dx fs)/\Cls K C/\kR K C f/\fs.lookup f=some v/\Q v H1
def RZ(K:PySem.W.Frag)(ta tv:TE)(f:Str):TS:=λD σ H=>tv σ H λy H1=>ta σ H1 λx H2=>∃a C dx fs,x= .ref a/\H2 a=some (.ins C dx fs)/\Cls K C/\kR K C f/\fs.length<1000/\
 D.nx σ (upd H2 a (.ins C dx (mU f y fs)))
section
variable{X:Cx}{o e value:Expr}{f:Str}{pos pos' Vi:Pos}{ta tv:TE}
theorem N8(he:PE X e ta)(hb:attributeBase e f X.env (eval e X.env)=eval e X.env):PE X (.Attribute e f pos) (RY X.K ta f):=by
 intro ee s σ H Q I h;refine DF hb (thn (he ee s σ H _ I h) λu s1 ⟨x,H1,I1,rx,a,C,dx,fs,v,ex,ea,c,n,l,q⟩=> ?_);subst ex;obtain rfl:u=Value.ref a:=rx;exact Cq I1 ea c n l λu' s2 I2 ru=> ⟨v,H1,I2,ru,q⟩
theorem N9(ha:PE X o ta)(hv:PE X value tv)(hs:swapsWith value (some (.Attribute o f pos')) pos.line X.env=pure false):PS X (.Assign [.Attribute o f pos'] value pos) (RZ X.K ta tv f):=by
 intro ee s σ H D I h;refine plainObj_wpAny_Assign_Attribute (thn (hv ee s σ H _ I h) λu s1 ⟨y,H1,I1,ry,q⟩=>thn (ha ee s1 σ H1 _ I1 q) λov s2 ⟨x,H2,I2,rx,a,C,dx,fs,ex,ea,c,n,l,q2⟩=> ?_) hs;subst ex;obtain rfl:ov=Value.ref a:=rx;exact Cr I2 ea c n l ry λs3 I3=> ⟨σ,_,I3,q2⟩
end
section
variable{X:Cx}{ee:List (Addr×Obj)}{σ:St}{H:Hp}{s:Shared}{A:Around}{E:Value->Shared->Prop}{Q:Value->Shared->Prop}{c:Value}{b:Bool}
inductive pM(K:PySem.W.Frag)(H:Hp):V->Value->Prop where
 |non:pM K H .non (.type "NoneType")
 |bl (x:Bool):pM K H (.bl x) (.type "bool")
 |int (i:Int):pM K H (.int i) (.type "int")
 |str (x:Str):pM K H (.str x) (.type "str")
 |flt (x:UInt64):pM K H (.flt x) (.type "float")
 |lst {a:Addr} {xs:List V} (e:H a=some (.lst xs)):pM K H (.ref a) (.type "list")
 |frz {a:Addr} {o:Obj} {xs:List V} (e:H a=some (.frz o (.lst xs))):pM K H (.ref a) (.type "list")
 |tup {a:Addr} {xs:List V} (e:H a=some (.tup xs)):pM K H (.ref a) (.type "tuple")
 |dK {a:Addr} {et:List (Key×V)} (e:H a=some (.dK et)):pM K H (.ref a) (.type "dict")
 |dT {a:Addr} {et:List (List Key×V)} (e:H a=some (.dT et)):pM K H (.ref a) (.type "dict")
 |ins {a C dx:Addr} {fs:List (Str×V)} (e:H a=some (.ins C dx fs)) (cl:Cls K C) (ha:PySem.W.findIn K (.ref C) "__class__"=some (some (.builtin "object.__class__")))
   (hn:PySem.W.specialIn K (.builtin "object.__class__") "__get__"=some (some (.builtin "getset_descriptor.__get__"))) (V0:PySem.W.takesIn K (.builtin "object.__class__")=some true)
   (hm:PySem.W.mroIn K C (.type "object")=some true):pM K H (.ref a) (.ref C)
theorem Fv{x:V}{u t:Value}(I:Inv X ee σ H s)(rx:RelV x u)(ty:pM X.K H x t)(e:PySem.W.kitOne X.K t c=some b)(h:∀tk,Q (.bool b) {s with toks:=tk}):
  wpAny (model X.prog X.w) A (call (.builtin "isinstance") [u,c]) Q E s:=by
 cases ty with
 |non=>cases(show u=Value.none from rx);exact Gbe PySem.W.kitx_none I.kIn True.intro e (λz=>nomatch z) h
 |bl y=>cases(show u=Value.bool y from rx);exact Gbe PySem.W.kitx_bool I.kIn True.intro e (λz=>nomatch z) h
 |int i=>obtain⟨t,q⟩:=(show∃t,u=Value.int i t from rx);cases q;exact Gbe PySem.W.kitx_int I.kIn True.intro e (λz=>nomatch z) h
 |str y=>obtain⟨t,q⟩:=(show∃t,u=Value.str y t from rx);cases q;exact Gbe PySem.W.kitx_str I.kIn True.intro e (λz=>nomatch z) h
 |flt y=>obtain⟨t,q⟩:=(show∃t,u=Value.float y t from rx);cases q;exact Gbe PySem.W.kitx_float I.kIn True.intro e (λz=>nomatch z) h
 | @lst a xs ea=>
  cases(show u=Value.ref a from rx);obtain⟨_,_,n,_,h1⟩:=(show bx X.prog X.w H s.heap a (.lst xs) from I.hok a _ ea)
  exact Gbe PySem.W.kitx_list I.kIn ⟨_,h1,rfl⟩ e (λz=>nomatch z) h
 | @frz a ob xs ea=>
  cases(show u=Value.ref a from rx);obtain⟨_,_,_,n,_,h1⟩:=(show bx X.prog X.w H s.heap a (.frz ob (.lst xs)) from I.hok a _ ea)
  exact Gbe PySem.W.kitx_list I.kIn ⟨_,h1,rfl⟩ e (λz=>nomatch z) h
 | @tup a xs ea=>
  cases(show u=Value.ref a from rx);obtain⟨_,_,_,p⟩:=(show bx X.prog X.w H s.heap a (.tup xs) from I.hok a _ ea)
  obtain⟨o,h1,h2,_⟩:=p;exact Gbe PySem.W.kitx_tuple I.kIn ⟨o,h1,h2⟩ e (λz=>nomatch z) h
 | @dK a et ea=>
  cases(show u=Value.ref a from rx);obtain⟨_,_,vs,_,p⟩:=(show bx X.prog X.w H s.heap a (.dK et) from I.hok a _ ea)
  obtain⟨o,es,ep,h1,h2,_⟩:=p;exact Gbe PySem.W.kitx_dict I.kIn ⟨o,h1,h2.1⟩ e (λz=>nomatch z) h
 | @dT a et ea=>
  cases(show u=Value.ref a from rx);obtain⟨_,_,xs,_,o,es,ep,h1,h2,_⟩:=(show bx X.prog X.w H s.heap a (.dT et) from I.hok a _ ea)
  exact Gbe PySem.W.kitx_dict I.kIn ⟨o,h1,h2.1⟩ e (λz=>nomatch z) h
 | @ins a C dx fs ea cl ha hn V0 hm=>
  cases(show u=Value.ref a from rx);obtain⟨mA,O,_⟩:=u9 I.hok ea;obtain⟨od,J,_⟩:=O.look;exact Gbe (PySem.W.kitx_own (cl.get _) cl.hd ha hn V0 hm) I.kIn J e (λz=>nomatch z) h
end
structure cP(k:Nat)(A:Around):Prop where
 hd:A.handled=none
 dp:A.depth+3*k+5<recursionLimit
 un:A.units+16*k+200<cLine
variable{A:Around}
theorem cP.mono{j k:Nat}(r:cP k A)(h:j<=k):cP j A:=⟨r.hd,by have:=r.dp;lia,by have:=r.un;lia⟩
theorem cP.deeper{k:Nat}{A:Around}(r:cP (k+1) A)(env:Env):cP k (A.deeper env):=
 ⟨r.hd,by have:=r.dp;show A.depth+1+3*k+5<_;lia,by have:=r.un;show A.units+3+16*k+200<_;lia⟩
variable{kw:List (Str×Value)}{us:List Value}{C:Addr}
theorem Cs:(A.under (.builtin "type.__call__" ⟨.ref C::us,kw⟩)).depth=A.depth+1:=by
 first|rfl|simp[Around.under,Code.weight,Code.isCreation,Code.isGuard,Code.isCaller,Code.frames,Code.isFrame,guardIds]
theorem Ct:(A.under (.builtin "type.__call__" ⟨.ref C::us,kw⟩)).units=A.units+1:=by
 first|rfl|simp[Around.under,Code.cUnits,Code.frames,Code.isFrame]
theorem cP.make{k:Nat}(r:cP (k+1) A)(C:Addr)(us:List Value)(kw:List (Str×Value)):cP k (A.under (.builtin "type.__call__" ⟨.ref C::us,kw⟩)):=
 ⟨r.hd,by have:=r.dp;rw[Cs];lia,by have:=r.un;rw[Ct];lia⟩
theorem cP.depth{k:Nat}{A:Around}(r:cP k A):A.depth<recursionLimit:=by have:=r.dp;lia
theorem cP.units{k:Nat}{A:Around}(r:cP k A):A.units+64<cLine:=by have:=r.un;lia
def GS:TA:=λ_ H Q=>Q [] H
def Bl(ta:TE)(tr:TA):TA:=λσ H Q=>ta σ H λx H1=>tr σ H1 λxs H2=>Q (x::xs) H2
section
variable{X:Cx}{e:Expr}{es:List Expr}{te:TE}{t:TA}{pos:Pos}
theorem lU:PA X [] GS:=λ_ _ _ _ H Q I h=>Gce ⟨[],H,I,.nil,h⟩
theorem dB(ha:PE X e te)(hr:PA X es t)(hs:autoParam (starEach (e::es) X.env=(false,eval e X.env)::starEach es X.env) Za1._auto_1):PA X (e::es) (Bl te t):=by
 intro pos ee s σ H Q I h;rw[hs];show wpAny _ _ (spliced ((false,eval e X.env)::backTo pos (starEach es X.env))) _ _ s;refine Gbt (thn (ha ee s σ H _ I h) λu s1 ⟨x,H1,I1,r1,q1⟩=> ?_);exact thn (hr pos ee s1 σ H1 _ I1 q1) λus s2 ⟨xs,H2,I2,r2,q2⟩=> ⟨x::xs,H2,I2,.cons r1 r2,q2⟩
def S0(t:TA):TE:=λσ H Q=>t σ H λxs H1=>xs.length<=sizeLine/\∀p,H1 p=none->Q (.ref p) (upd H1 p (.tup xs))
def S1(t:TA):TE:=λσ H Q=>t σ H λxs H1=>xs.length<=sizeLine/\∀p,H1 p=none->Q (.ref p) (upd H1 p (.lst xs))
theorem GU{x1}(h:PA X es t):PE X (.Tuple es x1 pos) (S0 t):=by
 intro ee s σ H Q I hq;refine wpAny_Tuple_spliced (thn (h pos ee s σ H _ I hq) λus s1 ⟨xs,H1,I1,r,z,q⟩=> ⟨by rw[<-r.length];exact z, ?_⟩);have hf:H1 s1.heap.objs.size=none:=I1.hok.fresh (Gao _);refine⟨.ref s1.heap.objs.size,upd H1 s1.heap.objs.size (.tup xs),I1.laid (t' :=s1.toks) (λb u e=>Gad _ e) (Gao _) ?_,rfl,q _ hf⟩;exact⟨z,us,r,⟨_,Gat _ rfl,rfl,_,rfl⟩⟩
theorem Cu(h:PA X es t):PE X (.List es pos) (S1 t):=by
 intro ee s σ H Q I hq;refine wpAny_List_spliced (thn (h pos ee s σ H _ I hq) λus s1 ⟨xs,H1,I1,r,z,q⟩=> ⟨by rw[<-r.length];exact z, ?_⟩);have hf:H1 s1.heap.objs.size=none:=I1.hok.fresh (Gao _);refine⟨.ref s1.heap.objs.size,upd H1 s1.heap.objs.size (.lst xs),I1.laid (t' :=s1.toks) (λb u e=>Gad _ e) (Gao _) ?_,rfl,q _ hf⟩;exact⟨z,us,0,r,Gat _ rfl⟩
end
abbrev Sp:=List V->Hp->VK->XK->Prop
abbrev CXT:=List Env->Hp->Shared->XK->Value->Shared->Prop
structure Cv(P:Program)(w:World)(K:PySem.W.Frag)(mg:Str->Option Value)(base:Heap)(A:Around)(outer:List Env)(s:Shared)(H:Hp):Prop where
 frames:A.frames=some outer
 mod:Mod K mg base
 bs:∀b o,base.get? b=some o->s.heap.get? b=some o/\H b=none
 bsz:base.objs.size<=s.heap.objs.size
 ql:s.heap.FunFrames base outer
 frf:∀b∈frs outer,H b=none
 hok:HOk P w H s.heap
 bare:AllBare s.gens
def CE(outer:List Env)(P:Program)(w:World)(H:Hp)(s:Shared)(Q:VK)(u:Value)(s' :Shared):Prop:=
 ∃v H',s'.os=s.os/\AllBare s'.gens/\Un (frs outer) [] H H' s.heap s'.heap/\HOk P w H' s'.heap/\RelV v u/\Q v H'
def CR(CX:CXT)(outer:List Env)(P:Program)(w:World)(H:Hp)(s:Shared)(Q:VK)(E:XK)(r:Result)(s' :Shared):Prop:=
 match r with
 | .ok (.ret u)=>CE outer P w H s Q u s'
 | .ok _=>False
 | .error e=>CX outer H s E e s'
structure bu(P:Program)(w:World)(K:PySem.W.Frag)(mg:Str->Option Value)(base:Heap)(CX:CXT)(k:Nat)(f:Addr)(fd:FuncData)(ps:List Str)(sp:Sp):Prop where
 len:∀vs H Q E,sp vs H Q E->vs.length=ps.length
 run:∀(A:Around) (outer:List Env) (s:Shared) (H:Hp) (args:Args) (us:List Value) (vs:List V) (Q:VK) (E:XK),cP k A->Cv P w K mg base A outer s H->BindsTo s fd args (ps.zip us)->Vals vs us->sp vs H Q E->
  codeAny (model P w) A (.call (.ref f) args) (CR CX outer P w H s Q E) s
variable{H:Hp}{s:Shared}{outer:List Env}{base:Heap}{mg:Str->Option Value}{w:World}{P:Program}
theorem Cv.make{K:PySem.W.Frag}(e:Cv P w K mg base A outer s H)(C:Addr)(us:List Value)(kw:List (Str×Value)):
  Cv P w K mg base (A.under (.builtin "type.__call__" ⟨.ref C::us,kw⟩)) outer s H:=⟨by first|exact e.frames|(simpa[Around.under,Code.envs,Code.isFrame,pushEnvs] using e.frames),e.mod,e.bs,e.bsz,e.ql,e.frf,e.hok,e.bare⟩
section
variable{X:Cx}{ee:List (Addr×Obj)}{σ:St}{H:Hp}{s s' :Shared}
theorem Inv.JY(I:Inv X ee σ H s):Cv X.prog X.w X.K X.mg X.base X.A X.stack s H:=
 ⟨I.ok.frames,I.ok.mod,I.bs,GaQ I.ok.bsz I.sz,I.stack,I.qm,I.hok,I.bare⟩
theorem Inv.after{Q:VK}{u:Value}(I:Inv X ee σ H s)(h:CE X.stack X.prog X.w H s Q u s'):EP X ee σ Q u s' :=by
 obtain⟨v,H',os,bare,un,hok,r,q⟩:=h;obtain⟨hh,g,d,t,Vl⟩:=s';obtain rfl:Vl =s.os:=os;exact⟨v,H',I.call (h' :=hh) (g' :=g) (d' :=d) (t' :=t) (ch:=[]) un hok bare (λb z=>absurd z (by simp)),r,q⟩
end
def Pz(sp:Sp)(dvs:List V)(E:XK)(t:TA):TE:=λσ H Q=>t σ H λvs H1=>sp (vs++dvs) H1 Q E
def GV(C:Addr)(m:Str)(sp:Sp)(dvs:List V)(E:XK)(ta:TE)(t:TA):TE:=λσ H Q=>ta σ H λx H1=>∃a dx fs,x= .ref a/\H1 a=some (.ins C dx fs)/\fs.lookup m=none/\
 t σ H1 λvs H2=>sp (x::(vs++dvs)) H2 Q E
def PB(C:Addr)(sp:Sp)(dvs:List V)(E:XK)(t:TA):TE:=λσ H Q=>t σ H λvs H1=>∀x dx,H1 x=none->H1 dx=none->dx≠x->
 sp (.ref x::(vs++dvs)) (upd (upd H1 dx (.own x)) x (.ins C dx [])) (λv H2=>v= .non/\Q (.ref x) H2) E
def Binds(K:PySem.W.Frag)(fd:FuncData)(ps:List Str)(ds:List Value):Prop:=
 ∀(s:Shared) (us:List Value),K.In s.heap->(us++ds).length=ps.length->BindsTo s fd ⟨us,[]⟩ (ps.zip (us++ds))
variable{ps:List Str}
theorem Binds.all{K:PySem.W.Frag}{fd:FuncData}(h:∀us:List Value,us.length=ps.length->bindArgs fd ⟨us,[]⟩=pure (ps.zip us)):Binds K fd ps []:=λs us _ hl=>by
 rw[GaV] at hl⊢;exact .of_eq (h us hl)
def Passes(CX:CXT)(X:Cx)(E:XK):Prop:=∀(ee:List (Addr×Obj)) (σ:St) (H:Hp) (s:Shared) (e:Value) (s' :Shared),Inv X ee σ H s->CX X.stack H s E e s' ->X.xe e s'
section
variable{X:Cx}{CX:CXT}{k:Nat}{f C:Addr}{fd:FuncData}{ps:List Str}{sp:Sp}{dvs:List V}{ds:List Value}{E:XK}{x m:Str}{p pos apos:Pos}{e o:Expr}{es:List Expr}{ta:TE}{t:TA}
variable{vs:List V}{us:List Value}{Q:VK}{s:Shared}{H:Hp}{σ:St}{ee:List (Addr×Obj)}
theorem Cw(F:bu X.prog X.w X.K X.mg X.base CX k f fd ps sp)(hr:cP k X.A)(hb:Binds X.K fd ps ds)(hd:Vals dvs ds)(hx:Passes CX X E)
  (I:Inv X ee σ H s)(r:Vals vs us)(h:sp (vs++dvs) H Q E):wpAny (model X.prog X.w) X.A (call (.ref f) us) (EP X ee σ Q) X.xe s:=by
 have r2:Vals (vs++dvs) (us++ds):=r.append hd;have hl:(us++ds).length=ps.length:=by rw[<-r2.length];exact F.len _ _ _ _ h
 refine GbX (Gch (F.run X.A X.stack s H ⟨us,[]⟩ (us++ds) (vs++dvs) Q E hr I.JY (hb s us I.kIn hl) r2 h) λr s' hq=> ?_);cases r with
 |error e=>exact hx ee σ H s e s' I hq
 |ok fl=>
  cases fl with
  |ret u=>exact I.after hq
  |next=>exact False.elim hq
  |brk=>exact False.elim hq
  |cont=>exact False.elim hq
theorem As(F:bu X.prog X.w X.K X.mg X.base CX k f fd ps sp)(hr:cP k X.A)(hg:Gl X x)(hm:X.mg x=some (.ref f))(hk:PySem.W.keepIn X.K (.ref f)=true)(hb:Binds X.K fd ps ds)(hd:Vals dvs ds)(hx:Passes CX X E)
  (ha:PA X (e::es) t)(xu:autoParam ((x==("__debug__":Str))=false) Za2._auto_1)(he:autoParam (starEach (e::es) X.env=(false,eval e X.env)::starEach es X.env) Za1._auto_1)(xa:autoParam ((backTo pos (starEach es X.env)).any (·.1)=false) Za1._auto_1):
  PE X (.Call (.Name x p) (e::es) [] pos) (Pz sp dvs E t):=by
 intro ee s σ H Q I h;refine Gbl (kq I hg hm ?_ xu);refine Gbu (h₀:=X.base) I.ok.mod.kin hk (thn (ha pos ee s σ H _ I h) λus s1 ⟨vs,H1,I1,r,q⟩=> ⟨I1.kIn, ?_⟩) he xa;exact Cw F hr hb hd hx I1 r q
theorem JZ{pl:Sem Bool}(he:PE X o ta)(c:Cls X.K C)(hm:Meth X.K C m f)(F:bu X.prog X.w X.K X.mg X.base CX k f fd ps sp)(hr:cP k X.A)(hb:Binds X.K fd ps ds)(hd:Vals dvs ds)(hx:Passes CX X E)(ha:PA X (e::es) t)
  (xR:autoParam (starEach (e::es) X.env=(false,eval e X.env)::starEach es X.env) Za1._auto_1)(xa:autoParam ((backTo pos (starEach es X.env)).any (·.1)=false) Za1._auto_1)
  (ht:eval (.Call (.Attribute o m apos) (e::es) [] pos) X.env=(do
   let ov<-eval o X.env
   standAt apos.atName
   let(f,first)<-holding [ov] (getMethod ov m pl)
   callWith pos f first (backTo pos (starEach (e::es) X.env)) (backToKw pos (keywordEach [] X.env))):=by rfl):
  PE X (.Call (.Attribute o m apos) (e::es) [] pos) (GV C m sp dvs E ta t):=by
 intro ee s σ H Q I h;refine Gci (pl:=pl) (thn (he ee s σ H _ I h) λu s1 ⟨x,H1,I1,rx,a,dx,fs,ex,ea,l,q⟩=> ?_) ht;subst ex;obtain rfl:u=Value.ref a:=rx;refine pL I1 ea c hm l ?_;refine Gbu (first:=[.ref a]) (h₀:=X.base) I.ok.mod.kin hm.kp (thn (ha pos ee s1 σ H1 _ I1 q) λus s2 ⟨vs,H2,I2,r,q2⟩=> ⟨I2.kIn, ?_⟩) xR xa;exact Cw (us:= .ref a::us) (vs:= .ref a::vs) F hr hb hd hx I2 (.cons rfl r) q2
theorem Bm{pl:Sem Bool}(he:PE X o ta)(c:Cls X.K C)(hm:Meth X.K C m f)(F:bu X.prog X.w X.K X.mg X.base CX k f fd ps sp)(hr:cP k X.A)(hb:Binds X.K fd ps ds)(hd:Vals dvs ds)(hx:Passes CX X E)
  (ht:eval (.Call (.Attribute o m apos) [] [] pos) X.env=(do
   let ov<-eval o X.env
   standAt apos.atName
   let(f,first)<-holding [ov] (getMethod ov m pl)
   callWith pos f first (backTo pos (starEach [] X.env)) (backToKw pos (keywordEach [] X.env))):=by rfl):
  PE X (.Call (.Attribute o m apos) [] [] pos) (GV C m sp dvs E ta GS):=by
 intro ee s σ H Q I h;refine Gci (pl:=pl) (thn (he ee s σ H _ I h) λu s1 ⟨x,H1,I1,rx,a,dx,fs,ex,ea,l,q⟩=> ?_) ht;subst ex;obtain rfl:u=Value.ref a:=rx;refine pL I1 ea c hm l ?_;exact PySem.W.callWith_K0 (first:=[.ref a]) I1.kIn hm.kp (Cw (us:=[.ref a]) (vs:=[.ref a]) F hr hb hd hx I1 (.cons rfl .nil) q)
structure Mk(K:PySem.W.Frag)(C f:Addr):Prop where
 makes:PySem.W.makesIn K C=true
 init:PySem.W.findIn K (.ref C) "__init__"=some (some (.ref f))
 fn:PySem.W.isFn K (.ref f)=true
 kp:PySem.W.keepIn K (.ref C)=true
theorem GW(M:Mk X.K C f)(F:bu X.prog X.w X.K X.mg X.base CX k f fd ps sp)(hr:cP (k+1) X.A)(hb:Binds X.K fd ps ds)(hd:Vals dvs ds)
  (hx:Passes CX X E)(I:Inv X ee σ H s)(r:Vals vs us)
  (h:∀x dx,H x=none->H dx=none->dx≠x->sp (.ref x::(vs++dvs)) (upd (upd H dx (.own x)) x (.ins C dx [])) (λv H2=>v= .non/\Q (.ref x) H2) E):
  wpAny (model X.prog X.w) X.A (call (.ref C) us) (EP X ee σ Q) X.xe s:=by
 have hq:=h (s.heap.objs.size+1) s.heap.objs.size (I.hok.fresh (Gcr _)) (I.hok.fresh (Gao _)) (Gau (GbO _));have I2:=Inv.made (C:=C) I;have r2:Vals (V.ref (s.heap.objs.size+1)::(vs++dvs)) (Value.ref (s.heap.objs.size+1)::(us++ds)):= .cons rfl (r.append hd);have hl:(Value.ref (s.heap.objs.size+1)::us++ds).length=ps.length:=by
  have e:=r2.length;rw[F.len _ _ _ _ hq] at e;exact e.symm
 refine GbX (GR (f:=f) I.kIn M.makes M.init (Gbj.mp M.fn) (Gch (F.run _ X.stack _ _ ⟨Value.ref (s.heap.objs.size+1)::us,[]⟩ (Value.ref (s.heap.objs.size+1)::(us++ds)) _ _ E (hr.make C us [])
  (I2.JY.make C us []) (hb _ (Value.ref (s.heap.objs.size+1)::us) I2.kIn hl) r2 hq) λr s' yD => ?_))
 cases r with
 |error e=>exact hx ee σ _ _ e s' I2 yD
 |ok fl=>
  cases fl with
  |ret u=>
   obtain⟨v,H',I3,rv,ev,q3⟩:=I2.after yD;subst ev;exact⟨rv,⟨V.ref (s.heap.objs.size+1),H',I3,rfl,q3⟩⟩
  |next=>exact False.elim yD
  |brk=>exact False.elim yD
  |cont=>exact False.elim yD
theorem K0(M:Mk X.K C f)(F:bu X.prog X.w X.K X.mg X.base CX k f fd ps sp)(hr:cP (k+1) X.A)(hg:Gl X x)(hm:X.mg x=some (.ref C))(hb:Binds X.K fd ps ds)(hd:Vals dvs ds)(hx:Passes CX X E)
  (ha:PA X (e::es) t)(xu:autoParam ((x==("__debug__":Str))=false) Za2._auto_1)(he:autoParam (starEach (e::es) X.env=(false,eval e X.env)::starEach es X.env) Za1._auto_1)(xa:autoParam ((backTo pos (starEach es X.env)).any (·.1)=false) Za1._auto_1):
  PE X (.Call (.Name x p) (e::es) [] pos) (PB C sp dvs E t):=by
 intro ee s σ H Q I h;refine Gbl (kq I hg hm ?_ xu);refine Gbu (h₀:=X.base) I.ok.mod.kin M.kp (thn (ha pos ee s σ H _ I h) λus s1 ⟨vs,H1,I1,r,q⟩=> ⟨I1.kIn, ?_⟩) he xa;exact GW M F hr hb hd hx I1 r q
end
structure aM(N P:List Str)(sc:Scope):Prop where
 kind:sc.kind= .function
 co:sc.isCoroutine=false
 gen:sc.isGenerator=false
 nd:N.Nodup
 pre:N.take P.length=P
 par:∀x∈P,sc.names.lookup x=some .local\/sc.names.lookup x=some .cell
 OL:∀y∈sc.names,y.2≠ .free
theorem wG{kindOf:Str->Option NameKind}{x:Str}:∀{binds:List (Str×Value)} {m:Str->Option Value},(∀v,(x,v)∉binds)->bindL kindOf binds m x=m x
 |[],_,_=>rfl
 |(n,v)::r,m,h=>by
  unfold bindL;rw[wG λw hw=>h w (Gar _ hw)];split
  .have:x≠n:=by rintro rfl;exact h v Gav
   simp[this]
  .rfl
theorem wH{kindOf:Str->Option NameKind}{x:Str}:∀{binds:List (Str×Value)} {m:Str->Option Value},(∀v,(x,v)∉binds)->bindC kindOf binds m x=m x
 |[],_,_=>rfl
 |(n,v)::r,m,h=>by
  unfold bindC;rw[wH λw hw=>h w (Gar _ hw)];split
  .rfl
  .have:x≠n:=by rintro rfl;exact h v Gav
   simp[this]
theorem wI{kindOf:Str->Option NameKind}{x:Str}{v:Value}:∀{P:List Str} {vs:List Value} {i:Nat} {m:Str->Option Value},P.Nodup->P[i]? =some x->vs[i]? =some v->kindOf x=some .local->
  bindL kindOf (P.zip vs) m x=some v
 |[],_,_,_,_,h,_,_=>by simp at h
 |_::_,[],_,_,_,_,h,_=>by simp at h
 |p::P,w::vs,0,m,nd,h1,h2,hk=>by
  simp at h1 h2;subst h1;subst h2
  show bindL kindOf ((p,w)::P.zip vs) m p=_;unfold bindL;rw[wG λv hv=>(GbI.mp nd).1 (List.of_mem_zip hv).1,Gaf hk];simp
 |p::P,w::vs,i+1,m,nd,h1,h2,hk=>by
  show bindL kindOf ((p,w)::P.zip vs) m x=_;unfold bindL;exact wI (i:=i) (GbI.mp nd).2 (by simpa using h1) (by simpa using h2) hk
theorem wJ{kindOf:Str->Option NameKind}{x:Str}{v:Value}:∀{P:List Str} {vs:List Value} {i:Nat} {m:Str->Option Value},P.Nodup->P[i]? =some x->vs[i]? =some v->kindOf x≠some .local->
  bindC kindOf (P.zip vs) m x=some v
 |[],_,_,_,_,h,_,_=>by simp at h
 |_::_,[],_,_,_,_,h,_=>by simp at h
 |p::P,w::vs,0,m,nd,h1,h2,hk=>by
  simp at h1 h2;subst h1;subst h2
  show bindC kindOf ((p,w)::P.zip vs) m p=_;unfold bindC;rw[wH λv hv=>(GbI.mp nd).1 (List.of_mem_zip hv).1,Gag hk];simp
 |p::P,w::vs,i+1,m,nd,h1,h2,hk=>by
  show bindC kindOf ((p,w)::P.zip vs) m x=_;unfold bindC;exact wJ (i:=i) (GbI.mp nd).2 (by simpa using h1) (by simpa using h2) hk
noncomputable def start(N:List Str)(vs:List V):St:=vs.map some++List.replicate (N.length -vs.length) none
noncomputable def jn(CX:CXT)(P:Program)(w:World)(K:PySem.W.Frag)(mg:Str->Option Value)(base:Heap)(N:List Str)(qual:Str)(scope:Scope)(f:Addr)(cd:Value)(A:Around)(outer:List Env)(s:Shared)(H:Hp)(E:XK):Cx where
 prog:=P
 w:=w
 K:=K
 mg:=mg
 base:=base
 A:=A.deeper (envOfC qual scope s.heap.objs.size f cd)
 N:=N
 s₀:=s
 H0:=H
 env:=envOfC qual scope s.heap.objs.size f cd
 outer:=outer
 stack:=envOfC qual scope s.heap.objs.size f cd::outer
 ex:=[]
 calm:=true
 fn:=λ_=>true
 pn:=[]
 xe:=λe s' =>wpAny (model P w) (A.deeper (envOfC qual scope s.heap.objs.size f cd)) (leaving (envOfC qual scope s.heap.objs.size f cd) e) (λ_ U6 =>CX outer H s E e U6) (λe' U6 =>CX outer H s E e' U6) s'
theorem Bo{sc:Scope}{n:Nat}{x:Str}(h:sc.names.lookup x=some .cell):∃c,(cellsFrom n sc.names []).lookup x=some c:=by
 have q:=PySem.W.cellsFrom_some sc.names n [] (.inl h);exact Option.isSome_iff_exists.mp q
variable{f:Addr}{scope:Scope}{qual:Str}{N:List Str}
theorem Fw{CX:CXT}{K:PySem.W.Frag}{cd:Value}{s1:Shared}{E:XK}{vs:List V}
  (S:aM N ps scope)(hd:A.handled=none)(e0:Cv P w K mg base A outer s H)(hl:vs.length=ps.length)(r:Vals vs us)
  (x:InCallC s s.heap.objs.size (bindL (envOfC qual scope s.heap.objs.size f cd).kindOf (ps.zip us) λ_=>none) (cellsFrom (s.heap.objs.size+1) scope.names []) (bindC (envOfC qual scope s.heap.objs.size f cd).kindOf (ps.zip us) λ_=>none) s1):
  Inv (jn CX P w K mg base N qual scope f cd A outer s H E) [] (start N vs) H s1:=by
 have xa:ps.length<=N.length:=by have:=congrArg List.length S.pre;rw[GbD] at this;lia
 obtain⟨h1,tk,rfl,hk⟩:=x.done;have noA:∀b:Addr,b∉(jn CX P w K mg base N qual scope f cd A outer s H E).ex:=λb z=>absurd (show b∈([]:List Addr) from z) (by simp);refine⟨⟨e0.mod,S.kind,rfl,rfl,Gao _,λy z c h1 h2=> ?_,λy hy=> ?_,λy c _ h=> ?_,λ_=>hd,Around.frames_deeper e0.frames,.inr ⟨rfl,rfl⟩,λb z=>absurd z (noA b),e0.bs,e0.bsz,λb _ _=>noA b,λb z=>absurd z (noA b),e0.ql,e0.frf⟩,
  rfl,e0.bare,Un.kept hk,⟨_,x.toInCall.ns,λi y v h1 h2 h3=> ?_⟩,λy c h=> ⟨_,x.cell y c h⟩,e0.hok.fresh (Gao _),λy c h=> ?_,λp hp=>absurd (show p∈([]:List (Addr×Obj)) from hp) (by simp),e0.hok.kept hk, ?_⟩
 .exact name_of_addr x.apart (PySem.mem_of_lookup h1) (PySem.mem_of_lookup h2)
 .have hy:scope.names.lookup y=some .cell\/scope.names.lookup y=some .free:=hy;rcases hy with hy|hy
  .exact Bo hy
  .exact absurd rfl (S.OL _ (PySem.mem_of_lookup hy))
 .exact GcR (x.above y c (PySem.mem_of_lookup h))
 .have hi:i<vs.length:=by
   unfold start at h2;by_cases hi:i<vs.length
   .exact hi
   .rw[GaA (by simpa using hi)] at h2;rw[GbA] at h2;split at h2<;>cases h2
  have ha:vs[i]? =some v:=by
   unfold start at h2;rw[GaJ (by simpa using hi),Gas] at h2;cases e:vs[i]? with
   |none=>rw[e] at h2;cases h2
   |some a=>rw[e] at h2;cases h2;rfl
  obtain⟨u,hu,rv⟩:=r.get ha;have hp:ps[i]? =some y:=by
   rw[<-S.pre,List.getElem?_take_of_lt (by lia)];exact h1
  have ndP:ps.Nodup:=by rw[<-S.pre];exact S.nd.sublist (List.take_sublist _ _)
  refine⟨u,rv, ?_⟩;rcases S.par y (GaH hp) with k|k
  .exact .inl ⟨k,wI ndP hp hu k⟩
  .obtain⟨c,e⟩:=Bo (n:=s.heap.objs.size+1) k;refine .inr ⟨.inl k,c,e, ?_⟩;have q:=x.cell y c e;rw[wJ ndP hp hu (by show scope.names.lookup y≠_;rw[k];decide)] at q;exact q
 .exact e0.hok.fresh (GcR (x.above y c (PySem.mem_of_lookup h)))
 .unfold start;show _=N.length;rw[Gbb,Gaq,GcO];lia
theorem DH{CX:CXT}{K:PySem.W.Frag}{k:Nat}{name:Str}{params:Arguments}{body:List Stmt}{dV kV doc pm eR ct oc:Value}{an od:Option Addr}
  {yS:Array (Option Value)}{sp:Sp}(lk:K.lookup f=some ⟨oc,od,.func (PySem.W.fnOf name qual params body scope dV kV doc pm an eR ct),yS⟩)(xp:PySem.W.codeIn K eR qual=true)(S:aM N ps scope)
  (len:∀vs H Q E,sp vs H Q E->vs.length=ps.length)
  (xl:∀(A:Around) (outer:List Env) (s:Shared) (H:Hp) (vs:List V) (Q:VK) (E:XK),cP k (A.deeper (envOfC qual scope s.heap.objs.size f eR))->sp vs H Q E->
   ∃t,PSs (jn CX P w K mg base N qual scope f eR A outer s H E) body t/\t {nx:=λ_ H' =>Q .non H',rt:=Q} (start N vs) H):
  bu P w K mg base CX (k+1) f (PySem.W.fnOf name qual params body scope dV kV doc pm an eR ct) ps sp:=by
 refine⟨len,λA outer s H args us vs Q E hr e0 hb r yA=> ?_⟩;have hl:=len _ _ _ _ yA;have KX:K.In s.heap:=e0.mod.kin.keeps λb o e=>(e0.bs b o e).1;have lim:s.heap.NoLimit:=e0.mod.nolimit.keeps λb o e=>(e0.bs b o e).1;have hkind:∀y∈ps.zip us,scope.names.lookup y.1=some .local\/(scope.names.lookup y.1=some .cell/\((cellsFrom (s.heap.objs.size+1) scope.names []).lookup y.1).isSome=true):=λ⟨n,v⟩ hy=>by
  rcases S.par n (List.of_mem_zip hy).1 with q|q
  .exact .inl q
  .exact .inr ⟨q,PySem.W.cellsFrom_some _ _ _ (.inl q)⟩
 refine codeAny_call_function hr.depth (KX _ _ lk) rfl S.co S.gen rfl (PySem.W.codeRec_of KX xp) (hb _ _ _ _ ?_);refine wpAny_newFunctionEnv_cells S.kind hkind λenv he s1 x=> ?_;subst he;refine⟨lim.keeps x.toInCall.keep,codeAny_func ?_⟩;obtain⟨t,ht,hq⟩:=xl A outer s H vs Q E (hr.deeper _) yA;have I:Inv (jn CX P w K mg base N qual scope f eR A outer s H E) [] (start N vs) H s1:=Fw S hr.hd e0 hl r x;refine Gbg (ht [] s1 (start N vs) H _ I hq) (λfl s' hs=> ?_) λe s' hs=>hs;have fin:∀{σ' :St} {H' :Hp} {v:V} {u:Value},Inv (jn CX P w K mg base N qual scope f eR A outer s H E) [] σ' H' s' ->RelV v u->Q v H' ->CE outer P w H s Q u s' :=
  λ{σ' H' v u} J rv q=> ⟨v,H',J.os,J.bare,J.base,J.hok,rv,q⟩
 cases fl with
 |ret u=>
  obtain⟨v,σ',H',J,rv,q⟩:=hs;exact fin J rv q
 |next=>
  obtain⟨σ',H',J,q⟩:=hs;exact fin (v:=V.non) (u:=Value.none) J rfl q
 |brk=>
  obtain⟨_,_,_,q⟩:=hs;exact False.elim q
 |cont=>
  obtain⟨_,_,_,q⟩:=hs;exact False.elim q
section
variable{X:Cx}{x:Str}{p pos:Pos}{e:Expr}{es:List Expr}{t:TA}{id T:String}{r:List V->Hp->VK->Prop}
def tCB(r:List V->Hp->VK->Prop)(t:TA):TE:=λσ H Q=>t σ H λvs H1=>r vs H1 Q
theorem qr(hc:j0 X (.builtin id) r)(hg:Gl X x)(hm:X.mg x=none)(hv:bootBuiltins x=some (.builtin id))(ha:PA X (e::es) t)(hn:autoParam (x≠"__name__") Za2._auto_1)(xu:autoParam ((x==("__debug__":Str))=false) Za2._auto_1)
  (he:autoParam (starEach (e::es) X.env=(false,eval e X.env)::starEach es X.env) Za1._auto_1)(xa:autoParam ((backTo pos (starEach es X.env)).any (·.1)=false) Za1._auto_1):PE X (.Call (.Name x p) (e::es) [] pos) (tCB r t):=by
 intro ee s σ H Q I h;refine Gbl (rS I hg hm hv ?_ hn xu);exact GcT (thn (ha pos ee s σ H _ I h) λus s1 ⟨vs,H1,I1,r1,q1⟩=>hc ee s1 σ H1 vs us Q I1 r1 q1) he xa
theorem Fx(hc:j0 X (.type T) r)(hg:Gl X x)(hm:X.mg x=none)(hv:bootBuiltins x=some (.type T))(ha:PA X (e::es) t)(hn:autoParam (x≠"__name__") Za2._auto_1)(xu:autoParam ((x==("__debug__":Str))=false) Za2._auto_1)
  (he:autoParam (starEach (e::es) X.env=(false,eval e X.env)::starEach es X.env) Za1._auto_1)(xa:autoParam ((backTo pos (starEach es X.env)).any (·.1)=false) Za1._auto_1):PE X (.Call (.Name x p) (e::es) [] pos) (tCB r t):=by
 intro ee s σ H Q I h;refine Gbl (rS I hg hm hv ?_ hn xu);exact Gcm (thn (ha pos ee s σ H _ I h) λus s1 ⟨vs,H1,I1,r1,q1⟩=>hc ee s1 σ H1 vs us Q I1 r1 q1) he xa
end
end L2
namespace HT
open PySem PyProof.Rows
section
open PySem.SeqAt
open PySem.AutoSeq1 (wpAny_loadPart')
open PySem.MeetsSeq PySem.MeetsSeq2 PySem.MeetsSeq3
end
section
variable{prog:Program}{w:World}{A:Around}{E:Value->Shared->Prop}{s:Shared}
theorem K1{t b:Addr}{vs ws:List Value}{Q:Value->Shared->Prop}(ht:IsTup s.heap t vs.toArray)(hb:IsTup s.heap b ws.toArray)(hv:vs≠[])
  (h1:ws=[]->Q (.ref t) s)(h2:ws≠[]->Q (.ref s.heap.objs.size) {s with heap:=s.heap.push {cls:= .type "tuple",data:= .seq (vs++ws).toArray}})
  (hsz:vs.length+ws.length<=sizeLine):wpAny (model prog w) A (binaryOp .Add (.ref t) (.ref b)) Q E s:=by
 obtain⟨⟨cls,dd,data,sl⟩,ho,hc,n,hd⟩:=id ht;obtain⟨⟨UK,TZ,data2,T5⟩,zL,Ti,n2,hd2⟩:=id hb;simp only at hc hd Ti hd2;subst hc hd Ti hd2;have e:vs.toArray++ws.toArray=(vs++ws).toArray:=by simp
 by_cases hw:ws=[]
 .exact concat_meets ⟨_,ho,rfl⟩ ⟨_,zL,rfl⟩ noFill_tuple_add seq_tuple_add GcF GcA (Gct _ _)
   (tuple_addW1 t b vs.toArray ws.toArray n n2 dd TZ sl T5 (by simpa using hv) (by simp[hw])) ⟨ho,zL,h1 hw⟩
 .refine concat_meets ⟨_,ho,rfl⟩ ⟨_,zL,rfl⟩ noFill_tuple_add seq_tuple_add GcF GcA (Gct _ _)
   (tuple_addW2 t b vs.toArray ws.toArray n n2 dd TZ sl T5 (by simpa using hv) (by simpa using hw) (by rw[Gaj,Gaj];exact hsz)) ⟨ho,zL, ?_⟩
  rw[e];exact h2 hw
noncomputable def sIx(n d:Nat):Option Int->Nat
 |none=>d
 |some v=>if v<0 then(v+(n:Int)).toNat else min v.toNat n
theorem Na(n d:Nat)(hd:d<=n)(o:Option Int):sIx n d o<=n:=by
 cases o with
 |none=>exact hd
 |some v=>
  show(if v<0 then(v+(n:Int)).toNat else min v.toNat n)<=n;by_cases hv:v<0
  .rw[Gaf hv];lia
  .rw[Gag hv];exact Nat.min_le_right _ _
theorem DJ(v:Int)(n d:Nat):(if v<0 then max (v+(n:Int)) 0 else min v (n:Int))=((sIx n d (some v):Nat):Int):=by
 show(if v<0 then max (v+(n:Int)) 0 else min v (n:Int))=(((if v<0 then(v+(n:Int)).toNat else min v.toNat n):Nat):Int);by_cases hv:v<0
 .simp only[Gaf hv];lia
 .simp only[Gag hv];lia
theorem Cy(lo hi:Option Int)(n:Nat):Builtin.Slice.sliceAdjust lo hi 1 (n:Int)=(((sIx n 0 lo:Nat):Int),((sIx n n hi:Nat):Int)):=by
 have h1:¬((1:Int)<0):=by lia
 unfold Builtin.Slice.sliceAdjust;simp only[h1,GaW];refine Prod.ext ?_ ?_
 .cases lo with
  |none=>rfl
  |some v=>exact DJ v n 0
 .cases hi with
  |none=>rfl
  |some v=>exact DJ v n n
theorem Cz(i j:Nat):Builtin.Slice.slicePlaces (i:Int) (j:Int) 1=j -i:=by
 unfold Builtin.Slice.slicePlaces;have h1:(1:Int)>0:=by lia
 simp only[h1,GaZ,Int.ediv_one];split<;>lia
theorem uB{v:Value}{o:Option Int}{Q:Option Int->Shared->Prop}(p:IsPart v o)(h:Q o s):wpAny (model prog w) A (Builtin.Slice.slicePartIndex v) Q E s:=by
 cases p with
 |none=>exact slicePart_none h
 |int i t=>exact slicePart_int h
variable{lo hi:Option Int}{vl vu:Value}{sl:Addr}
theorem rU{n:Nat}{Q:Int×Int×Nat->Shared->Prop}(hs:s.heap.IsSliceOf sl vl vu .none)(pl:IsPart vl lo)(pu:IsPart vu hi)
  (h:Q (((sIx n 0 lo:Nat):Int),1,sIx n n hi -sIx n 0 lo) s):wpAny (model prog w) A (Builtin.Slice.sliceApplied (.ref sl) (pure (n:Int))) Q E s:=by
 obtain⟨os,zJ,yW,yp⟩:=id hs;unfold Builtin.Slice.sliceApplied Builtin.Slice.sliceFields;refine Gab (Gab (wpAny_field zJ yp (x:=vl) rfl (Gab (wpAny_field zJ yp (x:=vu) rfl (Gab (wpAny_field zJ yp (x:= .none) rfl (Gah ?_)))))));refine Gab (slicePart_none ?_);show wpAny _ _ (if((1:Int)==0)=true then _ else _) _ _ s;rw[Gag (by decide)];refine Gab (uB pl (Gab (uB pu (Gab (Gah ?_)))));show wpAny _ _ (match Builtin.Slice.sliceAdjust lo hi 1 (n:Int) with|(lo,hi)=>pure (lo,(1:Int),Builtin.Slice.slicePlaces lo hi 1)) _ _ s;rw[Cy lo hi n];show wpAny _ _ (pure (((sIx n 0 lo:Nat):Int),(1:Int),Builtin.Slice.slicePlaces ((sIx n 0 lo:Nat):Int) ((sIx n n hi:Nat):Int) 1)) _ _ s;rw[Cz];exact Gah h
theorem GX(xs:Array Value)(i k:Nat):((List.range k).filterMap λ(m:Nat)=>xs[((i:Int)+(m:Int)*1).toNat]?).toArray=((xs.toList.drop i).take k).toArray:=by
 have e:(λ(m:Nat)=>xs[((i:Int)+(m:Int)*1).toNat]?)=λm=>xs[i+m]? :=by
  funext m
  have:((i:Int)+(m:Int)*1).toNat=i+m:=by lia
  rw[this]
 rw[e];have:=pick_run xs i k;rw[List.filterMap_map] at this;have e2:((λx=>xs[x]?)∘λx=>i+x)=λm=>xs[i+m]? :=rfl;rw[e2] at this;rw[this]
theorem qt{t:Addr}{items:Array Value}{Q:Value->Shared->Prop}(ht:IsTup s.heap t items)(hs:s.heap.IsSliceOf sl vl vu .none)(pl:IsPart vl lo)(pu:IsPart vu hi)
  (hw:¬(sIx items.size 0 lo=0/\sIx items.size items.size hi=items.size))
  (h:Q (.ref s.heap.objs.size) {s with heap:=s.heap.push {cls:= .type "tuple",data:= .seq ((items.toList.drop (sIx items.size 0 lo)).take (sIx items.size items.size hi -sIx items.size 0 lo)).toArray}})
  (hsz:items.size<=sizeLine):wpAny (model prog w) A (getItem (.ref t) (.ref sl)) Q E s:=by
 have htake:sizeOk (.seq ((items.toList.drop (sIx items.size 0 lo)).take (sIx items.size items.size hi -sIx items.size 0 lo)).toArray):=by
  show((items.toList.drop (sIx items.size 0 lo)).take (sIx items.size items.size hi -sIx items.size 0 lo)).toArray.size<=sizeLine;rw[Gaj,GbD,GcK,GbB];lia
 have hj:sIx items.size items.size hi<=items.size:=Na _ _ (Gao _) hi;obtain⟨os,zJ,yW,yp⟩:=id hs;have hTs:s.TypeIs (.ref sl) "slice":=⟨os,zJ,yW⟩
 unfold getItem
 try with_reducible refine Gbi ?_
 first|refine Gab (Gah ?_)|skip
 refine Gab (wpAny_sequenceKey ht.typeIs (by decide) ?_);refine Gab (GbR (name:=Str.ofString "__getitem__") ht.typeIs GbQ
  (GbE GbQ ht.typeIs entry_tuple_getitem ?_ (args_tuple_getitem _ _)))
 show wpAny _ _ (Builtin.Tuple.tupleItemsOf (.ref t)>>=_) _ _ s;refine Gab (tupleItemsOf_ ht ?_);refine Gab (wpAny_typeOf hTs ?_);rw[Gaf (by decide)];refine Gab (rU hs pl pu ?_);have hno:¬((((sIx items.size 0 lo:Nat):Int)==0&&(1:Int)==1&&(sIx items.size items.size hi -sIx items.size 0 lo)==items.size)=true):=by
  intro q;rw[Gam,Gam] at q;have q1:((sIx items.size 0 lo:Nat):Int)=0:=eq_of_beq q.1.1;have q2:sIx items.size items.size hi -sIx items.size 0 lo=items.size:=eq_of_beq q.2;exact hw ⟨by lia,by lia⟩
 show wpAny _ _ (if(((sIx items.size 0 lo:Nat):Int)==0&&(1:Int)==1&&(sIx items.size items.size hi -sIx items.size 0 lo)==items.size)=true then _ else _) _ _ s;rw[Gag hno,GX]
 first
  |exact Gab (m:=Builtin.Tuple.tupleExact _) (GaS (Gah ⟨_,rfl,Gah h⟩) htake)
  |exact Gab (m:=Builtin.Tuple.tupleExact _) (GaS (Gab (Gah (Gah ⟨_,rfl,Gah h⟩))) htake)
  |exact Gab (Gab (m:=Builtin.Tuple.tupleExact _) (GaS (Gah (Gah ⟨_,rfl,Gah h⟩)) htake))
  |exact Gab (Gab (m:=Builtin.Tuple.tupleExact _) (GaS (Gah ⟨_,rfl,Gah h⟩) htake))
end
end HT
namespace L2
open PySem PySem.Spec PyProof.Rows
abbrev TO:=St->Hp->(Option Int->Hp->Prop)->Prop
def PO(X:Cx)(e:Option Expr)(t:TO):Prop:=
 ∀(ee:List (Addr×Obj)) (s:Shared) (σ:St) (H:Hp) (Q:Option Int->Hp->Prop),Inv X ee σ H s->t σ H Q->
  wpAny (model X.prog X.w) X.A (evalPart e X.env) (λu s' =>∃o H',Inv X ee σ H' s' /\IsPart u o/\Q o H') X.xe s
def K2:TO:=λ_ H Q=>Q none H
def PC(t:TE):TO:=λσ H Q=>t σ H λx H1=>∃i,x= .int i/\Q (some i) H1
section
variable{X:Cx}{e:Expr}{te:TE}{lo hi:Option Expr}{tl th:TO}{pos p2:Pos}
theorem K3:PO X none K2:=by
 intro ee s σ H Q I h;rw[evalPart_none];exact Gah ⟨none,H,I,.none,h⟩
theorem K4(h:PE X e te):PO X (some e) (PC te):=by
 intro ee s σ H Q I hw;rw[evalPart_some];refine thn (h ee s σ H _ I hw) λu s1 ⟨x,H1,I1,r1,q1⟩=> ?_;obtain⟨i,rfl,q⟩:=q1;obtain⟨t,rfl⟩:=r1;exact⟨some i,H1,I1,.int i t,q⟩
def SlR(X:Cx)(r:V->Option Int->Option Int->Hp->VK->Prop):Prop:=
 ∀(ee:List (Addr×Obj)) (s:Shared) (σ:St) (H:Hp) (x:V) (v vl vu:Value) (lo hi:Option Int) (sl:Addr) (Q:VK),Inv X ee σ H s->RelV x v->s.heap.IsSliceOf sl vl vu .none->IsPart vl lo->IsPart vu hi->r x lo hi H Q->
  ∃T id,typeLookup (.type T) "__getitem__"=pure (some (.builtin id))/\s.TypeIs v T/\wpAny (model X.prog X.w) X.A (getItem v (.ref sl)) (EP X ee σ Q) X.xe s
theorem SlR.or{r r' :V->Option Int->Option Int->Hp->VK->Prop}(h:SlR X r)(h' :SlR X r'):SlR X (λx lo hi H Q=>r x lo hi H Q\/r' x lo hi H Q):=by
 intro ee s σ H x v vl vu lo hi sl Q I rx hs pl pu q;rcases q with q|q
 .exact h ee s σ H x v vl vu lo hi sl Q I rx hs pl pu q
 .exact h' ee s σ H x v vl vu lo hi sl Q I rx hs pl pu q
def tSl(r:V->Option Int->Option Int->Hp->VK->Prop)(te:TE)(tl th:TO):TE:=λσ H Q=>te σ H λx H1=>tl σ H1 λl H2=>th σ H2 λu H3=>r x l u H3 Q
theorem GY{r:V->Option Int->Option Int->Hp->VK->Prop}(hr:SlR X r)(he:PE X e te)(hl:PO X lo tl)(hu:PO X hi th):PE X (.Subscript e (.Slice lo hi none p2) pos) (tSl r te tl th):=by
 intro ee s σ H Q I h;refine Subscript_ (thn (he ee s σ H _ I h) λv s1 ⟨x,H1,I1,r1,q1⟩=> ?_);refine wpAny_Slice (thn (hl ee s1 σ H1 _ I1 q1) λvl s2 ⟨l,H2,I2,pl,q2⟩=>thn (hu ee s2 σ H2 _ I2 q2) λvu s3 ⟨u,H3,I3,pu,q3⟩=> ?_);rw[evalPart_none];refine Gah ?_;have I4:Inv X ee σ H3 {s3 with heap:=s3.heap.push {cls:= .type "slice",data:= .fields #[vl,vu,.none]}}:=I3.kept (t' :=s3.toks) λb ob q=>Gad _ q;obtain⟨T,id,hT,ht,hg⟩:=hr ee {s3 with heap:=s3.heap.push {cls:= .type "slice",data:= .fields #[vl,vu,.none]}} σ H3 x v vl vu l u s3.heap.objs.size Q I4 r1 (Heap.IsSliceOf.new ..) pl pu q3;show wpAny (model X.prog X.w) X.A (subscriptTail e (.Slice lo hi none p2) v (.ref s3.heap.objs.size)) (EP X ee σ Q) X.xe {s3 with heap:=s3.heap.push {cls:= .type "slice",data:= .fields #[vl,vu,.none]}};exact tail_any (ops:=[.ref s3.heap.objs.size,v]) ht hT hg (by with_unfolding_all rfl)
noncomputable def Bp(xs:List V)(lo hi:Option Int):List V:=(xs.drop (HT.sIx xs.length 0 lo)).take (HT.sIx xs.length xs.length hi -HT.sIx xs.length 0 lo)
theorem sT(xs:List V)(lo hi:Option Int):(Bp xs lo hi).length<=xs.length:=by
 unfold Bp;rw[GbD,GcK];lia
def S2(K:PySem.W.Frag):V->Option Int->Option Int->Hp->VK->Prop:=λx lo hi H Q=>∃a xs,x= .ref a/\SqT K H a xs/\
 ¬(HT.sIx xs.length 0 lo=0/\HT.sIx xs.length xs.length hi=xs.length)/\∀p,H p=none->Q (.ref p) (upd H p (.tup (Bp xs lo hi)))
theorem Nb:SlR X (S2 X.K):=by
 intro ee s σ H x v vl vu lo hi sl Q I rx hs pl pu h;obtain⟨a,xs,rfl,hx,hw,q⟩:=h;cases rx;obtain⟨eA,r,ht,hz⟩:=I.tuple hx;have h8:eA.toArray.size=xs.length:=by rw[Gaj];exact r.length.symm
 refine⟨"tuple",_,GbQ.lookup,ht.typeIs, ?_⟩;refine HT.qt ht hs pl pu (by rw[h8];exact hw) ?_ (by rw[h8];exact hz);rw[h8];refine⟨.ref s.heap.objs.size,_,I.laid (t' :=s.toks) (o:= .tup (Bp xs lo hi)) (λb ob q=>Gad _ q) (Gao _) ?_,rfl,q _ (I.hok.fresh (Gao _))⟩;exact⟨GaQ (sT xs lo hi) hz,_,(r.drop (HT.sIx xs.length 0 lo)).take (HT.sIx xs.length xs.length hi -HT.sIx xs.length 0 lo),IsTup.new _ _⟩
def LU(K:PySem.W.Frag):R2:=λx y H Q=>∃a b xs ys,x= .ref a/\y= .ref b/\SqT K H a xs/\SqT K H b ys/\xs≠[]/\xs.length+ys.length<=sizeLine/\
 (ys=[]->Q (.ref a) H)/\(ys≠[]->∀p,H p=none->Q (.ref p) (upd H p (.tup (xs++ys))))
theorem Vals.cz{xs:List V}{us:List Value}(r:Vals xs us):us=[]↔xs=[]:=by
 cases r with
 |nil=>simp
 |cons _ _=>simp
theorem K5:OpR X (binaryOp .Add) (LU X.K):=by
 intro ee s σ H x y v u Q I rx ry h;obtain⟨a,b,xs,ys,rfl,rfl,ha,hb,hx,hz,q1,q2⟩:=h;cases rx;cases ry;obtain⟨eA,r1,p1,_⟩:=I.tuple ha;obtain⟨eX,r2,p2,_⟩:=I.tuple hb;refine HT.K1 p1 p2 (λz=>hx (r1.cz.mp z)) (λz=> ⟨.ref a,H,I,rfl,q1 (r2.cz.mp z)⟩) (λz=> ?_) (by rw[<-r1.length,<-r2.length];exact hz);refine⟨.ref s.heap.objs.size,_,I.laid (t' :=s.toks) (o:= .tup (xs++ys)) (λb ob q=>Gad _ q) (Gao _) ?_,rfl,q2 (λw=>z (r2.cz.mpr w)) _ (I.hok.fresh (Gao _))⟩;exact⟨by rw[Gbb];exact hz,_,r1.append r2,IsTup.new _ _⟩
end
noncomputable def ixN(n:Nat)(i:Int):Option Nat:=if 0<=i then(if i<n then some i.toNat else none) else if -(n:Int)<=i then some (i+n).toNat else none
noncomputable def atI{α:Type}(xs:List α)(i:Int):Option α:=(ixN xs.length i).bind λj=>xs[j]?
variable{i:Int}
theorem DK{n:Nat}{j:Nat}(h:ixN n i=some j):seqIndex? i n=some j/\j<n/\-(n:Int)<=i/\i<n:=by
 unfold ixN at h;by_cases h0:0<=i
 .rw[Gaf h0] at h;by_cases h1:i<n
  .rw[Gaf h1] at h;have e:i.toNat=j:=Option.some.inj h;exact⟨by rw[seqIndex_of h0 h1,e],by lia,by lia,h1⟩
  .rw[Gag h1] at h;cases h
 .rw[Gag h0] at h;by_cases h1: -(n:Int)<=i
  .rw[Gaf h1] at h;have e:(i+n).toNat=j:=Option.some.inj h;exact⟨by rw[seqIndex_neg (by lia) h1,e],by lia,h1,by lia⟩
  .rw[Gag h1] at h;cases h
theorem Au{α:Type}{xs:List α}{v:α}(h:atI xs i=some v):∃j,seqIndex? i xs.length=some j/\xs[j]? =some v/\j<xs.length/\-(xs.length:Int)<=i/\i<xs.length:=by
 unfold atI at h;cases e:ixN xs.length i with
 |none=>rw[e] at h;cases h
 |some j=>
  rw[e] at h;obtain⟨h1,h2,h3,h4⟩:=DK e;exact⟨j,h1,h,h2,h3,h4⟩
def DP(b:Expr):Prop:=∀o i,subscripted b false o i=operate [o,i] (getItem o i)
def IxR(X:Cx)(r:R2):Prop:=
 ∀(value slice:Expr) (ee:List (Addr×Obj)) (s:Shared) (σ:St) (H:Hp) (x y:V) (v u:Value) (Q:VK),Inv X ee σ H s->RelV x v->RelV y u->r x y H Q->
  subscripted slice false v u=operate [v,u] (getItem v u)->wpAny (model X.prog X.w) X.A (subscriptTail value slice v u) (EP X ee σ Q) X.xe s
def MtR(X:Cx)(id:String)(r:V->List V->Hp->VK->Prop):Prop:=
 ∀(ee:List (Addr×Obj)) (s:Shared) (σ:St) (H:Hp) (x:V) (xs:List V) (v:Value) (us:List Value) (Q:VK),Inv X ee σ H s->RelV x v->Vals xs us->r x xs H Q->
  wpAny (model X.prog X.w) X.A (call (.builtin id) (v::us)) (EP X ee σ Q) X.xe s
section
variable{X:Cx}{a b:Expr}{ta tb:TE}{pos:Pos}
theorem IxR.or{r r' :R2}(h:IxR X r)(h' :IxR X r'):IxR X (λx y H Q=>r x y H Q\/r' x y H Q):=by
 intro value slice ee s σ H x y v u Q I rx ry q hs;rcases q with q|q
 .exact h value slice ee s σ H x y v u Q I rx ry q hs
 .exact h' value slice ee s σ H x y v u Q I rx ry q hs
theorem PD{r:R2}(hr:IxR X r)(ha:PE X a ta)(hb:PE X b tb)(hs:DP b):PE X (.Subscript a b pos) (tOp r ta tb):=by
 intro ee s σ H Q I h;exact Subscript_ (MW ha hb I h λv u s2 x y H2 I2 rx ry q=>hr a b ee s2 σ H2 x y v u Q I2 rx ry q (hs _ _))
def PF(K:PySem.W.Frag):R2:=λx y H Q=>∃p xs i v,x= .ref p/\y= .int i/\SqL K H p xs/\atI xs i=some v/\Q v H
def PH(K:PySem.W.Frag):R2:=λx y H Q=>∃p xs i v,x= .ref p/\y= .int i/\SqT K H p xs/\atI xs i=some v/\Q v H
def PJ:R2:=λx y H Q=>∃z i c,x= .str z/\y= .int i/\z.length<=sizeLine/\atI z.cps.toList i=some c/\Q (.str ⟨#[c]⟩) H
theorem K6:IxR X (PF X.K):=by
 intro value slice ee s σ H x y v u Q I rx ry h hs;obtain⟨p,xs,i,z,rfl,rfl,hq,he,q⟩:=h;cases rx;obtain⟨t,rfl⟩:=ry;obtain⟨eA,r,pl,hz⟩:=I.list hq;obtain⟨j,h1,h2,h3,h4,h5⟩:=Au he;obtain⟨w,ew,yt⟩:=r.get h2;have hl:=r.length;have hn:=uA;have fin:EP X ee σ Q w s:=⟨z,H,I,yt,q⟩
 by_cases h0:0<=i
 .have hj:i.toNat=j:=by
   rw[seqIndex_of h0 h5] at h1;exact Option.some.inj h1
  exact item_listR pl.isList h0 (by lia) (by rw[hj];simpa using ew) fin hs
 .have hj:(i+(eA.toArray.size:Int)).toNat=j:=by
   rw[seqIndex_neg (by lia) h4] at h1;rw[Gaj,<-hl];exact Option.some.inj h1
  exact subscriptTail_builtinR (x:=w) pl.isList.typeIs slot_list_getitem.lookup
   (wpAny_getItem_list_neg (Q:=λr s' =>r=w/\EP X ee σ Q r s') pl.isList (by lia) (by rw[Gaj]<;>lia) (by lia) (by rw[hj];simpa using ew) ⟨rfl,fin⟩) hs
theorem Nc:IxR X (PH X.K):=by
 intro value slice ee s σ H x y v u Q I rx ry h hs;obtain⟨p,xs,i,z,rfl,rfl,hq,he,q⟩:=h;cases rx;obtain⟨t,rfl⟩:=ry;obtain⟨eA,r,pl,hz⟩:=I.tuple hq;obtain⟨j,h1,h2,h3,h4,h5⟩:=Au he;obtain⟨w,ew,yt⟩:=r.get h2;have hl:=r.length;have hn:=uA;have fin:EP X ee σ Q w s:=⟨z,H,I,yt,q⟩
 exact subscriptTail_builtinR (x:=w) pl.typeIs slot_tuple_getitem.lookup
  (getItem_tuple (j:=j) (Q:=λr s' =>r=w/\EP X ee σ Q r s') pl (by lia) (by lia) (by rw[Gaj,<-hl];exact h1) (by simpa using ew) ⟨rfl,fin⟩) hs
theorem Nd:IxR X PJ:=by
 intro value slice ee s σ H x y v u Q I rx ry h hs;obtain⟨z,i,c,rfl,rfl,hz,he,q⟩:=h;obtain⟨t,rfl⟩:=rx;obtain⟨t',rfl⟩:=ry;obtain⟨j,h1,h2,h3,h4,h5⟩:=Au he;have hl:z.cps.toList.length=z.length:=by simp[Str.length]
 rw[hl] at h1 h4 h5;have hn:=uA;exact tail_any (typeIs_str s z t) slot_str_getitem.lookup (getItem_str (c:=c) (by
  have e1:decide (i< -(2^63:Int))=false:=GaD (by lia);have e2:decide (i>=2^63)=false:=GaD (by lia);rw[e1,e2,Bool.or_false]) (by rw[h1];simpa using h2) ⟨.str ⟨#[c]⟩,H,I.tok _,⟨_,rfl⟩,q⟩) hs
def rIx(K:PySem.W.Frag):R2:=λx y H Q=>PF K x y H Q\/PH K x y H Q\/PJ x y H Q
theorem Nf:IxR X (rIx X.K):=K6.or (Nc.or Nd)
theorem CA(eA:List Value)(n j:Nat)(u:Value):Obj.mapSeq (·.setIfInBounds j u) {cls:= .type "list",data:= .seq eA.toArray n}={cls:= .type "list",data:= .seq (eA.set j u).toArray n}:=by
 simp[Obj.mapSeq]
theorem Inv.lst{ee:List (Addr×Obj)}{σ:St}{H:Hp}{s:Shared}{p:Addr}{xs:List V}(I:Inv X ee σ H s)(h:H p=some (.lst xs)):
  ∃(eA:List Value) (n:Nat),Vals xs eA/\s.heap.get? p=some {cls:= .type "list",data:= .seq eA.toArray n}/\xs.length<=sizeLine:=by
 obtain⟨z,eA,n,r,e⟩:=I.hok p _ h;exact⟨eA,n,r,e,z⟩
variable{s:Shared}{H:Hp}{σ:St}{ee:List (Addr×Obj)}
theorem Inv.Ng{p:Addr}{xs ys:List V}{eA its' :List Value}{n n' :Nat}{f:Obj->Obj}(I:Inv X ee σ H s)(h:H p=some (.lst xs))
  (ho:s.heap.get? p=some {cls:= .type "list",data:= .seq eA.toArray n})(hf:f {cls:= .type "list",data:= .seq eA.toArray n}={cls:= .type "list",data:= .seq its'.toArray n' })(r:Vals ys its')(hz:ys.length<=sizeLine)(t:Nat):
  Inv X ee σ (upd H p (.lst ys)) {s with heap:=s.heap.update p f,toks:=t}:=by
 have e:(s.heap.update p f).get? p=some {cls:= .type "list",data:= .seq its'.toArray n' }:=by
  rw[Gba f ho (by rw[hf]<;>rfl),hf]
 refine I.write (x:=p) (e:=p) (by rw[h];trivial) (.inl rfl) (λb u hb q=>(GaT _ _ (Gay hb)).trans q) ⟨_,e⟩ ?_;exact⟨hz,its',n',r,e⟩
def LV:V->V->V->Hp->(Hp->Prop)->Prop:=λo i v H Q=>∃p xs k j,o= .ref p/\i= .int k/\H p=some (.lst xs)/\ixN xs.length k=some j/\Q (upd H p (.lst (xs.set j v)))
theorem set_list:Pk X LV:=by
 intro ee s σ H o i v ov iv u Q I ro ri rv h;obtain⟨p,xs,k,j,rfl,rfl,hp,hj,q⟩:=h;cases ro;obtain⟨t,rfl⟩:=ri;obtain⟨eA,n,r,ho,hz⟩:=I.lst hp;obtain⟨h1,h2,h3,h4⟩:=DK hj;have hl:=r.length;have hn:=uA;have I' :Inv X ee σ (upd H p (.lst (xs.set j v))) {s with heap:=s.heap.update p (Obj.mapSeq (·.setIfInBounds j u))}:=
  I.Ng hp ho (CA eA n j u) (r.set rv j) (by rw[List.length_set];exact hz) s.toks
 by_cases h0:0<=k
 .have hk:k.toNat=j:=by
   rw[seqIndex_of h0 h4] at h1;exact Option.some.inj h1
  exact PySem.W.ki_setAt ho h0 (by lia) (by rw[Gaj,<-hl];exact h4) (by rw[hk];exact⟨_,I',q⟩)
 .have hk:(k+(eA.toArray.size:Int)).toNat=j:=by
   rw[seqIndex_neg (by lia) h3] at h1;rw[Gaj,<-hl];exact Option.some.inj h1
  exact PySem.W.ki_setBack ho (by lia) (by rw[Gaj,<-hl];exact h3) (by lia) (by rw[hk];exact⟨_,I',q⟩)
theorem Av(lo hi:Option Int)(n:Nat):(sliceBounds lo hi none n).1=((HT.sIx n 0 lo:Nat):Int)/\(sliceBounds lo hi none n).2.1=((HT.sIx n n hi:Nat):Int)/\(sliceBounds lo hi none n).2.2=1:=by
 refine⟨?_, ?_,rfl⟩
 .cases lo with
  |none=>simp[sliceBounds,HT.sIx]
  |some i=>
   simp only[sliceBounds,HT.sIx,Option.getD_none,show(1:Int)>0 by decide,GaZ];by_cases h:i<0
   .simp only[h,GaZ]<;>lia
   .simp only[h,GaW]<;>lia
 .cases hi with
  |none=>simp[sliceBounds,HT.sIx]
  |some i=>
   simp only[sliceBounds,HT.sIx,Option.getD_none,show(1:Int)>0 by decide,GaZ];by_cases h:i<0
   .simp only[h,GaZ]<;>lia
   .simp only[h,GaW]<;>lia
theorem vV(eA:List Value)(lo hi:Option Int):slicePick eA.toArray lo hi none=((eA.drop (HT.sIx eA.length 0 lo)).take (HT.sIx eA.length eA.length hi -HT.sIx eA.length 0 lo)).toArray:=by
 obtain⟨h1,h2,h3⟩:=Av lo hi eA.toArray.size;unfold slicePick;rw[h1,h2,h3];simp only[sliceRange_one,pick_run,Gaj]<;>rfl
def S3(K:PySem.W.Frag):V->Option Int->Option Int->Hp->VK->Prop:=λx lo hi H Q=>∃a xs,x= .ref a/\SqL K H a xs/\∀p,H p=none->Q (.ref p) (upd H p (.lst (Bp xs lo hi)))
theorem K7:SlR X (S3 X.K):=by
 intro ee s σ H x v vl vu lo hi sl Q I rx hs pl pu h;obtain⟨a,xs,rfl,hx,q⟩:=h;cases rx;obtain⟨eA,r,ht,hz⟩:=I.list hx;have h8:=r.length;refine⟨"list",_,slot_list_getitem.lookup,ht.isList.typeIs, ?_⟩;refine wpAny_getItem_list_slice ht.isList hs pl pu .none (by simp) ?_ (by rw[Gaj]<;>lia);rw[vV,<-h8];refine⟨.ref s.heap.objs.size,_,I.laid (t' :=s.toks) (o:= .lst (Bp xs lo hi)) (λb ob q=>Gad _ q) (Gao _) ?_,rfl,q _ (I.hok.fresh (Gao _))⟩;exact⟨GaQ (sT xs lo hi) hz,_,0,(r.drop (HT.sIx xs.length 0 lo)).take (HT.sIx xs.length xs.length hi -HT.sIx xs.length 0 lo),Gat _ rfl⟩
noncomputable def DQ:V->Bool
 | .non=>true
 | .bl _=>true
 | .int _=>true
 | .str _=>true
 |_=>false
noncomputable def eqV:V->V->Bool
 | .non,.non=>true
 | .bl a,.bl b=>a==b
 | .bl a,.int b=>(if a then 1 else 0)==b
 | .int a,.bl b=>a==(if b then 1 else 0)
 | .int a,.int b=>a==b
 | .str a,.str b=>a==b
 |_,_=>false
variable{v:Value}{x:V}
theorem Nh{A:Around}{y:V}{u:Value}(ry:RelV y u)(rx:RelV x v)(fy:DQ y=true)(fx:DQ x=true):SeqAt.EqAt A s u v (eqV y x):=by
 cases y with
 |non=>
  cases ry;cases x with
  |non=>cases rx;exact SeqAt.EqAt.same _
  |bl b=>cases rx;exact SeqAt.EqAt.none_bool b
  |int b=>obtain⟨t,rfl⟩:=rx;exact SeqAt.EqAt.none_int b t
  |str b=>obtain⟨t,rfl⟩:=rx;exact SeqAt.EqAt.none_str b t
  |_=>exact absurd (show false=true from fx) Gai
 |bl a=>
  cases ry;cases x with
  |non=>cases rx;exact SeqAt.EqAt.bool_none a
  |bl b=>cases rx;exact SeqAt.EqAt.bool_bool a b
  |int b=>obtain⟨t,rfl⟩:=rx;exact SeqAt.EqAt.bool_int a b t
  |str b=>obtain⟨t,rfl⟩:=rx;exact SeqAt.EqAt.bool_str a b t
  |_=>exact absurd (show false=true from fx) Gai
 |int a=>
  obtain⟨t',rfl⟩:=ry;cases x with
  |non=>cases rx;exact SeqAt.EqAt.int_none a t'
  |bl b=>cases rx;exact SeqAt.EqAt.int_bool a t' b
  |int b=>obtain⟨t,rfl⟩:=rx;exact SeqAt.EqAt.int_int a t' b t
  |str b=>obtain⟨t,rfl⟩:=rx;exact SeqAt.EqAt.int_str a t' b t
  |_=>exact absurd (show false=true from fx) Gai
 |str a=>
  obtain⟨t',rfl⟩:=ry;cases x with
  |non=>cases rx;exact SeqAt.EqAt.str_none a t'
  |bl b=>cases rx;exact SeqAt.EqAt.str_bool a t' b
  |int b=>obtain⟨t,rfl⟩:=rx;exact SeqAt.EqAt.str_int a t' b t
  |str b=>obtain⟨t,rfl⟩:=rx;exact SeqAt.EqAt.str_str a t' b t
  |_=>exact absurd (show false=true from fx) Gai
 |_=>exact absurd (show false=true from fy) Gai
theorem j0.or{f:Value}{r r' :List V->Hp->VK->Prop}(h:j0 X f r)(h' :j0 X f r'):j0 X f (λxs H Q=>r xs H Q\/r' xs H Q):=by
 intro ee s σ H xs us Q I rs q;rcases q with q|q
 .exact h ee s σ H xs us Q I rs q
 .exact h' ee s σ H xs us Q I rs q
theorem g8:j0 X (.type "tuple") (λxs H Q=>∃p ys,xs=[.ref p]/\((SqL X.K H p ys/\∀l,H l=none->Q (.ref l) (upd H l (.tup ys)))\/(SqT X.K H p ys/\Q (.ref p) H))):=by
 intro ee s σ H xs us Q I r h;obtain⟨p,ys,rfl,h⟩:=h;obtain⟨u,rfl,rx⟩:=vals1 r;cases rx;rcases h with⟨hq,q⟩| ⟨hq,q⟩
 .obtain⟨eA,r',pl,hz⟩:=I.list hq;have h8:=r'.length;refine call_tuple_list pl.isList (λh' kp=> ?_) (by simp only[Gaj]<;>lia);have I1:Inv X ee σ H {s with heap:=h' }:=I.kept (t' :=s.toks) kp;have I2:Inv X ee σ (upd H h'.objs.size (.tup ys)) {s with heap:=h'.push {cls:= .type "tuple",data:= .seq eA.toArray}}:=
   I1.laid (t' :=s.toks) (λb o e=>Gad _ e) (Gao _) (show bx X.prog X.w _ _ _ (.tup ys) from⟨hz,eA,r',IsTup.new _ _⟩)
  exact⟨.ref h'.objs.size,_,I2,rfl,q _ (I1.hok.fresh (Gao _))⟩
 .obtain⟨eA,r',pl,hz⟩:=I.tuple hq;exact call_tuple_same pl ⟨.ref p,H,I,rfl,q⟩
def tyV(K:PySem.W.Frag)(T:String)(x:V)(H:Hp):Prop:=match x with
 | .str _=>T="str"
 | .int _=>T="int"
 | .ref p=>(T="list"/\∃xs,SqL K H p xs)\/(T="tuple"/\∃o,K.lookup p=some o/\o.cls= .type "tuple"/\o.dict=none)\/
   (T="dict"/\((∃et,H p=some (.dK et))\/∃et,H p=some (.dT et)))\/(T="set"/\∃S n,H p=some (.set S n))
 |_=>False
theorem Nj{T:String}(I:Inv X ee σ H s)(r:RelV x v)(ty:tyV X.K T x H):
  s.TypeIs v T/\∀a,v= .ref a->∃ob,s.heap.get? a=some ob/\ob.dict=none:=by
 cases x with
 |str z=>
  obtain⟨t,rfl⟩:=r;cases(show T="str" from ty);exact⟨typeIs_str s z t,λ_ e=>nomatch e⟩
 |int i=>
  obtain⟨t,rfl⟩:=r;cases(show T="int" from ty);exact⟨typeIs_int s i t,λ_ e=>nomatch e⟩
 |ref p=>
  cases r;rcases ty with⟨rfl,xs,hq⟩| ⟨rfl,o,hk,hc,hd⟩| ⟨rfl,hk⟩| ⟨rfl,S,n,hk⟩
  .obtain⟨eA,_,pl,_⟩:=I.list hq;refine⟨pl.isList.typeIs,λa e=> ?_⟩;cases e;obtain⟨o,n,e,c,hd,_⟩:=pl;exact⟨o,e,hd⟩
  .refine⟨⟨o,I.kIn p o hk,hc⟩,λa e=> ?_⟩;cases e;exact⟨o,I.kIn _ o hk,hd⟩
  .have z:∃o,s.heap.get? p=some o/\o.ExactDict:=by
    rcases hk with⟨et,hk⟩| ⟨et,hk⟩
    .obtain⟨_,_,_,_,o,_,_,e,ex,_⟩:=I.hok p _ hk;exact⟨o,e,ex⟩
    .obtain⟨_,_,_,_,o,_,_,e,ex,_⟩:=I.hok p _ hk;exact⟨o,e,ex⟩
   obtain⟨o,e,ex⟩:=z;refine⟨⟨o,e,ex.1⟩,λa e2=> ?_⟩;cases e2;exact⟨o,e,ex.2.1⟩
  .obtain⟨o,_,_,_,e,ex,_⟩:=I.hok p _ hk;refine⟨⟨o,e,ex.1⟩,λa e2=> ?_⟩;cases e2;exact⟨o,e,ex.2.1⟩
 |_=>exact False.elim ty
def tBM(K:PySem.W.Frag)(T:String)(r:V->List V->Hp->VK->Prop)(to:TE)(t:TA):TE:=λσ H Q=>to σ H λx H1=>tyV K T x H1/\t σ H1 λxs H2=>r x xs H2 Q
variable{o e:Expr}{es:List Expr}{to:TE}{t:TA}{name:Str}{apos eL:Pos}{T id:String}{r:V->List V->Hp->VK->Prop}
theorem GZ(pa:PlainAttrs T)(slot:Slot T name id)(VF:typeOf (.builtin id)=pure (.type "method_descriptor"))(hm:MtR X id r)(ho:PE X o to)(ha:PA X (e::es) t)
  (xm:autoParam (attributeBase o name X.env (eval o X.env)=eval o X.env) Za1._auto_1)
  (yw:((backTo eL (starEach (e::es) X.env)).all (λx=> !x.1)&&(backToKw eL (keywordEach [] X.env)).all (λx=>x.1.isSome)
   &&decide ((e::es).length+([]:List Keyword).length+(if([]:List Keyword).isEmpty then 0 else 1)<30))=true:=by rfl)
  (xh:autoParam ((apos.endLine==eL.line)=true) Za1._auto_1)(hs:autoParam (starEach (e::es) X.env=(false,eval e X.env)::starEach es X.env) Za1._auto_1)(zI:autoParam ((backTo eL (starEach es X.env)).any (·.1)=false) Za1._auto_1):
  PE X (.Call (.Attribute o name apos) (e::es) [] eL) (tBM X.K T r to t):=by
 intro ee s σ H Q I h;refine wpAny_Call_method_late xm yw xh rfl (thn (ho ee s σ H _ I h) λv s1 ⟨x,H1,I1,r1,ty,q1⟩=> ?_);obtain⟨h1,h2⟩:=Nj I1 r1 ty;refine⟨T,id,pa,slot,VF,h1,h2, ?_⟩;have hA:=ha eL ee s1 σ H1 _ I1 q1;rw[hs] at hA⊢;refine Gbq (by show(false||(backTo eL (starEach es X.env)).any (·.1))=false;rw[zI]<;>rfl) (GbL ?_);exact thn hA λus s2 ⟨vs,H2,I2,r2,q2⟩=>hm ee s2 σ H2 x vs v us Q I2 r1 r2 q2
end
def MtM(X:Cx)(id:String)(r:V->List V->Hp->VK->Prop):Prop:=
 ∀(ee:List (Addr×Obj)) (s:Shared) (σ:St) (H:Hp) (x:V) (xs:List V) (v:Value) (us:List Value) (Q:VK),Inv X ee σ H s->RelV x v->Vals xs us->r x xs H Q->
  wpAny (model X.prog X.w) X.A (call (.builtin id) (v::us)) (EP X ee σ Q) X.xe s
theorem Vals.one{x:V}{us:List Value}(p:Vals [x] us):∃u,us=[u]/\RelV x u:=by
 cases p with
 |cons r t=>cases t;exact⟨_,rfl,r⟩
section
variable{X:Cx}{ee:List (Addr×Obj)}{σ:St}{H:Hp}{s:Shared}{l b:Addr}{xs ys zs:List V}
variable{t' n:Nat}{eA:List Value}
theorem Inv.PK{its' :List Value}{f:Array Value->Array Value}(I:Inv X ee σ H s)(hH:H l=some (.lst xs))
  (e:s.heap.get? l=some {cls:= .type "list",data:= .seq eA.toArray n})(hf:f eA.toArray=its'.toArray)(hv:Vals ys its')(hz:ys.length<=sizeLine):
  Inv X ee σ (upd H l (.lst ys)) {s with heap:=s.heap.update l (Obj.mapSeq f),toks:=t' }:=by
 have q:=PySem.IsL.update e f;rw[hf] at q;refine I.write (x:=l) (e:=l) (by rw[hH];exact trivial) (.inl rfl) (λb' u hb hu=>(GaT s.heap (Obj.mapSeq f) (Gay hb)).trans hu) ⟨_,q⟩ ?_;exact⟨hz,its',_,hv,q⟩
theorem Inv.S4(I:Inv X ee σ H s)(hv:Vals ys eA)(hz:ys.length<=sizeLine):
  Inv X ee σ (upd H s.heap.objs.size (.lst ys)) {s with heap:=s.heap.push {cls:= .type "list",data:= .seq eA.toArray},toks:=t' }:=
 I.laid (λ_ _ q=>Gad _ q) (Gao _) ⟨hz,eA,0,hv,Gat _ rfl⟩
theorem Inv.fresh(I:Inv X ee σ H s):H s.heap.objs.size=none:=I.hok.fresh (Gao _)
theorem Inv.Nk(I:Inv X ee σ H s)(hH:H l=some (.lst xs)):xs.length<=sizeLine/\∃(eA:List Value) (n:Nat),Vals xs eA/\xs.length=eA.length/\s.heap.get? l=some {cls:= .type "list",data:= .seq eA.toArray n}:=by
 obtain⟨z,eA,n,r,e⟩:=I.hok l _ hH;exact⟨z,eA,n,r,r.length,e⟩
theorem Ha(h:n<=sizeLine):Builtin.List.listTooLong n=false:=by
 unfold Builtin.List.listTooLong;exact GaD (by lia)
end
section
variable{X:Cx}
def DR:V->List V->Hp->VK->Prop:=λx vs H Q=>∃l xs y,x= .ref l/\vs=[y]/\H l=some (.lst xs)/\xs.length<sizeLine/\Q .non (upd H l (.lst (xs++[y])))
theorem rV:MtM X "list.append" DR:=by
 intro ee s σ H x vs v us Q I rx rv h;obtain⟨l,xs,y,rfl,rfl,hH,hz,q⟩:=h;cases rx;obtain⟨u,rfl,ru⟩:=rv.one;obtain⟨z,eA,n,r,hl,e⟩:=I.Nk hH;refine call_meets F.slot_list_append ⟨_,e,rfl⟩ F.entry_list_append (F.args_list_append_2 _ _) (PySem.list_append l eA.toArray n u (by rw[Gaj];lia)) ⟨e, ?_⟩;refine⟨.non,_,I.PK (its' :=eA++[u]) hH e (by simp) (r.append (.cons ru .nil)) ?_,rfl,q⟩;rw[Gbb,Gcj];lia
def K8:V->List V->Hp->VK->Prop:=λx vs H Q=>∃l b xs zs,x= .ref l/\vs=[.ref b]/\H l=some (.lst xs)/\H b=some (.lst zs)/\xs.length+zs.length<=sizeLine/\Q .non (upd H l (.lst (xs++zs)))
theorem Fy:MtM X "list.extend" K8:=by
 intro ee s σ H x vs v us Q I rx rv h;obtain⟨l,b,xs,zs,rfl,rfl,hH,hB,hz,q⟩:=h;cases rx;obtain⟨u,rfl,ru⟩:=rv.one;cases ru;obtain⟨z,eA,n,r,hl,e⟩:=I.Nk hH;obtain⟨z2,eX,n2,r2,V3,e2⟩:=I.Nk hB;have hsz:eA.toArray.size+eX.toArray.size<=sizeLine:=by rw[Gaj,Gaj];lia
 have hlong:¬(!eA.toArray.isEmpty&&Builtin.List.listTooLong (eA.toArray.size+eX.toArray.size))=true:=by
  rw[Ha hsz,Gck];exact Gai
 refine call_meets F.slot_list_extend ⟨_,e,rfl⟩ F.entry_list_extend (F.args_list_extend_2 _ _)
  (AutoSeq1.list_extend_list_list_0 l eA.toArray n b eX.toArray n2 hlong (by rw[Gaj];lia) (by lia)) ⟨e,e2, ?_⟩
 refine⟨.non,_,I.PK (its' :=eA++eX) hH e (by simp) (r.append r2) ?_,rfl,q⟩;rw[Gbb];lia
end
section
variable{Y:Type} [DecidableEq Y]
noncomputable def gL(et:List (Y×V))(k:Y):Option V:=(et.find? λkv=>decide (kv.1=k)).map (·.2)
noncomputable def putK(et:List (Y×V))(k:Y)(v:V):List (Y×V):=
 if(et.any λkv=>decide (kv.1=k))=true then et.map (λkv=>if kv.1=k then(kv.1,v) else kv) else et++[(k,v)]
theorem n8{p:Y×V}{r:List (Y×V)}{k:Y}(e:p.1=k):gL (p::r) k=some p.2:=by simp[gL,Gbk,e]
theorem jJ{p:Y×V}{r:List (Y×V)}{k:Y}(e:¬p.1=k):gL (p::r) k=gL r k:=by simp[gL,Gbk,e]
theorem uC(k:Y):∀et:List (Y×V),(et.any λkv=>decide (kv.1=k))=(gL et k).isSome
 |[]=>rfl
 |p::r=>by
  rw[GcJ];by_cases e:p.1=k
  .simp only[n8 e,GaC e,Bool.true_or,Option.isSome_some]
  .rw[jJ e,GaD e,Bool.false_or];exact uC k r
theorem n9(et:List (Y×V))(k:Y)(v:V):(putK et k v).length<=et.length+1:=by
 unfold putK;split
 .rw[Gaq];lia
 .rw[Gbb,Gaz,List.length_nil];lia
theorem Hb{et:List (Y×V)}{k:Y}(v:V)(h:gL et k=none):putK et k v=et++[(k,v)]:=by
 unfold putK;rw[uC,h];exact Gag (by decide)
theorem mR.lx{o:Option V}{u:Option Value}(r:mR o u):o.isSome=u.isSome:=by
 cases o with
 |none=>cases u with
  |none=>rfl
  |some _=>exact(show False from r).elim
 |some _=>cases u with
  |none=>exact(show False from r).elim
  |some _=>rfl
theorem mR.getD{o:Option V}{u:Option Value}{d:V}{d' :Value}(r:mR o u)(rd:RelV d d'):RelV (o.getD d) (u.getD d'):=by
 cases o with
 |none=>cases u with
  |none=>exact rd
  |some _=>exact(show False from r).elim
 |some _=>cases u with
  |none=>exact(show False from r).elim
  |some _=>exact r
theorem KV.val{et:List (Y×V)}{vs:List (Y×Value)}(r:KV et vs)(k:Y):mR (gL et k) (valueAt vs k):=by
 unfold KV at r;induction r with
 |nil=>exact True.intro
 | @cons p q ps qs h t ih=>
  obtain⟨h1,h2⟩:=h;by_cases e:p.1=k
  .have e' :q.1=k:=h1.symm.trans e;have b:valueAt (q::qs) k=some q.2:=by simp[valueAt,Gbk,e']
   rw[n8 e,b];exact h2
  .have e' :¬q.1=k:=λz=>e (h1.trans z);have b:valueAt (q::qs) k=valueAt qs k:=by simp[valueAt,Gbk,e']
   rw[jJ e,b];exact ih
theorem KV.any{et:List (Y×V)}{vs:List (Y×Value)}(r:KV et vs)(k:Y):(et.any λkv=>decide (kv.1=k))=vs.any λkv=>decide (kv.1=k):=by
 unfold KV at r;induction r with
 |nil=>rfl
 |cons h t ih=>rw[GcJ,GcJ,ih,h.1]
variable{u:Value}{y:V}
theorem KV.Nl{et:List (Y×V)}{vs:List (Y×Value)}(r:KV et vs)(k:Y)(ry:RelV y u):
  KV (et.map λkv=>if kv.1=k then(kv.1,y) else kv) (vs.map λkv=>if kv.1=k then(kv.1,u) else kv):=by
 unfold KV at r⊢;induction r with
 |nil=>exact .nil
 | @cons p q ps qs h t ih=>
  rw[Gap,Gap];refine .cons ?_ ih;obtain⟨h1,h2⟩:=h;by_cases e:p.1=k
  .rw[Gaf e,Gaf (h1.symm.trans e)];exact⟨h1,ry⟩
  .rw[Gag e,Gag (λz=>e (h1.trans z))];exact⟨h1,h2⟩
theorem KV.put{et:List (Y×V)}{vs:List (Y×Value)}(r:KV et vs)(k:Y)(ry:RelV y u):KV (putK et k y) (stored vs k u):=by
 unfold putK stored;rw[r.any k];by_cases e:(vs.any λkv=>decide (kv.1=k))=true
 .rw[Gaf e,Gaf e];exact r.Nl k ry
 .rw[Gag e,Gag e];exact Paired.snoc r ⟨rfl,ry⟩
theorem KV.length{et:List (Y×V)}{vs:List (Y×Value)}(r:KV et vs):et.length=vs.length:=Paired.length r
end
variable{u:Value}{w:World}{P:Program}
theorem wK{k:Key}(r:RelV (kV k) u):(cy P w).is k u=true:=by
 cases k with
 |inl i=>obtain⟨t,e⟩:=(show∃t,u=Value.int i t from r);subst e;exact Bf P w i t
 |inr x=>obtain⟨t,e⟩:=(show∃t,u=Value.str x t from r);subst e;exact Bg P w x t
theorem wL{P:Program}{w:World}:∀{ks:List Key} {us:List Value},Vals (ks.map kV) us->ItemsAre (cy P w) ks us
 |[],_,r=>by rw[GbF] at r;cases r;exact .nil
 |k::ks,_,r=>by
  rw[Gap] at r;cases r with
  |cons h t=>exact .cons (wK h) (wL t)
abbrev KT(H:Hp):List (List Key×V)->List (List Key×Addr×Value)->Prop:=Paired λp q=>p.1=q.1/\H q.2.1=some (.tup (p.1.map kV))/\RelV p.2 q.2.2
variable{xs:List (List Key×Addr×Value)}{et:List (List Key×V)}{H:Hp}
theorem KT.val(r:KT H et xs)(k:List Key):mR (gL et k) ((atKey xs k).map (·.2)):=by
 induction r with
 |nil=>exact True.intro
 | @cons p q ps qs h t ih=>
  obtain⟨h1,_,h2⟩:=h;by_cases e:p.1=k
  .have e' :q.1=k:=h1.symm.trans e;have b:atKey (q::qs) k=some q.2:=by simp[atKey,Gbk,e']
   rw[n8 e,b];exact h2
  .have e' :¬q.1=k:=λz=>e (h1.trans z);have b:atKey (q::qs) k=atKey qs k:=by simp[atKey,Gbk,e']
   rw[jJ e,b];exact ih
variable{y:V}
theorem KT.Nl(r:KT H et xs)(k:List Key)(ry:RelV y u):
  KT H (et.map λkv=>if kv.1=k then(kv.1,y) else kv) (xs.map (putAt k u)):=by
 induction r with
 |nil=>exact .nil
 | @cons p q ps qs h t ih=>
  rw[Gap,Gap];refine .cons ?_ ih;obtain⟨h1,h2,h3⟩:=h;unfold putAt;by_cases e:p.1=k
  .rw[Gaf e,Gaf (h1.symm.trans e)];exact⟨h1,h2,ry⟩
  .rw[Gag e,Gag (λz=>e (h1.trans z))];exact⟨h1,h2,h3⟩
variable{b:Addr}
theorem KT.put(r:KT H et xs)(k:List Key)(hb:H b=some (.tup (k.map kV)))(ry:RelV y u):
  KT H (putK et k y) (storedH xs k b u):=by
 have e:(et.any λkv=>decide (kv.1=k))=(atKey xs k).isSome:=by
  rw[uC,(r.val k).lx,Gdc]
 unfold putK storedH;rw[e];by_cases q:(atKey xs k).isSome=true
 .rw[Gaf q,Gaf q];exact r.Nl k ry
 .rw[Gag q,Gag q];exact Paired.snoc r ⟨rfl,hb,ry⟩
theorem KT.keeps{H' :Hp}(r:KT H et xs)(ht:∀b ys,H b=some (.tup ys)->H' b=some (.tup ys)):KT H' et xs:=
 Paired.JO r λ_ _ z=> ⟨z.1,ht _ _ z.2.1,z.2.2⟩
section
variable{P:Program}{w:World}{H:Hp}{h:Heap}{a:Addr}
theorem LW{u:HO}(ok:HOk P w H h)(e:Rd H a u):bx P w H h a u:=e.ok ok
variable{et:List (Key×V)}
theorem sU(ok:HOk P w H h)(e:Rd H a (.dK et)):et.length<=sizeLine/\(a==sysModules)=false/\∃vs,KV et vs/\h.DictOf (cy P w) a vs:=
 show bx P w H h a (.dK et) from LW ok e
theorem PL(ok:HOk P w H h)(e:H a=some (.dK et)):et.length<=sizeLine/\(a==sysModules)=false/\∃vs,KV et vs/\h.DictOf (cy P w) a vs:=sU ok (.inl e)
theorem kS{ks:List Key}(ok:HOk P w H h)(e:H a=some (.tup (ks.map kV))):(tupleKind (cy P w)).is h ks a:=by
 obtain⟨_,eA,r,o,h1,h2,n,h3⟩:=(show bx P w H h a (.tup (ks.map kV)) from ok a _ e)
 exact⟨o,eA.toArray,n,h1,h2,h3,by simpa using wL r⟩
theorem uD{et:List (List Key×V)}(ok:HOk P w H h)(e:Rd H a (.dT et)):et.length<=sizeLine/\(a==sysModules)=false/\
  ∃xs,KT H et xs/\h.DictOfH (tupleKind (cy P w)) a xs:=by
 obtain⟨z,y,xs,r,o,es,ep,h1,h2,h3,h4,h5⟩:=(show bx P w H h a (.dT et) from LW ok e)
 refine⟨z,y,xs,r,o,es,ep,h1,h2,h3,h4,λx hx=> ?_,h5⟩;have all:∀{l:List (List Key×V)} {m:List (List Key×Addr×Value)},KT H l m->∀x∈m,(tupleKind (cy P w)).is h x.1 x.2.1:=by
  intro l m q;induction q with
  |nil=>intro x hx;exact nomatch hx
  | @cons p q ps qs hq t ih=>
   intro x hx;rcases Gaw.mp hx with e|hx
   .subst e;exact kS ok (by rw[<-hq.1];exact hq.2.1)
   .exact ih x hx
 exact all r x hx
theorem DU{et:List (List Key×V)}(ok:HOk P w H h)(e:H a=some (.dT et)):et.length<=sizeLine/\(a==sysModules)=false/\
  ∃xs,KT H et xs/\h.DictOfH (tupleKind (cy P w)) a xs:=uD ok (.inl e)
end
def pO(H:Hp)(a:Addr)(y:V)(r:Option V):Prop:=
 (∃et k,Rd H a (.dK et)/\y=kV k/\r=gL et k)\/∃et k b,Rd H a (.dT et)/\y= .ref b/\H b=some (.tup (k.map kV))/\r=gL et k
def Aw(H:Hp)(a:Addr)(y v:V)(H' :Hp):Prop:=
 (∃et k,H a=some (.dK et)/\y=kV k/\et.length<sizeLine/\H' =upd H a (.dK (putK et k v)))\/
 ∃et k b,H a=some (.dT et)/\y= .ref b/\H b=some (.tup (k.map kV))/\et.length<sizeLine/\H' =upd H a (.dT (putK et k v))
theorem pO.k{H:Hp}{a:Addr}{et:List (Key×V)}{k:Key}(e:H a=some (.dK et)):pO H a (kV k) (gL et k):= .inl ⟨et,k,.inl e,rfl,rfl⟩
variable{a:Addr}
theorem pO.t{k:List Key}(e:H a=some (.dT et))(eb:H b=some (.tup (k.map kV))):pO H a (.ref b) (gL et k):= .inr ⟨et,k,b,.inl e,rfl,eb,rfl⟩
theorem Aw.k{H:Hp}{a:Addr}{et:List (Key×V)}{k:Key}{v:V}(e:H a=some (.dK et))(hl:et.length<sizeLine):Aw H a (kV k) v (upd H a (.dK (putK et k v))):= .inl ⟨et,k,e,rfl,hl,rfl⟩
theorem Aw.t{k:List Key}{v:V}(e:H a=some (.dT et))(eb:H b=some (.tup (k.map kV)))(hl:et.length<sizeLine):
  Aw H a (.ref b) v (upd H a (.dT (putK et k v))):= .inr ⟨et,k,b,e,rfl,eb,hl,rfl⟩
section
variable{X:Cx}{ee:List (Addr×Obj)}{σ:St}{H:Hp}{s:Shared}{a:Addr}{y v:V}{u r:Value}{o:Option V}{A:Around}{E:Value->Shared->Prop}
theorem Inv.big(I:Inv X ee σ H s):sysModules<s.heap.objs.size:=by
 have h:mainGlobals<s.heap.objs.size:=(I.mod.glob.keeps I.bk).lt;exact Nat.lt_trans (by decide) h
theorem Fz{Q:Value->Shared->Prop}(hu:A.units+1<cLine)(I:Inv X ee σ H s)(g:pO H a y (some v))(ry:RelV y u)(h:∀w' s',Inv X ee σ H s' ->RelV v w' ->Q w' s'):
  wpAny (model X.prog X.w) A (getItem (.ref a) u) Q E s:=by
 rcases g with⟨et,k,e,ey,l⟩| ⟨et,k,b,e,ey,eb,l⟩
 .subst ey;obtain⟨z,hd,vs,rel,dd⟩:=sU I.hok e;obtain⟨w',hw,yt⟩:=mR.some_of (v:=v) (o:=valueAt vs k) (by rw[l];exact rel.val k);exact wpAny_getItem_of (wK ry) dd.mapOf hw (h w' _ (I.tok _) yt)
 .subst ey;cases(show u=Value.ref b from ry);obtain⟨z,hd,xs,rel,dd⟩:=uD I.hok e;obtain⟨w',hw,yt⟩:=mR.some_of (v:=v) (o:=(atKey xs k).map (·.2)) (by rw[l];exact rel.val k);obtain⟨p,hp,VH⟩:=Gac.mp hw;refine wpAny_getItem_heap (Gbv hu) (kS I.hok eb) dd hp ?_;rw[VH];exact h w' _ (I.tok _) yt
theorem S5{Q:Value->Shared->Prop}(hu:A.units+1<cLine)(I:Inv X ee σ H s)(g:pO H a y o)(ry:RelV y u)(h:∀s',Inv X ee σ H s' ->Q (.bool o.isSome) s'):
  wpAny (model X.prog X.w) A (compareOp .In u (.ref a)) Q E s:=by
 rcases g with⟨et,k,e,ey,l⟩| ⟨et,k,b,e,ey,eb,l⟩
 .subst ey;obtain⟨z,hd,vs,rel,dd⟩:=sU I.hok e;refine wpAny_in_of (wK ry) hd dd.mapOf ?_;rw[<-(rel.val k).lx,<-l];exact h _ (I.tok _)
 .subst ey;cases(show u=Value.ref b from ry);obtain⟨z,hd,xs,rel,dd⟩:=uD I.hok e;refine wpAny_in_heap (Gbv hu) (kS I.hok eb) hd dd ?_;have q:=(rel.val k).lx;rw[Gdc] at q;rw[<-q,<-l];exact h _ (I.tok _)
theorem K9{Q:Value->Shared->Prop}(hu:A.units+1<cLine)(I:Inv X ee σ H s)(g:pO H a y o)(ry:RelV y u)(h:∀s',Inv X ee σ H s' ->Q (.bool (!o.isSome)) s'):
  wpAny (model X.prog X.w) A (compareOp .NotIn u (.ref a)) Q E s:=by
 rcases g with⟨et,k,e,ey,l⟩| ⟨et,k,b,e,ey,eb,l⟩
 .subst ey;obtain⟨z,hd,vs,rel,dd⟩:=sU I.hok e;refine wpAny_notIn_of (wK ry) hd dd.mapOf ?_;rw[<-(rel.val k).lx,<-l];exact h _ (I.tok _)
 .subst ey;cases(show u=Value.ref b from ry);obtain⟨z,hd,xs,rel,dd⟩:=uD I.hok e;refine wpAny_notIn_heap (Gbv hu) (kS I.hok eb) hd dd ?_;have q:=(rel.val k).lx;rw[Gdc] at q;rw[<-q,<-l];exact h _ (I.tok _)
variable{h' :Heap}
theorem qu{t' :Nat}{ob:HO}(I:Inv X ee σ H s)(mu:Mut (H a))(hs:Heap.SameBut a s.heap h')(he:∃q,h'.get? a=some q)(new:bx X.prog X.w (upd H a ob) h' a ob):
  Inv X ee σ (upd H a ob) {s with heap:=h',toks:=t' }:=
 I.write (x:=a) (e:=a) mu (.inl rfl) (λb q hb z=>(hs.2 b hb).trans z) he new
variable{H' :Hp}
theorem Nm{P:Program}{w:World}{et:List (Key×V)}{vs:List (Key×Value)}(z:et.length<=sizeLine)(hd:(a==sysModules)=false)(rel:KV et vs)(dd:h'.DictOf (cy P w) a vs):
  bx P w H' h' a (.dK et):=⟨z,hd,vs,rel,dd⟩
theorem FA{Q:Unit->Shared->Prop}(hu:A.units+1<cLine)(I:Inv X ee σ H s)(g:Aw H a y v H')(ry:RelV y u)(rv:RelV v r)(h:∀s',Inv X ee σ H' s' ->Q () s'):
  wpAny (model X.prog X.w) A (setItem (.ref a) u r) Q E s:=by
 rcases g with⟨et,k,e,ey,l,eH⟩| ⟨et,k,b,e,ey,eb,l,eH⟩
 .subst ey eH;obtain⟨z,hd,vs,rel,dd⟩:=PL I.hok e;have hz:vs.length<=sizeLine:=by rw[<-rel.length];exact z
  have hl:(putK et k v).length<=sizeLine:=by have:=n9 et k v;lia
  refine wpAny_setItem_pairs (hsz:=hz) (wK ry) dd λh' zt hs=>h _ ?_;have he:∃q,h'.get? a=some q:=let⟨q,_,_,hq,_⟩:=zt;⟨q,hq⟩
  exact qu I (by rw[e];exact True.intro) hs he (Nm hl hd (rel.put k rv) zt)
 .subst ey eH;cases(show u=Value.ref b from ry);obtain⟨z,hd,xs,rel,dd⟩:=DU I.hok e;have hz:xs.length<=sizeLine:=by rw[<-Paired.length rel];exact z
  have hl:(putK et k v).length<=sizeLine:=by have:=n9 et k v;lia
  refine wpAny_setItem_heap (hsz:=hz) (Gbv hu) (kS I.hok eb) dd λh' zt hs=>h _ ?_;obtain⟨q,es,ep,hq,h2,h3,h4,_,h5⟩:=zt;refine qu I (by rw[e];exact True.intro) hs ⟨q,hq⟩ ⟨hl,hd,_,(rel.put k eb rv).keeps λc ys ec=> ?_,q,es,ep,hq,h2,h3,h4,h5⟩;rw[ak (oR ec e (λz=>nomatch z))];exact ec
end
section
variable{X:Cx}{ee:List (Addr×Obj)}{σ:St}{H:Hp}{s:Shared}{a:Addr}{et:List (Key×V)}{k:Key}{u:Value}{A:Around}{E:Value->Shared->Prop}
theorem PM{Q:Value->Shared->Prop}(I:Inv X ee σ H s)(e:Rd H a (.dK et))(h:∀t s',Inv X ee σ H s' ->Q (.int et.length t) s'):wpAny (model X.prog X.w) A (call (.builtin "len") [.ref a]) Q E s:=by
 obtain⟨z,hd,vs,rel,dd⟩:=sU I.hok e;refine call_len_dict hd dd (by rw[<-rel.length];rw[Gbc] at z;lia) ?_;rw[<-rel.length];exact h _ _ (I.tok _)
end
variable{s:Shared}{σ:St}{ee:List (Addr×Obj)}{X:Cx}
theorem Bq{o:Option V}(I:Inv X ee σ H s)(g:pO H a y o):s.TypeIs (.ref a) "dict":=by
 rcases g with⟨et,k,e,_,_⟩| ⟨et,k,b,e,_,_,_⟩
 .obtain⟨_,_,vs,_,dd⟩:=sU I.hok e;exact dd.typeIs
 .obtain⟨_,_,xs,_,dd⟩:=uD I.hok e;exact dd.typeIs
theorem Hc(h:Heap)(hb:sysModules<h.objs.size):bx P w H (h.push {cls:= .type "dict",data:= .dict #[]}) h.objs.size (.dT []):=
 ⟨GaX _,GbP.mpr (Gay (Gau hb)),[],.nil,_,#[],0,Gat _ rfl,⟨rfl,rfl,rfl⟩,rfl,rfl,List.nodup_nil⟩
def Np:TE:=λ_ H Q=>∀p,H p=none->Q (.ref p) (upd H p (.dT []))
section
variable{X:Cx}{pos:Pos}
theorem Br:PE X (.Dict [] [] pos) Np:=λee s σ H Q I h=>
 wpAny_Dict_empty ⟨.ref s.heap.objs.size,_,I.laid (a:=s.heap.objs.size) (o:= .dT []) (t' :=s.toks) (λ_ _ q=>Gad _ q) (Gao _) (Hc s.heap I.big),rfl,h _ (I.hok.fresh (Gao _))⟩
end
structure M1(X:Cx)(o:Expr)(m:Str)(apos:Pos)(e:Expr)(eL:Pos):Prop where
 base:attributeBase o m X.env (eval o X.env)=eval o X.env
 few:((backTo eL (starEach [e] X.env)).all (λx=> !x.1)&&(backToKw eL (keywordEach [] X.env)).all (λx=>x.1.isSome)
  &&decide (([e]:List Expr).length+([]:List Keyword).length+(if([]:List Keyword).isEmpty then 0 else 1)<30))=true
 line:(apos.endLine==eL.line)=true
 trees:backTo eL (starEach [e] X.env)=[(false,eval e X.env)]
structure M2(X:Cx)(o:Expr)(m:Str)(apos:Pos)(e f:Expr)(eL:Pos):Prop where
 base:attributeBase o m X.env (eval o X.env)=eval o X.env
 few:((backTo eL (starEach [e,f] X.env)).all (λx=> !x.1)&&(backToKw eL (keywordEach [] X.env)).all (λx=>x.1.isSome)
  &&decide (([e,f]:List Expr).length+([]:List Keyword).length+(if([]:List Keyword).isEmpty then 0 else 1)<30))=true
 line:(apos.endLine==eL.line)=true
 trees:backTo eL (starEach [e,f] X.env)=[(false,eval e X.env),(false,eval f X.env)]
def IsD(H:Hp)(a:Addr):Prop:=(∃et,Rd H a (.dK et))\/∃et,Rd H a (.dT et)
theorem Ax(I:Inv X ee σ H s)(d:IsD H a):
  s.TypeIs (.ref a) "dict"/\(∀b,Value.ref a= .ref b->∃ob,s.heap.get? b=some ob/\ob.dict=none)/\(a==sysModules)=false:=by
 rcases d with⟨et,e⟩| ⟨et,e⟩
 .obtain⟨_,hd,vs,_,dd⟩:=sU I.hok e;refine⟨dd.typeIs,λb q=> ?_,hd⟩;cases q;obtain⟨ob,_,_,h1,h2,_⟩:=dd;exact⟨ob,h1,h2.2.1⟩
 .obtain⟨_,hd,xs,_,dd⟩:=uD I.hok e;refine⟨dd.typeIs,λb q=> ?_,hd⟩;cases q;obtain⟨ob,_,_,h1,h2,_⟩:=dd;exact⟨ob,h1,h2.2.1⟩
section
variable{X:Cx}{ee:List (Addr×Obj)}{σ:St}{H:Hp}{s:Shared}{a:Addr}{y d:V}{u r:Value}{o:Option V}{A:Around}{E:Value->Shared->Prop}
theorem Nq{Q:Value->Shared->Prop}(hu:A.units+1<cLine)(I:Inv X ee σ H s)(g:pO H a y o)(ry:RelV y u)(rd:RelV d r)(h:∀w' s',Inv X ee σ H s' ->RelV (o.getD d) w' ->Q w' s'):
  wpAny (model X.prog X.w) A (call (.builtin "dict.get") [.ref a,u,r]) Q E s:=by
 rcases g with⟨et,k,e,ey,l⟩| ⟨et,k,b,e,ey,eb,l⟩
 .subst ey;obtain⟨z,hd,vs,rel,dd⟩:=sU I.hok e;refine GcU GcP dd.typeIs PySem.F.entry_dict_get (PySem.F.args_dict_get_3 _ _ _) (meets_dict_get_default (cy X.prog X.w) a (wK ry) hd r) ⟨_,dd.mapOf,h _ _ (I.tok _) ?_⟩;rw[l];exact(rel.val k).getD rd
 .subst ey;cases(show u=Value.ref b from ry);obtain⟨z,hd,xs,rel,dd⟩:=uD I.hok e;refine GcU GcP dd.typeIs PySem.F.entry_dict_get (PySem.F.args_dict_get_3 _ _ _) (meetsH_dict_get_default (tupleKind (cy X.prog X.w)) a b hd r) ⟨Gbv hu,k,xs,kS I.hok eb,dd,h _ _ (I.tok _) ?_⟩;rw[l];exact(rel.val k).getD rd
end
def Nr(td ty tx:TE):TE:=λσ H Q=>td σ H λx H1=>∃a,x= .ref a/\IsD H1 a/\ty σ H1 λy H2=>tx σ H2 λz H3=>∃o,pO H3 a y o/\Q (o.getD z) H3
section
variable{X:Cx}{o e f:Expr}{apos eL:Pos}{td ty tx:TE}
theorem He(hu:X.A.units+1<cLine)(ho:PE X o td)(he:PE X e ty)(hf:PE X f tx)(m:M2 X o "get" apos e f eL):PE X (.Call (.Attribute o "get" apos) [e,f] [] eL) (Nr td ty tx):=by
 intro ee s σ H Q I h;refine GcC m.base m.few m.line GbS GcP PySem.F.type_dict_get (thn (ho ee s σ H _ I h) λu s1 ⟨x,H1,I1,rx,a,ex,d,q1⟩=> ?_);subst ex;obtain rfl:u=Value.ref a:=rx;obtain⟨t1,t2,_⟩:=Ax I1 d;refine⟨t1,t2, ?_⟩;rw[m.trees];refine Gbq rfl (GbL (Gbt (thn (he ee s1 σ H1 _ I1 q1) λiv s2 ⟨y,H2,I2,ry,q2⟩=>
  Gbt (thn (hf ee s2 σ H2 _ I2 q2) λfv s3 ⟨z,H3,I3,rz,ov,g,q3⟩=>Gce ?_))))
 exact Nq hu I3 g ry rz λw' s4 I4 yt => ⟨_,H3,I4,yt,q3⟩
end
end L2
namespace Att
open PySem PySem.W PySem.Calls PyProof.Rows
variable{h:Heap}{P:Params}
theorem tP:∀(ns:List Int) (vs:List Value),WellAll P h vs (ns.map WData.int)->IntsAre vs ns:=by
 intro ns;induction ns with
 |nil=>
  intro vs w;rw[GbF] at w;cases w;exact .nil
 |cons n ns ih=>
  intro vs w;rw[Gap] at w;cases w with
  |cons a b=>
   cases a;exact .cons _ _ (ih _ b)
variable{n:Nat}
theorem FC{l:OpenLaw}(hn:l.most=some n){args:List WData}{vals:List Value}
  (zd:l.row.toRowW.claim.pre args=true)(Uj:WellAll P h vals args):
  ∃a vs ns,vals=[Value.ref a]/\args=[WData.list (ns.map WData.int)]/\h.get? a=some {cls:= .type "list",data:= .seq vs.toArray}/\IntsAre vs ns/\ns.length<=n:=by
 have hsh:WShape.hasAll [] args [.list .int]=true:=(pre_splitW zd).1;have hc:l.pre.holds [] {args:=args}=true:=(pre_splitW zd).2;obtain⟨d,r,rfl,h1,h2⟩:=hasAllW_cons hsh;obtain rfl:=hasAllW_nil h2;obtain⟨xs,rfl,h3⟩:=hasW_list h1;obtain⟨ns,rfl⟩:=items_int h3;have h8:ns.length<=n:=by
  unfold OpenLaw.pre at hc;have h4:(WTm.not (.lt (.lit (.int (n:Int))) (.len (.arg 0)))).holds [] {args:=[.list (ns.map .int)]}=true:=by
   have h4:=(holds_andW hc).1;rw[hn] at h4;exact h4
  have h5:=condW_of h4 (w_not (w_lt w_lit (w_len_list (w_arg rfl))));rw[Gaq] at h5;refine Gco λq=> ?_;have q' :(n:Int)<((ns.length:Nat):Int):=by lia
  first
   |(rw[GaC q'] at h5;exact absurd h5 (by decide))
   |(simp at h5;lia)
 cases Uj with
 |cons w1 w2=>
  cases w2;cases w1 with
  |list ho hall=>exact⟨_,_,ns,rfl,rfl,ho,tP ns _ hall,h8⟩
theorem FD(l:OpenLaw)(args:List WData):l.row.toRowW.claim.post args (.bool true) args=true:=
 postW_of (r:=l.row.toRowW) (X:=(true==true))
  (show WShape.has [] (.bool true) .bool=true by first|rfl|decide|simp[WShape.has,WShape.arms,WShape.armsAll])
  (show(WTm.eq .res (.lit (.bool true))).value [] {args:=args,res:=some (.bool true),after:=args}=some (.bool (true==true)) from w_eq_bool (w_res rfl) w_lit) rfl
theorem Bs{l:OpenLaw}{q:Program}{loose:List Str}{XP:(Str->Option Value)->Heap->Prop}{YP:World->Heap->Prop}{d:DefRec}
  (hn:l.most=some n)(zf:d.params.defaults=[])
  (call:∀(w:World) (s₀ s₁:Shared) (mg mb:Str->Option Value) (fa:Addr) (o:Obj) (pm cd doc:Value) (a:Addr) (vs:List Value) (ns:List Int),
   Ground q loose [] XP w s₀ mg mb s₁.heap->YP w s₁.heap->
   s₁.heap.get? fa=some o->o.data= .func (docDef d.name d.params d.body d.scope pm cd doc)->s₁.heap.CodeRec cd d.name->mg d.name=some (.ref fa)->
   s₁.heap.get? a=some {cls:= .type "list",data:= .seq vs.toArray}->IntsAre vs ns->ns.length<=n->s₁.gens=#[]->
   codeAny (model l.prog w) callerA (.call (.ref fa) ⟨[.ref a],[]⟩) (λr s' =>r= .ok (.ret (.bool true))/\OldK s₁.heap s'.heap/\s'.os=s₁.os/\AllBare s'.gens) s₁):
  WalkO q loose XP YP l.row.toRowW d [] (λf vs=>PySem.call f vs):=by
 intro w s₀ s₁ mg mb G Y fa o pm cd doc dV kV ho hd xp hD zN hg args vals as zd hlay hrd Uj hlo;obtain rfl:dV= .none:=Dflts.none hD zf;obtain rfl:kV= .none:=Dflts.noKw hD;obtain⟨a,vs,ns,rfl,rfl,zK,hints,h8⟩:=FC hn zd Uj;refine enter_call (Gch (call w s₀ s₁ mg mb fa o pm cd doc a vs ns G Y ho (fd_plain hd) xp zN zK hints h8 hg) λr s' hq=> ?_);obtain⟨rfl,h2,h3,h4⟩:=hq;exact⟨.inl ⟨.bool true,.bool true,[],rfl,λ_=>rfl,.bool true,FD l _,λ_=> ⟨List.Pairwise.nil,λ_ hm=>(nomatch hm)⟩⟩,h2,h3,h4⟩
end Att
namespace L2
open PySem PySem.Spec PyProof.Rows
variable{ns:List Int}{vs:List Value}
theorem rW(p:IntsAre vs ns):Vals (ns.map V.int) vs:=by
 induction p with
 |nil=>exact .nil
 |cons n t h ih=>exact .cons ⟨t,rfl⟩ ih
def Ka(H:Hp):Prop:=∀b,H b=none\/∃o xs,H b=some (.frz o (.lst xs))
theorem Hg{P:Program}{w:World}{K:PySem.W.Frag}{mg mb:Str->Option Value}{CX:CXT}{k:Nat}{fa a:Addr}{fd:FuncData}{x:Str}{sp:Sp}{s₁:Shared}
  (KX:K.In s₁.heap)(TL:s₁.heap.Ns mainGlobals mg)(hb:s₁.heap.Ns builtinsNs mb)(UC:∀x:Str,x≠"__name__"->mb x=bootBuiltins x)(Ut:s₁.heap.NoLimit)(hg:s₁.gens=#[])
  (ha:s₁.heap.get? a=some {cls:= .type "list",data:= .seq vs.toArray})(hi:IntsAre vs ns)(hl:ns.length<=sizeLine)(hr:cP k callerA)
  (F:∀base:Heap,K.In base->base.Ns mainGlobals mg->bu P w K mg base CX k fa fd [x] sp)(Tj:∀(s:Shared) (u:Value),BindsTo s fd ⟨[u],[]⟩ [(x,u)])
  (yA:∀H:Hp,Ka H->SqL K H a (ns.map V.int)->sp [.ref a] H (λv _=>v= .bl true) λ_ _ _=>False)
  (UE:∀H e s',CX [] H s₁ (λ_ _ _=>False) e s' ->False):
  codeAny (model P w) callerA (.call (.ref fa) ⟨[.ref a],[]⟩) (λr s' =>r= .ok (.ret (.bool true))/\OldK s₁.heap s'.heap/\s'.os=s₁.os/\AllBare s'.gens) s₁:=by
 have rv:=rW hi;have lenV:=hi.length;have core:∀H:Hp,Ka H->SqL K H a (ns.map V.int)->HOk P w H s₁.heap->(∀b,H b≠none->b=a)->(H a≠none->K.lookup a=none)->
   codeAny (model P w) callerA (.call (.ref fa) ⟨[.ref a],[]⟩) (λr s' =>r= .ok (.ret (.bool true))/\OldK s₁.heap s'.heap/\s'.os=s₁.os/\AllBare s'.gens) s₁:=by
  intro H hO hS hok hA hK;have base_of:∀{b:Addr} {o:Obj},s₁.heap.get? b=some o->H b=none->(Ao s₁.heap H).get? b=some o:=λe n=>GB e n;have noA:∀{b:Addr} {o:Obj} {es:Array DictEntry} {ep:Nat},s₁.heap.get? b=some o->o.data= .dict es ep->H b=none:=λ{b o es ep} e d=>by
   cases q:H b with
   |none=>rfl
   |some u=>
    have e' :b=a:=hA b (by rw[q];simp);subst e';rw[ha] at e;cases e
    have d' :Data.seq vs.toArray _=Data.dict es ep:=d;cases d'
  have nsK:∀{b:Addr} {m:Str->Option Value},s₁.heap.Ns b m->(Ao s₁.heap H).Ns b m:=λ{b m} ⟨o,es,ep,e,d,r⟩=> ⟨o,es,ep,base_of e (noA e d),d,r⟩;have V4:K.In (Ao s₁.heap H):=λb o e=>base_of (KX b o e) (by
   cases q:H b with
   |none=>rfl
   |some u=>
    have e' :b=a:=hA b (by rw[q];simp);subst e';rw[hK (by rw[q];simp)] at e;cases e)
  have hM:Mod K mg (Ao s₁.heap H):=⟨V4,nsK TL,⟨mb,nsK hb,UC⟩,let⟨mc,h1,h2⟩:=Ut;⟨mc,nsK h1,h2⟩⟩
  have e0:Cv P w K mg (Ao s₁.heap H) callerA [] s₁ H:=⟨rfl,hM,λb o e=>JP e,Nat.le_of_eq (Fl _ _),trivial,λb hb=>absurd (show b∈([]:List Addr) from hb) (by simp),hok,.of_eq hg⟩
  refine Gch ((F _ V4 (nsK TL)).run callerA [] s₁ H ⟨[.ref a],[]⟩ [.ref a] [.ref a] _ _ hr e0 (Tj s₁ (.ref a)) (.cons rfl .nil) (yA H hO hS)) λr s' h=> ?_;cases r with
  |error e=>exact(UE H e s' h).elim
  |ok fl=>
   cases fl with
   |next=>exact False.elim h
   |brk=>exact False.elim h
   |cont=>exact False.elim h
   |ret u=>
    obtain⟨v,H',os,bare,un,ze,r',q⟩:=h;have q' :v= .bl true:=q;subst q';obtain rfl:u=Value.bool true:=r';refine⟨rfl,OldK.of_keep λb o e=> ?_,os,bare⟩;cases q:H b with
    |none=>exact un.keep b o e q (by intro z;exact absurd (show b∈([]:List Addr) from z) (by simp)) (by simp)
    |some u=>
     rcases hO b with z| ⟨ob,xs,z⟩
     .rw[q] at z;cases z
     .have z2:=un.mL b ob _ z;obtain⟨e1,_⟩:=hok b _ z;obtain⟨e2,_⟩:=ze b _ z2;rw[e] at e1;cases e1
      exact e2
 cases hk:K.lookup a with
 |some o=>
  have e:=KX a o hk;rw[ha] at e;cases e;refine core (λ_=>none) (λ_=> .inl rfl) (.inr ⟨_,vs.toArray,_,hk,rfl,rfl,rfl,by rw[Gaj,lenV];exact hl,by simpa using rv⟩) (λb u z=>by have z' :(none:Option HO)=some u:=z;cases z') (λb z=>absurd rfl z) λz=>absurd rfl z
 |none=>
  refine core (λb=>if b=a then some (.frz {cls:= .type "list",data:= .seq vs.toArray} (.lst (ns.map V.int))) else none) (λb=> ?_) (.inl (.inr ⟨{cls:= .type "list",data:= .seq vs.toArray},Gaf rfl⟩)) (λb u z=> ?_) (λb z=> ?_) λ_=>hk
  .by_cases hb:b=a
   .exact .inr ⟨_,_,Gaf hb⟩
   .exact .inl (Gag hb)
  .by_cases hb:b=a
   .have z' :=(Gaf hb).symm.trans z;cases z';subst hb;exact⟨ha,by rw[Gaq];exact hl,vs,_,rv,ha⟩
   .have z' :=(Gag hb).symm.trans z;cases z'
  .by_cases hb:b=a
   .exact hb
   .exact absurd (Gag hb) z
theorem Kb{l:PySem.W.OpenLaw}{n k:Nat}{q:Program}{loose:List Str}{XP:(Str->Option Value)->Heap->Prop}{YP:World->Heap->Prop}{d:DefRec}{K:Params->PySem.W.Frag}{CX:World->CXT}{sp:World->Sp}{x:Str}
  (hn:l.most=some n)(SN:n<=sizeLine)(zf:d.params.defaults=[])(hr:cP k callerA)
  (hY:∀(w:World) (h:Heap),YP w h->(K w.params).In h)
  (F:∀(w:World) (mg:Str->Option Value) (fa:Addr) (h:Heap),(K w.params).In h->h.Ns mainGlobals mg->mg d.name=some (.ref fa)->
   ∃fd:FuncData,(∀(s:Shared) (u:Value),BindsTo s fd ⟨[u],[]⟩ [(x,u)])/\
    ∀base:Heap,(K w.params).In base->base.Ns mainGlobals mg->bu l.prog w (K w.params) mg base (CX w) k fa fd [x] (sp w))
  (yA:∀(w:World) (H:Hp) (a:Addr) (ns:List Int),ns.length<=n->Ka H->SqL (K w.params) H a (ns.map V.int)->sp w [.ref a] H (λv _=>v= .bl true) λ_ _ _=>False)
  (UE:∀(w:World) (H:Hp) (s:Shared) (e:Value) (s' :Shared),CX w [] H s (λ_ _ _=>False) e s' ->False):
  PySem.W.WalkO q loose XP YP l.row.toRowW d [] (λf vs=>PySem.call f vs):=by
 refine Att.Bs hn zf λw s₀ s₁ mg mb fa o pm cd doc a vs ns G Y ho hd xp zN zK hints h8 hg=> ?_;have KX:=hY w _ Y;obtain⟨fd,hb,hF⟩:=F w mg fa _ KX G.T.g zN;exact Hg KX G.T.g G.T.b G.T.builtins G.T.nolimit hg zK hints (GaQ h8 SN) hr hF hb (λH hO hS=>yA w H a ns h8 hO hS) λH e s' =>UE w H s₁ e s'
noncomputable def jo(s:Stmt):Arguments:=match s with
 | .FunctionDef _ a _ _ _ _ _ _ _ _=>a
 |_=>{posonlyargs:=[],args:=[],vararg:=none,kwonlyargs:=[],kw_defaults:=[],kwarg:=none,defaults:=[]}
noncomputable def dJ(s:Stmt):List Stmt:=match s with
 | .FunctionDef _ _ b _ _ _ _ _ _ _=>b
 |_=>[]
noncomputable def ar(s:Stmt):Scope:=match s with
 | .FunctionDef _ _ _ _ _ _ sc _ _ _=>sc
 |_=>{kind:= .function,names:=[],isGenerator:=false,isCoroutine:=false}
noncomputable abbrev CX0:CXT:=λ_ _ _ _ _ _=>False
noncomputable abbrev E0:XK:=λ_ _ _=>False
theorem uE{X:Cx}:Passes CX0 X E0:=λ_ _ _ _ _ _ _ h=>h.elim
structure Fun(K:PySem.W.Frag)(x qual:Str)(st:Stmt)(f:Addr)(fd:FuncData):Prop where
 ex:∃(oc:Value) (od:Option Addr) (kV doc pm:Value) (an:Option Addr) (eR ct:Value) (yS:Array (Option Value)),
  fd=PySem.W.fnOf x qual (jo st) (dJ st) (ar st) .none kV doc pm an eR ct/\K.lookup f=some ⟨oc,od,.func fd,yS⟩/\PySem.W.codeIn K eR qual=true
 kp:PySem.W.keepIn K (.ref f)=true
section
variable{P:Program}{w:World}{K:PySem.W.Frag}{mg:Str->Option Value}{base:Heap}
variable{f:Addr}{st:Stmt}{x qual:Str}
theorem Fun.ok{fd:FuncData}{N ps:List Str}{k:Nat}{sp:Sp}(F:Fun K x qual st f fd)(S:aM N ps (ar st))(len:∀vs H Q E,sp vs H Q E->vs.length=ps.length)
  (xl:∀(eR:Value) (A:Around) (outer:List Env) (s:Shared) (H:Hp) (vs:List V) (Q:VK) (E:XK),cP k (A.deeper (envOfC qual (ar st) s.heap.objs.size f eR))->sp vs H Q E->
   ∃t,PSs (jn CX0 P w K mg base N qual (ar st) f eR A outer s H E).nox (dJ st) t/\t {nx:=λ_ H' =>Q .non H',rt:=Q} (start N vs) H):bu P w K mg base CX0 (k+1) f fd ps sp:=by
 obtain⟨oc,od,kV,doc,pm,an,eR,ct,yS,rfl,lk,xp⟩:=F.ex;refine DH lk xp S len λA outer s H vs Q E hr yA=> ?_;obtain⟨t,h,q⟩:=xl eR A outer s H vs Q E hr yA;exact⟨t,h.nox,q⟩
theorem Hh{oc:Value}{od an:Option Addr}{yS:Array (Option Value)}{kV doc pm eR ct:Value}(l:K.lookup f=some ⟨oc,od,.func (PySem.W.fnOf x qual (jo st) (dJ st) (ar st) .none kV doc pm an eR ct),yS⟩)
  (c:PySem.W.codeIn K eR qual=true)(k:PySem.W.keepIn K (.ref f)=true):Fun K x qual st f (PySem.W.fnOf x qual (jo st) (dJ st) (ar st) .none kV doc pm an eR ct):=⟨⟨oc,od,kV,doc,pm,an,eR,ct,yS,rfl,l,c⟩,k⟩
end
theorem cD{A:Around}{k:Nat}(hr:cP k A):A.units+1<cLine:=Nat.lt_of_le_of_lt (Nat.add_le_add_left (by decide:1<=64) _) hr.units
def bz(H H' :Hp):Prop:=∀b o,H b=some o->H' b=some o
variable{H:Hp}
theorem bz.trans{H1 H2:Hp}(a:bz H H1)(b:bz H1 H2):bz H H2:=λc o h=>b c o (a c o h)
theorem bz.free{H' :Hp}(e:bz H H'){l:Addr}(h:H' l=Option.none):H l=Option.none:=by
 cases q:H l with
 |none=>rfl
 |some o=>
  rw[e l o q] at h;cases h
end L2
namespace Hd
noncomputable section
open PySem PySem.W PyProof.Rows L2
def Hj(p:Program)(w:World)(m:Nat)(ann:Option Value)(q:SharedT×Thread):Option (SharedT×Thread):=bif stepOk m ann q.2 then stepT (denote treeTable) p w q.1 q.2 else none
def goT(p:Program)(w:World)(m:Nat)(ann:Option Value)(N:Nat):SharedT×Thread->Option SharedT:=
 N.rec (λ_=>none) λ_ go q=>bif through q.2 then some q.1 else(Hj p w m ann q).bind go
variable{ann:Option Value}{m:Nat}{p:Program}
theorem Kc{w:World}{r:SharedT}(N:Nat):∀q:SharedT×Thread,goT p w m ann N q=some r->topRun treeTable p w m ann N q.1.abs q.2=some r.abs:=by
 induction N with
 |zero=>exactλ_ h=>nomatch h
 |succ N ih=>
  rintro⟨s,t⟩ h;have h:(bif through t then some s else(Hj p w m ann (s,t)).bind (goT p w m ann N))=some r:=h;rw[topRun];rcases Bool.eq_false_or_eq_true (through t) with a|a<;>rw[a] at h⊢
  .exact congrArg (Option.map SharedT.abs) h
  obtain⟨x,hx,go⟩:=Option.bind_eq_some_iff.mp h;rcases Bool.eq_false_or_eq_true (stepOk m ann t) with b|b<;>simp only[Hj,b,cond_true,cond_false] at hx
  .simp only[b,stepT_spec hx];exact ih x go
  .cases hx
def PN(l:List Obj):BT:=(l.foldl (λ(q:BT×Nat) o=>(q.1.ins q.2 o,q.2+1)) (.nil,0)).1
noncomputable def at0(w:World)(os:OsState):SharedT:=⟨PN (boot_heap w.params).objs.toList,(boot_heap w.params).objs.size,(boot_heap w.params).life,#[],boot_drawn,boot_toks,os⟩
theorem Kd{q:Program}{loose:List Str}{Xt:Shared->Bool}{α:Type}{Yf:Shared->α}{Ya:World->α}{N:Nat}{g0:Bool}(e:opening p=plainProg p.main.scope.names)(f:∀s,fenceModules? p s=some s)(hN:Nat.ble 600 N=true)
  (h0:∀w os,(at0 w os).abs=⟨boot_heap w.params,#[],boot_drawn,boot_toks,os⟩)(size:∀w:World,((boot_heap w.params).isNs mainGlobals,(boot_heap w.params).objs.size,(boot_heap w.params).nsMap mainGlobals "__annotations__")=(true,m,ann))
  (Wf:∀(w:World) (os:OsState),(goT p w m ann N (at0 w os,topStub p)).map (λr=>(staticsOk (importedModules p.main.body) (boot_heap w.params) r.abs.heap&&namesBound p r.abs.heap&&gensDone r.abs&&laidKept (boot_heap w.params) r.abs.heap,openSeen q loose (importedModules p.main.body) Xt g0 r.abs,Yf r.abs))=some (true,openGood q loose,Ya w)):
  LeftO p q loose Xt Yf Ya N g0:=λw=>by
 obtain⟨⟨h,gs,d,k,os⟩,e1,e2⟩:=Gac.mp (boot_open e hN f w);obtain⟨rfl,rfl,rfl,rfl⟩:h=boot_heap w.params/\gs=#[]/\d=boot_drawn/\k=boot_toks:=by simpa using e2
 obtain⟨z1,z2,z3⟩:_/\_/\_:=by simpa only[Prod.mk.injEq] using size w
 obtain⟨r,hr,hc⟩:=Gac.mp (Wf w os);obtain⟨l1,l2,l3⟩:_/\_/\_:=by simpa only[Prod.mk.injEq] using hc
 have t:=Kc N _ hr;rw[h0] at t;unfold openEnds;rw[e1];show(topFrom treeTable p w N _).map _=_;have t' :topFrom treeTable p w N ⟨boot_heap w.params,#[],boot_drawn,boot_toks,os⟩=some r.abs:=by
  unfold topFrom;dsimp only;rw[z1,z2,z3,t];show(match staticsOk (importedModules p.main.body) (boot_heap w.params) r.abs.heap&&namesBound p r.abs.heap&&gensDone r.abs&&laidKept (boot_heap w.params) r.abs.heap with|true=>_|false=>_)=_;rw[l1]
 rw[t'];exact congrArg some (Prod.ext l2 l3)
end
end Hd
namespace Hd
noncomputable section
open PySem PySem.W PyProof.Rows L2
abbrev p0:=PySem.Challenge.pw_dosehouse_k50_entries_of_a_house
noncomputable def top(i:Nat):Stmt:=p0.main.body.getD i (.Pass ⟨0,0,0,0⟩)
def view:Program:={p0 with main:={p0.main with body:=[1,2,3,4,5,6,7,9,10,11,12,13,14,15,16,18,20,21,23,25,27,28,29,30,31,32,33,34,35,37,39,40,41,42,43,44,45,46,47,48,49].map top}}
abbrev fd(n:Str)(i:Nat)(m:Str)(t c:Nat):FuncData:=fnOf n n (jo (top i)) (dJ (top i)) (ar (top i)) .none .none .none (.str m t) none (.ref c) .none
def fo(d:FuncData):Obj:=⟨.type "function",none,.func d,#[]⟩
def co(n:Str)(t l k a:Nat)(x y:Value)(b u:Nat):Obj:={cls:= .type "code",data:= .fields #[.str n t,.str n (t+1),.str "/claim/cut.py" (t+2),.int l 0,.int k 0,.int 0 0,.int 0 0,.int 3 0,.ref a,.bool true,.int 181 0,.ref (a+1),.none,x,y,.ref b,.int u 0,.int l 0,.str "/claim/cut.py" (u+1)]}
def coq(m n:Str)(t l k a:Nat)(x y:Value)(b u:Nat):Obj:={cls:= .type "code",data:= .fields #[.str m t,.str n (t+1),.str "/claim/cut.py" (t+2),.int l 0,.int k 0,.int 0 0,.int 0 0,.int 3 0,.ref a,.bool true,.int 181 0,.ref (a+1),.none,x,y,.ref b,.int u 0,.int l 0,.str "/claim/cut.py" (u+1)]}
def e(P:Params)(n:Str)(t:Nat)(v:Value):DictEntry:=⟨PyData.keyHash P n,.str n t,v⟩
def r(P:Params)(n:Str)(t a:Nat):DictEntry:=e P n t (.ref a)
abbrev m0:Str:="dosehouse.books"
abbrev m1:Str:="dosehouse.bounds"
abbrev m2:Str:="dosehouse.dues"
abbrev m3:Str:="dosehouse.faults"
abbrev m4:Str:="dosehouse.house"
abbrev m5:Str:="dosehouse.weights"
abbrev m6:Str:="dosehouse.windows"
abbrev m7:Str:="law_dosehouse_k50_entries_of_a_house"
def inn(i j:Nat):Stmt:=match top i with
 | .ClassDef _ _ _ b _ _ _ _ _ _ _=>b.getD j (.Pass ⟨0,0,0,0⟩)
 |s=>s
abbrev fq(n q:Str)(st:Stmt)(m:Str)(t c:Nat):FuncData:=fnOf n q (jo st) (dJ st) (ar st) .none .none .none (.str m t) none (.ref c) .none
abbrev oe:=fd "laid_in" 1 m0 187 20
abbrev ku:=fd "taken_out" 2 m0 187 25
abbrev iN:=fd "with_giving" 3 m0 187 32
abbrev fE:=fd "without_giving" 4 m0 187 39
abbrev iO:=fd "with_weight" 5 m0 187 46
abbrev fF:=fd "without_weight" 6 m0 187 53
abbrev jq:=fd "givings_of" 7 m0 187 58
abbrev ua:=fd "bound" 18 m1 443 211
abbrev qv:=fd "due_of" 20 m2 453 218
abbrev qx:=fd "astray" 21 m2 453 225
abbrev kx:=fd "weight_at" 23 m5 475 232
abbrev Ay:=fd "sums" 25 m6 488 239
abbrev fG:=fd "goes_by_weight" 27 m3 504 244
abbrev iP:=fd "lone_faults" 28 m3 504 249
abbrev fb:=fd "marks_by_target" 29 m3 504 256
abbrev jr:=fd "cap_faults" 30 m3 504 263
abbrev fH:=fd "gaps_by_stuffs" 31 m3 504 270
abbrev iQ:=fd "gap_between" 32 m3 504 277
abbrev js:=fd "gap_faults" 33 m3 504 282
abbrev gM:=fd "twice_faults" 34 m3 504 287
abbrev qy:=fd "faults" 35 m3 504 294
abbrev fJ:=fq "__init__" "House.__init__" (inn 37 0) m4 589 308
abbrev jt:=fq "book" "House.book" (inn 37 1) m4 589 315
abbrev dM:=fq "is_weighed" "House.is_weighed" (inn 37 8) m4 589 362
abbrev ff:=fq "amount_at" "House.amount_at" (inn 37 9) m4 589 369
abbrev ju:=fq "keep" "House.keep" (inn 37 10) m4 589 376
abbrev iR:=fq "weigh" "House.weigh" (inn 37 2) m4 589 322
abbrev gu:=fq "unweigh" "House.unweigh" (inn 37 3) m4 589 329
abbrev jv:=fq "give" "House.give" (inn 37 4) m4 589 336
abbrev gO:=fq "strike" "House.strike" (inn 37 5) m4 589 343
abbrev iS:=fq "amend" "House.amend" (inn 37 6) m4 589 350
abbrev jw:=fq "move" "House.move" (inn 37 7) m4 589 357
abbrev lV:=fd "_law_draw" 39 m7 712 390
abbrev kz:=fd "_law_whole" 40 m7 712 397
abbrev lW:=fd "_law_call" 41 m7 712 404
abbrev lX:=fd "_law_told" 42 m7 712 411
abbrev lY:=fd "_law_part" 43 m7 712 416
abbrev lZ:=fd "_law_next" 44 m7 712 423
abbrev iT:=fd "_law_is_book" 45 m7 712 430
abbrev gP:=fd "_law_is_entry" 46 m7 712 437
abbrev m8:=fd "_law_deed" 47 m7 712 444
abbrev m9:=fd "_law_step" 48 m7 712 451
abbrev DV:=fd "law" 49 m7 712 456
abbrev Ke:Obj:={cls:= .type "type",data:= .cls {name:="House",bases:=[.type "object"],mro:=[.ref 380,.type "object"],ns:=379,qualname:="House"},slots:=#[Option.none,Option.none,Option.some (.str "House" 591),Option.some (.str "House" 599),Option.some (.builtin "object.__new__"),Option.some (.bool true)]}
abbrev Az:Obj:={cls:= .type "type",data:= .cls {name:="HouseError",bases:=[.type "ValueError"],mro:=[.ref 69,.type "ValueError",.type "Exception",.type "BaseException",.type "object"],ns:=68,qualname:="HouseError",subclasses:=[.ref 89,.ref 108,.ref 127,.ref 146,.ref 165,.ref 184,.ref 203]},slots:=#[Option.some (.ref 60),Option.none,Option.some (.str "HouseError" 249),Option.some (.str "HouseError" 257),Option.some (.builtin "ValueError.__new__"),Option.some (.bool true)]}
abbrev wM:Obj:={cls:= .type "type",data:= .cls {name:="NoEntry",bases:=[.ref 69],mro:=[.ref 146,.ref 69,.type "ValueError",.type "Exception",.type "BaseException",.type "object"],ns:=145,qualname:="NoEntry"},slots:=#[Option.some (.ref 130),Option.none,Option.some (.str "NoEntry" 342),Option.some (.str "NoEntry" 350),Option.some (.builtin "ValueError.__new__"),Option.some (.bool true)]}
abbrev Hk:Obj:={cls:= .type "type",data:= .cls {name:="NoLine",bases:=[.ref 69],mro:=[.ref 203,.ref 69,.type "ValueError",.type "Exception",.type "BaseException",.type "object"],ns:=202,qualname:="NoLine"},slots:=#[Option.some (.ref 187),Option.none,Option.some (.str "NoLine" 418),Option.some (.str "NoLine" 426),Option.some (.builtin "ValueError.__new__"),Option.some (.bool true)]}
abbrev CB:Obj:={cls:= .type "type",data:= .cls {name:="NoPieces",bases:=[.ref 69],mro:=[.ref 108,.ref 69,.type "ValueError",.type "Exception",.type "BaseException",.type "object"],ns:=107,qualname:="NoPieces"},slots:=#[Option.some (.ref 92),Option.none,Option.some (.str "NoPieces" 292),Option.some (.str "NoPieces" 300),Option.some (.builtin "ValueError.__new__"),Option.some (.bool true)]}
abbrev Hl:Obj:={cls:= .type "type",data:= .cls {name:="NoText",bases:=[.ref 69],mro:=[.ref 89,.ref 69,.type "ValueError",.type "Exception",.type "BaseException",.type "object"],ns:=88,qualname:="NoText"},slots:=#[Option.some (.ref 73),Option.none,Option.some (.str "NoText" 267),Option.some (.str "NoText" 275),Option.some (.builtin "ValueError.__new__"),Option.some (.bool true)]}
abbrev Nt:Obj:={cls:= .type "type",data:= .cls {name:="Torn",bases:=[.ref 69],mro:=[.ref 184,.ref 69,.type "ValueError",.type "Exception",.type "BaseException",.type "object"],ns:=183,qualname:="Torn"},slots:=#[Option.some (.ref 168),Option.none,Option.some (.str "Torn" 393),Option.some (.str "Torn" 401),Option.some (.builtin "ValueError.__new__"),Option.some (.bool true)]}
abbrev DW:Obj:={cls:= .type "type",data:= .cls {name:="Twice",bases:=[.ref 69],mro:=[.ref 127,.ref 69,.type "ValueError",.type "Exception",.type "BaseException",.type "object"],ns:=126,qualname:="Twice"},slots:=#[Option.some (.ref 111),Option.none,Option.some (.str "Twice" 317),Option.some (.str "Twice" 325),Option.some (.builtin "ValueError.__new__"),Option.some (.bool true)]}
abbrev Hm:Obj:={cls:= .type "type",data:= .cls {name:="Unsafe",bases:=[.ref 69],mro:=[.ref 165,.ref 69,.type "ValueError",.type "Exception",.type "BaseException",.type "object"],ns:=164,qualname:="Unsafe"},slots:=#[Option.some (.ref 149),Option.none,Option.some (.str "Unsafe" 367),Option.some (.str "Unsafe" 375),Option.some (.builtin "ValueError.__new__"),Option.some (.bool true)]}
abbrev qz:=fq "__init__" "Twice.__init__" (inn 12 0) "dosehouse.errors" 247 123
abbrev md:=fq "__init__" "NoEntry.__init__" (inn 13 0) "dosehouse.errors" 247 142
def K(P:Params):Frag:=[(3,{cls:= .type "dict",data:= .dict #[e P "__name__" 165 (.str "law_dosehouse_k50_entries_of_a_house" 712),e P "__doc__" 166 (.none),e P "__package__" 167 (.none),e P "__loader__" 168 (.builtin "__main__.__loader__#opaque"),e P "__spec__" 169 (.none),r P "__annotations__" 170 6,r P "__builtins__" 171 4,e P "__file__" 173 (.str "/claim/cut.py" 172),e P "__cached__" 174 (.none),r P "laid_in" 196 21,r P "taken_out" 202 26,r P "with_giving" 212 33,r P "without_giving" 221 40,r P "with_weight" 231 47,r P "without_weight" 240 54,r P "givings_of" 246 59,r P "HouseError" 266 69,r P "NoText" 291 89,r P "NoPieces" 316 108,r P "Twice" 341 127,r P "NoEntry" 366 146,r P "Unsafe" 392 165,r P "Torn" 417 184,r P "NoLine" 442 203,r P "bound" 452 212,r P "due_of" 465 219,r P "astray" 474 226,r P "weight_at" 487 233,r P "sums" 503 240,r P "goes_by_weight" 511 245,r P "lone_faults" 517 250,r P "marks_by_target" 528 257,r P "cap_faults" 546 264,r P "gaps_by_stuffs" 555 271,r P "gap_between" 564 278,r P "gap_faults" 570 283,r P "twice_faults" 576 288,r P "faults" 588 295,r P "House" 711 380,r P "_law_draw" 723 391,r P "_law_whole" 730 398,r P "_law_call" 738 405,r P "_law_told" 751 412,r P "_law_part" 757 417,r P "_law_next" 771 424,r P "_law_is_book" 781 431,r P "_law_is_entry" 789 438,r P "_law_deed" 800 445,r P "_law_step" 812 452,r P "law" 818 457] 50}),
 (21,fo oe),(20,co "laid_in" 189 2 2 15 (.ref 17) (.ref 18) 19 194),
 (26,fo ku),(25,co "taken_out" 197 4 3 22 (.none) (.none) 24 200),
 (33,fo iN),(32,co "with_giving" 203 6 4 27 (.ref 29) (.ref 30) 31 210),
 (40,fo fE),(39,co "without_giving" 213 8 3 34 (.ref 36) (.ref 37) 38 219),
 (47,fo iO),(46,co "with_weight" 222 10 4 41 (.ref 43) (.ref 44) 45 229),
 (54,fo fF),(53,co "without_weight" 232 12 3 48 (.ref 50) (.ref 51) 52 238),
 (59,fo jq),(58,co "givings_of" 241 14 2 55 (.none) (.none) 57 244),
 (212,fo ua),(211,co "bound" 445 56 2 206 (.ref 208) (.ref 209) 210 450),
 (219,fo qv),(218,co "due_of" 455 65 2 213 (.ref 215) (.ref 216) 217 463),
 (226,fo qx),(225,co "astray" 466 74 2 220 (.ref 222) (.ref 223) 224 472),
 (233,fo kx),(232,co "weight_at" 477 80 3 227 (.ref 229) (.ref 230) 231 485),
 (240,fo Ay),(239,co "sums" 490 87 2 234 (.ref 236) (.ref 237) 238 501),
 (245,fo fG),(244,co "goes_by_weight" 506 101 1 241 (.none) (.none) 243 509),
 (250,fo iP),(249,co "lone_faults" 512 103 3 246 (.none) (.none) 248 515),
 (257,fo fb),(256,co "marks_by_target" 518 121 2 251 (.ref 253) (.ref 254) 255 526),
 (264,fo jr),(263,co "cap_faults" 529 127 3 258 (.ref 260) (.ref 261) 262 544),
 (271,fo fH),(270,co "gaps_by_stuffs" 547 138 1 265 (.ref 267) (.ref 268) 269 553),
 (278,fo iQ),(277,co "gap_between" 556 144 3 272 (.ref 274) (.ref 275) 276 562),
 (283,fo js),(282,co "gap_faults" 565 148 2 279 (.none) (.none) 281 568),
 (288,fo gM),(287,co "twice_faults" 571 161 2 284 (.none) (.none) 286 574),
 (295,fo qy),(294,co "faults" 577 168 2 289 (.ref 291) (.ref 292) 293 586),
 (309,fo fJ),(308,coq "__init__" "House.__init__" 603 178 2 303 (.ref 305) (.ref 306) 307 608),
 (316,fo jt),(315,coq "book" "House.book" 611 182 1 310 (.ref 312) (.ref 313) 314 615),
 (363,fo dM),(362,coq "is_weighed" "House.is_weighed" 677 218 3 359 (.none) (.none) 361 680),
 (370,fo ff),(369,coq "amount_at" "House.amount_at" 683 221 3 364 (.ref 366) (.ref 367) 368 690),
 (377,fo ju),(376,coq "keep" "House.keep" 693 227 2 371 (.ref 373) (.ref 374) 375 699),
 (323,fo iR),(322,coq "weigh" "House.weigh" 618 185 4 317 (.ref 319) (.ref 320) 321 625),
 (330,fo gu),(329,coq "unweigh" "House.unweigh" 628 190 3 324 (.ref 326) (.ref 327) 328 634),
 (337,fo jv),(336,coq "give" "House.give" 637 195 4 331 (.ref 333) (.ref 334) 335 644),
 (344,fo gO),(343,coq "strike" "House.strike" 647 200 3 338 (.ref 340) (.ref 341) 342 653),
 (351,fo iS),(350,coq "amend" "House.amend" 656 205 4 345 (.ref 347) (.ref 348) 349 663),
 (358,fo jw),(357,coq "move" "House.move" 666 210 4 352 (.ref 354) (.ref 355) 356 674),
 (391,fo lV),(390,co "_law_draw" 714 233 3 385 (.ref 387) (.ref 388) 389 721),
 (398,fo kz),(397,co "_law_whole" 724 238 1 392 (.ref 394) (.ref 395) 396 728),
 (405,fo lW),(404,co "_law_call" 731 240 2 399 (.ref 401) (.ref 402) 403 736),
 (412,fo lX),(411,co "_law_told" 739 252 2 406 (.ref 408) (.ref 409) 410 749),
 (417,fo lY),(416,co "_law_part" 752 272 1 413 (.none) (.none) 415 755),
 (424,fo lZ),(423,co "_law_next" 758 274 2 418 (.ref 420) (.ref 421) 422 769),
 (431,fo iT),(430,co "_law_is_book" 772 300 2 425 (.ref 427) (.ref 428) 429 779),
 (438,fo gP),(437,co "_law_is_entry" 782 312 2 432 (.ref 434) (.ref 435) 436 787),
 (445,fo m8),(444,co "_law_deed" 790 316 3 439 (.ref 441) (.ref 442) 443 798),
 (452,fo m9),(451,co "_law_step" 801 324 4 446 (.ref 448) (.ref 449) 450 810),
 (457,fo DV),(456,co "law" 813 333 1 453 (.none) (.none) 455 816),
 (2,{cls:= .none,data:= .dict #[]}),
 (380,Ke),(379,{cls:= .type "dict",data:= .dict #[e P "__module__" 598 (.str "dosehouse.house" 589),e P "__firstlineno__" 602 (.int 176 601),e P "__init__" 610 (.ref 309),e P "book" 617 (.ref 316),e P "weigh" 627 (.ref 323),e P "unweigh" 636 (.ref 330),e P "give" 646 (.ref 337),e P "strike" 655 (.ref 344),e P "amend" 665 (.ref 351),e P "move" 676 (.ref 358),e P "is_weighed" 682 (.ref 363),e P "amount_at" 692 (.ref 370),e P "keep" 701 (.ref 377),e P "__static_attributes__" 704 (.ref 378),e P "__dict__" 706 (.ref 381),e P "__weakref__" 708 (.ref 382),e P "__doc__" 709 (.none)] 4}),
 (69,Az),
 (68,{cls:= .type "dict",data:= .dict #[e P "__module__" 256 (.str "dosehouse.errors" 247),e P "__firstlineno__" 260 (.int 17 259),e P "__static_attributes__" 261 (.ref 67),e P "__weakref__" 263 (.ref 70),e P "__doc__" 264 (.none)] 3}),
 (146,wM),
 (145,{cls:= .type "dict",data:= .dict #[e P "__module__" 349 (.str "dosehouse.errors" 247),e P "__firstlineno__" 353 (.int 34 352),e P "__init__" 361 (.ref 143),e P "__static_attributes__" 363 (.ref 144),e P "__doc__" 364 (.none)] 2}),
 (203,Hk),
 (108,CB),
 (89,Hl),
 (184,Nt),
 (127,DW),
 (126,{cls:= .type "dict",data:= .dict #[e P "__module__" 324 (.str "dosehouse.errors" 247),e P "__firstlineno__" 328 (.int 29 327),e P "__init__" 336 (.ref 124),e P "__static_attributes__" 338 (.ref 125),e P "__doc__" 339 (.none)] 2}),
 (165,Hm),
 (124,fo qz),(123,coq "__init__" "Twice.__init__" 329 31 2 118 (.ref 120) (.ref 121) 122 334),
 (143,fo md),(142,coq "__init__" "NoEntry.__init__" 354 36 2 137 (.ref 139) (.ref 140) 141 359)]
def as_:List Addr:=[3,21,20,26,25,33,32,40,39,47,46,54,53,59,58,212,211,219,218,226,225,233,232,240,239,245,244,250,249,257,256,264,263,271,270,278,277,283,282,288,287,295,294,309,308,316,315,363,362,370,369,377,376,323,322,330,329,337,336,344,343,351,350,358,357,391,390,398,397,405,404,412,411,417,416,424,423,431,430,438,437,445,444,452,451,457,456,2,380,379,69,68,146,145,203,108,89,184,127,126,165,124,123,143,142]
def hook:Hook:=kHook K as_ (λ_=>rfl)
def xt(s:Shared):Bool:=xlAt view [] s&&recOk (RowW.records (OpenRow.toRowW (OpenLaw.row PySem.Challenge.rw_dosehouse_k50_entries_of_a_house))) s
theorem left:LeftO p0 view [] xt hook.obs hook.val 7170:=Kd (m:=11) (ann:=some (.ref 6)) rfl (λ_=>rfl) rfl (λ_ _=>by kernel_rfl) (λ_=>by kernel_rfl) λ_ _=>by kernel_rfl
end
end Hd
section
open PySem PySem.Spec PySem.W PyProof.Rows L2
theorem Hd.close(hc:∀d:DefRec,d.params.defaults=[]->d.name="law"->WalkO Hd.view [] (XL Hd.view []) (Hook.says Hd.hook) PySem.Challenge.rw_dosehouse_k50_entries_of_a_house.row.toRowW d [] (λf vs=>PySem.call f vs)):PySem.Challenge.rw_dosehouse_k50_entries_of_a_house.Holds:=by
 refine holds_law (by kernel_rfl) λU4=> ?_;refine holds_open (q:=Hd.view) (loose:=[]) (Xt:=Hd.xt) (XP:=XL Hd.view []) (Yf:=Hook.obs Hd.hook) (Ya:=Hook.val Hd.hook) (YP:=Hook.says Hd.hook) (N:=7170) Hd.left (Hook.of Hd.hook) (Hook.keeps Hd.hook) (λs e=>xl_of s (Bool.and_eq_true_iff.mp e).1) XL.keeps (by rfl) (by rfl) (by rfl) (λs e=>recFacts_of (Bool.and_eq_true_iff.mp e).2) (by rfl) U4 (by decide+kernel) ⟨rfl,rfl,rfl,rfl,rfl,by decide+kernel⟩ ?hw ?hc
 case hw=>w_witness2
 case hc=>exact hc _ rfl rfl
end
namespace DL
open PySem
abbrev Key:=Sum Int Str
set_option genInjectivity true in
inductive D where
 |non
 |bl (b:Bool)
 |int (i:Int)
 |str (x:Str)
 |tup (ds:List D)
 |lst (ds:List D)
 |dK (et:List (Key×D))
 |dT (et:List (List Key×D))
 |scr (ns:List Int)
 |exc (C:Nat) (n:Str) (d:D)
 |obj (a C:Nat) (ns:List Str) (ds:List D)
 deriving Inhabited
mutual
@[simp] noncomputable def D.imm:D->Bool
 | .non=>true
 | .bl _=>true
 | .int _=>true
 | .str _=>true
 | .tup ds=>aZ ds
 | .lst _=>false
 | .dK _=>false
 | .dT _=>false
 | .scr _=>true
 | .exc _ _ d=>d.imm
 | .obj _ _ _ ds=>aZ ds
@[simp] noncomputable def aZ:List D->Bool
 |[]=>true
 |d::ds=>d.imm&&aZ ds
end
noncomputable def D.oS:D->Bool
 | .lst ds=>aZ ds
 | .dK et=>aZ (et.map (·.2))
 | .dT et=>aZ (et.map (·.2))
 |d=>d.imm
noncomputable def D.top:D->Bool
 | .lst _=>true
 | .dK _=>true
 | .dT _=>true
 |_=>false
noncomputable def aq:Nat:=16777216
set_option genInjectivity true in
inductive Slot where
 |sh (d:D)
 |own (d:D)
 |lok (d:D)
 |bor (d:D)
abbrev Env:=List (Option Slot)
set_option genInjectivity true in
inductive Cls where
 |c|tn|to|tb
 deriving DecidableEq
set_option genInjectivity true in
structure RV where
 k:Cls
 d:D
abbrev DE:=Env->Option RV
abbrev DT:=Env->Option Bool
abbrev DA:=Env->Option (List RV)
abbrev DG:=D->Env->Option Env
set_option genInjectivity true in
inductive Out where
 |nx (e:Env)
 |ret (d:D)
 |bk (e:Env)
 |ct (e:Env)
abbrev DS:=Env->Option Out
noncomputable def c5(d:D):RV:=⟨if d.top then .tn else .c,d⟩
noncomputable def RV.free(r:RV):Bool:=match r.k with
 | .c=>true
 | .tn=>true
 |_=>false
@[simp] noncomputable def vE(i:Nat):DE:=λenv=>match env[i]? with
 |some (some (.sh d))=>some ⟨.c,d⟩
 |some (some (.own d))=>some ⟨.to,d⟩
 |some (some (.lok d))=>some ⟨.tb,d⟩
 |some (some (.bor d))=>some ⟨.tb,d⟩
 |_=>none
@[simp] noncomputable def kE(d:D):DE:=λ_=>some ⟨.c,d⟩
@[simp] noncomputable def opE(o:D->D->Option RV)(f g:DE):DE:=λenv=>(f env).bind λx=>(g env).bind λy=>o x.d y.d
noncomputable def g9:D->D->Option RV
 | .int i,.int j=>some ⟨.c,.int (i+j)⟩
 | .str x,.str y=>if x.length+y.length<=aq then some ⟨.c,.str (x++y)⟩ else none
 | .tup x,.tup y=>if x.length+y.length<=aq/\0<x.length then some ⟨.c,.tup (x++y)⟩ else none
 | .lst x,.lst y=>if x.length+y.length<=aq then some ⟨.tn,.lst (x++y)⟩ else none
 |_,_=>none
noncomputable def vW:D->D->Option RV
 | .int i,.int j=>some ⟨.c,.int (i -j)⟩
 |_,_=>none
noncomputable def ly(i j:Int):Bool:=decide (i.natAbs<18446744073709551616)||decide (j.natAbs<18446744073709551616)
noncomputable def pP:D->D->Option RV
 | .int i,.int j=>if ly i j then some ⟨.c,.int (i*j)⟩ else none
 |_,_=>none
noncomputable def uF:D->D->Option RV
 | .int i,.int j=>if 0<j/\j<1073741824 then some ⟨.c,.int (i/j)⟩ else none
 |_,_=>none
noncomputable def vX:D->D->Option RV
 | .int i,.int j=>if 0<j then some ⟨.c,.int (i%j)⟩ else none
 |_,_=>none
noncomputable def tQ:D->D->Option RV
 | .int i,.int j=>if 0<=j/\j<=1000/\i.natAbs<1000000 then some ⟨.c,.int (i^j.toNat)⟩ else none
 |_,_=>none
@[simp] noncomputable def b0:Nat->D->Bool
 |_,.non=>true
 |_,.bl _=>true
 |_,.int _=>true
 |_,.str _=>true
 |n+1,.tup ds=>ds.all (b0 n)
 |n+1,.lst ds=>ds.all (b0 n)
 |_,_=>false
@[simp] noncomputable def D.plain(d:D):Bool:=b0 20 d
mutual
noncomputable def eqD:D->D->Bool
 | .non,.non=>true
 | .bl a,.bl b=>a==b
 | .bl a,.int b=>(if a then 1 else 0)==b
 | .int a,.bl b=>a==(if b then 1 else 0)
 | .int a,.int b=>a==b
 | .str a,.str b=>a==b
 | .tup a,.tup b=>lz a b
 | .lst a,.lst b=>lz a b
 |_,_=>false
@[simp] noncomputable def lz:List D->List D->Bool
 |[],[]=>true
 |a::as,b::bs=>eqD a b&&lz as bs
 |_,_=>false
end
@[simp] theorem Rf:eqD .non .non=true:=rfl
@[simp] theorem S6{a b:Bool}:eqD (.bl a) (.bl b)=(a==b):=rfl
@[simp] theorem S7{a:Bool}{b:Int}:eqD (.bl a) (.int b)=((if a then 1 else 0)==b):=rfl
@[simp] theorem S8{a:Int}{b:Bool}:eqD (.int a) (.bl b)=(a==(if b then 1 else 0)):=rfl
@[simp] theorem S9{a b:Int}:eqD (.int a) (.int b)=(a==b):=rfl
@[simp] theorem Sa{a b:Str}:eqD (.str a) (.str b)=(a==b):=rfl
@[simp] theorem Sb{a b:List D}:eqD (.tup a) (.tup b)=lz a b:=rfl
@[simp] theorem Sd{a b:List D}:eqD (.lst a) (.lst b)=lz a b:=rfl
@[simp] theorem LX{b:Int}:eqD .non (.int b)=false:=rfl
@[simp] theorem LY{a:Int}:eqD (.int a) .non=false:=rfl
@[simp] theorem LZ{a:Int}{b:Str}:eqD (.int a) (.str b)=false:=rfl
@[simp] theorem M0{a:Str}{b:Int}:eqD (.str a) (.int b)=false:=rfl
@[simp] theorem M3{b:Str}:eqD .non (.str b)=false:=rfl
@[simp] theorem M4{a:Str}:eqD (.str a) .non=false:=rfl
@[simp] theorem M5{a:Int}{b:List D}:eqD (.int a) (.tup b)=false:=rfl
@[simp] theorem M6{a:List D}{b:Int}:eqD (.tup a) (.int b)=false:=rfl
@[simp] theorem M7{a:Str}{b:List D}:eqD (.str a) (.tup b)=false:=rfl
@[simp] theorem M8{a:List D}{b:Str}:eqD (.tup a) (.str b)=false:=rfl
@[simp] theorem M9{b:List D}:eqD .non (.tup b)=false:=rfl
@[simp] theorem Ma{a:List D}:eqD (.tup a) .non=false:=rfl
@[simp] theorem Nu{b:Bool}:eqD .non (.bl b)=false:=rfl
@[simp] theorem Nv{a:Bool}:eqD (.bl a) .non=false:=rfl
noncomputable def eqB(x y:D):Option Bool:=if x.plain&&y.plain then some (eqD x y) else none
noncomputable def neB(x y:D):Option Bool:=if x.plain&&y.plain then some (!eqD x y) else none
noncomputable def gc:D->Bool
 | .non=>true
 |_=>false
noncomputable def gf(x y:D):Option Bool:=if gc y then some (gc x) else none
noncomputable def fm(x y:D):Option Bool:=if gc y then some (!gc x) else none
noncomputable def ltB:D->D->Option Bool
 | .int i,.int j=>some (decide (i<j))
 |_,_=>none
noncomputable def leB:D->D->Option Bool
 | .int i,.int j=>some (decide (i<=j))
 |_,_=>none
noncomputable def gtB:D->D->Option Bool
 | .int i,.int j=>some (decide (j<i))
 |_,_=>none
noncomputable def geB:D->D->Option Bool
 | .int i,.int j=>some (decide (j<=i))
 |_,_=>none
@[simp] noncomputable def bw(o:D->D->Option Bool)(f g:DE):DT:=λenv=>(f env).bind λx=>(g env).bind λy=>o x.d y.d
@[simp] noncomputable def bE(t:DT):DE:=λenv=>(t env).map λb=> ⟨.c,.bl b⟩
@[simp] noncomputable def jK(f:DE):DT:=λenv=>(f env).bind λx=>match x.d with
 | .bl b=>some b
 |_=>none
@[simp] noncomputable def rX(t u:DT):DT:=λenv=>(t env).bind λb=>if b then u env else some false
@[simp] noncomputable def orT(t u:DT):DT:=λenv=>(t env).bind λb=>if b then some true else u env
@[simp] noncomputable def ng(t:DT):DT:=λenv=>(t env).map (!·)
@[simp] noncomputable def Hn(o p:D->D->Option Bool)(f g h:DE):DT:=λenv=>(f env).bind λx=>(g env).bind λy=>(o x.d y.d).bind λb=>if b then(h env).bind λz=>p y.d z.d else some false
@[simp] noncomputable def ifE(t:DT)(f g:DE):DE:=λenv=>(t env).bind λb=>if b then f env else g env
noncomputable def atD{α:Type}(xs:List α)(i:Int):Option α:=if 0<=i then xs[i.toNat]? else if -(xs.length:Int)<=i then xs[(i+xs.length).toNat]? else none
noncomputable def keyOf:D->Option Key
 | .int i=>some (.inl i)
 | .str x=>some (.inr x)
 |_=>none
@[simp] noncomputable def keysOf:List D->Option (List Key)
 |[]=>some []
 |d::ds=>(keyOf d).bind λk=>(keysOf ds).map (k:: ·)
section
variable{Y:Type} [DecidableEq Y]
noncomputable def look(et:List (Y×D))(k:Y):Option D:=(et.find? λkv=>decide (kv.1=k)).map (·.2)
noncomputable def put(et:List (Y×D))(k:Y)(v:D):List (Y×D):=
 if(et.any λkv=>decide (kv.1=k))=true then et.map (λkv=>if kv.1=k then(kv.1,v) else kv) else et++[(k,v)]
end
noncomputable def ixD:D->D->Option D
 | .lst xs,.int i=>atD xs i
 | .tup xs,.int i=>atD xs i
 | .str x,.int i=>if x.length<=aq then(atD x.cps.toList i).map λc=> .str ⟨#[c]⟩ else none
 | .dK et,k=>(keyOf k).bind λk=>look et k
 | .dT et,.tup ds=>(keysOf ds).bind λk=>look et k
 | .scr ns,.int i=>(atD ns i).map .int
 |_,_=>none
@[simp] noncomputable def ixE(f g:DE):DE:=λenv=>(f env).bind λx=>(g env).bind λy=>(ixD x.d y.d).map λd=> ⟨.c,d⟩
@[simp] noncomputable def ao:DA:=λ_=>some []
@[simp] noncomputable def aa(f:DE)(r:DA):DA:=λenv=>(f env).bind λx=>(r env).bind λxs=>some (x::xs)
@[simp] noncomputable def aQ(a:DA):DE:=λenv=>(a env).bind λrs=>if rs.all (·.free)&&decide (rs.length<=aq) then some ⟨.c,.tup (rs.map (·.d))⟩ else none
@[simp] noncomputable def uG(a:DA):DE:=λenv=>(a env).bind λrs=>if rs.all (·.free)&&decide (rs.length<=aq) then some ⟨.tn,.lst (rs.map (·.d))⟩ else none
@[simp] noncomputable def aV(sp:List D->Option D)(a:DA):DE:=λenv=>(a env).bind λrs=>(sp (rs.map (·.d))).map c5
@[simp] noncomputable def j4(o:List D->Option RV)(a:DA):DE:=λenv=>(a env).bind λrs=>o (rs.map (·.d))
noncomputable def ni:List D->Option RV
 |[.lst xs]=>some ⟨.c,.int xs.length⟩
 |[.tup xs]=>some ⟨.c,.int xs.length⟩
 |[.str x]=>if x.length<=aq then some ⟨.c,.int x.length⟩ else none
 |[.dK et]=>some ⟨.c,.int et.length⟩
 |[.scr ns]=>some ⟨.c,.int ns.length⟩
 |_=>none
noncomputable def wN:List D->Option RV
 |[.int i,.int j]=>some ⟨.c,.int (if j<i then j else i)⟩
 |_=>none
noncomputable def jL:List D->Option RV
 |[.lst xs]=>some ⟨.c,.tup xs⟩
 |[.tup xs]=>some ⟨.c,.tup xs⟩
 |_=>none
@[simp] noncomputable def nj:List D->Option (List Bool)
 |[]=>some []
 | .bl b::ds=>(nj ds).map (b:: ·)
 |_=>none
@[simp] noncomputable def Ho:List D->Option (List Int)
 |[]=>some []
 | .int i::ds=>(Ho ds).map (i:: ·)
 |_=>none
noncomputable def oT:D->Option (List D)
 | .lst xs=>some xs
 | .tup xs=>some xs
 | .scr ns=>some (ns.map .int)
 |_=>none
noncomputable def one(o:List D->Option RV):List D->Option RV
 |[d]=>(oT d).bind o
 |_=>none
noncomputable def anyS:List D->Option RV:=one λds=>(nj ds).map λbs=> ⟨.c,.bl (bs.any id)⟩
noncomputable def Hq(i:Int)(ns:List Int):Int:=ns.foldl (λa b=>if b>a then b else a) i
noncomputable def kT(T:String):D->Bool
 | .non=>T=="NoneType"
 | .bl _=>T=="bool"||T=="int"
 | .int _=>T=="int"
 | .str _=>T=="str"
 | .tup _=>T=="tuple"
 | .lst _=>T=="list"
 | .dK _=>T=="dict"
 | .dT _=>T=="dict"
 | .scr _=>T=="list"
 | .exc _ _ _=>false
 | .obj _ _ _ _=>false
noncomputable def sV:D->Bool
 | .scr _=>true
 | .exc _ _ _=>true
 | .obj _ _ _ _=>true
 |_=>false
@[simp] noncomputable def CC(T:String)(f:DE):DT:=λenv=>(f env).bind λx=>if sV x.d then none else some (kT T x.d)
noncomputable def sIx(n d:Nat):Option Int->Nat
 |none=>d
 |some v=>if v<0 then(v+(n:Int)).toNat else min v.toNat n
noncomputable def cutD{α:Type}(xs:List α)(lo hi:Option Int):List α:=(xs.drop (sIx xs.length 0 lo)).take (sIx xs.length xs.length hi -sIx xs.length 0 lo)
abbrev DO:=Env->Option (Option Int)
@[simp] noncomputable def noO:DO:=λ_=>some none
@[simp] noncomputable def Mb(f:DE):DO:=λenv=>(f env).bind λx=>match x.d with
 | .int i=>some (some i)
 |_=>none
noncomputable def slD(lo hi:Option Int):D->Option RV
 | .lst xs=>some ⟨.tn,.lst (cutD xs lo hi)⟩
 | .tup xs=>if sIx xs.length 0 lo=0/\sIx xs.length xs.length hi=xs.length then none else some ⟨.c,.tup (cutD xs lo hi)⟩
 | .scr ns=>some ⟨.tn,.lst (cutD (ns.map .int) lo hi)⟩
 |_=>none
@[simp] noncomputable def slE(f:DE)(lo hi:DO):DE:=λenv=>(f env).bind λx=>(lo env).bind λl=>(hi env).bind λh=>slD l h x.d
@[simp] noncomputable def gN(i:Nat):DG:=λd env=>some (env.set i (some (.sh d)))
@[simp] noncomputable def gNs:List Nat->List D->Env->Option Env
 |[],[],env=>some env
 |i::is,d::ds,env=>gNs is ds (env.set i (some (.sh d)))
 |_,_,_=>none
@[simp] noncomputable def gT(is:List Nat):DG:=λd env=>match d with
 | .tup ds=>gNs is ds env
 |_=>none
@[simp] noncomputable def aX:DS:=λenv=>some (.nx env)
@[simp] noncomputable def bkS:DS:=λenv=>some (.bk env)
@[simp] noncomputable def b9(f g:DS):DS:=λenv=>(f env).bind λo=>match o with
 | .nx e=>g e
 |o=>some o
noncomputable def stored(i:Nat)(r:RV)(env:Env):Option Env:=match r.k with
 | .c=>some (env.set i (some (.sh r.d)))
 | .tn=>some (env.set i (some (.own r.d)))
 |_=>none
@[simp] noncomputable def bI(i:Nat)(f:DE):DS:=λenv=>(f env).bind λr=>(stored i r env).map .nx
noncomputable def DY(r:RV):Bool:=match r.k with
 | .c=>r.d.imm
 | .tn=>r.d.oS
 | .to=>r.d.oS
 | .tb=>false
@[simp] noncomputable def retS(f:DE):DS:=λenv=>(f env).bind λr=>if DY r then some (.ret r.d) else none
@[simp] noncomputable def ifS(t:DT)(f g:DS):DS:=λenv=>(t env).bind λb=>if b then f env else g env
@[simp] noncomputable def forL(g:DG)(body:DS):List D->Env->Option Out
 |[],env=>some (.nx env)
 |d::ds,env=>(g d env).bind λe=>(body e).bind λo=>match o with
  | .nx e=>forL g body ds e
  | .ct e=>forL g body ds e
  | .bk e=>some (.nx e)
  | .ret d=>some (.ret d)
abbrev DI:=Env->Option (List D)
@[simp] noncomputable def bV(l:Option Nat)(env:Env):Env:=match l with
 |none=>env
 |some i=>match env[i]? with
  |some (some (.own d))=>env.set i (some (.lok d))
  |_=>env
@[simp] noncomputable def sW(l:Option Nat)(env:Env):Bool:=match l with
 |none=>false
 |some i=>match env[i]? with
  |some (some (.own _))=>true
  |_=>false
@[simp] noncomputable def jM(l:Option Nat)(env:Env):Env:=match l with
 |none=>env
 |some i=>match env[i]? with
  |some (some (.lok d))=>env.set i (some (.own d))
  |_=>env
noncomputable def freed(l:Option Nat)(b:Bool):Out->Out
 | .nx e=> .nx (if b then jM l e else e)
 |o=>o
@[simp] noncomputable def iD(l:Option Nat)(src:DI)(g:DG)(body:DS):DS:=λenv=>(src (bV l env)).bind λds=>(forL g body ds (bV l env)).map (freed l (sW l env))
noncomputable def rY(t:DT)(body:DS):Nat->Env->Option Out
 |0,_=>none
 |n+1,env=>(t env).bind λb=>if b then(body env).bind λo=>match o with
   | .nx e=>rY t body n e
   | .ct e=>rY t body n e
   | .bk e=>some (.nx e)
   | .ret d=>some (.ret d)
  else some (.nx env)
noncomputable def Hr(t:DT)(body:DS):DS:=rY t body 100000
@[simp] noncomputable def jd(f:DE):DI:=λenv=>(f env).bind λr=>if r.k= .to then none else match r.d with
 | .lst xs=>some xs
 | .tup xs=>some xs
 | .scr ns=>some (ns.map .int)
 |_=>none
noncomputable def rZ(lo:Int)(n:Nat):List D:=(List.range n).map λ(k:Nat)=> .int (lo+(k:Int))
noncomputable def me(i:Int):Bool:=decide (-4611686018427387904<=i)&&decide (i<4611686018427387904)
@[simp] noncomputable def iU(f:DE):DI:=λenv=>(f env).bind λr=>match r.d with
 | .int j=>if me j then some (rZ 0 j.toNat) else none
 |_=>none
@[simp] noncomputable def ownAt(i:Nat)(env:Env):Option D:=match env[i]? with
 |some (some (.own d))=>some d
 |_=>none
@[simp] noncomputable def vY(i:Nat)(f:DE):DS:=λenv=>(f env).bind λr=>(ownAt i env).bind λd=>match d with
 | .lst xs=>if r.free&&decide (xs.length<aq) then some (.nx (env.set i (some (.own (.lst (xs++[r.d])))))) else none
 |_=>none
@[simp] noncomputable def PQ(i:Nat)(f:DE):DS:=λenv=>(f env).bind λr=>(ownAt i env).bind λd=>match d,r.d with
 | .lst xs,.lst ys=>if(r.k== .tn)&&decide (xs.length+ys.length<=aq) then some (.nx (env.set i (some (.own (.lst (xs++ys)))))) else none
 |_,_=>none
noncomputable def putD(d k v:D):Option D:=match d with
 | .dK et=>if et.length<aq then(keyOf k).map λk=> .dK (put et k v) else none
 | .dT et=>match k with
  | .tup ks=>if et.length<aq then(keysOf ks).map λk=> .dT (put et k v) else none
  |_=>none
 | .lst xs=>match k with
  | .int j=>if 0<=j/\j<xs.length then some (.lst (xs.set j.toNat v)) else if j<0/\-(xs.length:Int)<=j then some (.lst (xs.set (j+xs.length).toNat v)) else none
  |_=>none
 |_=>none
@[simp] noncomputable def pQ:DE:=λ_=>some ⟨.tn,.dT []⟩
@[simp] noncomputable def FE(i:Nat)(k v:DE):DS:=λenv=>(v env).bind λx=>(k env).bind λy=>(ownAt i env).bind λd=>if x.free then(putD d y.d x.d).map λd=> .nx (env.set i (some (.own d))) else none
noncomputable def mf:Option Slot->Option Slot
 |some (.sh d)=>some (.sh d)
 |some (.own d)=>some (.bor d)
 |some (.lok d)=>some (.bor d)
 |some (.bor d)=>some (.bor d)
 |none=>none
noncomputable def compEnv(n:Nat)(eP:List Nat)(env:Env):Env:=List.replicate n none++eP.map λi=>mf (env[i]?.getD none)
@[simp] noncomputable def dD(g:DG)(t:DT)(f:DE):List D->Env->Option (List D)
 |[],_=>some []
 |d::ds,env=>(g d env).bind λe=>(t e).bind λb=>if b then(f e).bind λr=>if r.free then(dD g t f ds e).map (r.d:: ·) else none else dD g t f ds e
@[simp] noncomputable def lA(l:Option Nat)(n:Nat)(eP:List Nat)(src:DI)(g:DG)(t:DT)(f:DE):DE:=λenv=>(src (bV l env)).bind λds=>if ds.length<=aq then(dD g t f ds (compEnv n eP env)).map λrs=> ⟨.tn,.lst rs⟩ else none
@[simp] noncomputable def gQ:DT:=λ_=>some true
@[simp] noncomputable def aE(n:Nat)(ds:List D):Env:=ds.map (λd=>some (.sh d))++List.replicate (n -ds.length) none
@[simp] noncomputable def fj(n np:Nat)(body:DS):List D->Option D:=λds=>if ds.length=np then(body (aE n ds)).bind λo=>match o with
  | .ret d=>some d
  | .nx _=>some .non
  |_=>none
 else none
@[simp] theorem Kf{a b:String}:Str.ofString a=Str.ofString b↔a=b:=by
 constructor
 .intro h;rw[Str.ofString_eq_toList,Str.ofString_eq_toList] at h;have h1:a.toList.map Char.toNat=b.toList.map Char.toNat:=by
   injection h with h
   exact Array.toList_inj.mpr h|>λz=>by simpa using z
  have h2:a.toList=b.toList:=by
   have inj:∀(x y:List Char),x.map Char.toNat=y.map Char.toNat->x=y:=by
    intro x;induction x with
    |nil=>intro y e;cases y with
     |nil=>rfl
     |cons=>simp at e
    |cons c x ih=>intro y e;cases y with
     |nil=>simp at e
     |cons c' y=>
      simp only[Gap,List.cons.injEq] at e;rw[ih y e.2,Char.toNat_inj.mp e.1]
   exact inj _ _ h1
  exact String.toList_inj.mp h2
 .rintro rfl;rfl
section
variable{i j:Int}{x y:Str}{ds es:List D}{d:D}{env:Env}{n:Nat}
@[simp] theorem PR:g9 (.int i) (.int j)=some ⟨.c,.int (i+j)⟩:=rfl
@[simp] theorem PU:g9 (.str x) (.str y)=if x.length+y.length<=aq then some ⟨.c,.str (x++y)⟩ else none:=rfl
@[simp] theorem PV:g9 (.tup ds) (.tup es)=if ds.length+es.length<=aq/\0<ds.length then some ⟨.c,.tup (ds++es)⟩ else none:=rfl
@[simp] theorem PX:g9 (.lst ds) (.lst es)=if ds.length+es.length<=aq then some ⟨.tn,.lst (ds++es)⟩ else none:=rfl
@[simp] theorem PY:vW (.int i) (.int j)=some ⟨.c,.int (i -j)⟩:=rfl
@[simp] theorem PZ:pP (.int i) (.int j)=if ly i j then some ⟨.c,.int (i*j)⟩ else none:=rfl
@[simp] theorem ON:uF (.int i) (.int j)=if 0<j/\j<1073741824 then some ⟨.c,.int (i/j)⟩ else none:=rfl
@[simp] theorem Q0:vX (.int i) (.int j)=if 0<j then some ⟨.c,.int (i%j)⟩ else none:=rfl
@[simp] theorem Q1:tQ (.int i) (.int j)=if 0<=j/\j<=1000/\i.natAbs<1000000 then some ⟨.c,.int (i^j.toNat)⟩ else none:=rfl
@[simp] theorem Rg:ltB (.int i) (.int j)=some (decide (i<j)):=rfl
@[simp] theorem Rh:leB (.int i) (.int j)=some (decide (i<=j)):=rfl
@[simp] theorem Ri:gtB (.int i) (.int j)=some (decide (j<i)):=rfl
@[simp] theorem Rj:geB (.int i) (.int j)=some (decide (j<=i)):=rfl
@[simp] theorem Rl:eqB (.int i) (.int j)=some (i==j):=rfl
@[simp] theorem Rm:eqB (.str x) (.str y)=some (x==y):=rfl
@[simp] theorem Se:eqB .non (.int j)=some false:=rfl
@[simp] theorem Sf:eqB (.int j) .non=some false:=rfl
@[simp] theorem Sg:eqB .non .non=some true:=rfl
@[simp] theorem Rn:neB (.int i) (.int j)=some (!(i==j)):=rfl
@[simp] theorem Ro:neB (.str x) (.str y)=some (!(x==y)):=rfl
@[simp] theorem Sh:neB .non (.int j)=some true:=rfl
@[simp] theorem Si:neB (.int j) .non=some true:=rfl
@[simp] theorem Sj:neB .non .non=some false:=rfl
@[simp] theorem OO:gc .non=true:=rfl
@[simp] theorem OP:gc (.int i)=false:=rfl
@[simp] theorem OQ:gc (.str x)=false:=rfl
@[simp] theorem Q2{b:Bool}:gc (.bl b)=false:=rfl
@[simp] theorem OR:gc (.tup ds)=false:=rfl
@[simp] theorem OS:gc (.lst ds)=false:=rfl
@[simp] theorem Q3:gf d .non=some (gc d):=rfl
@[simp] theorem OT:fm d .non=some (!gc d):=rfl
@[simp] theorem Q4:ni [.lst ds]=some ⟨.c,.int ds.length⟩:=rfl
@[simp] theorem Q5:ni [.tup ds]=some ⟨.c,.int ds.length⟩:=rfl
@[simp] theorem Q6:ni [.str x]=if x.length<=aq then some ⟨.c,.int x.length⟩ else none:=rfl
@[simp] theorem Q7{ns:List Int}:ni [.scr ns]=some ⟨.c,.int ns.length⟩:=rfl
@[simp] theorem Rp{et:List (Key×D)}:ni [.dK et]=some ⟨.c,.int et.length⟩:=rfl
@[simp] theorem OU:wN [.int i,.int j]=some ⟨.c,.int (if j<i then j else i)⟩:=rfl
@[simp] theorem Nw:jL [.lst ds]=some ⟨.c,.tup ds⟩:=rfl
@[simp] theorem Nx:jL [.tup ds]=some ⟨.c,.tup ds⟩:=rfl
@[simp] theorem Q8{T:String}:kT T .non=(T=="NoneType"):=rfl
@[simp] theorem Rq{T:String}{b:Bool}:kT T (.bl b)=(T=="bool"||T=="int"):=rfl
@[simp] theorem Q9{T:String}:kT T (.int i)=(T=="int"):=rfl
@[simp] theorem Qa{T:String}:kT T (.str x)=(T=="str"):=rfl
@[simp] theorem Qb{T:String}:kT T (.tup ds)=(T=="tuple"):=rfl
@[simp] theorem Qc{T:String}:kT T (.lst ds)=(T=="list"):=rfl
@[simp] theorem OV:sV .non=false:=rfl
@[simp] theorem Qd{b:Bool}:sV (.bl b)=false:=rfl
@[simp] theorem OW:sV (.int i)=false:=rfl
@[simp] theorem OY:sV (.str x)=false:=rfl
@[simp] theorem OZ:sV (.tup ds)=false:=rfl
@[simp] theorem P0:sV (.lst ds)=false:=rfl
@[simp] theorem Rr{lo hi:Option Int}:slD lo hi (.lst ds)=some ⟨.tn,.lst (cutD ds lo hi)⟩:=rfl
@[simp] theorem Rt{lo hi:Option Int}:slD lo hi (.tup ds)=if sIx ds.length 0 lo=0/\sIx ds.length ds.length hi=ds.length then none else some ⟨.c,.tup (cutD ds lo hi)⟩:=rfl
@[simp] theorem Ru{lo hi:Option Int}{ns:List Int}:slD lo hi (.scr ns)=some ⟨.tn,.lst (cutD (ns.map .int) lo hi)⟩:=rfl
@[simp] theorem Qe:stored n ⟨.c,d⟩ env=some (env.set n (some (.sh d))):=rfl
@[simp] theorem Pa:stored n ⟨.tn,d⟩ env=some (env.set n (some (.own d))):=rfl
@[simp] theorem Rw:DY ⟨.c,d⟩=d.imm:=rfl
@[simp] theorem Qf:DY ⟨.tn,d⟩=d.oS:=rfl
@[simp] theorem Qg:DY ⟨.to,d⟩=d.oS:=rfl
@[simp] theorem Pb:(D.lst ds).oS=aZ ds:=rfl
@[simp] theorem Qh{et:List (List Key×D)}:(D.dT et).oS=aZ (et.map (·.2)):=rfl
@[simp] theorem Qi{et:List (Key×D)}:(D.dK et).oS=aZ (et.map (·.2)):=rfl
@[simp] theorem Qj:c5 .non=⟨.c,.non⟩:=rfl
@[simp] theorem Rz{b:Bool}:c5 (.bl b)=⟨.c,.bl b⟩:=rfl
@[simp] theorem Qk:c5 (.int i)=⟨.c,.int i⟩:=rfl
@[simp] theorem Ql:c5 (.str x)=⟨.c,.str x⟩:=rfl
@[simp] theorem Qm:c5 (.tup ds)=⟨.c,.tup ds⟩:=rfl
@[simp] theorem Qn:c5 (.lst ds)=⟨.tn,.lst ds⟩:=rfl
@[simp] theorem RA{et:List (List Key×D)}:c5 (.dT et)=⟨.tn,.dT et⟩:=rfl
@[simp] theorem RB{et:List (Key×D)}:c5 (.dK et)=⟨.tn,.dK et⟩:=rfl
@[simp] theorem Sk:RV.free ⟨.c,d⟩=true:=rfl
@[simp] theorem RC:RV.free ⟨.tn,d⟩=true:=rfl
@[simp] theorem Qo{l:Option Nat}{b:Bool}:freed l b (.nx env)= .nx (if b then jM l env else env):=rfl
@[simp] theorem Pc{l:Option Nat}{b:Bool}:freed l b (.ret d)= .ret d:=rfl
@[simp] theorem Pd:keyOf (.int i)=some (.inl i):=rfl
@[simp] theorem Pe:keyOf (.str x)=some (.inr x):=rfl
@[simp] theorem RD:ixD (.lst ds) (.int i)=atD ds i:=rfl
@[simp] theorem RE:ixD (.tup ds) (.int i)=atD ds i:=rfl
@[simp] theorem RF{ns:List Int}:ixD (.scr ns) (.int i)=(atD ns i).map .int:=rfl
@[simp] theorem RG:ixD (.str x) (.int i)=if x.length<=aq then(atD x.cps.toList i).map λc=> .str ⟨#[c]⟩ else none:=rfl
@[simp] theorem Sl{et:List (List Key×D)}:ixD (.dT et) (.tup ds)=(keysOf ds).bind λk=>look et k:=rfl
@[simp] theorem SD{α:Type}{xs:List α}:atD xs 0=xs[0]? :=rfl
@[simp] theorem SE{α:Type}{xs:List α}:atD xs 1=xs[1]? :=rfl
@[simp] theorem SG{α:Type}{xs:List α}:atD xs 2=xs[2]? :=rfl
@[simp] theorem SH{α:Type}{xs:List α}:atD xs 3=xs[3]? :=rfl
@[simp] theorem SI{α:Type}{xs:List α}:atD xs 4=xs[4]? :=rfl
@[simp] theorem SJ{α:Type}{xs:List α}:atD xs 5=xs[5]? :=rfl
end
noncomputable def bG:D->List Int
 | .non=>[0]
 | .int i=>[1,i]
 | .str x=>2::x.cps.toList.map Int.ofNat
 |_=>[3]
noncomputable def iu{α:Type} [DecidableEq α](lt:α->α->Bool):List α->List α->Bool
 |[],[]=>false
 |[],_::_=>true
 |_::_,[]=>false
 |a::as,b::bs=>if a=b then iu lt as bs else lt a b
noncomputable def ltI(a b:Int):Bool:=decide (a<b)
noncomputable def ltC:List (List Int)->List (List Int)->Bool:=iu (iu ltI)
noncomputable def code:D->List (List Int)
 | .tup ds=>ds.map bG
 |d=>[bG d]
noncomputable def FF(d:D):List D->List D
 |[]=>[d]
 |e::es=>if ltC (code d) (code e) then d::e::es else e::FF d es
noncomputable def jg:List D->List D
 |[]=>[]
 |d::ds=>FF d (jg ds)
noncomputable def tyD:D->Nat
 | .non=>0
 | .int _=>1
 | .str _=>2
 |_=>3
noncomputable def pR(d:D):Bool:=tyD d !=3
noncomputable def wO:List D->List D->Bool
 |a::as,b::bs=>if bG a=bG b then wO as bs else(tyD a==tyD b&&(tyD a==1||tyD a==2))
 |_,_=>true
noncomputable def FG:D->Bool
 | .int _=>true
 |_=>false
noncomputable def pS(t:Nat):D->Bool
 | .tup (f::r)=>tyD f==t&&r.all pR
 |_=>false
noncomputable def CD:D->D->Bool
 | .tup a,.tup b=>wO a b
 |_,_=>false
noncomputable def keysOk(ds:List D):Bool:=ds.all FG||((ds.all (pS 1)||ds.all (pS 2))&&ds.all λx=>ds.all λy=>CD x y)
noncomputable def sortedS:List D->Option RV:=one λds=>if decide (ds.length<64)&&keysOk ds then some ⟨.tn,.lst (jg ds)⟩ else none
structure AA{α:Type}(lt:α->α->Bool):Prop where
 irr:∀a,lt a a=false
 tr:∀a b c,lt a b=true->lt b c=true->lt a c=true
 tot:∀a b,lt a b=false->lt b a=false->a=b
theorem Sm:AA ltI:=⟨λa=>by simp[ltI],λa b c h1 h2=>by simp[ltI] at*;lia,λa b h1 h2=>by simp[ltI] at*;lia⟩
section
variable{α:Type} [DecidableEq α]{lt:α->α->Bool}
theorem AA.lex(L:AA lt):AA (iu lt):=by
 refine⟨λa=> ?_,λa=> ?_,λa=> ?_⟩
 .induction a with
  |nil=>rfl
  |cons x xs ih=>simp[iu,ih]
 .induction a with
  |nil=>
   intro b c h1 h2;cases c with
   |nil=>cases b<;>simp[iu] at h1 h2
   |cons z zs=>rfl
  |cons x xs ih=>
   intro b c h1 h2;cases b with
   |nil=>simp[iu] at h1
   |cons y ys=>
    cases c with
    |nil=>simp[iu] at h2
    |cons z zs=>
     unfold iu at h1 h2⊢;by_cases e1:x=y
     .subst e1;rw[Gaf rfl] at h1;by_cases e2:x=z
      .subst e2;rw[Gaf rfl] at h2⊢;exact ih ys zs h1 h2
      .rw[Gag e2] at h2⊢;exact h2
     .rw[Gag e1] at h1;by_cases e2:y=z
      .subst e2;rw[Gag e1];exact h1
      .rw[Gag e2] at h2;by_cases e3:x=z
       .subst e3;have:=L.tr x y x h1 h2;rw[L.irr] at this;cases this
       .rw[Gag e3];exact L.tr x y z h1 h2
 .induction a with
  |nil=>
   intro b h1 h2;cases b with
   |nil=>rfl
   |cons y ys=>simp[iu] at h1
  |cons x xs ih=>
   intro b h1 h2;cases b with
   |nil=>simp[iu] at h2
   |cons y ys=>
    unfold iu at h1 h2;by_cases e:x=y
    .subst e;rw[Gaf rfl] at h1 h2;rw[ih ys h1 h2]
    .rw[Gag e] at h1;rw[Gag (Gay e)] at h2;exact absurd (L.tot x y h1 h2) e
theorem AA.nt(L:AA lt){k x y:α}(h1:lt k y=true)(h2:lt x y=false):lt k x=true:=by
 cases h:lt y x with
 |true=>exact L.tr k y x h1 h
 |false=>rw[L.tot x y h2 h];exact h1
theorem AA.Sn(L:AA lt){x y:α}(h:lt x y=true):lt y x=false:=by
 cases q:lt y x with
 |false=>rfl
 |true=>have:=L.tr x y x h q;rw[L.irr] at this;cases this
end
theorem FH:AA ltC:=Sm.lex.lex
noncomputable def rank(cs:List (List (List Int)))(i:Nat):Int:=((cs.filter λc=>ltC c (cs[i]?.getD [])).length:Nat)
theorem pT{α:Type}{p q:α->Bool}:∀{l:List α},(∀x∈l,p x=true->q x=true)->(l.filter p).length<=(l.filter q).length
 |[],_=>Gao _
 |x::l,h=>by
  have ih:=pT (l:=l) λy hy=>h y (Gar _ hy);have hx:=h x Gav;cases hp:p x with
  |false=>
   rw[Gbh,hp];simp only[Gax,GaW];refine GaQ ih ?_;rw[Gbh];split
   .rw[Gaz];lia
   .exact Gao _
  |true=>rw[Gbh,Gbh,hp,hx hp];simp;exact ih
theorem oU{α:Type}{p q:α->Bool}:∀{l:List α} {z:α},z∈l->p z=false->q z=true->(∀x∈l,p x=true->q x=true)->(l.filter p).length<(l.filter q).length
 |[],z,hz,_,_,_=>by cases hz
 |x::l,z,hz,h1,h2,h=>by
  rcases Gaw.mp hz with e|hz
  .subst e;have:=pT (l:=l) (p:=p) (q:=q) λy hy=>h y (Gar _ hy);rw[Gbh,Gbh,h1,h2];simp;lia
  .have ih:=oU hz h1 h2 λy hy=>h y (Gar _ hy);have hx:=h x Gav;cases hp:p x with
   |false=>
    rw[Gbh,hp];simp only[Gax,GaW];rw[Gbh];split
    .rw[Gaz];lia
    .exact ih
   |true=>rw[Gbh,Gbh,hp,hx hp];simp;exact ih
theorem DZ{cs:List (List (List Int))}{i j:Nat}(hi:i<cs.length)(hj:j<cs.length):decide (rank cs i<rank cs j)=ltC cs[i] cs[j]:=by
 unfold rank;rw[GaF hi,GaF hj];simp only[Option.getD_some];cases h:ltC cs[i] cs[j] with
 |true=>
  refine GaC (Int.ofNat_lt.mpr ?_);exact oU (z:=cs[i]) (Gbd hi) (FH.irr _) h λc _ hc=>FH.tr _ _ _ hc h
 |false=>
  refine GaD (Gcy.mpr (Int.ofNat_le.mpr ?_));exact pT λc _ hc=>FH.nt hc h
def gR(ds:List D):Prop:=ds.Pairwise λa b=>ltC (code b) (code a)=false
theorem se(d:D):∀es:List D,(FF d es).Perm (d::es)
 |[]=>List.Perm.refl _
 |e::es=>by
  unfold FF;split
  .exact List.Perm.refl _
  .exact((se d es).cons e).trans (List.Perm.swap d e es)
theorem jN:∀ds:List D,(jg ds).Perm ds
 |[]=>List.Perm.refl _
 |d::ds=>(se d _).trans ((jN ds).cons d)
theorem sX(d:D):∀{es:List D},gR es->gR (FF d es)
 |[],_=>List.pairwise_singleton _ _
 |e::es,h=>by
  have h' :=GbY.mp h;unfold FF;split
  .rename_i c;refine GbY.mpr ⟨λb hb=> ?_,h⟩;rcases Gaw.mp hb with q|q
   .subst q;exact FH.Sn c
   .cases z:ltC (code b) (code d) with
    |false=>rfl
    |true=>have:=FH.tr _ _ _ z c;rw[h'.1 b q] at this;cases this
  .rename_i c;refine GbY.mpr ⟨λb hb=> ?_,sX d h'.2⟩;rcases Gaw.mp ((se d es).mem_iff.mp hb) with q|q
   .subst q;simpa using c
   .exact h'.1 b q
theorem jx:∀ds:List D,gR (jg ds)
 |[]=>List.Pairwise.nil
 |d::ds=>sX d (jx ds)
theorem kU:∀{xs ys:List D},xs.Perm ys->gR xs->gR ys->(∀a∈xs,∀b∈xs,code a=code b->a=b)->xs=ys
 |[],ys,hp,_,_,_=>(List.nil_perm.mp hp).symm
 |x::xs,ys,hp,hx,hy,hi=>by
  cases ys with
  |nil=>exact absurd (List.perm_nil.mp hp) (by simp)
  |cons y ys=>
   have px:=GbY.mp hx;have py:=GbY.mp hy;have e:x=y:=by
    have mx:x∈y::ys:=hp.mem_iff.mp Gav;have my:y∈x::xs:=hp.mem_iff.mpr Gav;rcases Gaw.mp mx with q|q
    .exact q
    .rcases Gaw.mp my with r|r
     .exact r.symm
     .exact hi x Gav y my (FH.tot _ _ (py.1 x q) (px.1 y r)).symm.symm
   subst e;rw[kU (List.perm_cons x|>.mp hp) px.2 py.2 λa ha b hb=>hi a (Gar _ ha) b (Gar _ hb)]
@[simp] noncomputable def qA:Nat->List D->List D
 |_,[]=>[]
 |i,x::xs=> .tup [.int i,x]::qA (i+1) xs
@[simp] noncomputable def E5(f:DE):DI:=λenv=>(f env).bind λr=>if r.k= .to then none else match r.d with
 | .lst xs=>some (qA 0 xs)
 | .tup xs=>some (qA 0 xs)
 |_=>none
theorem sf:∀(i:Nat) (xs:List D),(qA i xs).length=xs.length
 |_,[]=>rfl
 |i,x::xs=>by simp[sf (i+1) xs]
theorem si:∀(k:Nat) (xs:List D) (i:Nat),(qA k xs)[i]? =(xs[i]?).map λx=> .tup [.int ((k+i:Nat)),x]
 |_,[],i=>by simp
 |k,x::xs,i=>by
  cases i with
  |zero=>simp
  |succ i=>
   simp only[qA,List.getElem?_cons_succ];rw[si (k+1) xs i,show k+1+i=k+(i+1) by lia]
noncomputable def wQ(x:D)(ds:List D):Option Bool:=if b0 10 x&&ds.all (b0 10) then some (ds.any λy=>eqD y x) else none
noncomputable def inB(x y:D):Option Bool:=match y with
 | .dK et=>(keyOf x).map λk=>(look et k).isSome
 | .dT et=>match x with
  | .tup ks=>(keysOf ks).map λk=>(look et k).isSome
  |_=>none
 | .lst ds=>wQ x ds
 | .tup ds=>wQ x ds
 |_=>none
noncomputable def oN(x y:D):Option Bool:=(inB x y).map (!·)
@[simp] theorem So{x:D}{et:List (Key×D)}:inB x (.dK et)=(keyOf x).map λk=>(look et k).isSome:=rfl
@[simp] theorem Sq{ks:List D}{et:List (List Key×D)}:inB (.tup ks) (.dT et)=(keysOf ks).map λk=>(look et k).isSome:=rfl
noncomputable def mmD(best:Int->List Int->Int)(dv:D)(d:D):Option RV:=(oT d).bind λds=>(Ho ds).map λns=>match ns with
 |[]=> ⟨.c,dv⟩
 |n::ns=> ⟨.c,.int (best n ns)⟩
@[simp] noncomputable def mmE(best:Int->List Int->Int)(dv:D)(f:DE):DE:=λenv=>(f env).bind λr=>mmD best dv r.d
noncomputable def isInt:D->Bool
 | .int _=>true
 |_=>false
noncomputable def Kg:Key->D
 | .inl i=> .int i
 | .inr x=> .str x
noncomputable def FI:D->D->Option (Option D)
 | .dK et,k=>(keyOf k).map λk=>look et k
 | .dT et,.tup ks=>(keysOf ks).map λk=>look et k
 |_,_=>none
@[simp] noncomputable def Ny(o k d:DE):DE:=λenv=>(o env).bind λx=>(k env).bind λy=>(d env).bind λr=>if r.k= .c then(FI x.d y.d).map λv=> ⟨.c,v.getD r.d⟩ else none
@[simp] theorem RH{et:List (List Key×D)}{ks:List D}:FI (.dT et) (.tup ks)=(keysOf ks).map λk=>look et k:=rfl
noncomputable def cA(et:List (List Key×D)):List D:=et.map λp=> .tup [.tup (p.1.map Kg),p.2]
@[simp] noncomputable def Hs(vw:List (List Key×D)->List D)(f:DE):DI:=λenv=>(f env).bind λr=>if r.k= .tn then match r.d with
 | .dT et=>some (vw et)
 |_=>none
 else none
@[simp] noncomputable def Mc(i:Nat)(env:Env):Bool:=(List.range env.length).all λj=>j==i||match env[j]? with
 |some (some (.bor _))=>false
 |_=>true
@[simp] noncomputable def dictAt(i:Nat)(env:Env):Option (List (List Key×D)):=match env[i]? with
 |some (some (.own (.dT et)))=>some et
 |some (some (.lok (.dT et)))=>some et
 |some (some (.bor (.dT et)))=>if Mc i env then some et else none
 |_=>none
@[simp] noncomputable def pU(vw:List (List Key×D)->List D)(i n:Nat)(eP:List Nat)(g:DG)(t:DT)(f:DE):DE:=λenv=>(dictAt i env).bind λet=>
 if(vw et).length<=aq then(dD g t f (vw et) (compEnv n eP (env.set i none))).map λrs=> ⟨.tn,.lst rs⟩ else none
abbrev DN:=Env->List (List D)->Option (Env×List (List D))
@[simp] noncomputable def E9(env:Env):Bool:=env.all λz=>match z with
 |some (.bor _)=>false
 |_=>true
abbrev Rws:=List (List Key×D)
abbrev DM:=Env->Rws->Option (Env×Rws)
@[simp] noncomputable def Qp(f g:DM):DM:=λenv eG=>(f env eG).bind λq=>g q.1 q.2
@[simp] noncomputable def setM(j:Nat)(f:DE):DM:=λenv eG=>(f env).bind λr=>match r.k with
 | .c=>some (env.set j (some (.sh r.d)),eG)
 |_=>none
noncomputable def Ht(et:Rws)(k:List Key)(d:D):Option Rws:=if et.length<aq then match et.findIdx? (λp=>decide (p.1=k)) with
 |some j=>match et[j]? with
  |some (_,.lst ds)=>if ds.length<aq then some (et.set j (k,.lst (ds++[d]))) else none
  |_=>none
 |none=>some (et++[(k,.lst [d])])
 else none
@[simp] noncomputable def Qq(k f:DE):DM:=λenv eG=>(k env).bind λy=>(f env).bind λr=>match y.d with
 | .tup ks=>if r.d.imm&&E9 env then(keysOf ks).bind λk=>(Ht eG k r.d).map λxB =>(env,xB) else none
 |_=>none
@[simp] noncomputable def qB(j:Nat)(f:DM):List D->DM
 |[],env,eG=>some (env,eG)
 |d::ds,env,eG=>(f (env.set j (some (.sh d))) eG).bind λq=>qB j f ds q.1 q.2
@[simp] noncomputable def Md(j:Nat)(e:DE)(f:DM):DM:=λenv eG=>(e env).bind λr=>match r.d with
 | .tup xs=>if aZ xs then qB j f xs env eG else none
 |_=>none
@[simp] noncomputable def Hu(i:Nat)(f:DM):DS:=λenv=>(f (env.set i none) []).bind λq=>some (.ret (.dT q.2))
noncomputable def gC:D->D->Option RV
 | .tup [],.tup y=>some ⟨.c,.tup y⟩
 |x,y=>g9 x y
noncomputable def Nz:Key->Option Int
 | .inl i=>some (hashInt i)
 | .inr _=>none
noncomputable def Ea:List Key->Option (List Int)
 |[]=>some []
 |k::ks=>match Nz k,Ea ks with
  |some h,some hs=>some (h::hs)
  |_,_=>none
noncomputable def keyHash(ks:List Key):Option Int:=(Ea ks).map λhs=>reduceHash (Builtin.Tuple.tupleHashOf hs)
noncomputable def FJ(i:Nat)(env:Env):Bool:=(List.range env.length).all λj=>j==i||match env[j]? with
 |some none=>true
 |some (some (.sh d))=>d.imm
 |_=>false
noncomputable def AB(vw:List (List Key×D)->List D)(i n:Nat)(eP:List Nat)(g:DG)(t:DT)(f:DE):DE:=λenv=>match env[i]? with
 |some (some (.sh (.dT et)))=>if FJ i env&&aZ (et.map (·.2)) then pU vw i n eP g t f (env.set i (some (.bor (.dT et)))) else none
 |_=>none
open PySem PySem.Spec PyProof.Rows L2
abbrev av:=PySem.W.Frag
abbrev St:=L2.St
def isT:HO->Prop
 | .tup _=>True
 | .frz _ _=>True
 | .ins _ _ _=>True
 |_=>False
def Kl(K:av)(a:Addr)(xs:List V):Prop:=∃(o:Obj) (eA:Array Value) (n:Nat),K.lookup a=some o/\o.cls= .type "list"/\o.dict=none/\o.data= .seq eA n/\eA.size<=sizeLine/\Vals xs eA.toList
def Scr(K:av)(H:Hp)(a:Addr)(ns:List Int):Prop:=(∃o,H a=some (.frz o (.lst (ns.map V.int))))\/Kl K a (ns.map V.int)
def Xc(H:Hp)(a:Addr)(C:Nat)(n:Str)(v:V):Prop:=∃dx vs sl od,H a=some (.frz {cls:= .ref C,dict:=some dx,data:= .fields vs,slots:=sl} (.own a))/\H dx=some (.frz od (.xd [(n,v)]))
inductive Rep (K:av) (F:Addr->Prop) (H:Hp):D->V->Prop where
 |non:Rep K F H .non .non
 |bl (b:Bool):Rep K F H (.bl b) (.bl b)
 |int (i:Int):Rep K F H (.int i) (.int i)
 |str (x:Str):Rep K F H (.str x) (.str x)
 |tup {a:Addr} {vs:List V} {ds:List D} (h:H a=some (.tup vs)) (l:ds.length=vs.length) (r:∀(i:Nat) d v,ds[i]? =some d->vs[i]? =some v->Rep K F H d v):Rep K F H (.tup ds) (.ref a)
 |lst {a:Addr} {vs:List V} {ds:List D} (f:F a) (h:Rd H a (.lst vs)) (l:ds.length=vs.length) (r:∀(i:Nat) d v,ds[i]? =some d->vs[i]? =some v->Rep K F H d v):Rep K F H (.lst ds) (.ref a)
 |scr {a:Addr} {ns:List Int} (h:Scr K H a ns):Rep K F H (.scr ns) (.ref a)
 |exc {a:Addr} {C:Nat} {n:Str} {v:V} {d:D} (h:Xc H a C n v) (r:Rep K F H d v):Rep K F H (.exc C n d) (.ref a)
 |obj {a dx C:Addr} {ns:List Str} {vs:List V} {ds:List D} (h:H a=some (.ins C dx (ns.zip vs))) (ln:ns.length=vs.length) (l:ds.length=vs.length) (r:∀(i:Nat) d v,ds[i]? =some d->vs[i]? =some v->Rep K F H d v):Rep K F H (.obj a C ns ds) (.ref a)
 |dK {a:Addr} {ws:List (Key×V)} {et:List (Key×D)} (f:F a) (h:H a=some (.dK ws)) (l:et.map (·.1)=ws.map (·.1)) (r:∀(i:Nat) p q,et[i]? =some p->ws[i]? =some q->Rep K F H p.2 q.2):Rep K F H (.dK et) (.ref a)
 |dT {a:Addr} {ws:List (List Key×V)} {et:List (List Key×D)} (f:F a) (h:H a=some (.dT ws)) (l:et.map (·.1)=ws.map (·.1)) (r:∀(i:Nat) p q,et[i]? =some p->ws[i]? =some q->Rep K F H p.2 q.2):Rep K F H (.dT et) (.ref a)
def aT(K:av)(F:Addr->Prop)(H:Hp)(ds:List D)(vs:List V):Prop:=ds.length=vs.length/\∀(i:Nat) d v,ds[i]? =some d->vs[i]? =some v->Rep K F H d v
def b5{Y:Type}(K:av)(F:Addr->Prop)(H:Hp)(et:List (Y×D))(ws:List (Y×V)):Prop:=et.map (·.1)=ws.map (·.1)/\∀(i:Nat) p q,et[i]? =some p->ws[i]? =some q->Rep K F H p.2 q.2
inductive Inn (K:av) (F:Addr->Prop) (H:Hp):D->V->Prop where
 |non:Inn K F H .non .non
 |bl (b:Bool):Inn K F H (.bl b) (.bl b)
 |int (i:Int):Inn K F H (.int i) (.int i)
 |str (x:Str):Inn K F H (.str x) (.str x)
 |tup {a:Addr} {vs:List V} {ds:List D} (h:H a=some (.tup vs)) (r:aT K F H ds vs):Inn K F H (.tup ds) (.ref a)
 |lst {a:Addr} {vs:List V} {ds:List D} (h:Rd H a (.lst vs)) (r:aT K F H ds vs):Inn K F H (.lst ds) (.ref a)
 |scr {a:Addr} {ns:List Int} (h:Scr K H a ns):Inn K F H (.scr ns) (.ref a)
 |exc {a:Addr} {C:Nat} {n:Str} {v:V} {d:D} (h:Xc H a C n v) (r:Rep K F H d v):Inn K F H (.exc C n d) (.ref a)
 |obj {a dx C:Addr} {ns:List Str} {vs:List V} {ds:List D} (h:H a=some (.ins C dx (ns.zip vs))) (ln:ns.length=vs.length) (r:aT K F H ds vs):Inn K F H (.obj a C ns ds) (.ref a)
 |dK {a:Addr} {ws:List (Key×V)} {et:List (Key×D)} (h:H a=some (.dK ws)) (r:b5 K F H et ws):Inn K F H (.dK et) (.ref a)
 |dT {a:Addr} {ws:List (List Key×V)} {et:List (List Key×D)} (h:H a=some (.dT ws)) (r:b5 K F H et ws):Inn K F H (.dT et) (.ref a)
section
variable{K:av}{F F' :Addr->Prop}{H H' :Hp}{d:D}{v:V}{ds:List D}{vs:List V}
theorem Rep.inn(h:Rep K F H d v):Inn K F H d v:=by
 cases h with
 |non=>exact .non
 |bl b=>exact .bl b
 |int i=>exact .int i
 |str x=>exact .str x
 |tup h l r=>exact .tup h ⟨l,r⟩
 |lst f h l r=>exact .lst h ⟨l,r⟩
 |scr h=>exact .scr h
 |exc h r=>exact .exc h r
 |obj h ln l r=>exact .obj h ln ⟨l,r⟩
 |dK f h l r=>exact .dK h ⟨l,r⟩
 |dT f h l r=>exact .dT h ⟨l,r⟩
theorem Inn.rep(h:Inn K F H d v)(hf:∀a,v= .ref a->d.top=true->F a):Rep K F H d v:=by
 cases h with
 |non=>exact .non
 |bl b=>exact .bl b
 |int i=>exact .int i
 |str x=>exact .str x
 |tup h r=>exact .tup h r.1 r.2
 |lst h r=>exact .lst (hf _ rfl rfl) h r.1 r.2
 |scr h=>exact .scr h
 |exc h r=>exact .exc h r
 |obj h ln r=>exact .obj h ln r.1 r.2
 |dK h r=>exact .dK (hf _ rfl rfl) h r.1 r.2
 |dT h r=>exact .dT (hf _ rfl rfl) h r.1 r.2
def j5(F:Addr->Prop)(H H' :Hp):Prop:=∀b o,H b=some o->(F b\/isT o)->H' b=some o
theorem j5.of_same(h:bz H H'):j5 F H H' :=λb o e _=>h b o e
theorem j5.tup{a:Addr}(s:j5 F H H')(h:H a=some (.tup vs)):H' a=some (.tup vs):=s _ _ h (.inr trivial)
theorem j5.scr{a:Addr}{ns:List Int}(s:j5 F H H')(h:Scr K H a ns):Scr K H' a ns:=by
 rcases h with⟨o,h⟩|h
 .exact .inl ⟨o,s _ _ h (.inr trivial)⟩
 .exact .inr h
variable{a:Addr}
theorem j5.xc{C:Nat}{n:Str}(s:j5 F H H')(h:Xc H a C n v):Xc H' a C n v:=let⟨dx,vs,sl,od,h1,h2⟩:=h;⟨dx,vs,sl,od,s _ _ h1 (.inr trivial),s _ _ h2 (.inr trivial)⟩
variable{u:HO}
theorem j5.rd(s:j5 F H H')(f:F a)(h:Rd H a u):Rd H' a u:=by
 rcases h with h| ⟨o,h⟩
 .exact .inl (s _ _ h (.inl f))
 .exact .inr ⟨o,s _ _ h (.inl f)⟩
theorem Rd.there(h:Rd H a u):H a≠none:=by
 rcases h with h| ⟨o,h⟩<;>rw[h]<;>simp
theorem Rep.gen(s:j5 F H H')(hF:∀b,F b->H b≠none->F' b)(h:Rep K F H d v):Rep K F' H' d v:=by
 induction h with
 |non=>exact .non
 |bl b=>exact .bl b
 |int i=>exact .int i
 |str x=>exact .str x
 |tup h l r ih=>exact .tup (s.tup h) l ih
 |lst f h l r ih=>exact .lst (hF _ f (Rd.there h)) (s.rd f h) l ih
 |scr h=>exact .scr (s.scr h)
 |exc h r ih=>exact .exc (s.xc h) ih
 |obj h ln l r ih=>exact .obj (s _ _ h (.inr trivial)) ln l ih
 |dK f h l r ih=>exact .dK (hF _ f (by rw[h];simp)) (s _ _ h (.inl f)) l ih
 |dT f h l r ih=>exact .dT (hF _ f (by rw[h];simp)) (s _ _ h (.inl f)) l ih
theorem Rep.same(s:bz H H')(h:Rep K F H d v):Rep K F H' d v:=h.gen (.of_same s) λ_ f _=>f
theorem Rep.imp(hF:∀b,F b->F' b)(h:Rep K F H d v):Rep K F' H d v:=h.gen (.of_same λ_ _ e=>e) λb f _=>hF b f
theorem aT.gen(s:j5 F H H')(hF:∀b,F b->H b≠none->F' b)(h:aT K F H ds vs):aT K F' H' ds vs:=⟨h.1,λi d v e1 e2=>(h.2 i d v e1 e2).gen s hF⟩
theorem b5.gen{Y:Type}{et:List (Y×D)}{ws:List (Y×V)}(s:j5 F H H')(hF:∀b,F b->H b≠none->F' b)(h:b5 K F H et ws):b5 K F' H' et ws:=⟨h.1,λi p q e1 e2=>(h.2 i p q e1 e2).gen s hF⟩
theorem Inn.gen(s:j5 F H H')(hF:∀b,F b->H b≠none->F' b)(ht:∀a,v= .ref a->d.top=true->∀o,H a=some o->H' a=some o)(h:Inn K F H d v):Inn K F' H' d v:=by
 have rd:∀{a:Addr} {u:HO},(∀o,H a=some o->H' a=some o)->Rd H a u->Rd H' a u:=λk h=>by
  rcases h with h| ⟨o,h⟩
  .exact .inl (k _ h)
  .exact .inr ⟨o,k _ h⟩
 cases h with
 |non=>exact .non
 |bl b=>exact .bl b
 |int i=>exact .int i
 |str x=>exact .str x
 |tup h r=>exact .tup (s.tup h) (r.gen s hF)
 |lst h r=>exact .lst (rd (ht _ rfl rfl) h) (r.gen s hF)
 |scr h=>exact .scr (s.scr h)
 |exc h r=>exact .exc (s.xc h) (r.gen s hF)
 |obj h ln r=>exact .obj (s _ _ h (.inr trivial)) ln (r.gen s hF)
 |dK h r=>exact .dK (ht _ rfl rfl _ h) (r.gen s hF)
 |dT h r=>exact .dT (ht _ rfl rfl _ h) (r.gen s hF)
theorem Inn.same(s:bz H H')(h:Inn K F H d v):Inn K F H' d v:=h.gen (.of_same s) (λ_ f _=>f) λ_ _ _ o e=>s _ o e
theorem Inn.imp(hF:∀b,F b->F' b)(h:Inn K F H d v):Inn K F' H d v:=h.gen (.of_same λ_ _ e=>e) (λb f _=>hF b f) λ_ _ _ _ e=>e
theorem Inn.any(h:Inn K F H d v):Rep K (λ_=>True) H d v:=(h.imp (F' :=λ_=>True) λ_ _=>trivial).rep λ_ _ _=>trivial
theorem mh{ds:List D}(h:aZ ds=true):∀(i:Nat) d,ds[i]? =some d->d.imm=true:=by
 induction ds with
 |nil=>intro i d e;simp at e
 |cons x xs ih=>
  unfold aZ at h;rw[Gam] at h;intro i d e;cases i with
  |zero=>simp at e;subst e;exact h.1
  |succ i=>exact ih h.2 i d (by simpa using e)
theorem Rep.imm(h:Rep K F H d v)(hd:d.imm=true):Rep K F' H d v:=by
 induction h with
 |non=>exact .non
 |bl b=>exact .bl b
 |int i=>exact .int i
 |str x=>exact .str x
 |tup h l r ih=>
  unfold D.imm at hd;exact .tup h l λi d v e1 e2=>ih i d v e1 e2 (mh hd i d e1)
 |lst f h l r ih=>simp[D.imm] at hd
 |scr h=>exact .scr h
 |exc h r ih=>
  unfold D.imm at hd;exact .exc h (ih hd)
 |obj h ln l r ih=>
  unfold D.imm at hd;exact .obj h ln l λi d v e1 e2=>ih i d v e1 e2 (mh hd i d e1)
 |dK f h l r ih=>simp[D.imm] at hd
 |dT f h l r ih=>simp[D.imm] at hd
theorem Inn.imm(h:Inn K F H d v)(hd:d.imm=true):Rep K F' H d v:=by
 refine Rep.imm (h.rep λa _ ht=> ?_) hd;cases d<;>simp[D.top] at ht<;>simp[D.imm] at hd
theorem aT.nil:aT K F H [] []:=⟨rfl,λi d v e=>by simp at e⟩
theorem aT.cz(h:aT K F H [] vs):vs=[]:=List.eq_nil_of_length_eq_zero h.1.symm
theorem aT.cons(h:Rep K F H d v)(r:aT K F H ds vs):aT K F H (d::ds) (v::vs):=by
 refine⟨by simp[r.1],λi x u e1 e2=> ?_⟩;cases i with
 |zero=>simp at e1 e2;subst e1;subst e2;exact h
 |succ i=>exact r.2 i x u (by simpa using e1) (by simpa using e2)
theorem aT.cons_inv(h:aT K F H (d::ds) vs):∃v r,vs=v::r/\Rep K F H d v/\aT K F H ds r:=by
 cases vs with
 |nil=>exact absurd h.1 (by simp)
 |cons v r=>exact⟨v,r,rfl,h.2 0 d v rfl rfl,by simpa using h.1,λi x u e1 e2=>h.2 (i+1) x u (by simpa using e1) (by simpa using e2)⟩
theorem aT.append:∀{ds es:List D} {vs us:List V},aT K F H ds vs->aT K F H es us->aT K F H (ds++es) (vs++us)
 |[],es,vs,us,h,r=>by rw[h.cz];exact r
 |d::ds,es,vs,us,h,r=>by
  obtain⟨v,w,rfl,h1,h2⟩:=h.cons_inv;exact .cons h1 (h2.append r)
theorem aT.take(n:Nat)(h:aT K F H ds vs):aT K F H (ds.take n) (vs.take n):=by
 refine⟨by simp[h.1],λi x u e1 e2=> ?_⟩;by_cases hi:i<n
 .rw[List.getElem?_take_of_lt hi] at e1 e2;exact h.2 i x u e1 e2
 .rw[GaP (by simp;lia)] at e1;cases e1
theorem aT.drop(n:Nat)(h:aT K F H ds vs):aT K F H (ds.drop n) (vs.drop n):=by
 refine⟨by simp[h.1],λi x u e1 e2=> ?_⟩;rw[List.getElem?_drop] at e1 e2;exact h.2 _ x u e1 e2
theorem aT.set(h:aT K F H ds vs)(r:Rep K F H d v)(i:Nat):aT K F H (ds.set i d) (vs.set i v):=by
 refine⟨by simp[h.1],λj x u e1 e2=> ?_⟩;by_cases hj:i=j
 .subst hj;have hi:i<ds.length:=by have:=(Gae.mp e1).1;simpa using this
  rw[GaB hi] at e1;rw[GaB (by rw[<-h.1];exact hi)] at e2;cases e1;cases e2;exact r
 .rw[Gaa hj] at e1 e2;exact h.2 j x u e1 e2
theorem aT.get{i:Nat}(h:aT K F H ds vs)(e:ds[i]? =some d):∃v,vs[i]? =some v/\Rep K F H d v:=by
 have hi:=(Gae.mp e).1;have hi' :i<vs.length:=by rw[<-h.1];exact hi
 exact⟨vs[i],by simp[hi'],h.2 i d _ e (by simp[hi'])⟩
theorem aT.imm(h:aT K F H ds vs)(hd:aZ ds=true):aT K F' H ds vs:=⟨h.1,λi d v e1 e2=>(h.2 i d v e1 e2).imm (mh hd i d e1)⟩
end
def b6:Option (Option Slot)->Prop
 |some (some (.own _))=>True
 |some (some (.lok _))=>True
 |some (some (.bor _))=>True
 |_=>False
def mV:Option (Option Slot)->Prop
 |some (some (.own _))=>True
 |some (some (.lok _))=>True
 |_=>False
def isO:Option (Option Slot)->Prop
 |some (some (.own _))=>True
 |_=>False
def mW:Option (Option Slot)->Prop
 |some (some (.lok _))=>True
 |some (some (.bor _))=>True
 |_=>False
variable{x:Option (Option Slot)}
theorem wR(h:b6 x):isO x\/mW x:=by
 match x,h with
 |some (some (.own _)),_=>exact .inl trivial
 |some (some (.lok _)),_=>exact .inr trivial
 |some (some (.bor _)),_=>exact .inr trivial
theorem mW.top(h:mW x):b6 x:=by
 match x,h with
 |some (some (.lok _)),_=>trivial
 |some (some (.bor _)),_=>trivial
theorem isO.ol(h:isO x):mV x:=by
 match x,h with
 |some (some (.own _)),_=>trivial
theorem mV.top(h:mV x):b6 x:=by
 match x,h with
 |some (some (.own _)),_=>trivial
 |some (some (.lok _)),_=>trivial
def Cln(eh:Addr->Prop)(env:Env)(σ:St)(a:Addr):Prop:=¬eh a/\∀i:Nat,b6 env[i]? ->σ[i]? ≠some (some (V.ref a))
def isW:HO->Prop
 | .lst _=>True
 | .dK _=>True
 | .dT _=>True
 |_=>False
def Wr(H:Hp)(a:Addr):Prop:=∃o,H a=some o/\isW o
def Ow(env:Env)(σ:St)(a:Addr):Prop:=∃i:Nat,isO env[i]? /\σ[i]? =some (some (.ref a))
structure aA(K:av)(H0:Hp)(eh:Addr->Prop)(env:Env)(σ:St)(H:Hp):Prop where
 same:bz H0 H
 len:env.length=σ.length
 bad:∀a,eh a->H a≠none
 sh:∀(i:Nat) d,env[i]? =some (some (.sh d))->∃v,σ[i]? =some (some v)/\Rep K (Cln eh env σ) H d v
 ow:∀(i:Nat) d,(env[i]? =some (some (.own d))\/env[i]? =some (some (.lok d)))->∃a,σ[i]? =some (some (.ref a))/\H0 a=none/\¬eh a/\Wr H a/\d.top=true/\Inn K (Cln eh env σ) H d (.ref a)
 bo:∀(i:Nat) d,env[i]? =some (some (.bor d))->∃a,σ[i]? =some (some (.ref a))/\Wr H a/\d.top=true/\Inn K (Cln eh env σ) H d (.ref a)
 dj:∀(i j:Nat) a,mV env[i]? ->b6 env[j]? ->σ[i]? =some (some (.ref a))->σ[j]? =some (some (.ref a))->i=j
structure Stp(env:Env)(σ:St)(H:Hp)(eD :Env)(σ' :St)(H' :Hp):Prop where
 keep:∀b o,H b=some o->¬Ow env σ b->H' b=some o
 ow:∀b,Ow eD σ' b->Ow env σ b\/H b=none
 lk:∀i:Nat,mW eD[i]? ->eD[i]? =env[i]? /\σ'[i]? =σ[i]?
variable{H:Hp}{σ:St}{env:Env}
theorem Stp.refl:Stp env σ H env σ H:=⟨λ_ _ e _=>e,λ_ h=> .inl h,λ_ _=> ⟨rfl,rfl⟩⟩
theorem Stp.of_same{H' :Hp}(s:bz H H'):Stp env σ H env σ H' :=⟨λb o e _=>s b o e,λ_ h=> .inl h,λ_ _=> ⟨rfl,rfl⟩⟩
theorem Stp.trans{e1 e2 e3:Env}{s1 s2 s3:St}{H1 H2 H3:Hp}(a:Stp e1 s1 H1 e2 s2 H2)(b:Stp e2 s2 H2 e3 s3 H3):Stp e1 s1 H1 e3 s3 H3:=by
 refine⟨λc o e n=>b.keep c o (a.keep c o e n) λh=> ?_,λc h=> ?_,λi h=> ?_⟩
 .rcases a.ow c h with q|q
  .exact n q
  .rw[e] at q;cases q
 .rcases b.ow c h with q|q
  .exact a.ow c q
  .by_cases z:Ow e1 s1 c
   .exact .inl z
   .right
    cases e:H1 c with
    |none=>rfl
    |some o=>rw[a.keep c o e z] at q;cases q
 .obtain⟨h1,h2⟩:=b.lk i h;rw[h1] at h;obtain⟨h3,h4⟩:=a.lk i h;exact⟨h1.trans h3,h2.trans h4⟩
section
variable{K:av}{H0 H H' H1:Hp}{eh:Addr->Prop}{env eD :Env}{σ σ' :St}{d:D}{v:V}{a:Addr}{i:Nat}
theorem Wr.same(s:bz H H')(w:Wr H a):Wr H' a:=let⟨o,h1,h2⟩:=w;⟨o,s a o h1,h2⟩
theorem Wr.there(w:Wr H a):H a≠none:=let⟨o,h1,_⟩:=w;by rw[h1];simp
theorem aA.mono(E:aA K H0 eh env σ H)(s:bz H H'):aA K H0 eh env σ H' where
 same:=E.same.trans s
 len:=E.len
 bad:=λa h e=>E.bad a h (s.free e)
 sh:=λi d e=>let⟨v,h1,h2⟩:=E.sh i d e;⟨v,h1,h2.same s⟩
 ow:=λi d e=>let⟨a,h1,h2,h3,h4,h5,h6⟩:=E.ow i d e;⟨a,h1,h2,h3,h4.same s,h5,h6.same s⟩
 bo:=λi d e=>let⟨a,h1,h2,h3,h4⟩:=E.bo i d e;⟨a,h1,h2.same s,h3,h4.same s⟩
 dj:=E.dj
theorem aA.Qr(E:aA K H0 eh env σ H)(h:b6 env[i]?):∃d a,d.top=true/\σ[i]? =some (some (.ref a))/\Wr H a/\Inn K (Cln eh env σ) H d (.ref a):=by
 match e:env[i]?,h with
 |some (some (.own d)),_=>obtain⟨a,h1,_,_,h4,h5,h6⟩:=E.ow i d (.inl e);exact⟨d,a,h5,h1,h4,h6⟩
 |some (some (.lok d)),_=>obtain⟨a,h1,_,_,h4,h5,h6⟩:=E.ow i d (.inr e);exact⟨d,a,h5,h1,h4,h6⟩
 |some (some (.bor d)),_=>obtain⟨a,h1,h4,h5,h6⟩:=E.bo i d e;exact⟨d,a,h5,h1,h4,h6⟩
theorem aA.Hv(E:aA K H0 eh env σ H)(h:b6 env[i]?)(e:σ[i]? =some (some (.ref a))):Wr H a:=by
 obtain⟨d,b,h1,h2,h3,h4⟩:=E.Qr h;rw[e] at h2;cases h2
 exact h3
theorem aA.qC(E:aA K H0 eh env σ H)(h:b6 env[i]?)(e:σ[i]? =some (some (.ref a))):H a≠none:=(E.Hv h e).there
theorem aA.AD(E:aA K H0 eh env σ H)(h:H a=none):Cln eh env σ a:=⟨λb=>E.bad a b h,λi t e=>E.qC t e h⟩
def je(K:av)(H0:Hp)(eh:Addr->Prop)(env:Env)(σ:St)(H H' :Hp)(r:RV)(v:V):Prop:=
 match r.k with
 | .c=>Rep K (Cln eh env σ) H' r.d v
 | .tn=>∃a,v= .ref a/\H a=none/\Wr H' a/\r.d.top=true/\Inn K (λb=>Cln eh env σ b/\b≠a) H' r.d v
 | .to=>∃a,v= .ref a/\H0 a=none/\Wr H' a/\r.d.top=true/\Inn K (Cln eh env σ) H' r.d v
 | .tb=>Inn K (Cln eh env σ) H' r.d v/\∀a,v= .ref a->r.d.top=true->¬Ow env σ a
theorem je.inn{r:RV}(h:je K H0 eh env σ H H' r v):Inn K (Cln eh env σ) H' r.d v:=by
 obtain⟨k,d⟩:=r;cases k with
 |c=>exact Rep.inn h
 |tn=>obtain⟨_,_,_,_,_,h⟩:=h;exact h.imp λ_ z=>z.1
 |to=>obtain⟨_,_,_,_,_,h⟩:=h;exact h
 |tb=>exact h.1
theorem je.rep{r:RV}(h:je K H0 eh env σ H H' r v)(E:aA K H0 eh env σ H)(hf:r.free=true):Rep K (Cln eh env σ) H' r.d v:=by
 obtain⟨k,d⟩:=r;cases k with
 |c=>exact h
 |tn=>
  obtain⟨a,e,h1,_,_,h2⟩:=h;exact(h2.imp λ_ z=>z.1).rep λb eb _=>by rw[e] at eb;cases eb;exact E.AD h1
 |to=>simp[RV.free] at hf
 |tb=>simp[RV.free] at hf
theorem je.same{r:RV}{H2:Hp}(h:je K H0 eh env σ H H' r v)(s:bz H' H2):je K H0 eh env σ H H2 r v:=by
 obtain⟨k,d⟩:=r;cases k with
 |c=>exact Rep.same s h
 |tn=>obtain⟨a,e,h1,w,t,h2⟩:=h;subst e;exact⟨a,rfl,h1,w.same s,t,h2.same s⟩
 |to=>obtain⟨a,e,h1,w,t,h2⟩:=h;subst e;exact⟨a,rfl,h1,w.same s,t,h2.same s⟩
 |tb=>exact⟨h.1.same s,h.2⟩
theorem je.from{r:RV}(s:bz H H1)(h:je K H0 eh env σ H1 H' r v):je K H0 eh env σ H H' r v:=by
 obtain⟨k,d⟩:=r;cases k with
 |c=>exact h
 |tn=>obtain⟨a,e,h1,w,t,h2⟩:=h;exact⟨a,e,s.free h1,w,t,h2⟩
 |to=>exact h
 |tb=>exact h
def iA(K:av)(H0 H' :Hp)(d:D)(v:V):Prop:=
 (d.top=true->∃a,v= .ref a/\H0 a=none/\Wr H' a)/\Inn K (λb=>H0 b=none/\v≠ .ref b) H' d v
theorem iA.rv(E:aA K H0 eh env σ H)(h:iA K H H' d v):je K H0 eh env σ H H' (c5 d) v:=by
 obtain⟨h1,h2⟩:=h;unfold c5;by_cases t:d.top=true
 .rw[Gaf t];obtain⟨a,e,n,w⟩:=h1 t;subst e;exact⟨a,rfl,n,w,t,h2.imp λb z=> ⟨E.AD z.1,λq=>z.2 (by rw[q])⟩⟩
 .rw[Gag t];exact(h2.imp λb z=>E.AD z.1).rep λ_ _ z=>absurd z t
end
def tE(X:Cx)(f:DE):TE:=λσ H Q=>∃H0 eh env r,aA X.K H0 eh env σ H/\f env=some r/\∀v H',bz H H' ->je X.K H0 eh env σ H H' r v->Q v H'
def tT(X:Cx)(t:DT):TT:=λσ H Q=>∃H0 eh env b,aA X.K H0 eh env σ H/\t env=some b/\∀H',bz H H' ->Q b H'
def tA(X:Cx)(a:DA):TA:=λσ H Q=>∃H0 eh env rs,aA X.K H0 eh env σ H/\a env=some rs/\∀vs H',bz H H' ->Paired (je X.K H0 eh env σ H H') rs vs->Q vs H'
def Eb(X:Cx)(H0:Hp)(eh:Addr->Prop)(env:Env)(σ:St)(H:Hp)(E:Ends):Out->Prop
 | .nx e=>∀σ' H',aA X.K H0 eh e σ' H' ->Stp env σ H e σ' H' ->E.nx σ' H'
 | .bk e=>∀σ' H',aA X.K H0 eh e σ' H' ->Stp env σ H e σ' H' ->E.bk σ' H'
 | .ct e=>∀σ' H',aA X.K H0 eh e σ' H' ->Stp env σ H e σ' H' ->E.ct σ' H'
 | .ret d=>∀v H',bz H0 H' ->iA X.K H0 H' d v->E.rt v H'
def tS(X:Cx)(f:DS):TS:=λE σ H=>∃H0 eh env o,aA X.K H0 eh env σ H/\f env=some o/\Eb X H0 eh env σ H E o
def tG(X:Cx)(g:DG):TG:=λv σ H Q=>∃H0 eh env d eD,aA X.K H0 eh env σ H/\g d env=some eD /\Rep X.K (Cln eh env σ) H d v/\∀σ' H',aA X.K H0 eh eD σ' H' ->Stp env σ H eD σ' H' ->Q σ' H'
abbrev PEd(X:Cx)(e:Expr)(f:DE):Prop:=PE X e (tE X f)
abbrev PTd(X:Cx)(e:Expr)(t:DT):Prop:=PT X e (tT X t)
abbrev PWd(X:Cx)(e:Expr)(t:DT):Prop:=PW X e (tT X t)
abbrev PAd(X:Cx)(es:List Expr)(a:DA):Prop:=PA X es (tA X a)
abbrev PSd(X:Cx)(st:Stmt)(f:DS):Prop:=PS X st (tS X f)
abbrev kW(X:Cx)(st:List Stmt)(f:DS):Prop:=PSs X st (tS X f)
abbrev PGd(X:Cx)(e:Expr)(g:DG):Prop:=PG X e (tG X g)
section
variable{X:Cx}{e a b c:Expr}{f g h:DE}{t u:DT}{pos:Pos}
theorem _root_.L2.PE.aG{t t' :TE}(h:PE X e t')(i:∀σ H Q,t σ H Q->t' σ H Q):PE X e t:=λee s σ H Q I q=>h ee s σ H Q I (i σ H Q q)
variable{t' :TT}
theorem _root_.L2.PT.aG{t:TT}(h:PT X e t')(i:∀σ H Q,t σ H Q->t' σ H Q):PT X e t:=λee s σ H Q I q=>h ee s σ H Q I (i σ H Q q)
theorem _root_.L2.PW.aG{t:TT}(h:PW X e t')(i:∀σ H Q,t σ H Q->t' σ H Q):PW X e t:=λwh ee s σ H Q I q=>h wh ee s σ H Q I (i σ H Q q)
theorem _root_.L2.PA.aG{es:List Expr}{t t' :TA}(h:PA X es t')(i:∀σ H Q,t σ H Q->t' σ H Q):PA X es t:=λpos ee s σ H Q I q=>h pos ee s σ H Q I (i σ H Q q)
theorem _root_.L2.PS.aG{st:Stmt}{t t' :TS}(h:PS X st t')(i:∀D σ H,t D σ H->t' D σ H):PS X st t:=λee s σ H D I q=>h ee s σ H D I (i D σ H q)
theorem _root_.L2.PSs.aG{st:List Stmt}{t t' :TS}(h:PSs X st t')(i:∀D σ H,t D σ H->t' D σ H):PSs X st t:=λee s σ H D I q=>h ee s σ H D I (i D σ H q)
theorem _root_.L2.PG.aG{t t' :TG}(h:PG X e t')(i:∀v σ H Q,t v σ H Q->t' v σ H Q):PG X e t:=λee s σ H v u Q I r q=>h ee s σ H v u Q I r (i v σ H Q q)
variable{H:Hp}
theorem cE:bz H H:=λ_ _ e=>e
theorem ef{α β:Type}{o:Option α}{k:α->Option β}{y:β}(h:o.bind k=some y):∃x,o=some x/\k x=some y:=Option.bind_eq_some_iff.mp h
variable{x:Str}
theorem bR(i:Nat)(hN:autoParam (X.N[i]? =some x) Za1._auto_1)(hv:Vis X.env.scope x:=by first|exact Or.inl rfl|exact Or.inr (Or.inl rfl)|exact Or.inr (Or.inr rfl))(hd:autoParam ((x==("__debug__":Str))=false) Za2._auto_1)
  (xp:autoParam ((x==("__classdict__":Str))=false) Za2._auto_1):PEd X (.Name x pos) (vE i):=by
 refine(g6 hN hv hd xp).aG ?_;rintro σ H Q ⟨H0,eh,env,r,E,e,k⟩;unfold vE at e
 match q:env[i]?,e with
 |some (some (.sh d)),e=>
  cases e;obtain⟨v,h1,h2⟩:=E.sh i d q;exact⟨v,h1,k v H cE h2⟩
 |some (some (.own d)),e=>
  cases e;obtain⟨a,h1,h2,h3,h4,h5,h6⟩:=E.ow i d (.inl q);exact⟨_,h1,k _ H cE ⟨a,rfl,h2,h4,h5,h6⟩⟩
 |some (some (.lok d)),e=>
  cases e;obtain⟨a,h1,h2,h3,h4,h5,h6⟩:=E.ow i d (.inr q);refine⟨_,h1,k _ H cE ⟨h6,λb eb _ ⟨j,ho,hj⟩=> ?_⟩⟩;cases eb;have:=E.dj j i a ho.ol (by rw[q];trivial) hj h1;subst this;rw[q] at ho;exact ho
 |some (some (.bor d)),e=>
  cases e;obtain⟨a,h1,h4,h5,h6⟩:=E.bo i d q;refine⟨_,h1,k _ H cE ⟨h6,λb eb _ ⟨j,ho,hj⟩=> ?_⟩⟩;cases eb;have:=E.dj j i a ho.ol (by rw[q];trivial) hj h1;subst this;rw[q] at ho;exact ho
variable{j:Nat}
theorem af{i:Int}:PEd X (.Constant (.int i) j pos) (kE (.int i)):=GC.aG λσ H Q ⟨_,_,_,_,_,e,k⟩=>by cases e;exact k _ H cE (.int i)
theorem nq{b:Bool}:PEd X (.Constant (.bool b) j pos) (kE (.bl b)):=LQ.aG λσ H Q ⟨_,_,_,_,_,e,k⟩=>by cases e;exact k _ H cE (.bl b)
theorem cc:PEd X (.Constant .none j pos) (kE .non):=MH.aG λσ H Q ⟨_,_,_,_,_,e,k⟩=>by cases e;exact k _ H cE .non
theorem aR:PEd X (.Constant (.str x) j pos) (kE (.str x)):=MI.aG λσ H Q ⟨_,_,_,_,_,e,k⟩=>by cases e;exact k _ H cE (.str x)
def RvN(K:av)(F:Addr->Prop)(H H' :Hp)(r:RV)(v:V):Prop:=
 match r.k with
 | .c=>Rep K F H' r.d v
 | .tn=>∃a,v= .ref a/\H a=none/\Wr H' a/\r.d.top=true/\Inn K (λb=>F b/\b≠a) H' r.d v
 |_=>False
theorem RvN.ok{K:av}{H0 H1 H' :Hp}{eh:Addr->Prop}{env:Env}{σ:St}{r:RV}{v:V}(h:RvN K (Cln eh env σ) H1 H' r v)(s:bz H H1):je K H0 eh env σ H H' r v:=by
 obtain⟨k,d⟩:=r;cases k with
 |c=>exact h
 |tn=>obtain⟨a,e,h1,w,t,h2⟩:=h;exact⟨a,e,s.free h1,w,t,h2⟩
 |to=>exact(show False from h).elim
 |tb=>exact(show False from h).elim
def OpD(X:Cx)(o:D->D->Option RV)(r:R2):Prop:=∀(F:Addr->Prop) (H:Hp) (dx dy:D) (x y:V) (rv:RV) (Q:VK),Inn X.K F H dx x->Inn X.K F H dy y->o dx dy=some rv->
 (∀v H',bz H H' ->RvN X.K F H H' rv v->Q v H')->r x y H Q
theorem uH{op:Operator}{o:D->D->Option RV}{r:R2}(ho:OpR X (binaryOp op) r)(hd:OpD X o r)(ha:PEd X a f)(hb:PEd X b g):PEd X (.BinOp a op b pos) (opE o f g):=by
 refine(Pq ho ha hb).aG ?_;rintro σ H Q ⟨H0,eh,env,rv,E,e,k⟩;obtain⟨x,hx,e⟩:=ef e;obtain⟨y,hy,e⟩:=ef e;exact⟨H0,eh,env,x,E,hx,λvx H1 s1 R1=> ⟨H0,eh,env,y,E.mono s1,hy,λvy H2 s2 R2=>hd _ H2 x.d y.d vx vy rv Q (R1.inn.same s2) R2.inn e λv H3 s3 R3=>
  k v H3 (s1.trans (s2.trans s3)) (R3.ok (s1.trans s2))⟩⟩
variable{gi:Int->Int->Int}
theorem NA{o:D->D->Option RV}(h:∀dx dy rv,o dx dy=some rv->∃i j,dx= .int i/\dy= .int j/\rv=⟨.c,.int (gi i j)⟩):OpD X o (rI0 λi j=> .int (gi i j)):=by
 intro F H dx dy x y rv Q ix iy e k;obtain⟨i,j,rfl,rfl,rfl⟩:=h dx dy rv e;cases ix;cases iy
 exact⟨i,j,rfl,rfl,k _ H cE (.int _)⟩
theorem Ec{o:D->D->Option RV}{C:Int->Int->Prop}(h:∀dx dy rv,o dx dy=some rv->∃i j,dx= .int i/\dy= .int j/\C i j/\rv=⟨.c,.int (gi i j)⟩):OpD X o (rI C λi j=> .int (gi i j)):=by
 intro F H dx dy x y rv Q ix iy e k;obtain⟨i,j,rfl,rfl,hc,rfl⟩:=h dx dy rv e;cases ix;cases iy
 exact⟨i,j,rfl,rfl,hc,k _ H cE (.int _)⟩
theorem Kh:OpD X vW (rI0 λi j=> .int (i -j)):=NA λdx dy rv e=>by
 unfold vW at e;split at e
 .cases e;exact⟨_,_,rfl,rfl,rfl⟩
 .cases e
theorem Ki:OpD X pP (rI JU λi j=> .int (i*j)):=Ec λdx dy rv e=>by
 unfold pP at e;split at e
 .split at e
  .rename_i i j q;cases e;refine⟨i,j,rfl,rfl, ?_,rfl⟩;unfold ly at q;rw[GaR] at q;rcases q with q|q
   .left;have:=GaI q;lia
   .right;have:=GaI q;lia
  .cases e
 .cases e
theorem Hw:OpD X uF (rI Pt λi j=> .int (i/j)):=Ec λdx dy rv e=>by
 unfold uF at e;split at e
 .split at e
  .rename_i i j q;cases e;exact⟨i,j,rfl,rfl,q,rfl⟩
  .cases e
 .cases e
theorem Kj:OpD X vX (rI (λ_ j=>0<j) λi j=> .int (i%j)):=Ec λdx dy rv e=>by
 unfold vX at e;split at e
 .split at e
  .rename_i i j q;cases e;exact⟨i,j,rfl,rfl,q,rfl⟩
  .cases e
 .cases e
theorem Kk:OpD X tQ (rI Pu λi j=> .int (i^j.toNat)):=Ec λdx dy rv e=>by
 unfold tQ at e;split at e
 .split at e
  .rename_i i j q;cases e;exact⟨i,j,rfl,rfl,⟨q.1,by lia,by lia⟩,rfl⟩
  .cases e
 .cases e
def Me:R2:=λx y H Q=>∃l b xs zs,x= .ref l/\y= .ref b/\Rd H l (.lst xs)/\Rd H b (.lst zs)/\xs.length+zs.length<=sizeLine/\∀p,H p=none->Q (.ref p) (upd H p (.lst (xs++zs)))
theorem Km:OpR X (binaryOp .Add) Me:=by
 intro ee s σ H x y v u Q I rx ry h;obtain⟨l,b,xs,zs,rfl,rfl,hH,hB,hz,q⟩:=h;cases rx;cases ry;obtain⟨z,eA,n,r,e⟩:=(show bx X.prog X.w H s.heap l (.lst xs) from hH.ok I.hok)
 obtain⟨z2,eX,n2,r2,e2⟩:=(show bx X.prog X.w H s.heap b (.lst zs) from hB.ok I.hok)
 have hl:=r.length;have V3:=r2.length;refine PySem.P.add_list e e2 ?_ (by rw[Gaj,Gaj];lia);have ea:eA.toArray++eX.toArray=(eA++eX).toArray:=by simp
 rw[ea];exact⟨.ref _,_,I.S4 (t' :=s.toks) (r.append r2) (by rw[Gbb];lia),rfl,q _ I.fresh⟩
theorem eU:aq=sizeLine:=by rw[Gbc];rfl
variable{p:Addr}
theorem c4{o:HO}(n:H p=none):bz H (upd H p o):=λb u e=>by rw[ak (bc e n)];exact e
variable{vs:List V}{ds:List D}
theorem gy{K:av}{F:Addr->Prop}(n:H p=none)(r:aT K F H ds vs):Rep K F (upd H p (.tup vs)) (.tup ds) (.ref p):=by
 have r2:=r.gen (F' :=F) (.of_same (c4 (o:= .tup vs) n)) λ_ f _=>f;exact .tup aC r2.1 r2.2
theorem jO{K:av}{F:Addr->Prop}(n:H p=none)(r:aT K F H ds vs):Inn K (λb=>F b/\b≠p) (upd H p (.lst vs)) (.lst ds) (.ref p):=
 .lst (.inl aC) (r.gen (F' :=λb=>F b/\b≠p) (.of_same (c4 (o:= .lst vs) n)) λb f hb=> ⟨f,λz=>hb (z▸n)⟩)
theorem uI{xs:List V}:Wr (upd H p (.lst xs)) p:=⟨_,aC,trivial⟩
def Hx(K:av):R2:=λx y H Q=>rI0 (λi j=> .int (i+j)) x y H Q\/(∃i j,x= .str i/\y= .str j/\i.length+j.length<=sizeLine/\Q (.str (i++j)) H)\/Me x y H Q\/LU K x y H Q
theorem Ed:OpR X (binaryOp .Add) (Hx X.K):=MY.or (Co.or (Km.or K5))
theorem aT.ne{K:av}{F:Addr->Prop}(r:aT K F H ds vs):vs=[]↔ds=[]:=by
 constructor
 .intro z;subst z;exact List.eq_nil_of_length_eq_zero r.1
 .intro z;subst z;exact r.cz
theorem Ee:OpD X g9 (Hx X.K):=by
 intro F H dx dy x y rv Q ix iy e k;unfold g9 at e;split at e
 .cases e;cases ix;cases iy
  exact .inl ⟨_,_,rfl,rfl,k _ H cE (.int _)⟩
 .split at e
  .rename_i q;cases e;cases ix;cases iy
   exact .inr (.inl ⟨_,_,rfl,rfl,by rw[<-eU];exact q,k _ H cE (.str _)⟩)
  .cases e
 .split at e
  .rename_i xs ys q;cases e;cases ix with
   |tup hx rx=>
    cases iy with
    |tup hy ry=>
     refine .inr (.inr (.inr ⟨_,_,_,_,rfl,rfl,SqT.of hx,SqT.of hy, ?_, ?_, ?_, ?_⟩))
     .intro z;have:=rx.ne.mp z;subst this;exact absurd q.2 (by simp)
     .rw[<-rx.1,<-ry.1,<-eU];exact q.1
     .intro z;have:=ry.ne.mp z;subst this;refine k _ H cE ?_;rw[GaV];exact .tup hx rx.1 rx.2
     .intro z p n;exact k _ _ (c4 n) (gy n (rx.append ry))
  .cases e
 .split at e
  .rename_i xs ys q;cases e;cases ix with
   |lst hx rx=>
    cases iy with
    |lst hy ry=>
     refine .inr (.inr (.inl ⟨_,_,_,_,rfl,rfl,hx,hy,by rw[<-rx.1,<-ry.1,<-eU];exact q,λp n=> ?_⟩));exact k _ _ (c4 n) ⟨p,rfl,n,uI,rfl,jO n (rx.append ry)⟩
  .cases e
 .cases e
theorem cJ(ha:PEd X a f)(hb:PEd X b g):PEd X (.BinOp a .Add b pos) (opE g9 f g):=uH Ed Ee ha hb
theorem sr(ha:PEd X a f)(hb:PEd X b g):PEd X (.BinOp a .Sub b pos) (opE vW f g):=uH MZ Kh ha hb
theorem mi(ha:PEd X a f)(hb:PEd X b g):PEd X (.BinOp a .Mult b pos) (opE pP f g):=uH N0 Ki ha hb
theorem AE(ha:PEd X a f)(hb:PEd X b g):PEd X (.BinOp a .FloorDiv b pos) (opE uF f g):=uH JV Hw ha hb
theorem su(ha:PEd X a f)(hb:PEd X b g):PEd X (.BinOp a .Mod b pos) (opE vX f g):=uH N5 Kj ha hb
theorem CF(ha:PEd X a f)(hb:PEd X b g):PEd X (.BinOp a .Pow b pos) (opE tQ f g):=uH N6 Kk ha hb
def OpB(X:Cx)(o:D->D->Option Bool)(r:R2):Prop:=∀(F:Addr->Prop) (H:Hp) (dx dy:D) (x y:V) (b:Bool) (Q:VK),Inn X.K F H dx x->Inn X.K F H dy y->o dx dy=some b->Q (.bl b) H->r x y H Q
variable{o:D->D->Option Bool}
theorem aK{op:CmpOp}{r:R2}(ho:OpR X (compareOp op) r)(hd:OpB X o r)(ha:PEd X a f)(hb:PEd X b g)(hm:behindInMarks op b=false):PTd X (.Compare a [op] [b] pos) (bw o f g):=by
 refine(DD ho ha hb hm).aG ?_;rintro σ H Q ⟨H0,eh,env,bb,E,e,k⟩;obtain⟨x,hx,e⟩:=ef e;obtain⟨y,hy,e⟩:=ef e;exact⟨H0,eh,env,x,E,hx,λvx H1 s1 R1=> ⟨H0,eh,env,y,E.mono s1,hy,λvy H2 s2 R2=>hd _ H2 x.d y.d vx vy bb _ (R1.inn.same s2) R2.inn e ⟨bb,rfl,k H2 (s1.trans s2)⟩⟩⟩
theorem sv{op:CmpOp}{r:R2}(ho:OpR X (compareOp op) r)(hd:OpB X o r)(ha:PEd X a f)(hb:PEd X b g)(hm:behindInMarks op b=false):PEd X (.Compare a [op] [b] pos) (bE (bw o f g)):=by
 refine(JW ho ha hb hm).aG ?_;rintro σ H Q ⟨H0,eh,env,rv,E,e,k⟩;obtain⟨bb,e',rfl⟩:=Gac.mp e;clear e;have e:=e';clear e';obtain⟨x,hx,e⟩:=ef e;obtain⟨y,hy,e⟩:=ef e;exact⟨H0,eh,env,x,E,hx,λvx H1 s1 R1=> ⟨H0,eh,env,y,E.mono s1,hy,λvy H2 s2 R2=>hd _ H2 x.d y.d vx vy bb _ (R1.inn.same s2) R2.inn e (k _ H2 (s1.trans s2) (.bl bb))⟩⟩
theorem Ef{gb:Int->Int->Bool}(h:∀dx dy b,o dx dy=some b->∃i j,dx= .int i/\dy= .int j/\b=gb i j):OpB X o (rI0 λi j=> .bl (gb i j)):=by
 intro F H dx dy x y b Q ix iy e q;obtain⟨i,j,rfl,rfl,rfl⟩:=h dx dy b e;cases ix;cases iy
 exact⟨i,j,rfl,rfl,q⟩
theorem uJ:OpB X ltB (rI0 λi j=> .bl (decide (i<j))):=Ef λdx dy b e=>by
 unfold ltB at e;split at e<;>cases e;exact⟨_,_,rfl,rfl,rfl⟩
theorem CG:OpB X leB (rI0 λi j=> .bl (decide (i<=j))):=Ef λdx dy b e=>by
 unfold leB at e;split at e<;>cases e;exact⟨_,_,rfl,rfl,rfl⟩
theorem pV:OpB X gtB (rI0 λi j=> .bl (decide (j<i))):=Ef λdx dy b e=>by
 unfold gtB at e;split at e<;>cases e;exact⟨_,_,rfl,rfl,rfl⟩
theorem NB:OpB X geB (rI0 λi j=> .bl (decide (j<=i))):=Ef λdx dy b e=>by
 unfold geB at e;split at e<;>cases e;exact⟨_,_,rfl,rfl,rfl⟩
theorem wU{K:av}{F:Addr->Prop}{d:D}{x:V}(h:Inn K F H d x):decide (x= .non)=gc d:=by
 cases h<;>simp[gc]
theorem jy:OpB X gf (λx y H Q=>y= .non/\Q (.bl (decide (x= .non))) H):=by
 intro F H dx dy x y b Q ix iy e q;simp only[gf,fm] at e;split at e
 .rename_i h;cases e;cases iy<;>simp[gc] at h
  exact⟨rfl,by rw[wU ix];exact q⟩
 .cases e
theorem nr:OpB X fm (λx y H Q=>y= .non/\Q (.bl (!decide (x= .non))) H):=by
 intro F H dx dy x y b Q ix iy e q;simp only[gf,fm] at e;split at e
 .rename_i h;cases e;cases iy<;>simp[gc] at h
  exact⟨rfl,by rw[wU ix];exact q⟩
 .cases e
theorem dN(h:PEd X e f)(he:∀whole,isTrue e X.env whole=(do let v<-whole;standAt e.pos;holding [v] (truthy v)):=by intro _;rfl):PTd X e (jK f):=by
 refine(GD h he).aG ?_;rintro σ H Q ⟨H0,eh,env,bb,E,e,k⟩;obtain⟨x,hx,e⟩:=ef e;split at e
 .rename_i b hb;cases e;refine⟨H0,eh,env,x,E,hx,λvx H1 s1 R1=> ⟨bb, ?_,k H1 s1⟩⟩;have i:=R1.inn;rw[hb] at i;cases i;rfl
 .cases e
theorem Bt(h:PEd X e f):PEd X e (bE (jK f)):=by
 refine h.aG ?_;rintro σ H Q ⟨H0,eh,env,rv,E,e,k⟩;obtain⟨bb,e',rfl⟩:=Gac.mp e;clear e;have e:=e';clear e';obtain⟨x,hx,e⟩:=ef e;split at e
 .rename_i b hb;cases e;refine⟨H0,eh,env,x,E,hx,λvx H1 s1 R1=>k _ H1 s1 ?_⟩;have i:=R1.inn;rw[hb] at i;cases i;exact .bl _
 .cases e
theorem mj(ha:PTd X a t):PWd X (.BoolOp .And [a] pos) t:=JR ha
theorem gS(ha:PTd X a t):PWd X (.BoolOp .Or [a] pos) t:=MJ ha
theorem nu{rest:List Expr}(ha:PTd X a t)(hb:PWd X (.BoolOp .And (b::rest) pos) u):PWd X (.BoolOp .And (a::b::rest) pos) (rX t u):=by
 refine(MM ha hb).aG ?_;rintro σ H Q ⟨H0,eh,env,bb,E,e,k⟩;obtain⟨x,hx,e⟩:=ef e;refine⟨H0,eh,env,x,E,hx,λH1 s1=> ?_⟩;cases x with
 |true=>rw[Gaf rfl];rw[Gaf rfl] at e;exact⟨H0,eh,env,bb,E.mono s1,e,λH2 s2=>k H2 (s1.trans s2)⟩
 |false=>rw[Gag Gai];rw[Gag Gai] at e;cases e;exact k H1 s1
theorem kA{rest:List Expr}(ha:PTd X a t)(hb:PWd X (.BoolOp .Or (b::rest) pos) u):PWd X (.BoolOp .Or (a::b::rest) pos) (orT t u):=by
 refine(LR ha hb).aG ?_;rintro σ H Q ⟨H0,eh,env,bb,E,e,k⟩;obtain⟨x,hx,e⟩:=ef e;refine⟨H0,eh,env,x,E,hx,λH1 s1=> ?_⟩;cases x with
 |false=>rw[Gag Gai];rw[Gag Gai] at e;exact⟨H0,eh,env,bb,E.mono s1,e,λH2 s2=>k H2 (s1.trans s2)⟩
 |true=>rw[Gaf rfl];rw[Gaf rfl] at e;cases e;exact k H1 s1
theorem gU(ha:PTd X a t):PTd X (.UnaryOp .Not a pos) (ng t):=by
 refine(GF ha).aG ?_;rintro σ H Q ⟨H0,eh,env,bb,E,e,k⟩;obtain⟨x,hx,rfl⟩:=Gac.mp e;exact⟨H0,eh,env,x,E,hx,λH1 s1=>k H1 s1⟩
theorem Hy{op:BoolOp}(ha:PEd X a (bE t)):PEd X (.BoolOp op [a] pos) (bE t):=MN ha
theorem CH{rest:List Expr}(ha:PEd X a (bE t))(hb:PEd X (.BoolOp .And (b::rest) pos) (bE u)):PEd X (.BoolOp .And (a::b::rest) pos) (bE (rX t u)):=by
 refine(MO ha hb).aG ?_;rintro σ H Q ⟨H0,eh,env,rv,E,e,k⟩;obtain⟨bb,e',rfl⟩:=Gac.mp e;clear e;have e:=e';clear e';obtain⟨x,hx,e⟩:=ef e;refine⟨H0,eh,env,⟨.c,.bl x⟩,E,by unfold bE;rw[hx];rfl,λv H1 s1 R=> ?_⟩;have R' :Inn X.K (Cln eh env σ) H1 (.bl x) v:=R.inn;cases R';refine⟨x,rfl, ?_⟩;cases x with
 |true=>rw[Gaf rfl];rw[Gaf rfl] at e;exact⟨H0,eh,env,⟨.c,.bl bb⟩,E.mono s1,by unfold bE;rw[e];rfl,λv2 H2 s2 R2=>k v2 H2 (s1.trans s2) (R2.from s1)⟩
 |false=>rw[Gag Gai];rw[Gag Gai] at e;cases e;exact k _ H1 s1 (.bl false)
theorem NC(ha:PEd X a (bE t)):PEd X (.UnaryOp .Not a pos) (bE (ng t)):=by
 refine(MP ha).aG ?_;rintro σ H Q ⟨H0,eh,env,rv,E,e,k⟩;obtain⟨bb,e',rfl⟩:=Gac.mp e;clear e;have e:=e';clear e';obtain⟨x,hx,rfl⟩:=Gac.mp e;refine⟨H0,eh,env,⟨.c,.bl x⟩,E,by unfold bE;rw[hx];rfl,λv H1 s1 R=> ?_⟩;have R' :Inn X.K (Cln eh env σ) H1 (.bl x) v:=R.inn;cases R';exact⟨x,rfl,k _ H1 s1 (.bl _)⟩
theorem Hz(hc:PTd X c t)(ha:PEd X a f)(hb:PEd X b g):PEd X (.IfExp c a b pos) (ifE t f g):=by
 refine(GG hc ha hb).aG ?_;rintro σ H Q ⟨H0,eh,env,rv,E,e,k⟩;obtain⟨x,hx,e⟩:=ef e;refine⟨H0,eh,env,x,E,hx,λH1 s1=> ?_⟩;cases x with
 |true=>rw[Gaf rfl];rw[Gaf rfl] at e;exact⟨H0,eh,env,rv,E.mono s1,e,λv H2 s2 R=>k v H2 (s1.trans s2) (R.from s1)⟩
 |false=>rw[Gag Gai];rw[Gag Gai] at e;exact⟨H0,eh,env,rv,E.mono s1,e,λv H2 s2 R=>k v H2 (s1.trans s2) (R.from s1)⟩
theorem HA{op zB :CmpOp}{p:D->D->Option Bool}{r r' :R2}(ho:OpR X (compareOp op) r)(hd:OpB X o r)(yB :OpR X (compareOp zB) r')(xY :OpB X p r')(ha:PEd X a f)(hb:PEd X b g)(hc:PEd X c h)
  (hm:lastMarks [op,zB] [b,c]=false:=by with_unfolding_all rfl):PTd X (.Compare a [op,zB] [b,c] pos) (Hn o p f g h):=by
 refine(GP ho yB ha hb hc hm).aG ?_;rintro σ H Q ⟨H0,eh,env,bb,E,e,k⟩;obtain⟨x,hx,e⟩:=ef e;obtain⟨y,hy,e⟩:=ef e;obtain⟨b1,h1,e⟩:=ef e;refine⟨H0,eh,env,x,E,hx,λvx H1 s1 R1=> ⟨H0,eh,env,y,E.mono s1,hy,λvy H2 s2 R2=>hd _ H2 x.d y.d vx vy b1 _ (R1.inn.same s2) R2.inn h1 ⟨b1,rfl, ?_⟩⟩⟩;cases b1 with
 |true=>
  rw[Gaf rfl];rw[Gaf rfl] at e
  obtain⟨z,hz,e⟩:=ef e;exact⟨H0,eh,env,z,(E.mono s1).mono s2,hz,λvz H3 s3 R3=>xY _ H3 y.d z.d vy vz bb _ (R2.inn.same s3) R3.inn e ⟨bb,rfl,k H3 (s1.trans (s2.trans s3))⟩⟩
 |false=>
  rw[Gag Gai];rw[Gag Gai] at e;cases e
  exact⟨false,rfl,k H2 (s1.trans s2)⟩
end
section
variable{X:Cx}{e a b c:Expr}{f g h:DE}{t u:DT}{pos:Pos}
variable{H:Hp}
theorem Scr.sq{K:av}{a:Addr}{ns:List Int}(h:Scr K H a ns):SqL K H a (ns.map V.int):=by
 rcases h with⟨o,h⟩|h
 .exact .inl (.inr ⟨o,h⟩)
 .exact .inr h
variable{vs:List V}
theorem HB{K:av}{F:Addr->Prop}{ds:List D}{i:Int}{d:D}(r:aT K F H ds vs)(e:atD ds i=some d):∃v,atI vs i=some v/\Rep K F H d v:=by
 unfold atD at e;unfold atI ixN;rw[<-r.1];split at e
 .rename_i h0;obtain⟨v,h1,h2⟩:=r.get e;have hi:=(Gae.mp e).1;refine⟨v, ?_,h2⟩;rw[Gaf h0,Gaf (by lia)];exact h1
 .rename_i h0;split at e
  .rename_i h1;obtain⟨v,h2,h3⟩:=r.get e;refine⟨v, ?_,h3⟩;rw[Gag h0,Gaf h1];exact h2
  .cases e
def Qs:R2:=λx y H Q=>∃a v,x= .ref a/\pO H a y (some v)/\Q v H
theorem Kn(hu:X.A.units+1<cLine):IxR X Qs:=by
 intro value slice ee s σ H x y v u Q I rx ry h hs;obtain⟨a,z,rfl,g,q⟩:=h;cases rx;exact tail_any (Bq I g) PySem.F.slot_dict_getitem.lookup (Fz hu I g ry λw' s3 I3 yt => ⟨z,H,I3,yt,q⟩) hs
def Sr(K:av):R2:=λx y H Q=>rIx K x y H Q\/Qs x y H Q
theorem Ko(hu:X.A.units+1<cLine):IxR X (Sr X.K):=Nf.or (Kn hu)
theorem jP{Y:Type} [DecidableEq Y]{K:av}{F:Addr->Prop}{H:Hp}:∀{et:List (Y×D)} {ws:List (Y×V)} {k:Y} {d:D},b5 K F H et ws->look et k=some d->∃v,gL ws k=some v/\Rep K F H d v
 |[],ws,k,d,_,e=>by simp[look] at e
 |p::et,[],k,d,r,_=>absurd r.1 (by simp)
 |p::et,q::ws,k,d,r,e=>by
  have h1:p.1=q.1/\et.map (·.1)=ws.map (·.1):=by have:=r.1;simpa using this
  have r2:b5 K F H et ws:=⟨h1.2,λi x y e1 e2=>r.2 (i+1) x y (by simpa using e1) (by simpa using e2)⟩
  by_cases z:p.1=k
  .have e' :look (p::et) k=some p.2:=by simp[look,Gbk,z]
   rw[e'] at e;cases e
   exact⟨q.2,n8 (h1.1.symm.trans z),r.2 0 p q rfl rfl⟩
  .have e' :look (p::et) k=look et k:=by simp[look,Gbk,z]
   rw[e'] at e;obtain⟨v,h3,h4⟩:=jP r2 e;exact⟨v,by rw[jJ (λw=>z (h1.1.trans w))];exact h3,h4⟩
theorem og{Y:Type} [DecidableEq Y]{K:av}{F:Addr->Prop}{H:Hp}:∀{et:List (Y×D)} {ws:List (Y×V)} {k:Y},b5 K F H et ws->look et k=none->gL ws k=none
 |[],[],k,_,_=>rfl
 |[],q::ws,k,r,_=>absurd r.1 (by simp)
 |p::et,[],k,r,_=>absurd r.1 (by simp)
 |p::et,q::ws,k,r,e=>by
  have h1:p.1=q.1/\et.map (·.1)=ws.map (·.1):=by have:=r.1;simpa using this
  have r2:b5 K F H et ws:=⟨h1.2,λi x y e1 e2=>r.2 (i+1) x y (by simpa using e1) (by simpa using e2)⟩
  by_cases z:p.1=k
  .have e' :look (p::et) k=some p.2:=by simp[look,Gbk,z]
   rw[e'] at e;cases e
  .have e' :look (p::et) k=look et k:=by simp[look,Gbk,z]
   rw[e'] at e;rw[jJ (λw=>z (h1.1.trans w))];exact og r2 e
theorem sx{K:av}{F:Addr->Prop}{d:D}{x:V}{k:Key}(i:Inn K F H d x)(e:keyOf d=some k):x=kV k:=by
 unfold keyOf at e;split at e<;>cases e<;>cases i<;>rfl
theorem gD{K:av}{F:Addr->Prop}{H:Hp}:∀{ds:List D} {vs:List V} {ks:List Key},aT K F H ds vs->keysOf ds=some ks->vs=ks.map kV
 |[],vs,ks,r,e=>by cases e;rw[r.cz];rfl
 |d::ds,vs,ks,r,e=>by
  obtain⟨v,w,rfl,h1,h2⟩:=r.cons_inv;unfold keysOf at e;obtain⟨k,hk,e⟩:=ef e;obtain⟨Wm,Uu,rfl⟩:=Gac.mp e;rw[sx h1.inn hk,gD h2 Uu]
  rfl
theorem qD{K:av}{F:Addr->Prop}{d k:D}{x y:V}(ix:Inn K F H d x)(iy:Inn K F H k y):
  (∀et key,d= .dK et->keyOf k=some key->∃a ws,x= .ref a/\b5 K F H et ws/\pO H a y (gL ws key))/\
  (∀et ks key,d= .dT et->k= .tup ks->keysOf ks=some key->∃a ws,x= .ref a/\b5 K F H et ws/\pO H a y (gL ws key)):=by
 refine⟨λet key ed ek=> ?_,λet ks key ed ek e=> ?_⟩
 .subst ed;cases ix with
  |dK h r=>exact⟨_,_,rfl,r,.inl ⟨_,key,.inl h,sx iy ek,rfl⟩⟩
 .subst ed ek;cases ix with
  |dT h r=>
   cases iy with
   |tup hy ry=>exact⟨_,_,rfl,r,.inr ⟨_,key,_,.inl h,rfl,by rw[<-gD ry e];exact hy,rfl⟩⟩
theorem aj(hu:X.A.units+1<cLine)(ha:PEd X a f)(hb:PEd X b g)(hs:DP b:=by exactλ_ _=>rfl):PEd X (.Subscript a b pos) (ixE f g):=by
 refine(PD (Ko hu) ha hb hs).aG ?_;rintro σ H Q ⟨H0,eh,env,rv,E,e,k⟩;obtain⟨x,hx,e⟩:=ef e;obtain⟨y,hy,e⟩:=ef e;obtain⟨d,e',rfl⟩:=Gac.mp e;clear e;have e:=e';clear e';refine⟨H0,eh,env,x,E,hx,λvx H1 s1 R1=> ⟨H0,eh,env,y,E.mono s1,hy,λvy H2 s2 R2=> ?_⟩⟩;have ix:=R1.inn.same s2;have iy:=R2.inn;have fin:∀v,Rep X.K (Cln eh env σ) H2 d v->Q v H2:=λv r=>k v H2 (s1.trans s2) r;generalize x.d=dx at ix e;generalize y.d=dy at iy e;unfold ixD at e;split at e
 .cases iy;cases ix with
  |lst h r=>
   obtain⟨v,h1,h2⟩:=HB r e;exact .inl (.inl ⟨_,_,_,v,rfl,rfl,.inl h,h1,fin v h2⟩)
 .cases iy;cases ix with
  |tup h r=>
   obtain⟨v,h1,h2⟩:=HB r e;exact .inl (.inr (.inl ⟨_,_,_,v,rfl,rfl,SqT.of h,h1,fin v h2⟩))
 .split at e
  .rename_i hz;obtain⟨ch,e',rfl⟩:=Gac.mp e;clear e;have e:=e';clear e';cases iy;cases ix
   refine .inl (.inr (.inr ⟨_,_,ch,rfl,rfl,by rw[<-eU];exact hz, ?_,fin _ (.str _)⟩));unfold atD at e;unfold atI ixN;split at e
   .rename_i h0;have hi:=(Gae.mp e).1;rw[Gaf h0,Gaf (by lia)];exact e
   .rename_i h0;split at e
    .rename_i h1;rw[Gag h0,Gaf h1];exact e
    .cases e
  .cases e
 .obtain⟨key,hk,e⟩:=ef e;obtain⟨p,ws,rfl,r,dg⟩:=(qD ix iy).1 _ key rfl hk;obtain⟨v,h1,h2⟩:=jP r e;rw[h1] at dg;exact .inr ⟨p,v,rfl,dg,fin v h2⟩
 .obtain⟨key,hk,e⟩:=ef e;obtain⟨p,ws,rfl,r,dg⟩:=(qD ix iy).2 _ _ key rfl rfl hk;obtain⟨v,h1,h2⟩:=jP r e;rw[h1] at dg;exact .inr ⟨p,v,rfl,dg,fin v h2⟩
 .obtain⟨n,e',rfl⟩:=Gac.mp e;clear e;have e:=e';clear e';cases iy;cases ix with
  |scr h=>
   refine .inl (.inl ⟨_,_,_,.int n,rfl,rfl,h.sq, ?_,fin _ (.int n)⟩);unfold atD at e;unfold atI ixN;rw[Gaq];split at e
   .rename_i h0;have hi:=(Gae.mp e).1;rw[Gaf h0,Gaf (by lia)];show(List.map V.int _)[_]? =_;rw[Gas,e];rfl
   .rename_i h0;split at e
    .rename_i h1;rw[Gag h0,Gaf h1];show(List.map V.int _)[_]? =_;rw[Gas,e];rfl
    .cases e
 .cases e
theorem ah:PAd X [] ao:=by
 refine lU.aG ?_;rintro σ H Q ⟨H0,eh,env,rs,E,e,k⟩;cases e;exact k [] H cE .nil
variable{rs:List RV}{σ:St}{env:Env}{H0 H' :Hp}
theorem Bu{K:av}{H1:Hp}{eh:Addr->Prop}(s:bz H H1)(p:Paired (je K H0 eh env σ H1 H') rs vs):Paired (je K H0 eh env σ H H') rs vs:=L2.Paired.JO p λ_ _ h=>h.from s
variable{es:List Expr}
theorem a8{r:DA}(ha:PEd X e f)(hr:PAd X es r)(hs:autoParam (starEach (e::es) X.env=(false,eval e X.env)::starEach es X.env) Za1._auto_1):PAd X (e::es) (aa f r):=by
 refine(dB ha hr hs).aG ?_;rintro σ H Q ⟨H0,eh,env,rs,E,e,k⟩;obtain⟨x,hx,e⟩:=ef e;obtain⟨xs,VA,e⟩:=ef e;cases e;exact⟨H0,eh,env,x,E,hx,λvx H1 s1 R1=> ⟨H0,eh,env,xs,E.mono s1,VA,λvs H2 s2 Rs=>k _ H2 (s1.trans s2) (.cons (R1.same s2) (Bu s1 Rs))⟩⟩
theorem wV{K:av}{eh:Addr->Prop}(E:aA K H0 eh env σ H)(p:Paired (je K H0 eh env σ H H') rs vs):rs.all (·.free)=true->aT K (Cln eh env σ) H' (rs.map (·.d)) vs:=by
 induction p with
 |nil=>exactλ_=>aT.nil
 |cons h t ih=>
  intro f;rw[GaO,Gam] at f;exact aT.cons (h.rep E f.1) (ih f.2)
theorem az{r:DA}{j:Nat}(ha:PAd X es r):PEd X (.Tuple es j pos) (aQ r):=by
 refine(GU ha).aG ?_;rintro σ H Q ⟨H0,eh,env,rv,E,e,k⟩;obtain⟨rs,hr,e⟩:=ef e;split at e
 .rename_i q;rw[Gam] at q;cases e;refine⟨H0,eh,env,rs,E,hr,λvs H1 s1 Rs=> ?_⟩;have rep:=wV E Rs q.1;refine⟨by rw[<-rep.1,Gaq,<-eU];exact GaI q.2,λp n=> ?_⟩;exact k _ _ (s1.trans (c4 n)) (gy n rep)
 .cases e
theorem ml{r:DA}(ha:PAd X es r):PEd X (.List es pos) (uG r):=by
 refine(Cu ha).aG ?_;rintro σ H Q ⟨H0,eh,env,rv,E,e,k⟩;obtain⟨rs,hr,e⟩:=ef e;split at e
 .rename_i q;rw[Gam] at q;cases e;refine⟨H0,eh,env,rs,E,hr,λvs H1 s1 Rs=> ?_⟩;have rep:=wV E Rs q.1;refine⟨by rw[<-rep.1,Gaq,<-eU];exact GaI q.2,λp n=> ?_⟩;exact k _ _ (s1.trans (c4 n)) ⟨p,rfl,s1.free n,uI,rfl,jO n rep⟩
 .cases e
noncomputable def spD(K:av)(np:Nat)(sp:List D->Option D):Sp:=λvs H Q _=>∃ds d,ds.length=np/\aT K (λ_=>True) H ds vs/\sp ds=some d/\∀v H',bz H H' ->iA K H H' d v->Q v H'
theorem gE{K:av}{eh:Addr->Prop}(p:Paired (je K H0 eh env σ H H') rs vs):aT K (λ_=>True) H' (rs.map (·.d)) vs:=by
 induction p with
 |nil=>exact aT.nil
 |cons h t ih=>exact aT.cons h.inn.any ih
variable{p:Pos}{x:Str}
theorem Kp{CX:CXT}{k:Nat}{fa:Addr}{fd:FuncData}{ps:List Str}{np:Nat}{sp:List D->Option D}{r:DA}{E:XK}(F:bu X.prog X.w X.K X.mg X.base CX k fa fd ps (spD X.K np sp))(hr:cP k X.A)(hg:Gl X x)
  (hm:X.mg x=some (.ref fa))(hk:PySem.W.keepIn X.K (.ref fa)=true)(hb:Binds X.K fd ps [])(hx:Passes CX X E)(ha:PAd X (e::es) r)(hl:∀env rs,r env=some rs->rs.length=np)
  (xu:autoParam ((x==("__debug__":Str))=false) Za2._auto_1)(he:autoParam (starEach (e::es) X.env=(false,eval e X.env)::starEach es X.env) Za1._auto_1)(xa:autoParam ((backTo pos (starEach es X.env)).any (·.1)=false) Za1._auto_1):
  PEd X (.Call (.Name x p) (e::es) [] pos) (aV sp r):=by
 refine(As (dvs:=[]) F hr hg hm hk hb .nil hx ha xu he xa).aG ?_;rintro σ H Q ⟨H0,eh,env,rv,E,e,k⟩;obtain⟨rs,xA,e⟩:=ef e;obtain⟨d,hd,rfl⟩:=Gac.mp e;refine⟨H0,eh,env,rs,E,xA,λvs H1 s1 Rs=> ⟨rs.map (·.d),d,by rw[Gaq];exact hl env rs xA, ?_,hd,λv H2 s2 R2=>k v H2 (s1.trans s2) ((R2.rv (E.mono s1)).from s1)⟩⟩;rw[GaV];exact gE Rs
def CallD(X:Cx)(o:List D->Option RV)(r:List V->Hp->VK->Prop):Prop:=∀(F:Addr->Prop) (H:Hp) (ds:List D) (vs:List V) (rv:RV) (Q:VK),Paired (Inn X.K F H) ds vs->o ds=some rv->(∀v H',bz H H' ->RvN X.K F H H' rv v->Q v H')->r vs H Q
theorem uK{K:av}{eh:Addr->Prop}(p:Paired (je K H0 eh env σ H H') rs vs):Paired (Inn K (Cln eh env σ) H') (rs.map (·.d)) vs:=by
 induction p with
 |nil=>exact .nil
 |cons h t ih=>exact .cons h.inn ih
variable{ra:DA}{o:List D->Option RV}
theorem gz{id:String}{r:List V->Hp->VK->Prop}(hc:j0 X (.builtin id) r)(hd:CallD X o r)(hg:Gl X x)(hm:X.mg x=none)(hv:bootBuiltins x=some (.builtin id))(ha:PAd X (e::es) ra)
  (hn:autoParam (x≠"__name__") Za2._auto_1)(xu:autoParam ((x==("__debug__":Str))=false) Za2._auto_1)(he:autoParam (starEach (e::es) X.env=(false,eval e X.env)::starEach es X.env) Za1._auto_1)(xa:autoParam ((backTo pos (starEach es X.env)).any (·.1)=false) Za1._auto_1):
  PEd X (.Call (.Name x p) (e::es) [] pos) (j4 o ra):=by
 refine(qr hc hg hm hv ha hn xu he xa).aG ?_;rintro σ H Q ⟨H0,eh,env,rv,E,e,k⟩;obtain⟨rs,xA,e⟩:=ef e;exact⟨H0,eh,env,rs,E,xA,λvs H1 s1 Rs=>hd _ H1 _ vs rv Q (uK Rs) e λv H2 s2 R2=>k v H2 (s1.trans s2) (R2.ok s1)⟩
theorem nv{T:String}{r:List V->Hp->VK->Prop}(hc:j0 X (.type T) r)(hd:CallD X o r)(hg:Gl X x)(hm:X.mg x=none)(hv:bootBuiltins x=some (.type T))(ha:PAd X (e::es) ra)
  (hn:autoParam (x≠"__name__") Za2._auto_1)(xu:autoParam ((x==("__debug__":Str))=false) Za2._auto_1)(he:autoParam (starEach (e::es) X.env=(false,eval e X.env)::starEach es X.env) Za1._auto_1)(xa:autoParam ((backTo pos (starEach es X.env)).any (·.1)=false) Za1._auto_1):
  PEd X (.Call (.Name x p) (e::es) [] pos) (j4 o ra):=by
 refine(Fx hc hg hm hv ha hn xu he xa).aG ?_;rintro σ H Q ⟨H0,eh,env,rv,E,e,k⟩;obtain⟨rs,xA,e⟩:=ef e;exact⟨H0,eh,env,rs,E,xA,λvs H1 s1 Rs=>hd _ H1 _ vs rv Q (uK Rs) e λv H2 s2 R2=>k v H2 (s1.trans s2) (R2.ok s1)⟩
theorem jz{R:D->V->Prop}{d:D}(h:Paired R [d] vs):∃v,vs=[v]/\R d v:=by
 cases h with
 |cons h t=>cases t;exact⟨_,rfl,h⟩
theorem Kq{R:D->V->Prop}{d d2:D}(h:Paired R [d,d2] vs):∃v w,vs=[v,w]/\R d v/\R d2 w:=by
 cases h with
 |cons h t=>cases t with
  |cons h2 t=>cases t;exact⟨_,_,rfl,h,h2⟩
theorem gF:j0 X (.builtin "len") (λxs H Q=>∃a et,xs=[.ref a]/\Rd H a (.dK et)/\Q (.int et.length) H):=by
 intro ee s σ H xs us Q I r h;obtain⟨a,et,rfl,e,q⟩:=h;obtain⟨u,rfl,rx⟩:=vals1 r;cases rx;exact PM I e λt s' I' => ⟨.int et.length,H,I',⟨t,rfl⟩,q⟩
theorem gG:CallD X ni (λxs H Q=>(∃x n,xs=[x]/\Px X.K x H n/\Q (.int n) H)\/(∃a et,xs=[.ref a]/\Rd H a (.dK et)/\Q (.int et.length) H)):=by
 intro F H ds vs rv Q ps e k;unfold ni at e;split at e
 .cases e;obtain⟨v,rfl,i⟩:=jz ps;cases i with
  |lst h r=>exact .inl ⟨_,_,rfl,.inl ⟨_,.inl h,r.1⟩,k _ H cE (.int _)⟩
 .cases e;obtain⟨v,rfl,i⟩:=jz ps;cases i with
  |tup h r=>exact .inl ⟨_,_,rfl,.inr ⟨_,SqT.of h,r.1⟩,k _ H cE (.int _)⟩
 .split at e
  .rename_i q;cases e;obtain⟨v,rfl,i⟩:=jz ps;cases i;exact .inl ⟨_,_,rfl,⟨by rw[<-eU];exact q,rfl⟩,k _ H cE (.int _)⟩
  .cases e
 .cases e;obtain⟨v,rfl,i⟩:=jz ps;cases i with
  |dK h r=>
   have hl:=congrArg List.length r.1;rw[Gaq,Gaq] at hl;exact .inr ⟨_,_,rfl,.inl h,by rw[<-hl];exact k _ H cE (.int _)⟩
 .cases e;obtain⟨v,rfl,i⟩:=jz ps;cases i with
  |scr h=>exact .inl ⟨_,_,rfl,.inl ⟨_,h.sq,by simp⟩,k _ H cE (.int _)⟩
 .cases e
theorem CI:CallD X wN (λxs H Q=>∃i j,xs=[.int i,.int j]/\Q (.int (if j<i then j else i)) H):=by
 intro F H ds vs rv Q ps e k;unfold wN at e;split at e
 .cases e;obtain⟨v,w,rfl,i1,i2⟩:=Kq ps;cases i1;cases i2
  exact⟨_,_,rfl,k _ H cE (.int _)⟩
 .cases e
theorem j7:CallD X jL (λxs H Q=>∃p ys,xs=[.ref p]/\((SqL X.K H p ys/\∀l,H l=none->Q (.ref l) (upd H l (.tup ys)))\/(SqT X.K H p ys/\Q (.ref p) H))):=by
 intro F H ds vs rv Q ps e k;unfold jL at e;split at e
 .cases e;obtain⟨v,rfl,i⟩:=jz ps;cases i with
  |lst h r=>
   refine⟨_,_,rfl,.inl ⟨.inl h,λl n=> ?_⟩⟩;exact k _ _ (c4 n) (gy n r)
 .cases e;obtain⟨v,rfl,i⟩:=jz ps;cases i with
  |tup h r=>exact⟨_,_,rfl,.inr ⟨SqT.of h,k _ H cE (.tup h r.1 r.2)⟩⟩
 .cases e
end
section
variable{K:av}{H0 H H' :Hp}{eh:Addr->Prop}{env eD :Env}{σ σ' :St}{d:D}{v:V}{a:Addr}{i:Nat}
variable{j:Nat}
theorem eO{α:Type}{l:List α}{i:Nat}{x y:α}(e:(l.set i x)[j]? =some y):(i=j/\y=x)\/(i≠j/\l[j]? =some y):=by
 by_cases h:i=j
 .subst h;have hi:i<l.length:=by have:=(Gae.mp e).1;simpa using this
  rw[GaB hi] at e;cases e;exact .inl ⟨rfl,rfl⟩
 .rw[Gaa h] at e;exact .inr ⟨h,e⟩
theorem set_same{α:Type}{l:List α}{i:Nat}{x:α}(e:l[i]? =some x):l.set i x=l:=by
 apply Gdd;intro j;by_cases h:i=j
 .subst h;rw[GaB (Gae.mp e).1,e]
 .rw[Gaa h]
theorem bA{α:Type}{l:List α}{i:Nat}{x:α}(h:i<l.length):(l.set i x)[i]? =some x:=GaB h
theorem jQ(h:b6 (env.set i (some (.sh d)))[j]?):i≠j/\b6 env[j]? :=by
 by_cases q:i=j
 .subst q;by_cases z:i<env.length
  .rw[bA z] at h;exact h.elim
  .rw[GaP (by simpa using Gco z)] at h;exact h.elim
 .rw[Gaa q] at h;exact⟨q,h⟩
theorem aA.gh(E:aA K H0 eh env σ H)(r:Rep K (Cln eh env σ) H d v):aA K H0 eh (env.set i (some (.sh d))) (σ.set i (some v)) H:=by
 have hV:∀b,Cln eh env σ b->Cln eh (env.set i (some (.sh d))) (σ.set i (some v)) b:=λb ⟨h1,h2⟩=> ⟨h1,λj t e=>by
  obtain⟨q,t⟩:=jQ t;rw[Gaa q] at e;exact h2 j t e⟩
 refine⟨E.same,by simp[E.len],E.bad,λj dj e=> ?_,λj dj e=> ?_,λj dj e=> ?_,λj k b t1 t2 e1 e2=> ?_⟩
 .rcases eO e with⟨q,e⟩| ⟨q,e⟩
  .cases e;subst q;have hi:i<env.length:=by have:=(Gae.mp e);simpa using this.1
   exact⟨v,bA (by rw[<-E.len];exact hi),r.imp hV⟩
  .obtain⟨w,h1,h2⟩:=E.sh j dj e;exact⟨w,by rw[Gaa q];exact h1,h2.imp hV⟩
 .have e' :i≠j/\(env[j]? =some (some (.own dj))\/env[j]? =some (some (.lok dj))):=by
   rcases e with e|e
   .rcases eO e with⟨q,e⟩| ⟨q,e⟩
    .cases e
    .exact⟨q,.inl e⟩
   .rcases eO e with⟨q,e⟩| ⟨q,e⟩
    .cases e
    .exact⟨q,.inr e⟩
  obtain⟨b,h1,h2,h3,h4,h5,h6⟩:=E.ow j dj e'.2;exact⟨b,by rw[Gaa e'.1];exact h1,h2,h3,h4,h5,h6.imp hV⟩
 .rcases eO e with⟨q,e⟩| ⟨q,e⟩
  .cases e
  .obtain⟨b,h1,hw,h2,h3⟩:=E.bo j dj e;exact⟨b,by rw[Gaa q];exact h1,hw,h2,h3.imp hV⟩
 .obtain⟨q1,zy⟩:=jQ t1.top;obtain⟨q2,t2⟩:=jQ t2;rw[Gaa q1] at e1 t1;rw[Gaa q2] at e2;exact E.dj j k b t1 t2 e1 e2
theorem Stp.gh:Stp env σ H (env.set i (some (.sh d))) (σ.set i (some v)) H:=⟨λ_ _ e _=>e,λb ⟨j,h,e⟩=>by
 have h' :b6 (env.set i (some (.sh d)))[j]? :=h.ol.top;obtain⟨q,_⟩:=jQ h';rw[Gaa q] at h e;exact .inl ⟨j,h,e⟩,λj h=>by
 obtain⟨q,_⟩:=jQ h.top;rw[Gaa q,Gaa q];exact⟨rfl,rfl⟩⟩
theorem kB(h:b6 (env.set i (some (.own d)))[j]?)(hi:i<env.length):i=j\/(i≠j/\b6 env[j]?):=by
 by_cases q:i=j
 .exact .inl q
 .rw[Gaa q] at h;exact .inr ⟨q,h⟩
theorem aA.HC(E:aA K H0 eh env σ H)(hi:i<env.length)(n0:H0 a=none)(nb:¬eh a)(w:Wr H' a)(t:d.top=true)(s:bz H0 H')(bd:∀b,eh b->H' b≠none)
  (ne:∀j b,j≠i->b6 env[j]? ->σ[j]? =some (some (.ref b))->b≠a/\H' b=H b)
  (inn:Inn K (Cln eh (env.set i (some (.own d))) (σ.set i (some (.ref a)))) H' d (.ref a))
  (hV:∀b,Cln eh env σ b->H b≠none->Cln eh (env.set i (some (.own d))) (σ.set i (some (.ref a))) b)
  (dC:j5 (Cln eh env σ) H H'):
  aA K H0 eh (env.set i (some (.own d))) (σ.set i (some (.ref a))) H' :=by
 have keep:∀{j:Nat} {b:Addr} {dj:D},j≠i->b6 env[j]? ->σ[j]? =some (some (.ref b))->Inn K (Cln eh env σ) H dj (.ref b)->Inn K (Cln eh (env.set i (some (.own d))) (σ.set i (some (.ref a)))) H' dj (.ref b):=λ{j b dj} hj tj ej h=>
  h.gen dC hV λb' eb _ o e=>by cases eb;rw[(ne j b hj tj ej).2];exact e
 refine⟨s,by simp[E.len],bd,λj dj e=> ?_,λj dj e=> ?_,λj dj e=> ?_,λj k b t1 t2 e1 e2=> ?_⟩
 .rcases eO e with⟨q,e⟩| ⟨q,e⟩
  .cases e
  .obtain⟨u,h1,h2⟩:=E.sh j dj e;exact⟨u,by rw[Gaa q];exact h1,h2.gen dC hV⟩
 .have e' :(i=j/\dj=d)\/(i≠j/\(env[j]? =some (some (.own dj))\/env[j]? =some (some (.lok dj)))):=by
   rcases e with e|e
   .rcases eO e with⟨q,e⟩| ⟨q,e⟩
    .cases e;exact .inl ⟨q,rfl⟩
    .exact .inr ⟨q,.inl e⟩
   .rcases eO e with⟨q,e⟩| ⟨q,e⟩
    .cases e
    .exact .inr ⟨q,.inr e⟩
  rcases e' with⟨q,rfl⟩| ⟨q,e'⟩
  .subst q;exact⟨a,bA (by rw[<-E.len];exact hi),n0,nb,w,t,inn⟩
  .obtain⟨b,h1,h2,h3,h4,h5,h6⟩:=E.ow j dj e';have tj:b6 env[j]? :=by rcases e' with e' |e' <;>rw[e']<;>trivial
   refine⟨b,by rw[Gaa q];exact h1,h2,h3, ?_,h5,keep (Gay q) tj h1 h6⟩;unfold Wr;rw[(ne j b (Gay q) tj h1).2];exact h4
 .rcases eO e with⟨q,e⟩| ⟨q,e⟩
  .cases e
  .obtain⟨b,h1,hw,h2,h3⟩:=E.bo j dj e;have tj:b6 env[j]? :=by rw[e];trivial
   refine⟨b,by rw[Gaa q];exact h1, ?_,h2,keep (Gay q) tj h1 h3⟩;unfold Wr;rw[(ne j b (Gay q) tj h1).2];exact hw
 .rcases kB t1.top hi with q1| ⟨q1,zy⟩
  .rcases kB t2 hi with q2| ⟨q2,zx⟩
   .rw[<-q1,<-q2]
   .subst q1;rw[bA (by rw[<-E.len];exact hi)] at e1;cases e1;rw[Gaa q2] at e2;exact absurd rfl (ne k a (Gay q2) zx e2).1
  .rcases kB t2 hi with q2| ⟨q2,zx⟩
   .subst q2;rw[bA (by rw[<-E.len];exact hi)] at e2;cases e2;rw[Gaa q1] at e1;exact absurd rfl (ne j a (Gay q1) zy e1).1
   .rw[Gaa q1] at e1 t1;rw[Gaa q2] at e2;exact E.dj j k b t1 zx e1 e2
theorem Bv(hi:i<env.length)(hs:env.length=σ.length){b:Addr}(h:Cln eh env σ b)(hb:b≠a):Cln eh (env.set i (some (.own d))) (σ.set i (some (.ref a))) b:=⟨h.1,λj t e=>by
 rcases kB t hi with q| ⟨q,t⟩
 .subst q;rw[bA (by rw[<-hs];exact hi)] at e;cases e;exact hb rfl
 .rw[Gaa q] at e;exact h.2 j t e⟩
theorem aA.sy(E:aA K H0 eh env σ H)(s:bz H H')(hi:i<env.length)(n:H a=none)(w:Wr H' a)(t:d.top=true)(Ux:Inn K (λb=>Cln eh env σ b/\b≠a) H' d (.ref a)):
  aA K H0 eh (env.set i (some (.own d))) (σ.set i (some (.ref a))) H' :=by
 have hV:∀b,Cln eh env σ b->b≠a->Cln eh (env.set i (some (.own d))) (σ.set i (some (.ref a))) b:=λb h hb=>Bv hi E.len h hb;have cln' :∀b,Cln eh env σ b->H b≠none->Cln eh (env.set i (some (.own d))) (σ.set i (some (.ref a))) b:=λb h hb=>hV b h λz=>hb (z▸n);refine E.HC (H' :=H') hi (E.same.free n) (λb=>E.bad a b n) w t (E.same.trans s) (λb h e=>E.bad b h (s.free e)) (λj b hj tj ej=> ?_) (Ux.imp λb h=>hV b h.1 h.2) cln' (.of_same s);have hb:=E.qC tj ej;refine⟨λz=>hb (z▸n), ?_⟩;cases q:H b with
 |none=>exact absurd q hb
 |some o=>exact s b o q
theorem Stp.sy(s:bz H H')(hi:i<env.length)(hs:env.length=σ.length)(n:H a=none):Stp env σ H (env.set i (some (.own d))) (σ.set i (some (.ref a))) H' :=⟨λb o e _=>s b o e,λb ⟨j,h,e⟩=>by
 by_cases q:i=j
 .subst q;rw[bA (by rw[<-hs];exact hi)] at e;cases e;exact .inr n
 .rw[Gaa q] at h e;exact .inl ⟨j,h,e⟩,λj h=>by
 by_cases q:i=j
 .subst q;rw[bA hi] at h;exact h.elim
 .rw[Gaa q,Gaa q];exact⟨rfl,rfl⟩⟩
theorem aA.change{d' :D}{o:HO}(E:aA K H0 eh env σ H)(e:env[i]? =some (some (.own d)))(ea:σ[i]? =some (some (.ref a)))(wo:isW o)(t:d'.top=true)
  (inn:Inn K (Cln eh env σ) (upd H a o) d' (.ref a)):aA K H0 eh (env.set i (some (.own d'))) σ (upd H a o)/\Stp env σ H (env.set i (some (.own d'))) σ (upd H a o):=by
 have hi:i<env.length:=(Gae.mp e).1;obtain⟨a',h1,h2,h3,h4,h5,h6⟩:=E.ow i d (.inl e);rw[ea] at h1;cases h1
 have hσ:σ.set i (some (.ref a))=σ:=set_same ea;have xr:∀j,b6 (env.set i (some (.own d')))[j]? ↔b6 env[j]? :=λj=>by
  by_cases q:i=j
  .subst q;rw[bA hi,e];exact⟨λ_=>trivial,λ_=>trivial⟩
  .rw[Gaa q]
 have clnE:∀b,Cln eh env σ b->Cln eh (env.set i (some (.own d'))) σ b:=λb h=> ⟨h.1,λj tj ej=>h.2 j ((xr j).mp tj) ej⟩;have ca:∀b,Cln eh env σ b->b≠a:=λb h z=>by subst z;exact h.2 i (by rw[e];trivial) ea
 have dC:j5 (Cln eh env σ) H (upd H a o):=λb x hb q=>by
  have:b≠a:=by
   rintro rfl;rcases q with q|q
   .exact ca b q rfl
   .obtain⟨y,hy,wy⟩:=h4;rw[hb] at hy;cases hy
    cases x<;>simp[isT] at q<;>exact wy
  rw[ak this];exact hb
 have keepA:∀b x,H b=some x->b≠a->(upd H a o) b=some x:=λb x hb hn=>by rw[ak hn];exact hb
 refine⟨?_,⟨λb x hb n=>keepA b x hb λz=>n ⟨i,by rw[e];trivial,by rw[z];exact ea⟩,λb ⟨j,h,ej⟩=> .inl ?_,λj h=> ?_⟩⟩
 .have:=E.HC (H' :=upd H a o) (a:=a) (d:=d') hi h2 h3 ⟨o,aC,wo⟩ t (λb x hb=>keepA b x (E.same b x hb) λz=>by rw[z,h2] at hb;cases hb)
   (λb hb z=>by
    by_cases q:b=a
    .subst q;rw[aC] at z;cases z
    .rw[ak q] at z;exact E.bad b hb z)
   (λj b hj tj ej=>by
    have:b≠a:=by rintro rfl;exact hj (E.dj i j b (by rw[e];trivial) tj ea ej).symm
    exact⟨this,by rw[ak this]⟩)
   (by rw[hσ];exact inn.imp clnE) (λb h _=>by rw[hσ];exact clnE b h) dC
  rw[hσ] at this;exact this
 .by_cases q:i=j
  .subst q;exact⟨i,by rw[e];trivial,ej⟩
  .rw[Gaa q] at h;exact⟨j,h,ej⟩
 .by_cases q:i=j
  .subst q;rw[bA hi] at h;exact h.elim
  .rw[Gaa q];exact⟨rfl,rfl⟩
end
section
variable{X:Cx}{e a b c:Expr}{f g h:DE}{t u:DT}{pos:Pos}{st:Stmt}{rest:List Stmt}{s1 s2:DS}
theorem aS:kW X [] aX:=by
 refine DC.aG ?_;rintro D σ H ⟨H0,eh,env,o,E,e,k⟩;cases e;exact k σ H E .refl
theorem ax(h1:PSd X st s1)(h2:kW X rest s2):kW X (st::rest) (b9 s1 s2):=by
 refine(g7 h1 h2).aG ?_;rintro D σ H ⟨H0,eh,env,o,E,e,k⟩;obtain⟨o1,h1,e⟩:=ef e;refine⟨H0,eh,env,o1,E,h1, ?_⟩;cases o1 with
 |nx e1=>
  intro σ1 H1 E1 p1;refine⟨H0,eh,e1,o,E1,e, ?_⟩;cases o with
  |nx e2=>exactλσ2 H2 E2 p2=>k σ2 H2 E2 (p1.trans p2)
  |bk e2=>exactλσ2 H2 E2 p2=>k σ2 H2 E2 (p1.trans p2)
  |ct e2=>exactλσ2 H2 E2 p2=>k σ2 H2 E2 (p1.trans p2)
  |ret d=>exact k
 |bk e1=>cases e;exact k
 |ct e1=>cases e;exact k
 |ret d=>cases e;exact k
theorem aB(h1:PSd X st s1):kW X [st] s1:=jm h1
theorem HD:PSd X (.Break pos) bkS:=by
 refine GH.aG ?_;rintro D σ H ⟨H0,eh,env,o,E,e,k⟩;cases e;exact k σ H E .refl
variable{H0 H' :Hp}
theorem Eg{K:av}{F:Addr->Prop}{d:D}{v:V}(i:Inn K F H' d v)(hd:d.imm=true):iA K H0 H' d v:=by
 refine⟨λt=> ?_,(i.imm hd).inn⟩;cases d<;>simp[D.top] at t<;>simp[D.imm] at hd
variable{H:Hp}
theorem Qt{Y:Type}{K:av}{F F' :Addr->Prop}{et:List (Y×D)}{ws:List (Y×V)}(r:b5 K F H et ws)(h:aZ (et.map (·.2))=true):b5 K F' H et ws:=
 ⟨r.1,λi p q e1 e2=>(r.2 i p q e1 e2).imm (mh h i p.2 (by rw[Gas,e1];rfl))⟩
theorem Eh{K:av}{F:Addr->Prop}{d:D}{a:Addr}(i:Inn K F H' d (.ref a))(hd:d.oS=true)(n:H0 a=none)(w:Wr H' a):iA K H0 H' d (.ref a):=by
 refine⟨λ_=> ⟨a,rfl,n,w⟩, ?_⟩;cases i with
 |tup h r=>exact(Inn.imm (.tup h r) (by exact hd)).inn
 |scr h=>exact .scr h
 |exc h r=>exact(Inn.imm (.exc h r) (by exact hd)).inn
 |obj h ln r=>exact(Inn.imm (.obj h ln r) (by exact hd)).inn
 |lst h r=>exact .lst h (r.imm hd)
 |dK h r=>exact .dK h (Qt r hd)
 |dT h r=>exact .dT h (Qt r hd)
theorem aN(he:PEd X e f):PSd X (.Return (some e) pos) (retS f):=by
 refine(Aq he).aG ?_;rintro D σ H ⟨H0,eh,env,o,E,e,k⟩;obtain⟨r,hr,e⟩:=ef e;split at e
 .rename_i ok;cases e;refine⟨H0,eh,env,r,E,hr,λv H1 s1 R=>k v H1 (E.same.trans s1) ?_⟩;obtain⟨kd,d⟩:=r;cases kd with
  |c=>exact Eg R.inn ok
  |tn=>
   have ii:=R.inn;obtain⟨a,rfl,n,w,t,i⟩:=R;exact Eh ii ok (E.same.free n) w
  |to=>
   have ii:=R.inn;obtain⟨a,rfl,n,w,t,i⟩:=R;exact Eh ii ok n w
  |tb=>exact absurd (show false=true from ok) Gai
 .cases e
theorem bS{xs ys:List Stmt}(hc:PTd X c t)(ha:kW X xs s1)(hb:kW X ys s2):PSd X (.If c xs ys pos) (ifS t s1 s2):=by
 refine(Bj hc ha hb).aG ?_;rintro D σ H ⟨H0,eh,env,o,E,e,k⟩;obtain⟨x,hx,e⟩:=ef e;refine⟨H0,eh,env,x,E,hx,λH1 s1=> ?_⟩;have st:Stp env σ H env σ H1:= .of_same s1;have fin:∀{s:DS},s env=some o->tS X s D σ H1:=λ{s} e=> ⟨H0,eh,env,o,E.mono s1,e,by
  cases o with
  |nx e2=>exactλσ2 H2 E2 p2=>k σ2 H2 E2 (st.trans p2)
  |bk e2=>exactλσ2 H2 E2 p2=>k σ2 H2 E2 (st.trans p2)
  |ct e2=>exactλσ2 H2 E2 p2=>k σ2 H2 E2 (st.trans p2)
  |ret d=>exact k⟩
 dsimp only;cases x with
 |true=>rw[Gaf rfl];rw[Gaf rfl] at e;exact fin e
 |false=>rw[Gag Gai];rw[Gag Gai] at e;exact fin e
variable{x:Str}{i:Nat}{σ:St}{env:Env}
theorem HE{X:Cx}{eh:Addr->Prop}(E:aA X.K H0 eh env σ H)(hl:σ.length=X.N.length)(hi:X.N[i]? =some x):i<env.length:=by
 rw[E.len,hl];exact(Gae.mp hi).1
theorem aO{pos' :Pos}(hN:X.N.Nodup)(hi:X.N[i]? =some x)(hx:Loc X.env.scope x)(he:PEd X e f)(hs:autoParam (swapsWith e (some (.Name x pos')) pos.line X.env=pure false) Za1._auto_1)
  (hf:autoParam (X.fn x=true\/X.env.scope.names.lookup x=some .local) Za3._auto_1):PSd X (.Assign [.Name x pos'] e pos) (bI i f):=by
 intro ee s σ H D I hw;have hl:=I.len;refine(lR hN hi hx he hs hf) ee s σ H D I ?_;obtain⟨H0,eh,env,o,E,e,k⟩:=hw;obtain⟨r,hr,e⟩:=ef e;obtain⟨e',xR,rfl⟩:=Gac.mp e;have hie:i<env.length:=HE E hl hi;refine⟨H0,eh,env,r,E,hr,λv H1 s1 R=> ?_⟩;have st:Stp env σ H env σ H1:= .of_same s1;obtain⟨kd,d⟩:=r;unfold stored at xR;cases kd with
 |c=>
  cases xR;exact k _ H1 ((E.mono s1).gh R) (st.trans .gh)
 |tn=>
  cases xR;obtain⟨a,rfl,n,w,t,i⟩:=R;exact k _ H1 (E.sy s1 hie n w t i) (.sy s1 hie E.len n)
 |to=>cases xR
 |tb=>cases xR
def FK(K:av)(F N:Addr->Prop)(J:It)(ds:List D)(H1:Hp):Prop:=
 ∀Hi:Hp,(∀b o,H1 b=some o->N b->Hi b=some o)->(∀(i:Nat) d,ds[i]? =some d->J.go i Hi/\∀x H2,J.yld i Hi x H2->bz Hi H2/\Rep K F H2 d x)/\J.stop ds.length Hi
def tI(X:Cx)(src:DI):TI:=λσ H R=>∃H0 eh env ds,aA X.K H0 eh env σ H/\src env=some ds/\∀J H',bz H H' ->FK X.K (λb=>Cln eh env σ b/\H' b≠none) (λb=>¬Ow env σ b) J ds H' ->R J H'
abbrev PId(X:Cx)(tg iter:Expr)(src:DI):Prop:=PI X tg iter (tI X src)
theorem _root_.L2.PI.aG{tg iter:Expr}{w w' :TI}(h:PI X tg iter w')(i:∀σ H R,w σ H R->w' σ H R):PI X tg iter w:=λee s σ H R I q=>h ee s σ H R I (i σ H R q)
theorem aA.lock{K:av}{eh:Addr->Prop}(E:aA K H0 eh env σ H)(l:Option Nat):aA K H0 eh (bV l env) σ H/\(∀b,Ow (bV l env) σ b->Ow env σ b)/\∀i:Nat,b6 (bV l env)[i]? ↔b6 env[i]? :=by
 cases l with
 |none=>exact⟨E,λ_ h=>h,λ_=>Iff.rfl⟩
 |some j=>
  unfold bV;dsimp only;split
  .rename_i d q;have hj:j<env.length:=(Gae.mp q).1;have xr:∀i,b6 (env.set j (some (.lok d)))[i]? ↔b6 env[i]? :=λi=>by
    by_cases z:j=i
    .subst z;rw[bA hj,q];exact⟨λ_=>trivial,λ_=>trivial⟩
    .rw[Gaa z]
   have hV:∀b,Cln eh env σ b->Cln eh (env.set j (some (.lok d))) σ b:=λb h=> ⟨h.1,λi t e=>h.2 i ((xr i).mp t) e⟩;refine⟨⟨E.same,by simpa using E.len,E.bad,λi di e=> ?_,λi di e=> ?_,λi di e=> ?_,λi k b t1 t2 e1 e2=> ?_⟩,λb ⟨i,h,e⟩=> ?_,xr⟩
   .rcases eO e with⟨z,e⟩| ⟨z,e⟩
    .cases e
    .obtain⟨v,h1,h2⟩:=E.sh i di e;exact⟨v,h1,h2.imp hV⟩
   .have e' :env[i]? =some (some (.own di))\/env[i]? =some (some (.lok di)):=by
     rcases e with e|e
     .rcases eO e with⟨z,e⟩| ⟨z,e⟩
      .cases e
      .exact .inl e
     .rcases eO e with⟨z,e⟩| ⟨z,e⟩
      .cases e;subst z;exact .inl q
      .exact .inr e
    obtain⟨b,h1,h2,h3,h4,h5,h6⟩:=E.ow i di e';exact⟨b,h1,h2,h3,h4,h5,h6.imp hV⟩
   .rcases eO e with⟨z,e⟩| ⟨z,e⟩
    .cases e
    .obtain⟨b,h1,hw,h2,h3⟩:=E.bo i di e;exact⟨b,h1,hw,h2,h3.imp hV⟩
   .have zy :mV env[i]? :=by
     by_cases z:j=i
     .subst z;rw[q];trivial
     .rw[Gaa z] at t1;exact t1
    exact E.dj i k b zy ((xr k).mp t2) e1 e2
   .by_cases z:j=i
    .subst z;rw[bA hj] at h;exact h.elim
    .rw[Gaa z] at h;exact⟨i,h,e⟩
  .exact⟨E,λ_ h=>h,λ_=>Iff.rfl⟩
theorem aA.free{K:av}{eh:Addr->Prop}(E:aA K H0 eh env σ H)(l:Option Nat):aA K H0 eh (jM l env) σ H:=by
 cases l with
 |none=>exact E
 |some j=>
  unfold jM;dsimp only;split
  .rename_i d q;have hj:j<env.length:=(Gae.mp q).1;have xr:∀i,b6 (env.set j (some (.own d)))[i]? ↔b6 env[i]? :=λi=>by
    by_cases z:j=i
    .subst z;rw[bA hj,q];exact⟨λ_=>trivial,λ_=>trivial⟩
    .rw[Gaa z]
   have hV:∀b,Cln eh env σ b->Cln eh (env.set j (some (.own d))) σ b:=λb h=> ⟨h.1,λi t e=>h.2 i ((xr i).mp t) e⟩;refine⟨E.same,by simpa using E.len,E.bad,λi di e=> ?_,λi di e=> ?_,λi di e=> ?_,λi k b t1 t2 e1 e2=> ?_⟩
   .rcases eO e with⟨z,e⟩| ⟨z,e⟩
    .cases e
    .obtain⟨v,h1,h2⟩:=E.sh i di e;exact⟨v,h1,h2.imp hV⟩
   .have e' :env[i]? =some (some (.own di))\/env[i]? =some (some (.lok di)):=by
     rcases e with e|e
     .rcases eO e with⟨z,e⟩| ⟨z,e⟩
      .cases e;subst z;exact .inr q
      .exact .inl e
     .rcases eO e with⟨z,e⟩| ⟨z,e⟩
      .cases e
      .exact .inr e
    obtain⟨b,h1,h2,h3,h4,h5,h6⟩:=E.ow i di e';exact⟨b,h1,h2,h3,h4,h5,h6.imp hV⟩
   .rcases eO e with⟨z,e⟩| ⟨z,e⟩
    .cases e
    .obtain⟨b,h1,hw,h2,h3⟩:=E.bo i di e;exact⟨b,h1,hw,h2,h3.imp hV⟩
   .have zy :mV env[i]? :=by
     by_cases z:j=i
     .subst z;rw[q];trivial
     .rw[Gaa z] at t1;exact t1
    exact E.dj i k b zy ((xr k).mp t2) e1 e2
  .exact E
end
section
variable{X:Cx}{e a b c:Expr}{f g h:DE}{t u:DT}{pos:Pos}{st:Stmt}{rest:List Stmt}{s1 s2:DS}
variable{i:Nat}{l:Option Nat}{env:Env}
theorem Bw(h:∀j,l=some j->j≠i):(bV l env)[i]? =env[i]? :=by
 unfold bV;split
 .rfl
 .rename_i j;split
  .rw[Gaa (h j rfl)]
  .rfl
variable{H:Hp}{σ:St}
theorem Stp.loop{xH:Env}{σN:St}{HN:Hp}(p:Stp (bV l env) σ H xH σN HN)(lo:∀b,Ow (bV l env) σ b->Ow env σ b):Stp env σ H (if sW l env then jM l xH else xH) σN HN:=by
 have same:sW l env=false->bV l env=env:=λh=>by
  unfold sW at h;unfold bV;split at h
  .rfl
  .split at h
   .cases h
   .rfl
 cases ho:sW l env with
 |false=>
  rw[Gag Gai];rw[same ho] at p;exact p
 |true=>
  rw[Gaf rfl];unfold sW at ho;split at ho
  .cases ho
  .rename_i j;split at ho
   .rename_i d q;have hj:j<env.length:=(Gae.mp q).1;have lockj:(bV (some j) env)[j]? =some (some (.lok d)):=by unfold bV;simp only[q];exact bA hj
    have other:∀i,j≠i->(bV (some j) env)[i]? =env[i]? :=λi hi=>Bw λk e=>by cases e;exact hi
    refine⟨λb o e n=>p.keep b o e λz=>n (lo b z),λb ⟨i,h,e⟩=> ?_,λi h=> ?_⟩
    .by_cases z:j=i
     .subst z;unfold jM at h;dsimp only at h;split at h
      .rename_i d' q';obtain⟨h1,h2⟩:=p.lk j (by rw[q'];trivial);rw[h2] at e;exact .inl ⟨j,by rw[q];trivial,e⟩
      .rcases p.ow b ⟨j,h,e⟩ with w|w
       .exact .inl (lo b w)
       .exact .inr w
     .have h' :isO xH[i]? :=by
       unfold jM at h;dsimp only at h;split at h
       .rw[Gaa z] at h;exact h
       .exact h
      rcases p.ow b ⟨i,h',e⟩ with w|w
      .exact .inl (lo b w)
      .exact .inr w
    .by_cases z:j=i
     .subst z;unfold jM at h⊢;dsimp only at h⊢;split at h
      .rename_i d' q';have hj' :j<xH.length:=(Gae.mp q').1;rw[bA hj'] at h;exact h.elim
      .rename_i q';obtain⟨h1,_⟩:=p.lk j h;rw[lockj] at h1;exact absurd h1 (q' d)
     .have hN:(jM (some j) xH)[i]? =xH[i]? :=by
       unfold jM;dsimp only;split
       .rw[Gaa z]
       .rfl
      rw[hN] at h⊢;obtain⟨h1,h2⟩:=p.lk i h;rw[other i z] at h1;exact⟨h1,h2⟩
   .cases ho
theorem wW{eh:Addr->Prop}{eD :Env}{σ' :St}{H' :Hp}(p:Stp env σ H eD σ' H'){b:Addr}(h:Cln eh env σ b)(hb:H b≠none):Cln eh eD σ' b:=⟨h.1,λi t e=>by
 rcases wR t with o|o
 .rcases p.ow b ⟨i,o,e⟩ with⟨j,w,ej⟩|w
  .exact h.2 j w.ol.top ej
  .exact hb w
 .obtain⟨h1,h2⟩:=p.lk i o;rw[h1] at t;rw[h2] at e;exact h.2 i t e⟩
variable{body:List Stmt}{tg:Expr}
theorem f9{iter:Expr}{src:DI}{gd:DG}{sb:DS}(hp:PassesOwn (model X.prog X.w) X.A X.env X.xe)(hc:X.calm=true)(hi:PId X tg iter src)(hg:PGd X tg gd)(hb:kW X body sb)
  (hs:∀x,foldedSetIterable iter X.env x=pure x:=by intro _;rfl):PSd X (.For tg iter body [] pos) (iD l src gd sb):=by
 refine(Cm hp hc hi hg hb hs).aG ?_;rintro D σ H ⟨H0,eh,env,o,E,e,k⟩;obtain⟨ds,yp,e⟩:=ef e;obtain⟨o1,VL,rfl⟩:=Gac.mp e;obtain⟨EL,lo,_⟩:=E.lock l;refine⟨H0,eh,bV l env,ds,EL,yp,λJ H1 sH it=> ?_⟩;have E1:=EL.mono sH;have st1:Stp env σ H env σ H1:= .of_same sH;have nxOk:∀xH σN HN,o1= .nx xH->aA X.K H0 eh xH σN HN->Stp (bV l env) σ H1 xH σN HN->D.nx σN HN:=λxH σN HN eo EN pN=>by
  subst eo;refine k σN HN ?_ (st1.trans (pN.loop lo));show aA X.K H0 eh (if sW l env then jM l xH else xH) σN HN;split
  .exact EN.free l
  .exact EN
 refine⟨λi m σ' H' =>m=ds.length -i/\i<=ds.length/\∃eQ,aA X.K H0 eh eQ σ' H' /\Stp (bV l env) σ H1 eQ σ' H' /\forL gd sb (ds.drop i) eQ=some o1,
  ⟨ds.length,by simp,GaX _,_,E1,.refl,by simpa using VL⟩, ?_⟩
 rintro i m σ' H' ⟨rfl,hle,eQ,Ei,pi,ei⟩;obtain⟨items,stop⟩:=it H' λb o hb n=>pi.keep b o hb n;by_cases xy:i<ds.length
 .obtain⟨go,yld⟩:=items i ds[i] (by simp[xy]);refine .inr ⟨go,λσ2 H2=>(ds.length -(i+1))=ds.length -(i+1)/\i+1<=ds.length/\∃eQ,aA X.K H0 eh eQ σ2 H2/\Stp (bV l env) σ H1 eQ σ2 H2/\forL gd sb (ds.drop (i+1)) eQ=some o1,λσ2 H2 q=> ⟨_,by lia,q⟩,λx H2 y=> ?_⟩;obtain⟨s2,rep⟩:=yld x H2 y;have hd:ds.drop i=ds[i]::ds.drop (i+1):=Gbx xy;rw[hd] at ei;unfold forL at ei;obtain⟨e2,SS,ei⟩:=ef ei;obtain⟨o2,UD,ei⟩:=ef ei;refine⟨H0,eh,eQ,ds[i],e2,Ei.mono s2,SS,rep.imp λb q=>wW pi q.1 q.2,λσ3 H3 E3 p3=> ?_⟩;have p3' :Stp (bV l env) σ H1 e2 σ3 H3:=(pi.trans (.of_same s2)).trans p3;refine⟨H0,eh,e2,o2,E3,UD, ?_⟩;cases o2 with
  |nx e4=>exactλσ4 H4 E4 p4=> ⟨rfl,xy,e4,E4,p3'.trans p4,ei⟩
  |ct e4=>exactλσ4 H4 E4 p4=> ⟨rfl,xy,e4,E4,p3'.trans p4,ei⟩
  |bk e4=>
   cases ei
   exactλσ4 H4 E4 p4=>nxOk e4 σ4 H4 rfl E4 (p3'.trans p4)
  |ret d=>
   cases ei;exact k
 .have hi:i=ds.length:=by lia
  subst hi;rw[GcL] at ei;cases ei;exact .inl ⟨stop,nxOk eQ σ' H' rfl Ei pi⟩
theorem HF{sb:DS}(hp:PassesOwn (model X.prog X.w) X.A X.env X.xe)(hc:PTd X c t)(hb:kW X body sb):PSd X (.While c body [] pos) (Hr t sb):=by
 refine(GK hp hc hb).aG ?_;rintro D σ H ⟨H0,eh,env,o,E,e,k⟩;refine⟨λm σ' H' =>∃eQ,aA X.K H0 eh eQ σ' H' /\Stp env σ H eQ σ' H' /\rY t sb m eQ=some o,⟨100000,env,E,.refl,e⟩, ?_⟩;rintro m σ' H' ⟨eQ,Ei,pi,ei⟩;cases m with
 |zero=>cases ei
 |succ m=>
  unfold rY at ei;obtain⟨bb,UC,ei⟩:=ef ei;refine⟨H0,eh,eQ,bb,Ei,UC,λH1 s1=> ?_⟩;have pi1:Stp env σ H eQ σ' H1:=pi.trans (.of_same s1);dsimp only;cases bb with
  |true=>
   rw[Gaf rfl];rw[Gaf rfl] at ei;obtain⟨o2,UD,ei⟩:=ef ei;refine⟨λσ2 H2=>∃eQ,aA X.K H0 eh eQ σ2 H2/\Stp env σ H eQ σ2 H2/\rY t sb m eQ=some o,λσ2 H2 q=> ⟨m,by lia,q⟩,H0,eh,eQ,o2,Ei.mono s1,UD, ?_⟩;cases o2 with
   |nx e4=>exactλσ4 H4 E4 p4=> ⟨e4,E4,pi1.trans p4,ei⟩
   |ct e4=>exactλσ4 H4 E4 p4=> ⟨e4,E4,pi1.trans p4,ei⟩
   |bk e4=>cases ei;exactλσ4 H4 E4 p4=>k σ4 H4 E4 (pi1.trans p4)
   |ret d=>cases ei;exact k
  |false=>
   rw[Gag Gai];rw[Gag Gai] at ei;cases ei;exact k σ' H1 (Ei.mono s1) pi1
variable{H0:Hp}
theorem aA.gA{K:av}{eh:Addr->Prop}(E:aA K H0 eh env σ H){b:Addr}{o:HO}(h:Ow env σ b)(hb:H b=some o):¬isT o:=by
 intro q;obtain⟨i,h1,h2⟩:=h;obtain⟨y,hy,wy⟩:=E.Hv h1.ol.top h2;rw[hb] at hy;cases hy
 cases o<;>simp[isT] at q<;>exact wy
variable{v:V}
theorem aA.oh{K:av}{eh:Addr->Prop}{Hi:Hp}{d:D}(E:aA K H0 eh env σ H)(keep:∀b o,H b=some o->¬Ow env σ b->Hi b=some o)(r:Rep K (Cln eh env σ) H d v):
  Rep K (λb=>Cln eh env σ b/\H b≠none) Hi d v:=
 r.gen (λb o hb q=>keep b o hb (by
  rcases q with q|q
  .exactλ⟨i,h1,h2⟩=>q.2 i h1.ol.top h2
  .exactλw=>E.gA w hb q)) λb q hb=> ⟨q,hb⟩
def Ss(K:av)(tl:TE):TI:=λσ H R=>tl σ H λx H1=>∃a,x= .ref a/\(((∃xs,SqL K H1 a xs)/\R (Itl K a) H1)\/((∃xs,SqT K H1 a xs)/\R (Itt K a) H1))
theorem HG{l:Expr}{tl:TE}(hl:PE X l tl):PI X tg l (Ss X.K tl):=by
 intro ee s σ H R I h;refine thn (hl ee s σ H _ I h) λv s1 ⟨x,H1,I1,r1,q1⟩=> ?_;obtain⟨a,e,q1⟩:=q1;subst e;cases r1;have fp:∀b∈[s1.heap.objs.size],pK X ee H1 b:=λb hb=>by
  have e:b=s1.heap.objs.size:=by simpa using hb
  subst e;exact I1.Fo (Gao _) (I1.hok.fresh (Gao _))
 rcases q1 with⟨⟨xs,hq⟩,q⟩| ⟨⟨xs,hq⟩,q⟩
 .obtain⟨eA,rv,p,hz⟩:=I1.list hq;refine wpAny_pyIter_list p.isList ?_;exact⟨s1.heap.objs.size,[s1.heap.objs.size],_,_,H1,rfl,I1.kept (t' :=s1.toks) λb o e=>Gad _ e,Fp a _,⟨_,Gat _ rfl,rfl,rfl⟩,fp,q⟩
 .obtain⟨eA,rv,p,hz⟩:=I1.tuple hq;refine Gcu (show s1.heap.IsTuple a eA.toArray from p) ?_;exact⟨s1.heap.objs.size,[s1.heap.objs.size],_,_,H1,rfl,I1.kept (t' :=s1.toks) λb o e=>Gad _ e,Cj a _,⟨_,Gat _ rfl,rfl,rfl⟩,fp,q⟩
variable{H1:Hp}
theorem Ej{eh:Addr->Prop}{kd:Cls}{d:D}(E:aA X.K H0 eh env σ H)(ht:d.top=true)(hk:kd≠ .to)(Rv:je X.K H0 eh env σ H H1 ⟨kd,d⟩ v):∀a,v= .ref a->¬Ow env σ a:=λa ea=>by
 cases kd with
 |c=>
  have Rv' :Rep X.K (Cln eh env σ) H1 d v:=Rv;have fin:∀b,Cln eh env σ b->¬Ow env σ b:=λb f ⟨i,h1,h2⟩=>f.2 i h1.ol.top h2;cases Rv' with
  |tup h l r=>simp[D.top] at ht
  |lst f h l r=>cases ea;exact fin _ f
  |dK f h l r=>cases ea;exact fin _ f
  |dT f h l r=>cases ea;exact fin _ f
  |non=>cases ea
  |bl b=>cases ea
  |int i=>cases ea
  |str x=>cases ea
  |scr h=>simp[D.top] at ht
  |exc _ _=>simp[D.top] at ht
  |obj _ _ _ _=>simp[D.top] at ht
 |tn=>
  obtain⟨a',e',n,_⟩:=Rv;rw[e'] at ea;cases ea
  exactλ⟨i,h1,h2⟩=>E.qC h1.ol.top h2 n
 |to=>exact absurd rfl hk
 |tb=>exact Rv.2 a ea ht
theorem dE(he:PEd X e f):PId X tg e (jd f):=by
 refine(HG he).aG ?_;rintro σ H R ⟨H0,eh,env,ds,E,hf,k⟩;obtain⟨⟨kd,d⟩,hr,hf⟩:=ef hf;split at hf
 .cases hf
 rename_i hk;refine⟨H0,eh,env,_,E,hr,λv H1 s1 Rv=> ?_⟩;have ii:=Rv.inn;have E1:=E.mono s1;split at hf
 .rename_i xs hd;cases hf;have xY :d= .lst ds:=hd;subst xY;have hno:=Ej E rfl hk Rv;cases ii with
  | @lst la lv _ h r=>
   refine⟨_,rfl,.inl ⟨⟨_,.inl h⟩,k _ H1 s1 λHi keep=> ?_⟩⟩;have hh:Rd Hi la (.lst lv):=by
    rcases h with h| ⟨o,h⟩
    .exact .inl (keep _ _ h (hno _ rfl))
    .exact .inr ⟨o,keep _ _ h (hno _ rfl)⟩
   refine⟨λi d hd=> ?_,⟨_,.inl hh,by rw[r.1];exact Gao _⟩⟩;obtain⟨x,h1,h2⟩:=r.get hd;refine⟨⟨_,x,.inl hh,h1⟩,λy H2 ⟨e2,e3⟩=> ?_⟩;subst e2;refine⟨cE, ?_⟩;have:=e3 _ (.inl hh);rw[h1] at this;cases this
   exact E1.oh keep h2
 .rename_i xs hd;cases hf;have xY :d= .tup ds:=hd;subst xY;cases ii with
  | @tup la lv _ h r=>
   refine⟨_,rfl,.inr ⟨⟨_,SqT.of h⟩,k _ H1 s1 λHi keep=> ?_⟩⟩;have hh:Hi la=some (.tup lv):=keep _ _ h λw=>E1.gA w h trivial;refine⟨λi d hd=> ?_,⟨_,SqT.of hh,by rw[r.1];exact Gao _⟩⟩;obtain⟨x,h1,h2⟩:=r.get hd;refine⟨⟨_,x,SqT.of hh,h1⟩,λy H2 ⟨e2,e3⟩=> ?_⟩;subst e2;refine⟨cE, ?_⟩;have:=e3 _ (SqT.of hh);rw[h1] at this;cases this
   exact E1.oh keep h2
 .rename_i ns hd;cases hf;have xY :d= .scr ns:=hd;subst xY;cases ii with
  | @scr la _ h=>
   refine⟨_,rfl,.inl ⟨⟨_,h.sq⟩,k _ H1 s1 λHi keep=> ?_⟩⟩;have hh:Scr X.K Hi la ns:=by
    rcases h with⟨o,h⟩|h
    .exact .inl ⟨o,keep _ _ h λw=>E1.gA w h trivial⟩
    .exact .inr h
   refine⟨λi d hd=> ?_,⟨_,hh.sq,by simp⟩⟩;rw[Gas] at hd;cases q:ns[i]? with
   |none=>rw[q] at hd;cases hd
   |some n=>
    rw[q] at hd;cases hd
    refine⟨⟨_,.int n,hh.sq,by rw[Gas,q];rfl⟩,λy H2 ⟨e2,e3⟩=> ?_⟩;subst e2;have:=e3 _ hh.sq;rw[Gas,q] at this;cases this
    exact⟨cE,.int n⟩
 .cases hf
variable{n:Nat}
theorem ux{lo:Int}{F N:Addr->Prop}:FK X.K F N (Itr lo n) (rZ lo n) H1:=λHi _=>by
 refine⟨λi d hd=> ?_,by show n<=(rZ lo n).length;simp[rZ]⟩;have hi:i<n:=by have:=(Gae.mp hd).1;simpa[rZ] using this
 refine⟨hi,λx H2 ⟨e1,e2⟩=> ?_⟩;subst e1 e2;have:d= .int (lo+(i:Int)):=by
  unfold rZ at hd;rw[Gas,List.getElem?_range hi] at hd;cases hd;rfl
 subst this;exact⟨cE,.int _⟩
theorem uL{i:Int}(h:me i=true): -(2^62)<=i/\i<2^62:=by
 unfold me at h;rw[Gam] at h;have h1:=GaI h.1;have h2:=GaI h.2;lia
theorem sD{p:Pos}(hg:Gl X "range")(hm:X.mg "range"=none)(he:PEd X e f)(hs:autoParam (starEach [e] X.env=[(false,eval e X.env)]) Za1._auto_1):PId X tg (.Call (.Name "range" p) [e] [] pos) (iU f):=by
 refine(wF hg hm (a8 he ah hs) hs).aG ?_;rintro σ H R ⟨H0,eh,env,ds,E,hf,k⟩;obtain⟨r,hr,hf⟩:=ef hf;split at hf
 .rename_i j hd;split at hf
  .rename_i hz;cases hf;refine⟨H0,eh,env,[r],E,by unfold aa ao;rw[hr];rfl,λvs H1 s1 Rs=> ?_⟩;cases Rs with
   |cons R1 t=>
    cases t;have i:=R1.inn;rw[hd] at i;cases i;exact⟨j,rfl,(uL hz).1,(uL hz).2,k _ H1 s1 ux⟩
  .cases hf
 .cases hf
theorem b8{x:Str}(hN:X.N.Nodup)(hi:X.N[i]? =some x)(hx:Loc X.env.scope x)(hf:autoParam (X.fn x=true\/X.env.scope.names.lookup x=some .local) Za3._auto_1):PGd X (.Name x pos) (gN i):=by
 refine(Ar hN hi hx hf).aG ?_;rintro v σ H Q ⟨H0,eh,env,d,eD,E,hg,r,k⟩;cases hg;exact k _ H (E.gh r) .gh
def tGs(X:Cx)(is:List Nat):TGs:=λvs σ H Q=>∃H0 eh env ds eD,aA X.K H0 eh env σ H/\gNs is ds env=some eD /\aT X.K (λb=>Cln eh env σ b/\H b≠none) H ds vs/\∀σ' H',aA X.K H0 eh eD σ' H' ->Stp env σ H eD σ' H' ->Q σ' H'
variable{es:List Expr}
theorem _root_.L2.PGs.aG{t t' :TGs}(h:PGs X es t')(i:∀v σ H Q,t v σ H Q->t' v σ H Q):PGs X es t:=λee s σ H v u Q I r q=>h ee s σ H v u Q I r (i v σ H Q q)
theorem oj:PGs X [] (tGs X []):=by
 refine JS.aG ?_;rintro vs σ H Q ⟨H0,eh,env,ds,eD,E,hg,r,k⟩;cases ds with
 |nil=>cases hg;exact⟨r.cz,k σ H E .refl⟩
 |cons d ds=>cases hg
variable{is:List Nat}
theorem dQ(h1:PGd X e (gN i))(h2:PGs X es (tGs X is))(hs:autoParam ((assignEach (e::es) X.env).map (·.2)=assign e X.env::(assignEach es X.env).map (·.2)) Za1._auto_1):PGs X (e::es) (tGs X (i::is)):=by
 refine(GJ h1 h2 hs).aG ?_;rintro vs σ H Q ⟨H0,eh,env,ds,eD,E,hg,r,k⟩;cases ds with
 |nil=>cases hg
 |cons d ds=>
  obtain⟨v,vr,rfl,r1,r2⟩:=r.cons_inv;refine⟨v,vr,rfl,H0,eh,env,d,_,E,rfl,r1.imp λ_ q=>q.1,λσ1 H1 E1 p1=> ?_⟩;refine⟨H0,eh,_,ds,eD,E1,hg,r2.gen (λb o hb q=>p1.keep b o hb (by
   rcases q with q|q
   .exactλ⟨j,w1,w2⟩=>q.1.2 j w1.ol.top w2
   .exactλw=>E.gA w hb q)) (λb q hb=> ⟨wW p1 q.1 hb, ?_⟩),λσ2 H2 E2 p2=>k σ2 H2 E2 (p1.trans p2)⟩
  cases o:H b with
  |none=>exact absurd o hb
  |some x=>rw[p1.keep b x o λ⟨j,w1,w2⟩=>q.1.2 j w1.ol.top w2];simp
theorem Ek:∀{is:List Nat} {ds:List D} {env eD :Env},gNs is ds env=some eD ->ds.length=is.length
 |[],[],_,_,_=>rfl
 |[],_::_,_,_,h=>by cases h
 |_::_,[],_,_,h=>by cases h
 |i::is,d::ds,env,eD,h=>by
  have:=Ek (is:=is) (ds:=ds) h;simp[this]
theorem sE{j:Nat}(hc:X.calm=true)(h:PGs X es (tGs X is))(hn:autoParam ((assignEach es X.env).length=n) Za1._auto_1)(xR:autoParam ((assignEach es X.env).findIdx? (·.1)=none) Za1._auto_1)(hl:autoParam (is.length=n) Za1._auto_1):PGd X (.Tuple es j pos) (gT is):=by
 refine(MU hc h hn xR).aG ?_;rintro v σ H Q ⟨H0,eh,env,d,eD,E,hg,r,k⟩;unfold gT at hg;split at hg
 .rename_i ds;cases r with
  |tup h l r=>
   refine⟨_,_,rfl,SqT.of h,by rw[<-l,Ek hg,hl],H0,eh,env,ds,eD,E,hg,⟨l,λi d v e1 e2=>(r i d v e1 e2).gen (.of_same cE) λb q hb=> ⟨q,hb⟩⟩,k⟩
 .cases hg
end
section
variable{X:Cx}{e a b c:Expr}{f g h:DE}{t u:DT}{pos:Pos}{st:Stmt}{rest:List Stmt}{s1 s2:DS}
variable{i:Nat}
theorem uM{env:Env}{d:D}(h:ownAt i env=some d):env[i]? =some (some (.own d)):=by
 unfold ownAt at h;split at h
 .rename_i d' q;cases h;exact q
 .cases h
variable{H:Hp}
theorem ub{K:av}{F:Addr->Prop}{ds:List D}{a:Addr}(w:Wr H a)(i:Inn K F H (.lst ds) (.ref a)):∃vs,H a=some (.lst vs)/\aT K F H ds vs:=by
 cases i with
 |lst h r=>
  rcases h with h| ⟨o,h⟩
  .exact⟨_,h,r⟩
  .obtain⟨y,hy,wy⟩:=w;rw[h] at hy;cases hy;exact wy.elim
variable{px apos eL:Pos}{x:Str}
theorem fK(hN:X.N[i]? =some x)(hv:Vis X.env.scope x)(he:PEd X e f)(hd:autoParam ((x==("__debug__":Str))=false) Za2._auto_1)(xp:autoParam ((x==("__classdict__":Str))=false) Za2._auto_1)
  (xf:autoParam (starEach [e] X.env=[(false,eval e X.env)]) Za1._auto_1)
  (xm:autoParam (attributeBase (.Name x px) "append" X.env (eval (.Name x px) X.env)=eval (.Name x px) X.env) Za1._auto_1)
  (yw:((backTo eL (starEach [e] X.env)).all (λx=> !x.1)&&(backToKw eL (keywordEach [] X.env)).all (λx=>x.1.isSome)
   &&decide (([e]:List Expr).length+([]:List Keyword).length+(if([]:List Keyword).isEmpty then 0 else 1)<30))=true:=by rfl)
  (xh:autoParam ((apos.endLine==eL.line)=true) Za1._auto_1)(hs:autoParam (swapsWith (.Call (.Attribute (.Name x px) "append" apos) [e] [] eL) none pos.line X.env=pure false) Za1._auto_1):
  PSd X (.Expr (.Call (.Attribute (.Name x px) "append" apos) [e] [] eL) pos) (vY i f):=by
 refine(u7 (GZ GbT PySem.F.slot_list_append PySem.F.type_list_append rV (g6 hN hv hd xp) (a8 he ah xf) xm yw xh xf rfl) hs).aG ?_;rintro D σ H ⟨H0,eh,env,o,E,e,k⟩;obtain⟨r,hr,e⟩:=ef e;obtain⟨d,hd,e⟩:=ef e;have q:=uM hd;split at e
 .rename_i xs;split at e
  .rename_i z;rw[Gam] at z;cases e;obtain⟨a,h1,h2,h3,h4,h5,h6⟩:=E.ow i _ (.inl q);obtain⟨vs,hH,rp⟩:=ub h4 h6;refine⟨_,h1,.inl ⟨rfl,vs,.inl (.inl hH)⟩,H0,eh,env,[r],E,by unfold aa ao;rw[hr];rfl,λws H2 s2 Rs=> ?_⟩;cases Rs with
   | @cons _ v _ _ R1 tl=>
    cases tl;have zh:=s2 _ _ hH;refine⟨a,vs,v,rfl,rfl,zh,by rw[<-rp.1,<-eU];exact GaI z.2, ?_⟩;have E2:=E.mono s2;have rep1:=R1.rep E z.1;have rp2:aT X.K (Cln eh env σ) H2 (xs++[r.d]) (vs++[v]):=(rp.gen (.of_same s2) λ_ f _=>f).append (.cons rep1 .nil);obtain⟨E3,p3⟩:=E2.change (d' := .lst (xs++[r.d])) (o:= .lst (vs++[v])) q h1 trivial rfl (.lst (.inl aC) (rp2.gen (λb o hb w=>by
     have:b≠a:=by
      rintro rfl;rcases w with w|w
      .exact w.2 i (by rw[q];trivial) h1
      .rw[zh] at hb;cases hb;exact w
     rw[ak this];exact hb) λ_ f _=>f))
    exact k σ _ E3 ((Stp.of_same s2).trans p3)
  .cases e
 .cases e
theorem FL(hN:X.N[i]? =some x)(hv:Vis X.env.scope x)(he:PEd X e f)(hd:autoParam ((x==("__debug__":Str))=false) Za2._auto_1)(xp:autoParam ((x==("__classdict__":Str))=false) Za2._auto_1)
  (xf:autoParam (starEach [e] X.env=[(false,eval e X.env)]) Za1._auto_1)
  (xm:autoParam (attributeBase (.Name x px) "extend" X.env (eval (.Name x px) X.env)=eval (.Name x px) X.env) Za1._auto_1)
  (yw:((backTo eL (starEach [e] X.env)).all (λx=> !x.1)&&(backToKw eL (keywordEach [] X.env)).all (λx=>x.1.isSome)
   &&decide (([e]:List Expr).length+([]:List Keyword).length+(if([]:List Keyword).isEmpty then 0 else 1)<30))=true:=by rfl)
  (xh:autoParam ((apos.endLine==eL.line)=true) Za1._auto_1)(hs:autoParam (swapsWith (.Call (.Attribute (.Name x px) "extend" apos) [e] [] eL) none pos.line X.env=pure false) Za1._auto_1):
  PSd X (.Expr (.Call (.Attribute (.Name x px) "extend" apos) [e] [] eL) pos) (PQ i f):=by
 refine(u7 (GZ GbT PySem.F.slot_list_extend PySem.F.type_list_extend Fy (g6 hN hv hd xp) (a8 he ah xf) xm yw xh xf rfl) hs).aG ?_;rintro D σ H ⟨H0,eh,env,o,E,e,k⟩;obtain⟨⟨kd,rd⟩,hr,e⟩:=ef e;obtain⟨d,hd,e⟩:=ef e;have q:=uM hd;split at e
 .rename_i xs ys hrd;have hrd' :rd= .lst ys:=hrd;subst hrd';split at e
  .rename_i z;rw[Gam] at z;cases e;have hk:kd= .tn:=by have:=z.1;simpa using this
   subst hk;obtain⟨a,h1,h2,h3,h4,h5,h6⟩:=E.ow i _ (.inl q);obtain⟨vs,hH,rp⟩:=ub h4 h6;refine⟨_,h1,.inl ⟨rfl,vs,.inl (.inl hH)⟩,H0,eh,env,[⟨.tn,.lst ys⟩],E,by unfold aa ao;rw[hr];rfl,λws H2 s2 Rs=> ?_⟩;cases Rs with
   | @cons _ v _ _ R1 tl=>
    cases tl;obtain⟨b,rfl,nb,wb,_,ib⟩:=R1;obtain⟨us,hB,ru⟩:=ub wb ib;have zh:=s2 _ _ hH;refine⟨a,b,vs,us,rfl,rfl,zh,hB,by rw[<-rp.1,<-ru.1,<-eU];exact GaI z.2, ?_⟩;have E2:=E.mono s2;have rp2:aT X.K (Cln eh env σ) H2 (xs++ys) (vs++us):=(rp.gen (.of_same s2) λ_ f _=>f).append (ru.gen (.of_same cE) λ_ f _=>f.1);obtain⟨E3,p3⟩:=E2.change (d' := .lst (xs++ys)) (o:= .lst (vs++us)) q h1 trivial rfl (.lst (.inl aC) (rp2.gen (λb o hb w=>by
     have:b≠a:=by
      rintro rfl;rcases w with w|w
      .exact w.2 i (by rw[q];trivial) h1
      .rw[zh] at hb;cases hb;exact w
     rw[ak this];exact hb) λ_ f _=>f))
    exact k σ _ E3 ((Stp.of_same s2).trans p3)
  .cases e
 .cases e
def Su(K:av):List V->Hp->VK->Prop:=λxs H Q=>∃x T t b,xs=[x,.ty T]/\pM K H x (.type t)/\PySem.W.kitOne K (.type t) (.type T)=some b/\Q (.bl b) H
theorem HH:j0 X (.builtin "isinstance") (Su X.K):=by
 intro ee s σ H xs us Q I r h;obtain⟨x,T,t,bb,rfl,ty,hk,q⟩:=h;obtain⟨u,w',rfl,r1,r2⟩:=vals2 r;cases r2;exact Fv I r1 ty hk λtk=> ⟨.bl bb,H,I.tok _,rfl,q⟩
def El(K:av)(T:String):Prop:=∀t∈["NoneType","bool","int","str","tuple","list","dict"],PySem.W.kitOne K (.type t) (.type T)=some (T==t||(t=="bool"&&T=="int"))
theorem Kr{K:av}{F:Addr->Prop}{d:D}{x:V}(i:Inn K F H d x)(hs:sV d=false):∃t∈["NoneType","bool","int","str","tuple","list","dict"],pM K H x (.type t)/\∀S,kT S d=(S==t||(t=="bool"&&S=="int")):=by
 have rdl:∀{a:Addr} {vs:List V},Rd H a (.lst vs)->pM K H (.ref a) (.type "list"):=λh=>by
  rcases h with h| ⟨o,h⟩
  .exact .lst h
  .exact .frz h
 cases i with
 |non=>exact⟨"NoneType",by simp,.non,λS=>by simp[kT]⟩
 |bl b=>exact⟨"bool",by simp,.bl b,λS=>by simp[kT]⟩
 |int i=>exact⟨"int",by simp,.int i,λS=>by simp[kT]⟩
 |str x=>exact⟨"str",by simp,.str x,λS=>by simp[kT]⟩
 |tup h r=>exact⟨"tuple",by simp,.tup h,λS=>by simp[kT]⟩
 |lst h r=>exact⟨"list",by simp,rdl h,λS=>by simp[kT]⟩
 |dK h r=>exact⟨"dict",by simp,.dK h,λS=>by simp[kT]⟩
 |dT h r=>exact⟨"dict",by simp,.dT h,λS=>by simp[kT]⟩
 |scr h=>cases hs
 |exc _ _=>cases hs
 |obj _ _ _=>cases hs
theorem sF{T:String}{p p2:Pos}(Vx:El X.K T)(he:PEd X e f)(hg:Gl X "isinstance")(hm:X.mg "isinstance"=none)(SS:Gl X x)(Us:X.mg x=none)(VD:bootBuiltins x=some (.type T))(SN:autoParam (x≠"__name__") Za2._auto_1)(hd2:autoParam ((x==("__debug__":Str))=false) Za2._auto_1)
  (xf:autoParam (starEach [e,.Name x p2] X.env=(false,eval e X.env)::starEach [.Name x p2] X.env) Za1._auto_1)(xE:autoParam (starEach [.Name x p2] X.env=(false,eval (.Name x p2) X.env)::starEach [] X.env) Za1._auto_1)(xa:autoParam ((backTo pos (starEach [.Name x p2] X.env)).any (·.1)=false) Za1._auto_1):
  PEd X (.Call (.Name "isinstance" p) [e,.Name x p2] [] pos) (bE (CC T f)):=by
 have ht:PE X (.Name x p2) (tC (.ty T)):=DB SS Us VD rfl SN hd2;refine(qr HH hg hm (by decide+kernel) (dB he (dB ht lU xE) xf) (by decide) (by decide) xf xa).aG ?_;rintro σ H Q ⟨H0,eh,env,rv,E,e,k⟩;obtain⟨bb,e',rfl⟩:=Gac.mp e;clear e;have e:=e';clear e';obtain⟨r,hr,e⟩:=ef e;split at e
 .cases e
 .rename_i hs;cases e;refine⟨H0,eh,env,r,E,hr,λv H1 s1 R=> ?_⟩;obtain⟨t,ht,ty,hb⟩:=Kr R.inn (by simpa using hs);exact⟨v,T,t,_,rfl,ty,Vx t ht,by rw[<-hb T];exact k _ H1 s1 (.bl _)⟩
theorem au:∀env rs,ao env=some rs->rs.length=0:=λenv rs h=>by cases h;rfl
theorem ae{r:DA}{n:Nat}(h:∀env rs,r env=some rs->rs.length=n):∀env rs,aa f r env=some rs->rs.length=n+1:=λenv rs e=>by
 obtain⟨x,_,e⟩:=ef e;obtain⟨xs,hx,e⟩:=ef e;cases e;rw[Gaz,h env xs hx]
theorem aA.start{K:av}{H:Hp}{N:List Str}{ds:List D}{vs:List V}(hl:ds.length<=N.length)(r:aT K (λ_=>True) H ds vs):aA K H (λ_=>False) (aE N.length ds) (start N vs) H:=by
 have nt:∀i:Nat,¬b6 (aE N.length ds)[i]? :=λi h=>by
  unfold aE at h;by_cases hi:i<ds.length
  .rw[GaJ (by simpa using hi),Gas] at h;cases q:ds[i]? with
   |none=>rw[q] at h;exact h
   |some d=>rw[q] at h;exact h
  .rw[GaA (by simpa using hi),GbA] at h;split at h<;>exact h
 have no:∀{i:Nat} {s:Slot},(aE N.length ds)[i]? =some (some s)->b6 (some (some s))->False:=λ{i s} e h=>nt i (by rw[e];exact h);refine⟨λ_ _ e=>e,by simp[aE,L2.start,r.1],λ_ h=>h.elim,λi d e=> ?_,λi d e=> ?_,λi d e=> ?_,λi j a t _ _ _=>(nt i t.top).elim⟩
 .unfold aE at e;by_cases hi:i<ds.length
  .rw[GaJ (by simpa using hi),Gas] at e;cases q:ds[i]? with
   |none=>rw[q] at e;cases e
   |some d' =>
    rw[q] at e;have e' :d' =d:=by simpa using e
    subst e';obtain⟨v,h1,h2⟩:=r.get q;refine⟨v, ?_,h2.imp λb _=> ⟨λz=>z,λj t=>(nt j t).elim⟩⟩;unfold L2.start;rw[GaJ (by rw[Gaq,<-r.1];exact hi),Gas,h1];rfl
  .rw[GaA (by simpa using hi),GbA] at e;split at e<;>cases e
 .rcases e with e|e
  .exact(no e trivial).elim
  .exact(no e trivial).elim
 .exact(no e trivial).elim
theorem cK{P:Program}{w:World}{K:av}{mg:Str->Option Value}{base:Heap}{qual:Str}{sd:Stmt}{fa:Addr}{fd:FuncData}{N ps:List Str}{k np:Nat}{body:DS}(F:Fun K x qual sd fa fd)(S:aM N ps (ar sd))(zM:ps.length=np)
  (xl:∀(eR:Value) (A:Around) (outer:List PySem.Env) (s:Shared) (H:Hp) (E:XK),cP k (A.deeper (envOfC qual (ar sd) s.heap.objs.size fa eR))->
   kW (jn CX0 P w K mg base N qual (ar sd) fa eR A outer s H E).nox (dJ sd) body):bu P w K mg base CX0 (k+1) fa fd ps (spD K np (fj N.length np body)):=by
 refine F.ok S (λvs H Q E h=> ?_) λeR A outer s H vs Q E hr h=> ⟨_,xl eR A outer s H E hr, ?_⟩
 .obtain⟨ds,d,h1,h2,_⟩:=h;rw[<-h2.1,h1,zM]
 .obtain⟨ds,d,h1,h2,h3,k⟩:=h;unfold fj at h3;rw[Gaf h1] at h3;obtain⟨o,ho,h3⟩:=ef h3;have hl:ds.length<=N.length:=by
   have:=congrArg List.length S.pre;rw[GbD] at this;lia
  refine⟨H,λ_=>False,aE N.length ds,o,aA.start hl h2,ho, ?_⟩;cases o with
  |ret d' =>cases h3;exactλv H' s' R=>k v H' s' R
  |nx e=>cases h3;exactλσ' H' E' p' =>k .non H' E'.same ⟨λt=>(by cases t),.non⟩
  |bk e=>cases h3
  |ct e=>cases h3
end
variable{n:Nat}
theorem plain_all{ds:List D}(h:ds.all (b0 n)=true){i:Nat}{d:D}(e:ds[i]? =some d):b0 n d=true:=Gan.mp h d (GaH e)
inductive CJ (K:av) (F:Addr->Prop) (H:Hp):D->V->Prop where
 |non:CJ K F H .non .non
 |bl (b:Bool):CJ K F H (.bl b) (.bl b)
 |int (i:Int):CJ K F H (.int i) (.int i)
 |str (x:Str):CJ K F H (.str x) (.str x)
 |tup {a:Addr} {vs:List V} {ds:List D} (h:H a=some (.tup vs)) (l:ds.length=vs.length) (r:∀(i:Nat) d v,ds[i]? =some d->vs[i]? =some v->Rep K F H d v):CJ K F H (.tup ds) (.ref a)
 |lst {a:Addr} {vs:List V} {ds:List D} (f:F a) (h:Rd H a (.lst vs)) (l:ds.length=vs.length) (r:∀(i:Nat) d v,ds[i]? =some d->vs[i]? =some v->Rep K F H d v):CJ K F H (.lst ds) (.ref a)
theorem cu{K:av}{F:Addr->Prop}{H:Hp}{d:D}{v:V}(p:b0 n d=true)(r:Rep K F H d v):CJ K F H d v:=by
 cases r with
 |non=>exact .non
 |bl b=>exact .bl b
 |int i=>exact .int i
 |str x=>exact .str x
 |tup h l r=>exact .tup h l r
 |lst f h l r=>exact .lst f h l r
 |_=>cases n<;>exact(Gai p).elim
theorem Bx:∀(n:Nat) (d:D),b0 n d=true->eqD d d=true:=by
 intro n;induction n with
 |zero=>intro d h;cases d<;>simp[b0] at h<;>simp
 |succ n ih=>
  have all:∀ds:List D,ds.all (b0 n)=true->lz ds ds=true:=by
   intro ds;induction ds with
   |nil=>intro _;rfl
   |cons d ds ih2=>
    intro h;rw[GaO,Gam] at h;simp[lz,ih d h.1,ih2 h.2]
  intro d h;cases d<;>simp only[b0] at h<;>first
   |(simp;done)
   |exact all _ h
   |cases h
theorem nz:∀{ds es:List D},ds.length≠es.length->lz ds es=false
 |[],[],h=>absurd rfl h
 |[],_::_,_=>rfl
 |_::_,[],_=>rfl
 |d::ds,e::es,h=>by
  unfold lz;rw[nz (by simpa using h),Gck]
theorem jR:∀{ds es:List D},ds.length=es.length->(List.range ds.length).all (λj=>eqD (ds.getD j .non) (es.getD j .non))=lz ds es
 |[],[],_=>rfl
 |[],_::_,h=>by simp at h
 |_::_,[],h=>by simp at h
 |d::ds,e::es,h=>by
  have ih:=jR (ds:=ds) (es:=es) (by simpa using h);unfold lz;rw[Gaz,List.range_succ_eq_map,GaO,GbG,<-ih]
  rfl
section
variable{X:Cx}{ee:List (Addr×Obj)}{σ:St}{H:Hp}{s:Shared}
theorem AF{K:av}{F G:Addr->Prop}:∀(n:Nat) {d d' :D} {v:V},b0 n d=true->b0 n d' =true->Rep K F H d v->Rep K G H d' v->d=d' :=by
 intro n;induction n with
 |zero=>intro d d' v h1 h2 r1 r2;cases cu h1 r1<;>first|exact(Gai h1).elim|(cases cu h2 r2;rfl)
 |succ n ih=>
  have all:∀{ds es:List D} {vs:List V},ds.all (b0 n)=true->es.all (b0 n)=true->ds.length=vs.length->es.length=vs.length->(∀(i:Nat) d v,ds[i]? =some d->vs[i]? =some v->Rep K F H d v)->(∀(i:Nat) d v,es[i]? =some d->vs[i]? =some v->Rep K G H d v)->ds=es:=by
   intro ds es vs p1 p2 l1 l2 r1 r2;apply Gdd;intro i;by_cases hi:i<vs.length
   .have e1:ds[i]? =some ds[i]:=by simp[l1,hi]
    have e2:es[i]? =some es[i]:=by simp[l2,hi]
    have e3:vs[i]? =some vs[i]:=by simp[hi]
    rw[e1,e2,ih (plain_all p1 e1) (plain_all p2 e2) (r1 i _ _ e1 e3) (r2 i _ _ e2 e3)]
   .rw[GaP (by lia),GaP (by lia)]
  intro d d' v h1 h2 r1 r2;cases cu h1 r1 with
  |non=>cases cu h2 r2;rfl
  |bl b=>cases cu h2 r2;rfl
  |int i=>cases cu h2 r2;rfl
  |str x=>cases cu h2 r2;rfl
  |tup h l r=>
   cases cu h2 r2 with
   |tup h' l' r' =>
    rw[h] at h';cases h'
    rw[all (by simpa[b0] using h1) (by simpa[b0] using h2) l l' r r']
   |lst f h' l' r' =>rcases h' with h' | ⟨o,h'⟩<;>rw[h] at h' <;>cases h'
  |lst f h l r=>
   cases cu h2 r2 with
   |tup h' l' r' =>rcases h with h| ⟨o,h⟩<;>rw[h] at h' <;>cases h'
   |lst f' h' l' r' =>
    have:∀{xs ys:List V} {a:Addr},Rd H a (.lst xs)->Rd H a (.lst ys)->xs=ys:=λz1 z2=>by
     rcases z1 with z1| ⟨o,z1⟩<;>rcases z2 with z2| ⟨o',z2⟩<;>rw[z1] at z2<;>cases z2<;>rfl
    cases this h h';rw[all (by simpa[b0] using h1) (by simpa[b0] using h2) l l' r r']
theorem item_at{ds:List D}{vs:List V}{eA:List Value}{K:av}{F:Addr->Prop}(l:ds.length=vs.length)(r:∀(i:Nat) d v,ds[i]? =some d->vs[i]? =some v->Rep K F H d v)(rv:Vals vs eA){j:Nat}(h:j<eA.toArray.size):
  ∃d v,ds[j]? =some d/\ds.getD j .non=d/\Rep K F H d v/\RelV v eA.toArray[j]:=by
 have hj:j<eA.length:=by simpa using h
 have hv:j<vs.length:=by rw[rv.length];exact hj
 have hd:j<ds.length:=by rw[l];exact hv
 obtain⟨u,e1,e2⟩:=rv.get (i:=j) (x:=vs[j]) (by simp[hv]);refine⟨ds[j],vs[j],by simp[hd],by simp[hd],r j _ _ (by simp[hd]) (by simp[hv]), ?_⟩;have:eA.toArray[j]=u:=by
  have:=e1;simp[hj] at this
  simpa using this
 rw[this];exact e2
variable{n:Nat}{A:Around}
theorem in1_units(h:A.units+(n+1)<cLine):A.in1.units+n<cLine:=by
 show A.units+1+n<_;lia
theorem uN(I:Inv X ee σ H s){F G:Addr->Prop}:∀(n:Nat) {dx dy:D} {x y:V} {v u:Value} {A:Around},b0 n dx=true->b0 n dy=true->Rep X.K F H dx x->Rep X.K G H dy y->RelV x v->RelV y u->A.units+n<cLine->SeqAt.EqAt A s v u (eqD dx dy):=by
 have flat:∀{dx dy:D} {x y:V} {v u:Value} {A:Around},Rep X.K F H dx x->Rep X.K G H dy y->RelV x v->RelV y u->DQ x=true->DQ y=true->SeqAt.EqAt A s v u (eqD dx dy):=by
  intro dx dy x y v u A r1 r2 rv ru fx fy;have e:eqD dx dy=eqV x y:=by
   cases r1<;>first|exact(Gai fx).elim|(cases r2<;>first|exact(Gai fy).elim|rfl)
  rw[e];exact Nh rv ru fx fy
 intro n;induction n with
 |zero=>
  intro dx dy x y v u A p1 p2 r1 r2 rv ru hu;refine flat r1 r2 rv ru ?_ ?_
  .cases cu p1 r1<;>first|rfl|exact(Gai p1).elim
  .cases cu p2 r2<;>first|rfl|exact(Gai p2).elim
 |succ n ih=>
  intro dx dy x y v u A p1 p2 r1 r2 rv ru hu;have hu0:A.units<cLine:=by lia
  cases cu p1 r1 with
  | @tup a vs1 ds1 h l r=>
   cases rv;obtain⟨eA,yg,ht,_⟩:=I.tuple (SqT.of h);cases cu p2 r2 with
   |non=>cases ru;exact SeqAt.EqAt.tuple_none ht hu0
   |bl b=>cases ru;exact SeqAt.EqAt.tuple_bool b ht hu0
   |int i=>obtain⟨t,rfl⟩:=ru;exact SeqAt.EqAt.tuple_int i t ht hu0
   |str z=>obtain⟨t,rfl⟩:=ru;exact SeqAt.EqAt.tuple_str z t ht hu0
   |lst f' h' l' r' =>
    cases ru;obtain⟨eX,xb,pl,_⟩:=I.list (.inl h');exact SeqAt.EqAt.tuple_list ht pl.isList hu0
   | @tup b SY ds2 h' l' r' =>
    cases ru;by_cases xP:a=b
    .subst xP;have:=AF (n+1) p1 p2 (Rep.tup h l r) (Rep.tup h' l' r');rw[<-this,Bx _ _ p1];exact SeqAt.EqAt.same _
    .obtain⟨eX,xb,xD,_⟩:=I.tuple (SqT.of h');have xf:eA.toArray.size=ds1.length:=by rw[Gaj,<-yg.length,l]
     have xE:eX.toArray.size=ds2.length:=by rw[Gaj,<-xb.length,l']
     have key:=SeqAt.RcAt.tuples (e:=λj=>eqD (ds1.getD j .non) (ds2.getD j .non)) ht xD hu0 λj h1 h2=>by
      obtain⟨d1,v1,q1,q2,q3,q4⟩:=item_at l r yg h1;obtain⟨d2,v2,w1,w2,w3,w4⟩:=item_at l' r' xb h2;rw[q2,w2];exact ih (plain_all (by simpa[b0] using p1) q1) (plain_all (by simpa[b0] using p2) w1) q3 w3 q4 w4 (in1_units hu)
     refine SeqAt.EqAt.of_refs xP ?_;show SeqAt.RcAt A s (.ref a) (.ref b) (lz ds1 ds2);rw[xf,xE] at key;by_cases hl:ds1.length=ds2.length
     .rw[<-hl,Nat.min_self,jR hl] at key
      simpa using key
     .rw[nz hl];have:(ds1.length==ds2.length)=false:=by simpa using hl
      rw[this,Gck] at key;exact key
  | @lst a vs1 ds1 f h l r=>
   cases rv;obtain⟨eA,yg,pl,_⟩:=I.list (.inl h);have ht:=pl.isList;cases cu p2 r2 with
   |non=>cases ru;exact SeqAt.EqAt.list_none ht hu0
   |bl b=>cases ru;exact SeqAt.EqAt.list_bool b ht hu0
   |int i=>obtain⟨t,rfl⟩:=ru;exact SeqAt.EqAt.list_int i t ht hu0
   |str z=>obtain⟨t,rfl⟩:=ru;exact SeqAt.EqAt.list_str z t ht hu0
   |tup h' l' r' =>
    cases ru;obtain⟨eX,xb,xD,_⟩:=I.tuple (SqT.of h');exact SeqAt.EqAt.list_tuple ht xD hu0
   | @lst b SY ds2 f' h' l' r' =>
    cases ru;by_cases xP:a=b
    .subst xP;have:=AF (n+1) p1 p2 (Rep.lst f h l r) (Rep.lst f' h' l' r');rw[<-this,Bx _ _ p1];exact SeqAt.EqAt.same _
    .obtain⟨eX,xb,yF,_⟩:=I.list (.inl h');have xD:=yF.isList;have xf:eA.toArray.size=ds1.length:=by rw[Gaj,<-yg.length,l]
     have xE:eX.toArray.size=ds2.length:=by rw[Gaj,<-xb.length,l']
     refine SeqAt.EqAt.of_refs xP ?_;show SeqAt.RcAt A s (.ref a) (.ref b) (lz ds1 ds2);by_cases hl:ds1.length=ds2.length
     .have key:=SeqAt.RcAt.lists (e:=λj=>eqD (ds1.getD j .non) (ds2.getD j .non)) ht xD (by rw[xf,xE,hl]) hu0 λj h1 h2=>by
       obtain⟨d1,v1,q1,q2,q3,q4⟩:=item_at l r yg h1;obtain⟨d2,v2,w1,w2,w3,w4⟩:=item_at l' r' xb h2;rw[q2,w2];exact ih (plain_all (by simpa[b0] using p1) q1) (plain_all (by simpa[b0] using p2) w1) q3 w3 q4 w4 (in1_units hu)
      rw[xf,jR hl] at key;exact key
     .rw[nz hl];exact SeqAt.RcAt.lists_lengths ht xD (by rw[xf,xE];simpa using hl) hu0
  |non=>
   cases rv;cases cu p2 r2 with
   |tup h' l' r' =>cases ru;obtain⟨eX,xb,xD,_⟩:=I.tuple (SqT.of h');exact SeqAt.EqAt.none_tuple xD hu0
   |lst f' h' l' r' =>cases ru;obtain⟨eX,xb,yF,_⟩:=I.list (.inl h');exact SeqAt.EqAt.none_list yF.isList hu0
   |_=>exact flat .non (by first|exact .non|exact .bl _|exact .int _|exact .str _) rfl ru rfl rfl
  |bl b=>
   cases cu p2 r2 with
   |tup h' l' r' =>cases rv;cases ru;obtain⟨eX,xb,xD,_⟩:=I.tuple (SqT.of h');exact SeqAt.EqAt.bool_tuple b xD hu0
   |lst f' h' l' r' =>cases rv;cases ru;obtain⟨eX,xb,yF,_⟩:=I.list (.inl h');exact SeqAt.EqAt.bool_list b yF.isList hu0
   |_=>exact flat (.bl b) (by first|exact .non|exact .bl _|exact .int _|exact .str _) rv ru rfl rfl
  |int i=>
   cases cu p2 r2 with
   |tup h' l' r' =>obtain⟨t,rfl⟩:=rv;cases ru;obtain⟨eX,xb,xD,_⟩:=I.tuple (SqT.of h');exact SeqAt.EqAt.int_tuple i t xD hu0
   |lst f' h' l' r' =>obtain⟨t,rfl⟩:=rv;cases ru;obtain⟨eX,xb,yF,_⟩:=I.list (.inl h');exact SeqAt.EqAt.int_list i t yF.isList hu0
   |_=>exact flat (.int i) (by first|exact .non|exact .bl _|exact .int _|exact .str _) rv ru rfl rfl
  |str z=>
   cases cu p2 r2 with
   |tup h' l' r' =>obtain⟨t,rfl⟩:=rv;cases ru;obtain⟨eX,xb,xD,_⟩:=I.tuple (SqT.of h');exact SeqAt.EqAt.str_tuple z t xD hu0
   |lst f' h' l' r' =>obtain⟨t,rfl⟩:=rv;cases ru;obtain⟨eX,xb,yF,_⟩:=I.list (.inl h');exact SeqAt.EqAt.str_list z t yF.isList hu0
   |_=>exact flat (.str z) (by first|exact .non|exact .bl _|exact .int _|exact .str _) rv ru rfl rfl
theorem By(I:Inv X ee σ H s){F G:Addr->Prop}{dx dy:D}{x y:V}{v u:Value}(p1:b0 n dx=true)(p2:b0 n dy=true)(r1:Rep X.K F H dx x)(r2:Rep X.K G H dy y)(rv:RelV x v)(ru:RelV y u)(hu:A.units+n<cLine):
  SeqAt.RcAt A s v u (eqD dx dy)/\SeqAt.RcNeAt A s v u (!eqD dx dy):=by
 have hu0:A.units<cLine:=by lia
 have tupAt:∀{a:Addr} {vs:List V},H a=some (.tup vs)->∃eA:List Value,s.heap.IsTuple a eA.toArray:=λh=>let⟨eA,_,ht,_⟩:=I.tuple (SqT.of h);⟨eA,ht⟩
 have lstAt:∀{a:Addr} {vs:List V},Rd H a (.lst vs)->∃eA:List Value,s.heap.IsList a eA.toArray:=λh=>let⟨eA,_,pl,_⟩:=I.list (.inl h);⟨eA,pl.isList⟩
 cases cu p1 r1 with
 |non=>
  cases rv;cases cu p2 r2 with
  |non=>cases ru;exact⟨.none_none,.none_none⟩
  |bl b=>cases ru;exact⟨.none_bool b,.none_bool b⟩
  |int i=>obtain⟨t,rfl⟩:=ru;exact⟨.none_int i t,.none_int i t⟩
  |str z=>obtain⟨t,rfl⟩:=ru;exact⟨.none_str z t,.none_str z t⟩
  |tup h' l' r' =>cases ru;obtain⟨eA,ht⟩:=tupAt h';exact⟨.none_tuple ht hu0,.none_tuple ht hu0⟩
  |lst f' h' l' r' =>cases ru;obtain⟨eA,ht⟩:=lstAt h';exact⟨.none_list ht hu0,.none_list ht hu0⟩
 |bl b=>
  cases rv;cases cu p2 r2 with
  |non=>cases ru;exact⟨.bool_none b,.bool_none b⟩
  |bl b' =>cases ru;exact⟨.bool_bool b b',.bool_bool b b'⟩
  |int i=>obtain⟨t,rfl⟩:=ru;exact⟨.bool_int b i t,.bool_int b i t⟩
  |str z=>obtain⟨t,rfl⟩:=ru;exact⟨.bool_str b z t,.bool_str b z t⟩
  |tup h' l' r' =>cases ru;obtain⟨eA,ht⟩:=tupAt h';exact⟨.bool_tuple b ht hu0,.bool_tuple b ht hu0⟩
  |lst f' h' l' r' =>cases ru;obtain⟨eA,ht⟩:=lstAt h';exact⟨.bool_list b ht hu0,.bool_list b ht hu0⟩
 |int i=>
  obtain⟨t,rfl⟩:=rv;cases cu p2 r2 with
  |non=>cases ru;exact⟨.int_none i t,.int_none i t⟩
  |bl b' =>cases ru;exact⟨.int_bool i t b',.int_bool i t b'⟩
  |int j=>obtain⟨t',rfl⟩:=ru;exact⟨.int_int i t j t',.int_int i t j t'⟩
  |str z=>obtain⟨t',rfl⟩:=ru;exact⟨.int_str i t z t',.int_str i t z t'⟩
  |tup h' l' r' =>cases ru;obtain⟨eA,ht⟩:=tupAt h';exact⟨.int_tuple i t ht hu0,.int_tuple i t ht hu0⟩
  |lst f' h' l' r' =>cases ru;obtain⟨eA,ht⟩:=lstAt h';exact⟨.int_list i t ht hu0,.int_list i t ht hu0⟩
 |str z=>
  obtain⟨t,rfl⟩:=rv;cases cu p2 r2 with
  |non=>cases ru;exact⟨.str_none z t,.str_none z t⟩
  |bl b' =>cases ru;exact⟨.str_bool z t b',.str_bool z t b'⟩
  |int j=>obtain⟨t',rfl⟩:=ru;exact⟨.str_int z t j t',.str_int z t j t'⟩
  |str z' =>obtain⟨t',rfl⟩:=ru;exact⟨.str_str z t z' t',.str_str z t z' t'⟩
  |tup h' l' r' =>cases ru;obtain⟨eA,ht⟩:=tupAt h';exact⟨.str_tuple z t ht hu0,.str_tuple z t ht hu0⟩
  |lst f' h' l' r' =>cases ru;obtain⟨eA,ht⟩:=lstAt h';exact⟨.str_list z t ht hu0,.str_list z t ht hu0⟩
 | @tup a vs1 ds1 h l r=>
  cases n with
  |zero=>simp[b0] at p1
  |succ n=>
   cases rv;obtain⟨eA,yg,ht,_⟩:=I.tuple (SqT.of h);cases cu p2 r2 with
   |non=>cases ru;exact⟨.tuple_none ht hu0,.tuple_none ht hu0⟩
   |bl b=>cases ru;exact⟨.tuple_bool b ht hu0,.tuple_bool b ht hu0⟩
   |int i=>obtain⟨t,rfl⟩:=ru;exact⟨.tuple_int i t ht hu0,.tuple_int i t ht hu0⟩
   |str z=>obtain⟨t,rfl⟩:=ru;exact⟨.tuple_str z t ht hu0,.tuple_str z t ht hu0⟩
   |lst f' h' l' r' =>cases ru;obtain⟨eX,xD⟩:=lstAt h';exact⟨.tuple_list ht xD hu0,.tuple_list ht xD hu0⟩
   | @tup b SY ds2 h' l' r' =>
    cases ru;obtain⟨eX,xb,xD,_⟩:=I.tuple (SqT.of h');have xf:eA.toArray.size=ds1.length:=by rw[Gaj,<-yg.length,l]
    have xE:eX.toArray.size=ds2.length:=by rw[Gaj,<-xb.length,l']
    have items:∀j (h1:j<eA.toArray.size) (h2:j<eX.toArray.size),SeqAt.EqAt A.in1 s eA.toArray[j] eX.toArray[j] ((λj=>eqD (ds1.getD j .non) (ds2.getD j .non)) j):=λj h1 h2=>by
     obtain⟨d1,v1,q1,q2,q3,q4⟩:=item_at l r yg h1;obtain⟨d2,v2,w1,w2,w3,w4⟩:=item_at l' r' xb h2;dsimp only;rw[q2,w2];exact uN I n (plain_all (by simpa[b0] using p1) q1) (plain_all (by simpa[b0] using p2) w1) q3 w3 q4 w4 (in1_units hu)
    have k1:=SeqAt.RcAt.tuples ht xD hu0 items;have k2:=SeqAt.RcNeAt.tuples ht xD hu0 items;have e:((List.range (min eA.toArray.size eX.toArray.size)).all (λj=>eqD (ds1.getD j .non) (ds2.getD j .non))&&eA.toArray.size==eX.toArray.size)=lz ds1 ds2:=by
     rw[xf,xE];by_cases hl:ds1.length=ds2.length
     .rw[<-hl,Nat.min_self,jR hl];simp
     .rw[nz hl];have:(ds1.length==ds2.length)=false:=by simpa using hl
      rw[this,Gck]
    rw[e] at k1 k2;exact⟨k1,k2⟩
 | @lst a vs1 ds1 f h l r=>
  cases n with
  |zero=>simp[b0] at p1
  |succ n=>
   cases rv;obtain⟨eA,yg,pl,_⟩:=I.list (.inl h);have ht:=pl.isList;cases cu p2 r2 with
   |non=>cases ru;exact⟨.list_none ht hu0,.list_none ht hu0⟩
   |bl b=>cases ru;exact⟨.list_bool b ht hu0,.list_bool b ht hu0⟩
   |int i=>obtain⟨t,rfl⟩:=ru;exact⟨.list_int i t ht hu0,.list_int i t ht hu0⟩
   |str z=>obtain⟨t,rfl⟩:=ru;exact⟨.list_str z t ht hu0,.list_str z t ht hu0⟩
   |tup h' l' r' =>cases ru;obtain⟨eX,xD⟩:=tupAt h';exact⟨.list_tuple ht xD hu0,.list_tuple ht xD hu0⟩
   | @lst b SY ds2 f' h' l' r' =>
    cases ru;obtain⟨eX,xb,yF,_⟩:=I.list (.inl h');have xD:=yF.isList;have xf:eA.toArray.size=ds1.length:=by rw[Gaj,<-yg.length,l]
    have xE:eX.toArray.size=ds2.length:=by rw[Gaj,<-xb.length,l']
    have items:∀j (h1:j<eA.toArray.size) (h2:j<eX.toArray.size),SeqAt.EqAt A.in1 s eA.toArray[j] eX.toArray[j] ((λj=>eqD (ds1.getD j .non) (ds2.getD j .non)) j):=λj h1 h2=>by
     obtain⟨d1,v1,q1,q2,q3,q4⟩:=item_at l r yg h1;obtain⟨d2,v2,w1,w2,w3,w4⟩:=item_at l' r' xb h2;dsimp only;rw[q2,w2];exact uN I n (plain_all (by simpa[b0] using p1) q1) (plain_all (by simpa[b0] using p2) w1) q3 w3 q4 w4 (in1_units hu)
    show SeqAt.RcAt A s (.ref a) (.ref b) (lz ds1 ds2)/\SeqAt.RcNeAt A s (.ref a) (.ref b) (!lz ds1 ds2);by_cases hl:ds1.length=ds2.length
    .have k1:=SeqAt.RcAt.lists ht xD (by rw[xf,xE,hl]) hu0 items;have k2:=SeqAt.RcNeAt.lists ht xD (by rw[xf,xE,hl]) hu0 items;rw[xf,jR hl] at k1 k2;exact⟨k1,k2⟩
    .rw[nz hl];exact⟨SeqAt.RcAt.lists_lengths ht xD (by rw[xf,xE];simpa using hl) hu0,SeqAt.RcNeAt.lists_lengths ht xD (by rw[xf,xE];simpa using hl) hu0⟩
end
section
variable{X:Cx}
def Ks(K:av)(neg:Bool):R2:=λx y H Q=>∃F dx dy,Inn K F H dx x/\Inn K F H dy y/\dx.plain=true/\dy.plain=true/\Q (.bl (if neg then !eqD dx dy else eqD dx dy)) H
theorem bW(hu:X.A.units+20<cLine):OpR X (compareOp .Eq) (Ks X.K false):=by
 intro ee s σ H x y v u Q I rx ry h;obtain⟨F,dx,dy,i1,i2,p1,p2,q⟩:=h;exact(By I (n:=20) p1 p2 i1.any i2.any rx ry hu).1 X.prog X.w _ _ ⟨.bl (eqD dx dy),H,I,rfl,q⟩
theorem iE(hu:X.A.units+20<cLine):OpR X (compareOp .NotEq) (Ks X.K true):=by
 intro ee s σ H x y v u Q I rx ry h;obtain⟨F,dx,dy,i1,i2,p1,p2,q⟩:=h;exact(By I (n:=20) p1 p2 i1.any i2.any rx ry hu).2 X.prog X.w _ _ ⟨.bl (!eqD dx dy),H,I,rfl,q⟩
theorem bX:OpB X eqB (Ks X.K false):=by
 intro F H dx dy x y b Q ix iy e q;unfold eqB at e;split at e
 .rename_i z;rw[Gam] at z;cases e;exact⟨F,dx,dy,ix,iy,z.1,z.2,q⟩
 .cases e
theorem iF:OpB X neB (Ks X.K true):=by
 intro F H dx dy x y b Q ix iy e q;unfold neB at e;split at e
 .rename_i z;rw[Gam] at z;cases e;exact⟨F,dx,dy,ix,iy,z.1,z.2,q⟩
 .cases e
theorem bZ{A:Around}{k:Nat}(hr:cP k A):A.units+20<cLine:=Nat.lt_of_le_of_lt (Nat.add_le_add_left (by decide:20<=64) _) hr.units
theorem nA:bootBuiltins "len"=some (.builtin "len"):=by decide+kernel
theorem ND:bootBuiltins "min"=some (.builtin "min"):=by decide+kernel
theorem NF:bootBuiltins "max"=some (.builtin "max"):=by decide+kernel
theorem NG:bootBuiltins "any"=some (.builtin "any"):=by decide+kernel
theorem lB:bootBuiltins "sorted"=some (.builtin "sorted"):=by decide+kernel
theorem NH:bootBuiltins "int"=some (.type "int"):=by decide+kernel
theorem Kt:bootBuiltins "bool"=some (.type "bool"):=by decide+kernel
theorem gV:bootBuiltins "tuple"=some (.type "tuple"):=by decide+kernel
theorem AG:bootBuiltins "enumerate"=some (.type "enumerate"):=by decide+kernel
theorem Ku{K:av}:El K "int":=by
 intro t ht;simp only[Gaw,List.not_mem_nil,or_false] at ht;rcases ht with rfl|rfl|rfl|rfl|rfl|rfl|rfl<;>rfl
theorem kit_tuple{K:av}:El K "tuple":=by
 intro t ht;simp only[Gaw,List.not_mem_nil,or_false] at ht;rcases ht with rfl|rfl|rfl|rfl|rfl|rfl|rfl<;>rfl
theorem HI{K:av}:El K "bool":=by
 intro t ht;simp only[Gaw,List.not_mem_nil,or_false] at ht;rcases ht with rfl|rfl|rfl|rfl|rfl|rfl|rfl<;>rfl
end
section
variable{X:Cx}{xQ:List Stmt}{f:DS}
theorem ai(i:Nat)(x:Str)(k:(∀pos,PEd X (.Name x pos) (vE i))->kW X xQ f)(hN:autoParam (X.N[i]? =some x) Za1._auto_1)(hv:Vis X.env.scope x:=by first|exact Or.inl rfl|exact Or.inr (Or.inl rfl)|exact Or.inr (Or.inr rfl))(hd:autoParam ((x==("__debug__":Str))=false) Za2._auto_1)
  (xp:autoParam ((x==("__classdict__":Str))=false) Za2._auto_1):kW X xQ f:=k λ_=>bR i hN hv hd xp
theorem aJ(i:Nat)(x:Str)(k:Loc X.env.scope x->kW X xQ f)(hx:Loc X.env.scope x:=by first|exact Or.inl rfl|exact Or.inr rfl):kW X xQ f:=k hx
theorem mm(i:Nat)(x:Str)(k:Vis X.env.scope x->kW X xQ f)(hv:Vis X.env.scope x:=by first|exact Or.inl rfl|exact Or.inr (Or.inl rfl)|exact Or.inr (Or.inr rfl)):kW X xQ f:=k hv
theorem aY(x:Str)(k:Gl X x->kW X xQ f)(hg:autoParam (Gl X x) Za1._auto_1):kW X xQ f:=k hg
end
theorem pW{env:PySem.Env}:∀(names:List (Str×NameKind)),(∀y∈names,y.2= .free->∃c,env.cells.lookup y.1=some c)->∀(cs:List (Str×Addr)),(∀n c,cs.lookup n=some c->env.cells.lookup n=some c)->
  ∃cl:List (Str×Addr),(forIn names cs λx r=>(do
    if(x.2==NameKind.free)=true then pure (ForInStep.yield ((x.1,<-cellOf env x.1)::r)) else pure (ForInStep.yield r):Sem (ForInStep (List (Str×Addr)))))=pure cl/\
   (∀n c,cl.lookup n=some c->env.cells.lookup n=some c)/\(∀y∈names,y.2= .free->∃c,cl.lookup y.1=some c)/\∀n c,cs.lookup n=some c->∃c',cl.lookup n=some c'
 |[],_,cs,h=>by
  refine⟨cs,rfl,h, ?_,λn c e=> ⟨c,e⟩⟩;intro y hy;cases hy
 |(x,k)::names,hf,cs,h=>by
  by_cases hk:k= .free
  .subst hk;obtain⟨c,hc⟩:=hf (x,.free) Gav rfl;have xO:cellOf env x=pure c:=by unfold cellOf;rw[hc]<;>rfl
   obtain⟨cl,h1,h2,h3,h4⟩:=pW names (λy hy=>hf y (Gar _ hy)) ((x,c)::cs) (λn c' e=>by
    by_cases z:n=x
    .subst z;simp[GaG] at e;subst e;exact hc
    .have z' :(n==x)=false:=by simpa using z
     simp[GaG,z'] at e;exact h n c' e)
   refine⟨cl, ?_,h2,λy hy TF=> ?_,λn c' e=> ?_⟩
   .rw[List.forIn_cons];simp only[xO];exact h1
   .rcases Gaw.mp hy with rfl|hy
    .exact h4 x c (by simp[GaG])
    .exact h3 y hy TF
   .by_cases z:n=x
    .subst z;exact h4 n c (by simp[GaG])
    .have z' :(n==x)=false:=by simpa using z
     exact h4 n c' (by simp[GaG,z',e])
  .have zm :(k==NameKind.free)=false:=by simpa using hk
   obtain⟨cl,h1,h2,h3,h4⟩:=pW names (λy hy=>hf y (Gar _ hy)) cs h;refine⟨cl, ?_,h2,λy hy TF=> ?_,h4⟩
   .rw[List.forIn_cons];simp only[zm];exact h1
   .rcases Gaw.mp hy with rfl|hy
    .exact absurd TF hk
    .exact h3 y hy TF
theorem oV{env:PySem.Env}{scope:Scope}(hf:∀y∈scope.names,y.2= .free->∃c,env.cells.lookup y.1=some c):
  ∃cl:List (Str×Addr),closureFor scope env=pure cl/\(∀n c,cl.lookup n=some c->env.cells.lookup n=some c)/\∀y∈scope.names,y.2= .free->∃c,cl.lookup y.1=some c:=by
 obtain⟨cl,h1,h2,h3,_⟩:=pW scope.names hf [] (λn c e=>by simp at e);refine⟨cl, ?_,h2,h3⟩;unfold closureFor;exact(congrArg (λm=>m>>=pure) h1).trans (by rfl)
theorem mem_of_lookup{x:Str}{k:NameKind}:∀{l:List (Str×NameKind)},l.lookup x=some k->(x,k)∈l
 |[],h=>by simp at h
 |(n,k')::r,h=>by
  rw[GaG] at h;cases hx:x==n with
  |true=>rw[hx] at h;cases h;rw[Gbj] at hx;subst hx;exact Gav
  |false=>rw[hx] at h;exact Gar _ (mem_of_lookup h)
theorem pX{env:PySem.Env}{x:Str}:∀{names:List (Str×NameKind)},(∀y∈names,y.2≠ .cell)->((names.map λ(n,k)=>if(k==NameKind.free&&env.scope.kind== .function&&env.kindOf n==some .cell) then(n,NameKind.cell) else(n,k)).lookup x=some .cell\/
   (names.map λ(n,k)=>if(k==NameKind.free&&env.scope.kind== .function&&env.kindOf n==some .cell) then(n,NameKind.cell) else(n,k)).lookup x=some .free)->(x,NameKind.free)∈names
 |[],_,h=>by simp at h
 |(n,k)::r,hc,h=>by
  have hk:k≠ .cell:=hc (n,k) Gav;rw[Gap] at h;dsimp only at h;split at h
  .rename_i q;have q1:k= .free:=by
    rw[Gam,Gam] at q
    simpa using q.1.1
   subst q1;rw[GaG] at h;cases hx:x==n with
   |true=>rw[Gbj] at hx;subst hx;exact Gav
   |false=>rw[hx] at h;exact Gar _ (pX (λy hy=>hc y (Gar _ hy)) h)
  .rw[GaG] at h;cases hx:x==n with
   |true=>
    rw[hx] at h;rw[Gbj] at hx;subst hx
    rcases h with h|h
    .cases h;exact absurd rfl hk
    .cases h;exact Gav
   |false=>rw[hx] at h;exact Gar _ (pX (λy hy=>hc y (Gar _ hy)) h)
theorem jA{env:PySem.Env}{x:Str}:∀{names:List (Str×NameKind)},names.lookup x=some .free->((names.map λ(n,k)=>if(k==NameKind.free&&env.scope.kind== .function&&env.kindOf n==some .cell) then(n,NameKind.cell) else(n,k)).lookup x=some .cell\/
   (names.map λ(n,k)=>if(k==NameKind.free&&env.scope.kind== .function&&env.kindOf n==some .cell) then(n,NameKind.cell) else(n,k)).lookup x=some .free)
 |[],h=>by simp at h
 |(n,k)::r,h=>by
  rw[GaG] at h;rw[Gap];dsimp only;cases hx:x==n with
  |true=>
   rw[hx] at h;cases h
   split
   .left;rw[GaG,hx]
   .right;rw[GaG,hx]
  |false=>
   rw[hx] at h;split
   .rw[GaG,hx];exact jA h
   .rw[GaG,hx];exact jA h
noncomputable def blk(X:Cx)(scope:Scope)(cl:List (Str×Addr))(C:Addr)(N:List Str)(s:Shared)(H:Hp)(ex:List Addr):Cx:=
 {X with N:=N,s₀:=s,H0:=H,env:=compEnvC scope cl C X.env,outer:=X.stack,ex:=ex,fn:=λ_=>false,pn:=[],xe:=λ_ _=>False}
noncomputable def Qu:Option NameKind->Bool
 |some .cell=>true
 |some .free=>true
 |_=>false
structure mn(X:Cx)(scope:Scope)(N:List Str)(n:Nat)(eP:List Nat):Prop where
 cell:(scope.names.all λy=>y.2 != .cell)=true
 kind:scope.kind= .function
 names:(scope.names.all λy=>y.2 != .local||scope.names.lookup y.1==some .local)=true
 free:(scope.names.all λy=>y.2 != .free||Qu (X.env.kindOf y.1))=true
 cap:N.drop n=eP.map λi=>(X.N[i]?).getD ("":Str)
 le:n<=N.length
 lt:(eP.all λi=>decide (i<X.N.length))=true
 fr:((N.drop n).all λx=>scope.names.lookup x==some .free)=true
def uc(X:Cx)(ifs:List Expr)(tt:TT):Prop:=∀(ee:List (Addr×Obj)) (s:Shared) (σ:St) (H:Hp) (Q:Bool->Hp->Prop),Inv X ee σ H s->tt σ H Q->
 wpAny (model X.prog X.w) X.A (forIn ifs true λc r=>if r=true then do let ok<-isTrue c X.env (eval c X.env);pure (ForInStep.yield ok) else pure (ForInStep.yield r)) (TP X ee σ Q) X.xe s
variable{X:Cx}
theorem gH:uc X [] (tT X gQ):=λee s σ H Q I ⟨_,_,_,_,_,e,k⟩=>by
 cases e;exact wpAny_tests_nil ⟨H,I,k H cE⟩
theorem sG{c:Expr}{t:DT}(h:PTd X c t):uc X [c] (tT X t):=λee s σ H Q I q=>wpAny_tests_one (h ee s σ H Q I q)
variable{n j:Nat}{eP:List Nat}
theorem ud{α:Type}{f:Nat->Option α}{y:α}(h:(List.replicate n (none:Option α)++eP.map f)[j]? =some (some y)):∃i,eP[j -n]? =some i/\n<=j/\f i=some y:=by
 by_cases hj:j<n
 .rw[GaJ (by simpa using hj),GbA] at h;rw[Gaf hj] at h;cases h
 .rw[GaA (by simp;lia),GcO,Gas] at h;cases q:eP[j -n]? with
  |none=>rw[q] at h;cases h
  |some i=>rw[q] at h;simp only[Option.map_some,Gde] at h;exact⟨i,rfl,by lia,h⟩
theorem HJ{i:Nat}{α:Type}{f:Nat->Option α}(h1:eP[j -n]? =some i)(h2:n<=j):(List.replicate n (none:Option α)++eP.map f)[j]? =some (f i):=by
 rw[GaA (by simp;lia),GcO,Gas,h1];rfl
noncomputable def nB(n:Nat)(eP:List Nat)(σ:St):St:=List.replicate n none++eP.map λi=>σ[i]?.getD none
def oW(eh:Addr->Prop)(env:Env)(σ:St)(p:Addr):Addr->Prop:=λa=>a=p\/¬Cln eh env σ a
theorem getD_some{α:Type}{o:Option (Option α)}{y:α}(h:o.getD none=some y):o=some (some y):=by
 cases o with
 |none=>cases h
 |some z=>simp only[Option.getD_some] at h;rw[h]
variable{env:Env}
theorem Bz{sl:Slot}(e:(compEnv n eP env)[j]? =some (some sl)):∃i,eP[j -n]? =some i/\n<=j/\mf (env[i]?.getD none)=some sl:=ud e
variable{σ:St}
theorem Em{a:Addr}(t:b6 (compEnv n eP env)[j]?)(e:(nB n eP σ)[j]? =some (some (.ref a))):∃i:Nat,b6 env[i]? /\σ[i]? =some (some (.ref a)):=by
 cases q:(compEnv n eP env)[j]? with
 |none=>rw[q] at t;exact t.elim
 |some z=>
  cases z with
  |none=>rw[q] at t;exact t.elim
  |some sl=>
   obtain⟨i,e1,e2,e3⟩:=Bz q;obtain⟨i',TX,_,Wc⟩:=ud e;rw[e1] at TX;cases TX
   refine⟨i, ?_,getD_some Wc⟩;rw[q] at t;cases r:env[i]? with
   |none=>rw[r] at e3;cases e3
   |some z=>cases z with
    |none=>rw[r] at e3;cases e3
    |some z=>
     rw[r] at e3;cases z with
     |sh d=>cases e3;exact t.elim
     |own d=>trivial
     |lok d=>trivial
     |bor d=>trivial
theorem Kv:¬isO (compEnv n eP env)[j]? :=λt=>by
 match q:(compEnv n eP env)[j]?,t with
 |some (some (.own d)),_=>
  obtain⟨i,_,_,e3⟩:=Bz q;cases q:env[i]?.getD none with
  |none=>rw[q] at e3;cases e3
  |some z=>rw[q] at e3;cases z<;>cases e3
variable{p:Addr}{H H0:Hp}
theorem aA.block{K:av}{eh:Addr->Prop}(E:aA K H0 eh env σ H)(n:Nat)(eP:List Nat)(hp:H p=none):
  aA K H (oW eh env σ p) (compEnv n eP env) (nB n eP σ) (upd H p (.lst [])):=by
 have sm:bz H (upd H p (.lst [])):=c4 hp;have slot:∀(j:Nat) (sl:Slot),(compEnv n eP env)[j]? =some (some sl)->∃i,eP[j -n]? =some i/\n<=j/\mf (env[i]?.getD none)=some sl:=λj sl e=>ud e;have noO:∀(j:Nat) d,(compEnv n eP env)[j]? ≠some (some (.own d))/\(compEnv n eP env)[j]? ≠some (some (.lok d)):=λj d=>by
  constructor<;>
  .intro e;obtain⟨i,_,_,e3⟩:=slot j _ e;cases q:env[i]?.getD none with
   |none=>rw[q] at e3;cases e3
   |some z=>rw[q] at e3;cases z<;>cases e3
 have topAd:∀(j:Nat) a,b6 (compEnv n eP env)[j]? ->(nB n eP σ)[j]? =some (some (.ref a))->∃i:Nat,b6 env[i]? /\σ[i]? =some (some (.ref a)):=λj a t e=>Em t e;have hV:∀b,Cln eh env σ b->H b≠none->Cln (oW eh env σ p) (compEnv n eP env) (nB n eP σ) b:=λb h hb=>by
  refine⟨λz=> ?_,λj t e=> ?_⟩
  .rcases z with z|z
   .subst z;exact hb hp
   .exact z h
  .obtain⟨i,t',e'⟩:=topAd j b t e;exact h.2 i t' e'
 refine⟨sm, ?_, ?_, ?_, ?_, ?_, ?_⟩
 .simp[compEnv,nB]
 .intro a ha;rcases ha with ha|ha
  .subst ha;rw[aC];simp
  .intro z;refine ha ⟨λb=>E.bad a b (sm.free z),λi t e=>E.qC t e (sm.free z)⟩
 .intro j d e;obtain⟨i,e1,e2,e3⟩:=slot j _ e;have q:env[i]? =some (some (.sh d)):=by
   cases r:env[i]? with
   |none=>rw[r] at e3;cases e3
   |some z=>cases z with
    |none=>rw[r] at e3;cases e3
    |some z=>rw[r] at e3;cases z<;>cases e3;rfl
  obtain⟨v,h1,h2⟩:=E.sh i d q;refine⟨v, ?_,h2.gen (.of_same sm) hV⟩;unfold nB;rw[HJ e1 e2,h1];rfl
 .intro j d e;rcases e with e|e
  .exact absurd e (noO j d).1
  .exact absurd e (noO j d).2
 .intro j d e;obtain⟨i,e1,e2,e3⟩:=slot j _ e;have q:b6 env[i]? /\(env[i]? =some (some (.own d))\/env[i]? =some (some (.lok d))\/env[i]? =some (some (.bor d))):=by
   cases r:env[i]? with
   |none=>rw[r] at e3;cases e3
   |some z=>cases z with
    |none=>rw[r] at e3;cases e3
    |some z=>
     rw[r] at e3;cases z with
     |sh d=>cases e3
     |own d=>cases e3;exact⟨trivial,.inl rfl⟩
     |lok d=>cases e3;exact⟨trivial,.inr (.inl rfl)⟩
     |bor d=>cases e3;exact⟨trivial,.inr (.inr rfl)⟩
  have fact:∃a,σ[i]? =some (some (.ref a))/\Wr H a/\d.top=true/\Inn K (Cln eh env σ) H d (.ref a):=by
   rcases q.2 with q|q|q
   .obtain⟨a,h1,_,_,h4,h5,h6⟩:=E.ow i d (.inl q);exact⟨a,h1,h4,h5,h6⟩
   .obtain⟨a,h1,_,_,h4,h5,h6⟩:=E.ow i d (.inr q);exact⟨a,h1,h4,h5,h6⟩
   .exact E.bo i d q
  obtain⟨a,h1,h4,h5,h6⟩:=fact;refine⟨a, ?_,h4.same sm,h5,h6.gen (.of_same sm) hV λ_ _ _ o e=>sm _ o e⟩;unfold nB;rw[HJ e1 e2,h1];rfl
 .intro j k a t;exfalso;cases q:(compEnv n eP env)[j]? with
  |none=>rw[q] at t;exact t
  |some z=>cases z with
   |none=>rw[q] at t;exact t
   |some z=>cases z with
    |sh d=>rw[q] at t;exact t
    |own d=>exact(noO j d).1 q
    |lok d=>exact(noO j d).2 q
    |bor d=>rw[q] at t;exact t
theorem aA.grow{K:av}{eh:Addr->Prop}{vs us:List V}(E:aA K H0 eh env σ H)(hb:eh p)(h0:H0 p=none)(hp:H p=some (.lst vs))(hl:∀i:Nat,mW env[i]? ->σ[i]? ≠some (some (.ref p))):aA K H0 eh env σ (upd H p (.lst us)):=by
 have dC:j5 (Cln eh env σ) H (upd H p (.lst us)):=λb o e q=>by
  refine(ak ?_).trans e;rintro rfl;rcases q with q|q
  .exact q.1 hb
  .rw[hp] at e;cases e;exact q
 have wr:∀{a},Wr H a->Wr (upd H p (.lst us)) a:=λ{a} ⟨o,h1,h2⟩=>by
  by_cases z:a=p
  .subst z;exact⟨_,aC,trivial⟩
  .exact⟨o,(ak z).trans h1,h2⟩
 refine⟨λb o e=>(ak λz=>by subst z;rw[h0] at e;cases e).trans (E.same b o e),E.len,λa ha=> ?_,λi d e=> ?_,λi d e=> ?_,λi d e=> ?_,E.dj⟩
 .by_cases z:a=p
  .subst z;rw[aC];simp
  .rw[ak z];exact E.bad a ha
 .obtain⟨v,h1,h2⟩:=E.sh i d e;exact⟨v,h1,h2.gen dC λ_ f _=>f⟩
 .obtain⟨a,h1,h2,h3,h4,h5,h6⟩:=E.ow i d e;refine⟨a,h1,h2,h3,wr h4,h5,h6.gen dC (λ_ f _=>f) λb eb _ o q=> ?_⟩;cases eb;exact(ak (λz:a=p=>h3 (by rw[z];exact hb))).trans q
 .obtain⟨a,h1,h4,h5,h6⟩:=E.bo i d e;refine⟨a,h1,wr h4,h5,h6.gen dC (λ_ f _=>f) λb eb _ o q=> ?_⟩;cases eb;exact(ak (λz:a=p=>hl i (by rw[e];trivial) (by rw[<-z];exact h1))).trans q
theorem ex7{a b c d e f g:Type}{P:a->b->c->d->e->f->g->Prop}{G:Prop}(h:∀x1 x2 x3 x4 x5 x6 x7,P x1 x2 x3 x4 x5 x6 x7->G):(∃x1 x2 x3 x4 x5 x6 x7,P x1 x2 x3 x4 x5 x6 x7)->G:=λ⟨x1,x2,x3,x4,x5,x6,x7,q⟩=>h x1 x2 x3 x4 x5 x6 x7 q
structure CoI(X:Cx)(scope:Scope)(cl:List (Str×Addr))(C:Addr)(N:List Str)(s:Shared)(H:Hp)(fp:List Addr)(tn:Nat->Heap->Prop)(eh:Addr->Prop)(env:Env)(σ:St)(p:Addr)(gd:DG)(t:DT)(f:DE)(ds rs:List D)(m:Nat)(s' :Shared)(i:Nat)(σi:St)(Hi:Hp)(eQ:Env)(vs:List V)(done rest:List D):Prop where
 em:m=ds.length -i
 hi:i<=ds.length
 Ii:Inv (blk X scope cl C N s H fp) [] σi Hi s'
 sti:tn i s'.heap
 fri:∀b∈fp,Hi b=none
 Ei:aA X.K H (oW eh env σ p) eQ σi Hi
 hpi:Hi p=some (.lst vs)
 ri:aT X.K (λb=>Cln eh env σ b/\b≠p) Hi done vs
 owi:∀j:Nat,¬isO eQ[j]?
 lbi:∀(j:Nat) a,mW eQ[j]? ->σi[j]? =some (some (.ref a))->¬Cln eh env σ a
 dl:done.length<=i
 ci:dD gd t f (ds.drop i) eQ=some rest
 eqi:done++rest=rs
section
variable{X:Cx}{pos:Pos}
variable{x:Str}{scope:Scope}
theorem jS{env:PySem.Env}(h:scope.names.lookup x=some .local):(relabel scope env).names.lookup x=some .local:=lookup_relabel_local h
variable{ex:List Addr}{H:Hp}{s:Shared}{N:List Str}{C:Addr}{cl:List (Str×Addr)}
theorem br(h:scope.names.lookup x=some .local):Vis (blk X scope cl C N s H ex).env.scope x:= .inl (jS h)
theorem cH(h:scope.names.lookup x=some .local):Loc (blk X scope cl C N s H ex).env.scope x:= .inl (jS h)
theorem lC(h:scope.names.lookup x=some .free):Vis (blk X scope cl C N s H ex).env.scope x:= .inr (jA h)
variable{fp:List Addr}{σ:St}{ee:List (Addr×Obj)}{eP:List Nat}{n:Nat}
theorem FN{h₁:Heap}{tk:Nat}(S:mn X scope N n eP)(I:Inv X ee σ H s)
  (zq:∀x c,cl.lookup x=some c->X.env.cells.lookup x=some c)(yV:∀y∈scope.names,y.2= .free->∃c,cl.lookup y.1=some c)(hf:∀b∈fp,pK X ee H b)(TN:∀b∈fp,b<s.heap.objs.size)
  (hC:s.heap.objs.size+1=C)(TL:h₁.Ns C λ_=>none)(old:∀b o,s.heap.get? b=some o->h₁.get? b=some o)(zR:h₁.get? s.heap.objs.size=some {cls:= .type "list",data:= .seq ([]:List Value).toArray}):
  Inv (blk X scope cl C N s H fp) [] (nB n eP σ) (upd H s.heap.objs.size (.lst [])) {s with heap:=h₁,toks:=tk}:=by
 have zH:=I.fresh;have hCn:H C=none:=I.hok.fresh (by lia);have yG:C≠s.heap.objs.size:=λz=>by rw[z] at hC;exact Nat.succ_ne_self _ hC
 have xO:∀y∈scope.names,y.2≠ .cell:=λy hy z=>by
  have:=Gan.mp S.cell y hy;rw[z] at this;simp at this
 have cells:∀x c,cl.lookup x=some c->∃v,s.heap.IsCell c v:=λx c e=>I.cell x c (zq x c e);have cNe:∀x c,cl.lookup x=some c->c≠s.heap.objs.size:=λx c e z=>by
  obtain⟨v,q⟩:=cells x c e;exact absurd q.lt (by rw[z];exact GaN _)
 refine⟨⟨I.ok.mod,S.kind,I.ok.glob,I.ok.blt,by show s.heap.objs.size<=C;lia,λx y c e1 e2=>I.ok.inj x y c (zq x c e1) (zq y c e2),λx hx=> ?_,λx c e=>(by cases e),I.ok.hd,I.ok.frames,.inl rfl,λb hb=> ⟨?_,λx c e=>(hf b hb).2.2.2.2.1 x c (zq x c e)⟩,
  I.bs,GaQ I.ok.bsz I.sz,λb o e hb=> ?_,λb hb hs=> ?_,I.stack,I.qm⟩,rfl,I.bare,Un.laid old (Gao _) zH,⟨_,TL,λj x v e1 e2 e3=> ?_⟩,λx c e=> ?_,(ak yG).trans hCn,λx c e=>(ak (cNe x c e)).trans (I.jc x c (zq x c e)),λp hp=> ?_, ?_, ?_⟩
 .obtain⟨c,hc⟩:=yV (x,.free) (pX xO hx) rfl;exact⟨c,hc⟩
 .intro z;have:=TN b hb;have z' :b=C:=z;rw[z',<-hC] at this;exact GaN _ (Nat.lt_of_succ_lt this)
 .rcases(hf b hb).2.2.2.1 with z|z
  .exact I.ok.Ds b o e z
  .exact absurd (Gak (Gal e) (GaQ I.ok.bsz z)) (GaN _)
 .have xI :b∈frs X.stack:=hs;rcases Gaw.mp (I.uu b xI) with z|z
  .exact(hf b hb).2.1 z
  .exact(hf b hb).2.2.1 z
 ·
  obtain⟨i,f1,f2,f3⟩:=ud e2;have f3' :=getD_some f3;have TX :N[j]? =some x:=e1;have hd:(N.drop n)[j -n]? =some x:=by rw[List.getElem?_drop];rw[show n+(j -n)=j by lia];exact TX
  have hxf:scope.names.lookup x=some .free:=by
   have:=Gan.mp S.fr x (GaH hd)
   simpa using this
  rw[S.cap,Gas,f1] at hd;have hi:i<X.N.length:=GaI (Gan.mp S.lt i (GaH f1));have hXN:X.N[i]? =some x:=by
   simp only[Option.map_some,Gde] at hd;rw[GaF hi] at hd⊢
   simpa using hd
  have hk:Qu (X.env.kindOf x)=true:=by
   have:=Gan.mp S.free (x,.free) (mem_of_lookup hxf)
   simpa using this
  have zm :X.env.kindOf x=some .cell\/X.env.kindOf x=some .free:=by
   cases q:X.env.kindOf x with
   |none=>rw[q] at hk;cases hk
   |some z=>rw[q] at hk;cases z<;>first|(cases hk;done)|exact .inl rfl|exact .inr rfl
  obtain⟨m,hm,look⟩:=I.loc;have hv:Vis X.env.scope x:= .inr zm;obtain⟨u,ru,l⟩:=look i x v hXN f3' hv;refine⟨u,ru,.inr ⟨?_, ?_⟩⟩
  .exact jA hxf
  .rcases l with⟨l,_⟩| ⟨_,c,hc,o,ho,SV⟩
   .rcases zm with z|z<;>rw[l] at z<;>cases z
   .obtain⟨c',zQ⟩:=yV (x,.free) (mem_of_lookup hxf) rfl;have:=zq x c' zQ;rw[hc] at this;cases this
    exact⟨c,zQ,o,old _ _ ho,SV⟩
 .obtain⟨v,o,ho,SV⟩:=cells x c e;exact⟨v,o,old _ _ ho,SV⟩
 .cases hp
 .exact I.hok.laid old (Gao _) ⟨GaX _,[],0,.nil,zR⟩
 .show(nB n eP σ).length=N.length;have:=congrArg List.length S.cap;rw[GcK,Gaq] at this;have:=S.le;simp[nB];lia
theorem Kw{yy :List (Addr×Obj)}{σ' :St}{H' :Hp}{s' :Shared}(I:Inv X ee σ H s)(hf:∀b∈fp,pK X ee H b)
  (I' :Inv (blk X scope cl C N s H fp) yy σ' H' s'):Inv X ee σ H' s' :=
 I.Bh I'.os I'.base I'.hok I'.bare λb hb=> ⟨(hf b hb).2.2.2.1,(hf b hb).2.1,(hf b hb).2.2.2.2.1,(hf b hb).2.2.2.2.2⟩
def Qv(K:av)(H H' :Hp)(F:Addr->Prop)(p:Addr)(rs:List D):Prop:=bz H H' /\H p=none/\∃vs,H' p=some (.lst vs)/\aT K (λb=>F b/\b≠p) H' rs vs
def wX(gd:DG):Prop:=∀d e e',gd d e=some e' ->(∀j:Nat,¬isO e[j]?)->∀j:Nat,¬isO e'[j]?
variable{i:Nat}
theorem En{e:Env}{d:D}(h:∀j:Nat,¬isO e[j]?):∀j:Nat,¬isO (e.set i (some (.sh d)))[j]? :=λj z=>by
 by_cases q:i=j
 .subst q;by_cases hl:i<e.length
  .rw[GaB hl] at z;exact z
  .rw[GaP (by simp;lia)] at z;exact z
 .rw[Gaa q] at z;exact h j z
theorem gW:wX (gN i):=λd e e' h n=>by cases h;exact En n
theorem wY:∀(is:List Nat) (ds:List D) (e e' :Env),gNs is ds e=some e' ->(∀j:Nat,¬isO e[j]?)->∀j:Nat,¬isO e'[j]?
 |[],[],e,e',h,n=>by cases h;exact n
 |i::is,d::ds,e,e',h,n=>wY is ds _ e' h (En n)
 |[],_::_,_,_,h,_=>by cases h
 |_::_,[],_,_,h,_=>by cases h
theorem BA{is:List Nat}:wX (gT is):=λd e e' h n=>by
 unfold gT at h;split at h
 .exact wY is _ e e' h n
 .cases h
theorem wZ{H0:Hp}{it:Addr}{tn:Nat->Heap->Prop}{J:It}{tg iter elt:Expr}{ifs:List Expr}{E:Value->Shared->Prop}
  {gd:DG}{t:DT}{f:DE}{ds rs:List D}{eh:Addr->Prop}{env:Env}{RR:Value->Addr->Result->Shared->Prop}(hc:X.calm=true)(S:mn X scope N n eP)(I:Inv X ee σ H s)
  (zq:∀x c,cl.lookup x=some c->X.env.cells.lookup x=some c)(yV:∀y∈scope.names,y.2= .free->∃c,cl.lookup y.1=some c)(hf:∀b∈fp,pK X ee H b)(T:Turn X.prog X.w X.K tg J fp it tn)(st:tn 0 s.heap)
  (hg:∀C s' H',PGd (blk X scope cl C N s' H' fp) tg gd)(ht:∀C s' H',uc (blk X scope cl C N s' H' fp) ifs (tT X t))(he:∀C s' H',PEd (blk X scope cl C N s' H' fp) elt f)
  (EE:aA X.K H0 eh env σ H)(io:FK X.K (λb=>Cln eh env σ b/\H b≠none) (λb=>¬Ow env σ b) J ds H)(zP:wX gd)(hz:ds.length<=aq)(hl:dD gd t f ds (compEnv n eP env)=some rs)
  (W0:∀p C s' H' m,Inv X ee σ H' s' ->s'.heap.Ns C m->s.heap.objs.size<=C->pK X ee H' C->Qv X.K H H' (Cln eh env σ) p rs->RR (.ref p) C (.ok .next) s'):
  wpAny (model X.prog X.w) X.A (newList []) (λacc s₃=>wpAny (model X.prog X.w) X.A (newFunctionEnv scope X.env.globals cl [] X.env.qual none .none (some X.env)) (λTu s₄=>
   codeAny (model X.prog X.w) X.A (.compStart (.ListComp elt [⟨tg,iter,ifs,0⟩] scope pos) 0 (.ref it) acc {Tu with scope:=relabel scope X.env}) (RR acc Tu.locals) s₄) E s₃) E s:=by
 have xO:∀y∈scope.names,y.2≠ .cell:=λy hy z=>by
  have:=Gan.mp S.cell y hy;rw[z] at this;simp at this
 refine GaS (wpAny_newFunctionEnv xO (by intro y hy;simp at hy) (λh₁ hns₁ hsb₁=> ?_) S.kind);dsimp only at hns₁ hsb₁⊢;generalize zh:s.heap.push {cls:= .type "list",dict:=none,data:= .seq ([]:List Value).toArray}=H2 at hns₁ hsb₁⊢;have hC:s.heap.objs.size+1=H2.objs.size:=by rw[<-zh,GbM]
 have hDC:s.heap.objs.size≠H2.objs.size:=by rw[<-hC];exact Gau (GbO _)
 have hCle:s.heap.objs.size<=H2.objs.size:=by rw[<-hC];exact Gcr _
 have old:∀b o,s.heap.get? b=some o->h₁.get? b=some o:=λb o e=>hsb₁.extBut b o (by rw[<-hC];exact Gau (Gdf (Gal e))) (Gad _ (zh▸Gad _ e));have zR:h₁.get? s.heap.objs.size=some {cls:= .type "list",data:= .seq ([]:List Value).toArray}:=hsb₁.extBut _ _ hDC (Gad _ (zh▸Gat _ rfl));have TN:∀b∈fp,b<s.heap.objs.size:=λb hb=>by obtain⟨o,e,_⟩:=T.obj 0 _ st b hb;exact Gal e
 have st₁:tn 0 h₁:=T.keep 0 _ _ st λb _ o e=>old b o e;have zH:=I.fresh;generalize hC' :H2.objs.size=C at*;have I1:Inv (blk X scope cl C N s H fp) [] (nB n eP σ) (upd H s.heap.objs.size (.lst [])) {s with heap:=h₁,toks:=s.toks+([]:List (Str×Value)).length}:=FN S I zq yV hf TN hC (by
  have z:(λx:Str=>([]:List (Str×Value)).reverse.lookup x)=λ_=>none:=by funext x;rfl
  rw[z] at hns₁;exact hns₁) old zR
 have E1:=EE.block n eP zH;generalize hp:s.heap.objs.size=p at*;have loop:codeAny (model X.prog X.w) X.A (.compLoop (.ListComp elt [⟨tg,iter,ifs,0⟩] scope pos) 0 (.ref it) (.ref p) (compEnvC scope cl C X.env)) (RR (.ref p) C) {s with heap:=h₁,toks:=s.toks+([]:List (Str×Value)).length}:=by
  refine codeAny_loop rfl (λm s' =>∃i σi Hi eQ vs done rest,CoI X scope cl C N s H fp tn eh env σ p gd t f ds rs m s' i σi Hi eQ vs done rest) ?_ ds.length ?_
  .refineλm s' =>ex7 λi σi Hi eQ vs done rest J0=> ?_
   have e0:=J0.em;subst e0;have hi:=J0.hi;have Ii:=J0.Ii;have sti:=J0.sti;have fri:=J0.fri;have Ei:=J0.Ei;have hpi:=J0.hpi;have ri:=J0.ri;have owi:=J0.owi;have lbi:=J0.lbi;have dl:=J0.dl;have ci:=J0.ci;have eqi:=J0.eqi;have Tc:∀{H' :Hp},(∀b∈fp,H' b=none)->∀b∈fp,pK (blk X scope cl C N s H fp) [] H' b:=λhn b hb=>by
    refine⟨hn b hb,(Ii.ok.exf b hb).1,Ii.ok.Dt b hb,.inl hb,(Ii.ok.exf b hb).2,λq hq=>(by cases hq)⟩
   have yz:∀b o,H b=some o->Hi b=some o:=Ei.same;obtain⟨items,stop⟩:=io Hi λb o hb _=>yz b o hb;show wpAny _ X.A ((compTurn (.ListComp elt [⟨tg,iter,ifs,0⟩] scope pos) 0 (.ref it) (.ref p) (compEnvC scope cl C X.env)).onRaise (λx=>do noteFrame x (compEnvC scope cl C X.env);theTreesLotGoes x)) _ _ s';refine wpAny_noted ?_;rw[compTurn_list];refine Gab (wpAny_standAt (Gab ?_));by_cases xy:i<ds.length
   .obtain⟨go,yld⟩:=items i ds[i] (by simp[xy]);refine thn (T.item (blk X scope cl C N s H fp) rfl rfl rfl hc i [] s' σi Hi _ Ii (Tc fri) sti go) λr s4 ⟨u,hr,h4⟩=> ?_;subst hr;refine Gab (thn h4 λ_ s5 ⟨x,H5,I5,r5,y5,zA,UG⟩=> ?_);obtain⟨s2,rep⟩:=yld x H5 y5;have I5' :=I5.pinned (Tc UG) (T.obj _ _ zA);have hd:ds.drop i=ds[i]::ds.drop (i+1):=Gbx xy;rw[hd] at ci;unfold dD at ci;obtain⟨e2,SS,ci⟩:=ef ci;obtain⟨bb,xD,ci⟩:=ef ci;have clnIn:∀b,Cln eh env σ b/\H b≠none->Cln (oW eh env σ p) eQ σi b:=λb ⟨q1,q2⟩=>by
     refine⟨λz=>z.elim (λz=>q2 (by rw[z];exact zH)) λz=>z q1,λj tj ej=> ?_⟩;rcases wR tj with o|o
     .exact owi j o
     .exact lbi j b o ej q1
    refine Gab (thn (Gbg (hg C s H _ s5 σi H5 x u (λσ6 H6=>aA X.K H (oW eh env σ p) e2 σ6 H6/\Stp eQ σi H5 e2 σ6 H6) I5' r5 ⟨H,oW eh env σ p,eQ,ds[i],e2,Ei.mono s2,SS,rep.imp clnIn,λσ' H' E' p' => ⟨E',p'⟩⟩) (λ_ _ q=>q) λ_ _ q=>q.elim) λ_ s6 ⟨σ6,H6,I6,E6,p6⟩=> ?_);have Uc:=zP _ _ _ SS owi;have s56:bz H5 H6:=λb o e=>p6.keep b o e λ⟨j,z,_⟩=>owi j z;have UW:∀(j:Nat) a,mW e2[j]? ->σ6[j]? =some (some (.ref a))->¬Cln eh env σ a:=λj a z ej=>by
     obtain⟨q1,q2⟩:=p6.lk j z;rw[q1] at z;rw[q2] at ej
     exact lbi j a z ej
    have again:∀{H7:Hp} {s7:Shared} {yO :List V} {yq yn :List D},Inv (blk X scope cl C N s H fp) ([]++uy fp s5.heap) σ6 H7 s7->aA X.K H (oW eh env σ p) e2 σ6 H7->H7 p=some (.lst yO)->aT X.K (λb=>Cln eh env σ b/\b≠p) H7 yq yO ->
      yq.length<=i+1->dD gd t f (ds.drop (i+1)) e2=some yn ->yq ++yn =rs->
      ∃m,m<ds.length -i/\∃i σi Hi eQ vs done rest,CoI X scope cl C N s H fp tn eh env σ p gd t f ds rs m s7 i σi Hi eQ vs done rest:=by
     intro H7 s7 yO yq yn I7 E7 TJ r7 We c7 q7;refine⟨ds.length -(i+1),by lia,i+1,σ6,H7,e2,yO,yq,yn,⟨rfl,xy,I7.qo,T.keep _ _ _ zA λb hb o e=>(I7.pin (b,o) (GaU _ (GaU _ (lS hb e)))).1,λb hb=> ?_,E7,TJ,r7,Uc,UW,We,c7,q7⟩⟩;obtain⟨o,e,d⟩:=T.obj _ _ zA b hb;exact(I7.pin (b,o) (GaU _ (GaU _ (lS hb e)))).2.1
    refine Gab (thn (Gbg (ht C s H _ s6 σ6 H6 (λb' H7=>b' =bb/\bz H6 H7) I6 ⟨H,oW eh env σ p,e2,bb,E6,xD,λH' s' => ⟨rfl,s'⟩⟩) (λ_ _ q=>q) λ_ _ q=>q.elim) λok s7 ⟨H7,I7,hok,US⟩=> ?_);subst hok;have sAll:bz Hi H7:=s2.trans (s56.trans US);have E7:=E6.mono US;have TJ:H7 p=some (.lst vs):=sAll _ _ hpi;have r7:=ri.gen (F' :=λb=>Cln eh env σ b/\b≠p) (.of_same sAll) λ_ q _=>q;cases ok with
    |false=>
     rw[Gag Gai] at ci;exact Gah ⟨rfl,again I7 E7 TJ r7 (Nat.le_succ_of_le dl) ci eqi⟩
    |true=>
     rw[Gaf rfl] at ci;obtain⟨r,hr,ci⟩:=ef ci;split at ci
     .rename_i ye;obtain⟨yn,c8,rfl⟩:=Gac.mp ci;refine Gab (Gab (thn (Gbg (he C s H _ s7 σ6 H7 (λv H8=>bz H7 H8/\je X.K H (oW eh env σ p) e2 σ6 H7 H8 r v) I7 ⟨H,oW eh env σ p,e2,r,E7,hr,λv H' s' R=> ⟨s',R⟩⟩) (λ_ _ q=>q) λ_ _ q=>q.elim) λy s8 ⟨v,H8,I8,ry,U5,R⟩=> ?_));have E8:=E7.mono U5;have Ul:H8 p=some (.lst vs):=U5 _ _ TJ;have r8:=(r7.gen (F' :=λb=>Cln eh env σ b/\b≠p) (.of_same U5) λ_ q _=>q)
      have vr:Rep X.K (λb=>Cln eh env σ b/\b≠p) H8 r.d v:=(R.rep E7 ye).imp λb q=> ⟨Classical.byContradiction λz=>q.1 (.inr z),λz=>q.1 (.inl z)⟩;have h8:vs.length<sizeLine:=by
       rw[<-eU,<-ri.1];lia
      refine Gab (thn (Gbg (rV (X:=blk X scope cl C N s H fp) _ s8 σ6 H8 (.ref p) [v] (.ref p) [y] (λ_ H9=>H9=upd H8 p (.lst (vs++[v]))) I8 rfl (.cons ry .nil) ⟨p,vs,v,rfl,rfl,Ul,h8,rfl⟩) (λ_ _ q=>q) λ_ _ q=>q.elim) λ_ s9 ⟨_,H9,I9,_,h9⟩=> ?_);subst h9;have lbp:∀j:Nat,mW e2[j]? ->σ6[j]? ≠some (some (.ref p)):=λj z ej=>UW j p z ej (EE.AD zH);have dC:j5 (λb=>Cln eh env σ b/\b≠p) H8 (upd H8 p (.lst (vs++[v]))):=λb o e q=>by
       refine(ak ?_).trans e;rintro rfl;rcases q with q|q
       .exact q.2 rfl
       .rw[Ul] at e;cases e;exact q
      refine Gah (Gah ⟨rfl,again I9 (E8.grow (.inl rfl) zH Ul lbp) aC ((r8.append (aT.cons vr .nil)).gen dC λ_ q _=>q) (by simp;lia) c8 ?_⟩);rw[<-eqi,Gcf];rfl
     .cases ci
   .have hi' :i=ds.length:=by lia
    subst hi';rw[GcL] at ci;cases ci;rw[GaV] at eqi;subst eqi;refine thn (T.done (blk X scope cl C N s H fp) rfl rfl rfl hc ds.length [] s' σi Hi _ Ii (Tc fri) sti stop) λr s4 ⟨hr,I4⟩=> ?_;subst hr;obtain⟨m,hm,_⟩:=I4.loc;have IX:=Kw I hf I4;exact Gah (W0 p C s4 Hi m IX hm hCle ⟨I4.free,(I.Fo (by rw[hp];exact hCle) (I.hok.fresh (by rw[hp];exact hCle))).2⟩ ⟨yz,zH,vs,hpi,ri⟩)
  .exact⟨0,_,_,_,[],[],rs,⟨by simp,GaX _,I1,st₁,λb hb=>(ak (by rintro rfl;exact GaN _ (TN _ hb))).trans (hf b hb).1,E1,aC,aT.nil,λj=>Kv,λj a z e=>by
    obtain⟨i,t1,t2⟩:=Em z.top e
    exactλq=>q.2 i t1 t2,Gao _,by simpa using hl,rfl⟩⟩
 exact codeAny_compStart_list loop (T.self X.A 0 _ _ _ st₁ loop)
end
section
variable{X:Cx}{pos:Pos}
variable{l:Option Nat}{eP:List Nat}{n:Nat}
theorem AH{env:Env}:compEnv n eP (bV l env)=compEnv n eP env:=by
 cases l with
 |none=>rfl
 |some j=>
  unfold bV;dsimp only;split
  .rename_i d q;unfold compEnv;congr 1;apply GbC;intro i _;by_cases z:j=i
   .subst z;rw[GaB (Gae.mp q).1,q];rfl
   .rw[Gaa z]
  .rfl
theorem mn.cells{scope:Scope}{N:List Str}{n:Nat}{eP:List Nat}{ee:List (Addr×Obj)}{σ:St}{H:Hp}{s:Shared}(S:mn X scope N n eP)(I:Inv X ee σ H s):∀y∈scope.names,y.2= .free->∃c,X.env.cells.lookup y.1=some c:=λy hy hf=>by
 have hk:=Gan.mp S.free y hy;rw[hf] at hk;simp only[bne_self_eq_false,Bool.false_or] at hk;refine I.ok.has y.1 ?_;cases q:X.env.kindOf y.1 with
 |none=>rw[q] at hk;cases hk
 |some z=>rw[q] at hk;cases z<;>first|(cases hk;done)|exact .inl rfl|exact .inr rfl
variable{N:List Str}{scope:Scope}
theorem mn.HK(S:mn X scope N n eP):∀y∈scope.names,y.2= .local->scope.names.lookup y.1=some .local:=λy hy hl=>by
 have:=Gan.mp S.names y hy;rw[hl] at this
 simpa using this
structure Blk(X:Cx)(scope:Scope)(N:List Str)(tg elt:Expr)(ifs:List Expr)(gd:DG)(t:DT)(f:DE):Prop where
 g:∀cl C s H ex,PGd (blk X scope cl C N s H ex) tg gd
 t:∀cl C s H ex,uc (blk X scope cl C N s H ex) ifs (tT X t)
 e:∀cl C s H ex,PEd (blk X scope cl C N s H ex) elt f
theorem _root_.L2.Inv.Mf{ee:List (Addr×Obj)}{σ:St}{H:Hp}{s:Shared}{C:Addr}{h' :Heap}(I:Inv X ee σ H s)(F:pK X ee H C)(hs:Heap.SameBut C s.heap h'):Inv X ee σ H {s with heap:=h' }:=
 I.turned (t' :=s.toks) (λb o hb e=>(hs.2 b hb).trans e) F.1 F.2.1 F.2.2.2.1 F.2.2.2.2.1 F.2.2.2.2.2
theorem jB{tg iter elt:Expr}{ifs:List Expr}{src:DI}{gd:DG}{t:DT}{f:DE}(hc:X.calm=true)(S:mn X scope N n eP)(hi:PId X tg iter src)(zP:wX gd)(B:Blk X scope N tg elt ifs gd t f)
  (hs:∀x,foldedSetIterable iter X.env x=pure x:=by intro _;rfl):PEd X (.ListComp elt [⟨tg,iter,ifs,0⟩] scope pos) (lA l n eP src gd t f):=by
 intro ee s σ H Q I hw;obtain⟨H0,eh,env,r,E,e,k⟩:=hw;unfold lA at e;obtain⟨ds,yp,e⟩:=ef e;split at e
 .rename_i hz;obtain⟨rs,xA,rfl⟩:=Gac.mp e;obtain⟨EL,lo,xr⟩:=E.lock l;obtain⟨cl,h1,h2,h3⟩:=oV (S.cells I);rw[eval_ListComp];refine wpAny_comprehension_free (use:=none) rfl hs h1 S.kind S.HK ?_;refine thn (hi ee s σ H (λJ H' =>bz H H' /\FK X.K (λb=>Cln eh (bV l env) σ b/\H' b≠none) (λb=>¬Ow (bV l env) σ b) J ds H') I ⟨H0,eh,bV l env,ds,EL,yp,λJ H' s' io=> ⟨s',io⟩⟩) λv s1 q1=>thn q1 λTC s2 q2=> ?_;obtain⟨it,fp,tn,J,H2,e,I2,T,T4,f2,sH,io⟩:=q2;subst e;refine wZ (RR:=λacc C=>compPost (model X.prog X.w) X.A X.xe none (EP X ee σ Q) acc C) hc S I2 h2 h3 f2 T T4 (λC s' H' =>B.g cl C s' H' fp) (λC s' H' =>B.t cl C s' H' fp) (λC s' H' =>B.e cl C s' H' fp) (EL.mono sH) io zP hz (by rw[AH];exact xA) ?_;intro p C s' H' m IX hm hC hF G;refine⟨m,hm,λh' xI => ⟨.ref p,H',IX.Mf hF xI,rfl, ?_⟩⟩;obtain⟨g1,g2,vs,g3,g4⟩:=G;exact k _ H' (sH.trans g1) ⟨p,rfl,sH.free g2,⟨_,g3,trivial⟩,rfl,.lst (.inl g3) (g4.gen (.of_same cE) λb q _=> ⟨⟨q.1.1,λi ti ei=>q.1.2 i ((xr i).mpr ti) ei⟩,q.2⟩)⟩
 .cases e
end
section
variable{X:Cx}{scope:Scope}{cl:List (Str×Addr)}{C:Addr}{N:List Str}{s:Shared}{H:Hp}{ex:List Addr}{x:Str}
theorem iG(h:N.Nodup):(blk X scope cl C N s H ex).N.Nodup:=h
theorem iH(h:scope.names.lookup x=some .local):(blk X scope cl C N s H ex).fn x=true\/(blk X scope cl C N s H ex).env.scope.names.lookup x=some .local:= .inr (jS h)
end
section
variable{X:Cx}{e a b c:Expr}{f g h:DE}{pos:Pos}
def tO(X:Cx)(o:DO):TO:=λσ H Q=>∃H0 eh env i,aA X.K H0 eh env σ H/\o env=some i/\∀H',bz H H' ->Q i H'
theorem _root_.L2.PO.aG{e:Option Expr}{t t' :TO}(h:PO X e t')(i:∀σ H Q,t σ H Q->t' σ H Q):PO X e t:=λee s σ H Q I q=>h ee s σ H Q I (i σ H Q q)
theorem FP:PO X none (tO X noO):=K3.aG λσ H Q ⟨_,_,_,_,_,e,k⟩=>by cases e;exact k H cE
theorem FQ(he:PEd X e f):PO X (some e) (tO X (Mb f)):=by
 refine(K4 he).aG ?_;rintro σ H Q ⟨H0,eh,env,o,E,ho,k⟩;obtain⟨r,hr,ho⟩:=ef ho;split at ho
 .rename_i i hd;cases ho;refine⟨H0,eh,env,r,E,hr,λv H1 s1 R=> ?_⟩;have q:=R.inn;rw[hd] at q;cases q;exact⟨i,rfl,k H1 s1⟩
 .cases ho
theorem AI(n d:Nat)(o:Option Int):HT.sIx n d o=sIx n d o:=by
 cases o<;>rfl
variable{ds:List D}{H:Hp}
theorem uO{K:av}{F:Addr->Prop}{vs:List V}{lo hi:Option Int}(r:aT K F H ds vs):aT K F H (cutD ds lo hi) (Bp vs lo hi):=by
 unfold cutD Bp;rw[AI,AI,<-r.1];exact(r.drop _).take _
theorem BB{K:av}{F:Addr->Prop}{H:Hp}:∀{ns:List Int},aT K F H (ns.map .int) (ns.map V.int)
 |[]=> .nil
 |n::ns=> .cons (.int n) BB
theorem HL{lo hi:Option Expr}{l u:DO}{p2:Pos}(he:PEd X e f)(hl:PO X lo (tO X l))(hu:PO X hi (tO X u)):PEd X (.Subscript e (.Slice lo hi none p2) pos) (slE f l u):=by
 refine(GY (K7.or Nb) he hl hu).aG ?_;rintro σ H Q ⟨H0,eh,env,rv,E,hf,k⟩;obtain⟨r,hr,hf⟩:=ef hf;obtain⟨lv,Ta,hf⟩:=ef hf;obtain⟨uv,yo,hf⟩:=ef hf;refine⟨H0,eh,env,r,E,hr,λv H1 s1 R=> ⟨H0,eh,env,lv,E.mono s1,Ta,λH2 s2=> ⟨H0,eh,env,uv,(E.mono s1).mono s2,yo,λH3 s3=> ?_⟩⟩⟩;have i3:=(R.inn.same s2).same s3;have s13:=s1.trans (s2.trans s3);unfold slD at hf;split at hf
 .rename_i xs hd;cases hf;rw[hd] at i3;cases i3 with
  |lst hh rr=>exact .inl ⟨_,_,rfl,.inl hh,λp n=>k _ _ (s13.trans (c4 n)) ⟨p,rfl,s13.free n,uI,rfl,jO n (uO rr)⟩⟩
 .rename_i xs hd;split at hf
  .cases hf
  .rename_i hw;cases hf;rw[hd] at i3;cases i3 with
   |tup hh rr=>exact .inr ⟨_,_,rfl,SqT.of hh,by rw[AI,AI,<-rr.1];exact hw,λp n=>k _ _ (s13.trans (c4 n)) (gy n (uO rr))⟩
 .rename_i ns hd;cases hf;rw[hd] at i3;cases i3 with
  |scr hh=>exact .inl ⟨_,_,rfl,hh.sq,λp n=>k _ _ (s13.trans (c4 n)) ⟨p,rfl,s13.free n,uI,rfl,jO n (uO BB)⟩⟩
 .cases hf
theorem BC{ee:List (Addr×Obj)}{σ:St}{s:Shared}{p:Addr}{ys:List V}{Q:Value->Shared->Prop}{E:Value->Shared->Prop}(hc:X.calm=true)(I:Inv X ee σ H s)(h:SqL X.K H p ys\/SqT X.K H p ys)
  (k:∀(It:Addr) fp wr P St (s₂:Shared),Walks X.prog X.w X.A.in1 It fp wr ys.length P St->St 0 s₂.heap->(∀b∈fp,b<s₂.heap.objs.size)->(∀(i:Nat) v,P i v->∃y,ys[i]? =some y/\RelV y v)->
   (∀h' tk,(∀b o,b∉wr->s₂.heap.get? b=some o->h'.get? b=some o)->Inv X ee σ H {s₂ with heap:=h',toks:=tk})->Q (.ref It) s₂):wpAny (model X.prog X.w) X.A.in1 (pyIter (.ref p)) Q E s:=by
 have hh:X.A.in1.handled=none:=I.ok.hd hc;have kept:∀{oi:Obj} {h' :Heap} {tk:Nat},(∀b o,b∉[s.heap.objs.size]->(s.heap.push oi).get? b=some o->h'.get? b=some o)->Inv X ee σ H {s with heap:=h',toks:=tk}:=λ{oi h' tk} hk=>
  I.kept λb o e=>hk b o (by simp only[Gbw];exact Gau (Gal e)) (Gad _ e)
 have get:∀{eA:List Value},Vals ys eA->∀(i:Nat) v,eA.toArray[i]? =some v->∃y,ys[i]? =some y/\RelV y v:=λ{eA} r i v e=>by
  have e' :eA[i]? =some v:=by simpa using e
  obtain⟨hi,_⟩:=Gae.mp e';have hi' :i<ys.length:=by rw[r.length];exact hi
  obtain⟨u,hu,ru⟩:=r.get (x:=ys[i]) (i:=i) (by simp[hi']);rw[e'] at hu;cases hu
  exact⟨ys[i],by simp[hi'],ru⟩
 have lts:∀{oi:Obj},p<s.heap.objs.size->∀b∈[s.heap.objs.size,p],b<(s.heap.push oi).objs.size:=λ{oi} hp b hb=>by
  rw[GbM];rcases Gaw.mp hb with rfl|hb
  .exact GbO _
  .rcases Gaw.mp hb with rfl|hb
   .exact Gdf hp
   .cases hb
 rcases h with hq|hq
 .obtain⟨eA,rv,pl,hz⟩:=I.list hq;have xy:p<s.heap.objs.size:=by obtain⟨_,e,_⟩:=pl.isList;exact Gal e
  have W:=Walks.list (prog:=X.prog) (w:=X.w) hh s.heap.objs.size p (Gau xy) eA.toArray;have hsz:eA.toArray.size=ys.length:=by rw[Gaj,rv.length]
  rw[hsz] at W;exact wpAny_pyIter_list pl.isList (k _ _ _ _ _ _ W ⟨⟨_,Gat _ rfl,rfl,rfl⟩,pl.isList.push _⟩ (lts xy) (get rv) λh' tk hk=>kept hk)
 .obtain⟨eA,rv,pl,hz⟩:=I.tuple hq;have pl' :s.heap.IsTuple p eA.toArray:=pl;have xy:p<s.heap.objs.size:=by obtain⟨_,e,_⟩:=pl';exact Gal e
  have W:=Walks.tuple (prog:=X.prog) (w:=X.w) hh s.heap.objs.size p (Gau xy) eA.toArray;have hsz:eA.toArray.size=ys.length:=by rw[Gaj,rv.length]
  rw[hsz] at W;exact Gcu pl' (k _ _ _ _ _ _ W ⟨⟨_,Gat _ rfl,rfl,rfl⟩,pl'.at λo e=>Gad _ e⟩ (lts xy) (get rv) λh' tk hk=>kept hk)
theorem range_any(bs:List Bool):(List.range bs.length).any (λi=>bs[i]?.getD false)=bs.any id:=by
 rw[Bool.eq_iff_iff];simp only[GcM,Gbs,id];constructor
 .rintro⟨i,hi,h⟩;rw[GaF hi] at h;exact⟨bs[i],Gbd hi,h⟩
 .rintro⟨b,hb,h⟩;obtain⟨i,hi,rfl⟩:=List.getElem_of_mem hb;exact⟨i,hi,by rw[GaF hi];exact h⟩
theorem BD{A:Around}{P:Nat->Value->Prop}{bs:List Bool}(hP:∀(i:Nat) v,P i v->∃y,(bs.map V.bl)[i]? =some y/\RelV y v):TruthOf X.prog X.w A P (λi=>bs[i]?.getD false):=by
 intro i v s Q E p q;obtain⟨y,hy,r⟩:=hP i v p;rw[Gas] at hy;cases hb:bs[i]? with
 |none=>rw[hb] at hy;cases hy
 |some b=>
  rw[hb] at hy;cases hy
  cases r;refine Gbo ?_;have q' :Q (bs[i]?.getD false) s:=q;rw[hb] at q';exact q'
theorem FR(hc:X.calm=true):j0 X (.builtin "any") (λxs H Q=>∃(p:Addr) (bs:List Bool),xs=[.ref p]/\(SqL X.K H p (bs.map V.bl)\/SqT X.K H p (bs.map V.bl))/\Q (.bl (bs.any id)) H):=by
 intro ee s σ H xs us Q I rv h;obtain⟨p,bs,rfl,hq,q⟩:=h;obtain⟨u,rfl,ru⟩:=rv.one;cases ru;refine call_any_walk (BC hc I hq λIt fp wr P St s₂ W st lt hP kept=> ⟨It,fp,wr,_,P,St,_,rfl,W,st,BD hP,λh' tk hk=> ?_⟩);rw[Gaq,range_any];exact⟨.bl (bs.any id),H,kept h' tk hk,rfl,q⟩
noncomputable def AJ(ns:List Int)(i:Nat):Int:=ns[i]?.getD 0
variable{ns:List Int}
theorem BE{P:Nat->Value->Prop}(hP:∀(i:Nat) v,P i v->∃y,(ns.map V.int)[i]? =some y/\RelV y v):∀i v,P i v->∃t,v= .int (AJ ns i) t:=by
 intro i v p;obtain⟨y,hy,r⟩:=hP i v p;rw[Gas] at hy;cases hb:ns[i]? with
 |none=>rw[hb] at hy;cases hy
 |some n=>
  rw[hb] at hy;cases hy
  obtain⟨t,rfl⟩:=r;exact⟨t,by unfold AJ;rw[hb];rfl⟩
theorem FT{f:Int->Int->Int}{i:Int}{k:Nat}(hk:k<ns.length):(ns.take (k+1)).foldl f i=f ((ns.take k).foldl f i) (ns[k]):=by
 rw[List.take_succ_eq_append_getElem hk,List.foldl_append];rfl
theorem HM{n:Int}{ns:List Int}:∀k,k<=ns.length->AJ (n::ns) (argBest (λi j=>decide (AJ (n::ns) i>AJ (n::ns) j)) k)=(ns.take k).foldl (λa b=>if b>a then b else a) n
 |0,_=>by simp[argBest,AJ]
 |k+1,hk=>by
  have ih:= @HM n ns k (by lia);rw[FT (by lia),argBest];have e:AJ (n::ns) (k+1)=ns[k]:=by simp[AJ,show k<ns.length by lia]
  rw[ih,e];simp only[decide_eq_true_eq];split
  .exact e
  .exact ih
theorem BF{K:av}{F:Addr->Prop}{H:Hp}:∀{ds:List D} {vs:List V} {bs:List Bool},aT K F H ds vs->nj ds=some bs->vs=bs.map V.bl
 |[],vs,bs,r,e=>by cases e;exact r.cz
 |d::ds,vs,bs,r,e=>by
  obtain⟨v,w,rfl,h1,h2⟩:=r.cons_inv;cases d<;>try (cases e;done)
  obtain⟨UM,e',rfl⟩:=Gac.mp e;cases h1;rw[BF h2 e'];rfl
theorem Eo{K:av}{F:Addr->Prop}{H:Hp}:∀{ds:List D} {vs:List V} {bs:List Int},aT K F H ds vs->Ho ds=some bs->vs=bs.map V.int
 |[],vs,bs,r,e=>by cases e;exact r.cz
 |d::ds,vs,bs,r,e=>by
  obtain⟨v,w,rfl,h1,h2⟩:=r.cons_inv;cases d<;>try (cases e;done)
  obtain⟨UM,e',rfl⟩:=Gac.mp e;cases h1;rw[Eo h2 e'];rfl
theorem CK{K:av}{F:Addr->Prop}{d:D}{v:V}(i:Inn K F H d v)(e:oT d=some ds):∃p vs,v= .ref p/\(SqL K H p vs\/SqT K H p vs)/\aT K F H ds vs:=by
 unfold oT at e;split at e
 .cases e;cases i with
  |lst h r=>exact⟨_,_,rfl,.inl (.inl h),r⟩
 .cases e;cases i with
  |tup h r=>exact⟨_,_,rfl,.inr (SqT.of h),r⟩
 .rename_i ns;cases e;cases i with
  |scr h=>
   refine⟨_,_,rfl,.inl h.sq,by simp,λi d v e1 e2=> ?_⟩;rw[Gas] at e1 e2;cases q:ns[i]? with
   |none=>rw[q] at e1;cases e1
   |some n=>rw[q] at e1 e2;cases e1;cases e2;exact .int n
 .cases e
theorem HP{o:List D->Option RV}{rv:RV}(h:one o ds=some rv):∃d xs,ds=[d]/\oT d=some xs/\o xs=some rv:=by
 unfold one at h;split at h
 .obtain⟨xs,h1,h2⟩:=ef h;exact⟨_,xs,rfl,h1,h2⟩
 .cases h
theorem FU:CallD X anyS (λxs H Q=>∃(p:Addr) (bs:List Bool),xs=[.ref p]/\(SqL X.K H p (bs.map V.bl)\/SqT X.K H p (bs.map V.bl))/\Q (.bl (bs.any id)) H):=by
 intro F H ds vs rv Q ps e k;obtain⟨d,xs,rfl,h1,h2⟩:=HP e;obtain⟨bs,hb,rfl⟩:=Gac.mp h2;obtain⟨v,rfl,i⟩:=jz ps;obtain⟨p,vs,rfl,hs,r⟩:=CK i h1;rw[BF r hb] at hs;exact⟨p,bs,rfl,hs,k _ H cE (.bl _)⟩
end
section
variable{X:Cx}{e a b c:Expr}{f g h:DE}{pos:Pos}
theorem b5.cons{Y:Type}{K:av}{F:Addr->Prop}{H:Hp}{et:List (Y×D)}{ws:List (Y×V)}{k:Y}{d:D}{v:V}(h:Rep K F H d v)(r:b5 K F H et ws):b5 K F H ((k,d)::et) ((k,v)::ws):=by
 refine⟨by simp[r.1],λi x u e1 e2=> ?_⟩;cases i with
 |zero=>simp at e1 e2;subst e1;subst e2;exact h
 |succ i=>exact r.2 i x u (by simpa using e1) (by simpa using e2)
variable{H:Hp}
theorem b5.cons_inv{Y:Type}{K:av}{F:Addr->Prop}{et:List (Y×D)}{ws:List (Y×V)}{k:Y}{d:D}(h:b5 K F H ((k,d)::et) ws):∃v r,ws=(k,v)::r/\Rep K F H d v/\b5 K F H et r:=by
 cases ws with
 |nil=>exact absurd h.1 (by simp)
 |cons q r=>
  obtain⟨k',v⟩:=q;have h1:k=k' /\et.map (·.1)=r.map (·.1):=by have:=h.1;simpa using this
  obtain⟨rfl,h2⟩:=h1;exact⟨v,r,rfl,h.2 0 (k,d) (k,v) rfl rfl,h2,λi x y e1 e2=>h.2 (i+1) x y (by simpa using e1) (by simpa using e2)⟩
theorem b5.nil{Y:Type}{K:av}{F:Addr->Prop}:b5 K F H ([]:List (Y×D)) []:=⟨rfl,λi p q e=>by simp at e⟩
theorem b5.cz{Y:Type}{K:av}{F:Addr->Prop}{ws:List (Y×V)}(h:b5 K F H [] ws):ws=[]:=by
 cases ws with
 |nil=>rfl
 |cons q r=>exact absurd h.1 (by simp)
theorem b5.len{Y:Type}{K:av}{F:Addr->Prop}{et:List (Y×D)}{ws:List (Y×V)}(h:b5 K F H et ws):et.length=ws.length:=by
 have:=congrArg List.length h.1
 simpa using this
theorem b5.over{Y:Type} [DecidableEq Y]{K:av}{F:Addr->Prop}{H:Hp}{k:Y}{d:D}{v:V}(hv:Rep K F H d v):∀{et:List (Y×D)} {ws:List (Y×V)},b5 K F H et ws->
  b5 K F H (et.map λkv=>if kv.1=k then(kv.1,d) else kv) (ws.map λkv=>if kv.1=k then(kv.1,v) else kv)
 |[],ws,r=>by rw[r.cz];exact .nil
 |(k',d')::et,ws,r=>by
  obtain⟨v',w,rfl,h1,h2⟩:=r.cons_inv;rw[Gap,Gap];dsimp only;split
  .exact .cons hv (b5.over hv h2)
  .exact .cons h1 (b5.over hv h2)
theorem b5.snoc{Y:Type}{K:av}{F:Addr->Prop}{H:Hp}{k:Y}{d:D}{v:V}(hv:Rep K F H d v):∀{et:List (Y×D)} {ws:List (Y×V)},b5 K F H et ws->b5 K F H (et++[(k,d)]) (ws++[(k,v)])
 |[],ws,r=>by rw[r.cz];exact .cons hv .nil
 |(k',d')::et,ws,r=>by
  obtain⟨v',w,rfl,h1,h2⟩:=r.cons_inv;exact .cons h1 (b5.snoc hv h2)
theorem b5.any{Y:Type} [DecidableEq Y]{K:av}{F:Addr->Prop}{H:Hp}{k:Y}:∀{et:List (Y×D)} {ws:List (Y×V)},b5 K F H et ws->(et.any λkv=>decide (kv.1=k))=(ws.any λkv=>decide (kv.1=k))
 |[],ws,r=>by rw[r.cz];rfl
 |(k',d')::et,ws,r=>by
  obtain⟨v',w,rfl,h1,h2⟩:=r.cons_inv;rw[GcJ,GcJ,b5.any h2]
theorem b5.put{Y:Type} [DecidableEq Y]{K:av}{F:Addr->Prop}{H:Hp}{et:List (Y×D)}{ws:List (Y×V)}{k:Y}{d:D}{v:V}(r:b5 K F H et ws)(hv:Rep K F H d v):b5 K F H (put et k d) (putK ws k v):=by
 unfold DL.put putK;rw[r.any];split
 .exact r.over hv
 .exact r.snoc hv
theorem NI{K:av}{F:Addr->Prop}{et:List (Key×D)}{a:Addr}(i:Inn K F H (.dK et) (.ref a)):∃ws,H a=some (.dK ws)/\b5 K F H et ws:=by
 cases i with
 |dK h r=>exact⟨_,h,r⟩
theorem HQ{K:av}{F:Addr->Prop}{et:List (List Key×D)}{a:Addr}(i:Inn K F H (.dT et) (.ref a)):∃ws,H a=some (.dT ws)/\b5 K F H et ws:=by
 cases i with
 |dT h r=>exact⟨_,h,r⟩
def Mg:V->V->V->Hp->(Hp->Prop)->Prop:=λo i v H Q=>LV o i v H Q\/∃a H4,o= .ref a/\Aw H a i v H4/\Q H4
theorem Kx(hu:X.A.units+1<cLine):Pk X Mg:=by
 intro ee s σ H o i v ov iv u Q I ro ri rv h;rcases h with h| ⟨a,H4,rfl,g,q⟩
 .exact set_list ee s σ H o i v ov iv u Q I ro ri rv h
 .cases ro;exact FA hu I g ri rv λs4 I4=> ⟨H4,I4,q⟩
def Sv(td ty tv:TE):TS:=λD σ H=>tv σ H λv H1=>td σ H1 λx H2=>ty σ H2 λy H3=>Mg x y v H3 λH4=>D.nx σ H4
variable{pos' :Pos}{value:Expr}
theorem CL{o i:Expr}{td ty tv:TE}(hu:X.A.units+1<cLine)(ho:PE X o td)(hi:PE X i ty)(hv:PE X value tv)(hs:swapsWith value (some (.Subscript o i pos')) pos.line X.env=pure false):PS X (.Assign [.Subscript o i pos'] value pos) (Sv td ty tv):=by
 intro ee s σ H D I h;refine wpAny_Assign_Subscript (thn (hv ee s σ H _ I h) λr s1 ⟨v,H1,I1,rv,q1⟩=>thn (ho ee s1 σ H1 _ I1 q1) λu s2 ⟨x,H2,I2,rx,q2⟩=>thn (hi ee s2 σ H2 _ I2 q2) λiv s3 ⟨y,H3,I3,ry,q3⟩=> ?_) hs;exact thn (Kx hu ee s3 σ H3 x y v u iv r _ I3 rx ry rv q3) λ_ s4 ⟨H4,I4,q4⟩=> ⟨σ,H4,I4,q4⟩
variable{i:Nat}
theorem qE{eh:Addr->Prop}{env:Env}{σ:St}{a:Addr}{d:D}{o o' :HO}(q:env[i]? =some (some (.own d)))(h1:σ[i]? =some (some (.ref a)))(hH:H a=some o')(hw:isW o'):j5 (Cln eh env σ) H (upd H a o):=λb x hb w=>by
 have:b≠a:=by
  rintro rfl;rcases w with w|w
  .exact w.2 i (by rw[q];trivial) h1
  .rw[hH] at hb;cases hb
   cases o' <;>simp[isT] at w<;>exact hw
 rw[ak this];exact hb
theorem uP{x:Str}{px:Pos}{k:Expr}{fk fv:DE}(hu:X.A.units+1<cLine)(hN:X.N[i]? =some x)(hv:Vis X.env.scope x)(hk:PEd X k fk)(he:PEd X value fv)(hd:autoParam ((x==("__debug__":Str))=false) Za2._auto_1)(xp:autoParam ((x==("__classdict__":Str))=false) Za2._auto_1)
  (hs:autoParam (swapsWith value (some (.Subscript (.Name x px) k pos')) pos.line X.env=pure false) Za1._auto_1):PSd X (.Assign [.Subscript (.Name x px) k pos'] value pos) (FE i fk fv):=by
 refine(CL hu (g6 hN hv hd xp) hk he hs).aG ?_;rintro D σ H ⟨H0,eh,env,o,E,e,kk⟩;obtain⟨r,hr,e⟩:=ef e;obtain⟨y,hy,e⟩:=ef e;obtain⟨d,hd,e⟩:=ef e;have q:=uM hd;split at e
 .rename_i ye;obtain⟨d',hp,rfl⟩:=Gac.mp e;refine⟨H0,eh,env,r,E,hr,λv H1 s1 R=> ?_⟩;have E1:=E.mono s1;obtain⟨a,h1,h2,h3,h4,h5,h6⟩:=E1.ow i _ (.inl q);refine⟨_,h1,H0,eh,env,y,E1,hy,λvy H3 s3 Ry=> ?_⟩;have E3:=E1.mono s3;have rep:=(R.rep E ye).same s3;have i6:=h6.same s3;have iy:=Ry.inn;have fin:∀(o' :HO) (Ub :HO),H3 a=some Ub ->isW Ub ->isW o' ->d'.top=true->Inn X.K (Cln eh env σ) (upd H3 a o') d' (.ref a)->D.nx σ (upd H3 a o'):=λo' Ub hH hw VC ht inn=>by
   obtain⟨E4,p4⟩:=E3.change (d' :=d') (o:=o') q h1 VC ht inn;exact kk σ _ E4 (((Stp.of_same s1).trans (.of_same s3)).trans p4)
  unfold putD at hp;split at hp
  .rename_i et;split at hp
   .rename_i hz;obtain⟨key,hW,rfl⟩:=Gac.mp hp;obtain⟨ws,hH,rp⟩:=NI i6;have hy' :=sx iy hW;subst hy';refine .inr ⟨a,_,rfl,Aw.k hH (by rw[<-rp.len,<-eU];exact hz),fin _ _ hH trivial trivial rfl ?_⟩;exact .dK aC ((rp.put rep).gen (qE q h1 hH trivial) λ_ f _=>f)
   .cases hp
  .rename_i et;split at hp
   .rename_i ks Uu;split at hp
    .rename_i hz;obtain⟨key,hW,rfl⟩:=Gac.mp hp;obtain⟨ws,hH,rp⟩:=HQ i6;rw[Uu] at iy;cases iy with
     |tup hb rb=>
      have:=gD rb hW;subst this;refine .inr ⟨a,_,rfl,Aw.t hH hb (by rw[<-rp.len,<-eU];exact hz),fin _ _ hH trivial trivial rfl ?_⟩;exact .dT aC ((rp.put rep).gen (qE q h1 hH trivial) λ_ f _=>f)
    .cases hp
   .cases hp
  .rename_i xs;split at hp
   .rename_i j hj;rw[hj] at iy;cases iy;obtain⟨vs,hH,rp⟩:=ub (h4.same s3) i6;split at hp
    .rename_i hb;cases hp;refine .inl ⟨a,vs,j,j.toNat,rfl,rfl,hH, ?_,fin _ _ hH trivial trivial rfl ?_⟩
     .unfold ixN;rw[Gaf hb.1,Gaf (by rw[<-rp.1];exact hb.2)]
     .exact .lst (.inl aC) ((rp.set rep j.toNat).gen (qE q h1 hH trivial) λ_ f _=>f)
    .split at hp
     .rename_i hb;cases hp;refine .inl ⟨a,vs,j,(j+xs.length).toNat,rfl,rfl,hH, ?_,fin _ _ hH trivial trivial rfl ?_⟩
      .unfold ixN;rw[Gag (by lia),Gaf (by rw[<-rp.1];lia),rp.1]
      .exact .lst (.inl aC) ((rp.set rep _).gen (qE q h1 hH trivial) λ_ f _=>f)
     .cases hp
   .cases hp
  .cases hp
 .cases e
theorem qF:PEd X (.Dict [] [] pos) pQ:=Br.aG λσ H Q ⟨_,_,_,_,E,e,k⟩ p n=>by
 cases e;exact k _ _ (c4 n) ⟨p,rfl,n,⟨_,aC,trivial⟩,rfl,.dT aC .nil⟩
end
open PySem.W (KasT kas_rev kas_asc kas_desc kas_tail3 kas_descPart kas_count kas_place kas_bin kas_sort)
section
variable{rk:Nat->Int}{N:Nat}
def Asks(rk:Nat->Int)(N:Nat){α:Type}:KasT α->(α->Prop)->Prop
 | .ret a,Q=>Q a
 | .ask i j k,Q=>i<N/\j<N/\Asks rk N (k (decide (rk i<rk j))) Q
theorem Asks.mono{α:Type}{Q Q' :α->Prop}(hq:∀a,Q a->Q' a):∀(t:KasT α),Asks rk N t Q->Asks rk N t Q'
 | .ret a,h=>hq a h
 | .ask i j k,h=> ⟨h.1,h.2.1,Asks.mono hq _ h.2.2⟩
theorem Asks.then{α β:Type}{f:α->KasT β}{Q:β->Prop}:∀(t:KasT α),Asks rk N t (λa=>Asks rk N (f a) Q)->Asks rk N (t.bind f) Q
 | .ret a,h=>h
 | .ask i j k,h=> ⟨h.1,h.2.1,Asks.then _ h.2.2⟩
theorem Asks.wp{α:Type}{cmp:Nat->Nat->(Bool->Shared->Prop)->Shared->Prop}{s:Shared}(hc:∀i j C,i<N->j<N->C (decide (rk i<rk j)) s->cmp i j C s){Q:α->Prop}{G:α->Shared->Prop}(hG:∀a,Q a->G a s):
  ∀(t:KasT α),Asks rk N t Q->t.kasWp cmp G s
 | .ret a,h=>hG a h
 | .ask i j k,h=>hc i j _ h.1 h.2.1 (Asks.wp hc hG _ h.2.2)
def Ord(N:Nat)(p:Array Nat):Prop:=p.toList.Perm (List.range N)
theorem Ord.size{p:Array Nat}(h:Ord N p):p.size=N:=by
 have:=List.Perm.length_eq h
 simpa using this
variable{i:Nat}{p:Array Nat}
theorem Ord.lt(h:Ord N p)(hN:0<N):p.getD i 0<N:=by
 by_cases hi:i<p.size
 .have e:p.getD i 0=p[i]:=by simp[Array.getD,hi]
  rw[e];have m:p[i]∈p.toList:=by simp
  exact Gbs.mp (h.mem_iff.mp m)
 .have e:p.getD i 0=0:=by simp[Array.getD,hi]
  rw[e];exact hN
variable{p' :Array Nat}
theorem Ord.Ep(h:Ord N p)(q:p'.Perm p):Ord N p' :=List.Perm.trans (Array.perm_iff_toList_perm.mp q) h
noncomputable def cB(rk:Nat->Int)(p:Array Nat)(i:Nat):Int:=rk (p.getD i 0)
variable{j:Nat}
theorem jT(h:p'[i]? =p[j]?):cB rk p' i=cB rk p j:=by
 unfold cB;have e:p'.getD i 0=p.getD j 0:=by
  rw[Gcn,Gcn,h]
 rw[e]
def Up(rk:Nat->Int)(p:Array Nat)(k:Nat):Prop:=∀u v,u<=v->v<k->cB rk p u<=cB rk p v
def Down(rk:Nat->Int)(p:Array Nat)(k:Nat):Prop:=∀u v,u<=v->v<k->cB rk p v<=cB rk p u
theorem CM(hj:j<=p.size)(k:Nat):cB rk (kas_rev p i j) k=if i<=k/\k<j then cB rk p (i+j -1 -k) else cB rk p k:=by
 have g:=getElem?_mirror_all (i:=i) hj k;split
 .rename_i c;rw[Gaf c] at g;exact jT g
 .rename_i c;rw[Gag c] at g;exact jT g
theorem lD(hj:j<=p.size)(he:∀k,i<=k->k<j->cB rk p k=cB rk p (j -1))(k:Nat):cB rk (kas_rev p i j) k=cB rk p k:=by
 rw[CM hj];split
 .rename_i c;rw[he (i+j -1 -k) (by lia) (by lia),he k c.1 c.2]
 .rfl
theorem qG(h:Ord N p):Ord N (kas_rev p i j):=h.Ep (mirror_perm p i j ((j -i)/2))
theorem CN{p:Array Nat}(hp:Ord N p)(hN:0<N):∀(f n:Nat),1<=n->Up rk p n->Asks rk N (kas_asc p f n) λm=>n<=m/\m<=n+f/\Up rk p m/\(m=n+f\/cB rk p m<cB rk p (m -1))
 |0,n,h1,hu=> ⟨Gao n,Gao n,hu,.inl rfl⟩
 |f+1,n,h1,hu=>by
  refine⟨hp.lt hN,hp.lt hN, ?_⟩;by_cases c:rk (p.getD n 0)<rk (p.getD (n -1) 0)
  .rw[GaC c];dsimp only;rw[Gaf rfl]
   exact⟨Gao n,by lia,hu,.inr c⟩
  .rw[GaD c];dsimp only;rw[Gag Gai]
   have nxt:Up rk p (n+1):=λu v yo hv=>by
    rcases Gcv v n with hvn|hvn
    .exact hu u v yo hvn
    .have ev:v=n:=by lia
     subst ev;have c' :cB rk p (v -1)<=cB rk p v:=Gcy.mp c;rcases Gcw yo with e|e
     .subst e;exact Gca _
     .exact Int.le_trans (hu u (v -1) (by lia) (by lia)) c'
   refine Asks.mono (λm hm=> ?_) _ (CN hp hN f (n+1) (by lia) nxt);obtain⟨q1,q2,q3,q4⟩:=hm;refine⟨by lia,by lia,q3, ?_⟩;rcases q4 with q4|q4
   .left;lia
   .exact .inr q4
theorem Down.snoc{k:Nat}(hd:Down rk p k)(hk:1<=k)(e:∀i,cB rk p' i=cB rk p i)(c:cB rk p k<=cB rk p (k -1)):Down rk p' (k+1):=λu v yo hv=>by
 rw[e,e];rcases Gcv v k with hvk|hvk
 .exact hd u v yo hvk
 .have ev:v=k:=by lia
  subst ev;rcases Gcw yo with q|q
  .subst q;exact Gca _
  .exact Int.le_trans c (hd u (v -1) (by lia) (by lia))
theorem ue(hN:0<N):∀(f:Nat) (p:Array Nat) (n q:Nat),Ord N p->1<=n->n+f<=N->Down rk p n->q+1<=n->(∀i,n -(q+1)<=i->i<n->cB rk p i=cB rk p (n -1))->
  Asks rk N (kas_desc f p n q) λr=>Ord N r.1/\n<=r.2.1/\r.2.1<=n+f/\Down rk r.1 r.2.1/\r.2.2+1<=r.2.1/\∀i,r.2.1 -(r.2.2+1)<=i->i<r.2.1->cB rk r.1 i=cB rk r.1 (r.2.1 -1)
 |0,p,n,q,hp,h1,SK,hd,hq,he=> ⟨hp,Gao n,Gao n,hd,hq,he⟩
 |f+1,p,n,q,hp,h1,SK,hd,hq,he=>by
  have sz:=hp.size;refine⟨hp.lt hN,hp.lt hN, ?_⟩;by_cases c:rk (p.getD n 0)<rk (p.getD (n -1) 0)
  .rw[GaC c];dsimp only;rw[Gaf rfl]
   have c' :cB rk p n<=cB rk p (n -1):=Gdh c;by_cases z:q>0
   .rw[Gaf z];have eq:=λk=>lD (rk:=rk) (i:=n -(q+1)) (by lia) he k;exact Asks.mono (λr ⟨a1,a2,a3,a4⟩=> ⟨a1,by lia,by lia,a4⟩) _ (ue hN f _ (n+1) 0 (qG hp) (by lia) (by lia) (hd.snoc h1 eq c') (by lia) λi i1 i2=>by rw[show i=n+1 -1 by lia])
   .rw[Gag z];exact Asks.mono (λr ⟨a1,a2,a3,a4⟩=> ⟨a1,by lia,by lia,a4⟩) _ (ue hN f p (n+1) 0 hp (by lia) (by lia) (hd.snoc h1 (λ_=>rfl) c') (by lia) λi i1 i2=>by rw[show i=n+1 -1 by lia])
  .rw[GaD c];dsimp only;rw[Gag Gai]
   refine⟨hp.lt hN,hp.lt hN, ?_⟩;by_cases g:rk (p.getD (n -1) 0)<rk (p.getD n 0)
   .rw[GaC g];dsimp only;rw[Gaf rfl]
    exact⟨hp,Gao n,Nat.le_add_right n (f+1),hd,hq,he⟩
   .rw[GaD g];dsimp only;rw[Gag Gai]
    have eq:cB rk p n=cB rk p (n -1):=Int.le_antisymm (Gcy.mp g) (Gcy.mp c);refine Asks.mono (λr ⟨a1,a2,a3,a4⟩=> ⟨a1,by lia,by lia,a4⟩) _ (ue hN f p (n+1) (q+1) hp (by lia) (by lia) (hd.snoc h1 (λ_=>rfl) (Int.le_of_eq eq)) (by lia) λi i1 i2=> ?_);rcases Gcv i n with hi|hi
    .rw[he i (by lia) hi,show n+1 -1=n by lia,eq]
    .rw[show i=n+1 -1 by lia]
variable{n M:Nat}
theorem Er(hp:Ord N p)(hN:0<N)(h1:1<=n)(hn:n<=M)(hM:M<=N)(hd:Down rk p n):Asks rk N (kas_tail3 n M p) λr=>Ord N r.2/\1<=r.1/\r.1<=M/\Up rk r.2 r.1:=by
 have sz:=hp.size;refine Asks.then _ (Asks.mono (λm ⟨a1,a2,a3,_⟩=> ⟨qG hp,by lia,by lia,a3⟩) _ (CN (qG hp) hN (M -n) n h1 λu v yo hv=> ?_));rw[CM (by lia),CM (by lia),Gaf ⟨GaX _,by lia⟩,Gaf ⟨GaX _,hv⟩];exact hd _ _ (by lia) (by lia)
theorem sY(hp:Ord N p)(hN:0<N)(h1:1<=n)(hn:n+1<=M)(hM:M<=N)(hd:Down rk p (n+1)):Asks rk N (kas_descPart n M p) λr=>Ord N r.2/\1<=r.1/\r.1<=M/\Up rk r.2 r.1:=by
 have sz:=hp.size;refine Asks.then _ (Asks.mono (λr ⟨a1,a2,a3,a4,a5,a6⟩=> ?_) _ (ue hN (M -(n+1)) p (n+1) 0 hp (by lia) (by lia) hd (by lia) λi i1 i2=>by rw[show i=n+1 -1 by lia]));have s1:=a1.size;split
 .refine Er (qG a1) hN (by lia) (by lia) hM λu v yo hv=> ?_;rw[lD (by lia) a6,lD (by lia) a6];exact a4 u v yo hv
 .exact Er a1 hN (by lia) (by lia) hM a4
theorem HR(hp:Ord N p)(Ws:1<=M)(hM:M<=N):Asks rk N (kas_count M p) λr=>Ord N r.2/\1<=r.1/\r.1<=M/\Up rk r.2 r.1:=by
 have hN:0<N:=by lia
 have sz:=hp.size;refine Asks.then _ (Asks.mono (λn ⟨a1,a2,a3,a4⟩=> ?_) _ (CN hp hN (M -1) 1 (Gao 1) λu v yo hv=>by rw[show u=v by lia];exact Gca _));by_cases c:(n==M)=true
 .rw[Gaf c];exact⟨hp,a1,by lia,a3⟩
 .rw[Gag c];have cn:n≠M:=λz=>c (by simp[z]);have fall:cB rk p n<cB rk p (n -1):=by
   rcases a4 with z|z
   .lia
   .exact z
  by_cases g:n>1
  .rw[Gaf g];refine⟨hp.lt hN,hp.lt hN, ?_⟩;by_cases r:rk (p.getD 0 0)<rk (p.getD (n -1) 0)
   .rw[GaC r];dsimp only;rw[Gaf rfl]
    exact⟨hp,a1,by lia,a3⟩
   .rw[GaD r];dsimp only;rw[Gag Gai]
    have all:∀k,0<=k->k<n->cB rk p k=cB rk p (n -1):=λk _ hk=>by
     have b1:=a3 0 k (GaX _) hk;have b2:=a3 k (n -1) (by lia) (by lia);have b3:cB rk p (n -1)<=cB rk p 0:=Gcy.mp r;lia
    refine sY (qG hp) hN a1 (by lia) hM λu v yo hv=> ?_;rw[lD (by lia) all,lD (by lia) all];rcases Gcv v n with hvn|hvn
    .rw[all u (GaX _) (by lia),all v (GaX _) hvn];exact Gca _
    .have ev:v=n:=by lia
     subst ev;rcases Gcw yo with q|q
     .subst q;exact Gca _
     .rw[all u (GaX _) q];exact Gdh fall
  .rw[Gag g];have en:n=1:=by lia
   subst en;refine sY hp hN (Gao 1) (by lia) hM λu v yo hv=> ?_;rcases Gcw yo with q|q
   .subst q;exact Gca _
   .have eu:u=0:=by lia
    have ev:v=1:=by lia
    subst eu ev;exact Gdh fall
theorem uQ{p:Array Nat}{k:Nat}(hp:Ord N p)(hN:0<N)(hu:Up rk p k):∀(f l r:Nat),l<=r->r<=k->r -l<=f->(∀i,i<l->cB rk p i<=cB rk p k)->(∀i,r<=i->i<k->cB rk p k<cB rk p i)->
  Asks rk N (kas_place p k f l r) λm=>m<=k/\(∀i,i<m->cB rk p i<=cB rk p k)/\∀i,m<=i->i<k->cB rk p k<cB rk p i
 |0,l,r,h1,h2,h3,h4,h5=>by
  have e:l=r:=by lia
  subst e;exact⟨h2,h4,h5⟩
 |f+1,l,r,h1,h2,h3,h4,h5=>by
  unfold kas_place;by_cases c:l>=r
  .rw[Gaf c];have e:l=r:=by lia
   subst e;exact⟨h2,h4,h5⟩
  .rw[Gag c];refine⟨hp.lt hN,hp.lt hN, ?_⟩;by_cases g:rk (p.getD k 0)<rk (p.getD ((l+r)/2) 0)
   .rw[GaC g];dsimp only;rw[Gaf rfl]
    exact uQ hp hN hu f l ((l+r)/2) (by lia) (by lia) (by lia) h4 λi i1 i2=>Int.lt_of_lt_of_le g (hu ((l+r)/2) i i1 i2)
   .rw[GaD g];dsimp only;rw[Gag Gai]
    exact uQ hp hN hu f ((l+r)/2+1) r (by lia) h2 (by lia) (λi i1=>Int.le_trans (hu i ((l+r)/2) (by lia) (by lia)) (Gcy.mp g)) h5
theorem NJ{k d:Nat}(hk:k<p.size)(hd:d<=k)(i:Nat):cB rk (bubble p k d) i=if i=k -d then cB rk p k else if k -d<i/\i<=k then cB rk p (i -1) else cB rk p i:=by
 have g:=getElem?_bubble hk d hd i;split
 .rename_i c;rw[Gaf c] at g;exact jT g
 .rename_i c;rw[Gag c] at g;split
  .rename_i c2;rw[Gaf c2] at g;exact jT g
  .rename_i c2;rw[Gag c2] at g;exact jT g
theorem HS(hN:0<N):∀(f:Nat) (p:Array Nat) (k:Nat),Ord N p->k+f=N->Up rk p k->Asks rk N (kas_bin f p k) λr=>Ord N r/\Up rk r N
 |0,p,k,hp,hk,hu=>by
  have e:k=N:=by lia
  subst e;exact⟨hp,hu⟩
 |f+1,p,k,hp,hk,hu=>by
  have sz:=hp.size;refine Asks.then _ (Asks.mono (λm ⟨a1,a2,a3⟩=> ?_) _ (uQ hp hN hu k 0 k (GaX _) (Gao _) (by lia) (λi hi=>by lia) λi i1 i2=>by lia));refine HS hN f _ (k+1) (hp.Ep (bubble_perm p k (k -m))) (by lia) λu v yo hv=> ?_;have B:=λi=>NJ (rk:=rk) (p:=p) (k:=k) (d:=k -m) (by lia) (by lia) i;rw[B u,B v];have em:k -(k -m)=m:=by lia
  rw[em];by_cases u1:u=m
  .rw[Gaf u1];by_cases v1:v=m
   .rw[Gaf v1];exact Gca _
   .rw[Gag v1];rw[Gaf ⟨by lia,by lia⟩];exact Gdh (a3 (v -1) (by lia) (by lia))
  .rw[Gag u1];by_cases u2:m<u/\u<=k
   .rw[Gaf u2,Gag (show¬v=m by lia),Gaf ⟨by lia,by lia⟩];exact hu (u -1) (v -1) (by lia) (by lia)
   .rw[Gag u2];by_cases v1:v=m
    .rw[Gaf v1];exact a2 u (by lia)
    .rw[Gag v1];by_cases v2:m<v/\v<=k
     .rw[Gaf v2];exact hu u (v -1) (by lia) (by lia)
     .rw[Gag v2];exact hu u v yo (by lia)
theorem Ky(hN:1<=N):Asks rk N (kas_sort N) λr=>Ord N r/\Up rk r N:=by
 have h0:Ord N (List.toArray (List.range N)):=List.Perm.refl _;refine Asks.then _ (Asks.mono (λr ⟨a1,a2,a3,a4⟩=> ?_) _ (HR h0 hN (Gao N)));split
 .exact HS (by lia) _ _ _ a1 (by lia) (by rw[show max r.1 1=r.1 by lia];exact a4)
 .rename_i c;have e:r.1=N:=by lia
  rw[e] at a4;exact⟨a1,a4⟩
end
def FO(h:Heap)(a:Addr)(T:String)(vs:Array Value):Prop:=∃o,h.get? a=some o/\o.cls= .type T/\o.data= .fields vs
def HU(h:Heap)(d:Addr)(es:Array DictEntry)(ep:Nat):Prop:=∃o,h.get? d=some o/\o.ExactDict/\o.data= .dict es ep
section
variable{prog:Program}{w:World}{A:Around}{E:Value->Shared->Prop}{z:Shared}
variable{p:Option Value}{ep:Nat}
theorem HV{d:Addr}{es:Array DictEntry}{Q:Array DictEntry->Shared->Prop}(x:HU z.heap d es ep)(h:Q es z):wpAny (model prog w) A (dictEntries d p) Q E z:=let⟨_,ho,_,hd⟩:=x;GcD ho hd h
theorem Mh{d:Addr}{es:Array DictEntry}{Q:Nat->Shared->Prop}(x:HU z.heap d es ep)(h:Q ep z):wpAny (model prog w) A (dictEpoch d p) Q E z:=let⟨_,ho,_,hd⟩:=x;wpAny_dictEpoch ho hd h
variable{vs:Array Value}{T:String}{a:Addr}
theorem FO.ty(x:FO z.heap a T vs):z.TypeIs (.ref a) T:=let⟨o,ho,hc,_⟩:=x;⟨o,ho,hc⟩
theorem NK{Q:Array Value->Shared->Prop}(x:FO z.heap a T vs)(h:Q vs z):wpAny (model prog w) A (fieldsOf (.ref a)) Q E z:=let⟨_,ho,_,hd⟩:=x;wpAny_fieldsOf ho hd h
variable{x:Value}
theorem kX{k:Nat}{Q:Unit->Shared->Prop}(f:FO z.heap a T vs)(h:∀h',FO h' a T (vs.setIfInBounds k x)/\Heap.SameBut a z.heap h' ->Q () {z with heap:=h' })(hk:k<vs.size):
  wpAny (model prog w) A (setField (.ref a) k x) Q E z:=by
 obtain⟨⟨c,dc,dt,sl⟩,ho,hc,hd⟩:=f;cases hc;cases hd
 exact wpAny_setField ho rfl hk (h _ ⟨⟨_,Gba _ ho rfl,rfl,rfl⟩,Heap.SameBut.update ..⟩)
variable{h:Heap}
theorem FO.at{h' :Heap}(x:FO h a T vs)(k:∀o,h.get? a=some o->h'.get? a=some o):FO h' a T vs:=let⟨o,q,r⟩:=x;⟨o,k o q,r⟩
theorem FO.lt(x:FO h a T vs):a<h.objs.size:=let⟨_,q,_⟩:=x;Gal q
theorem mr{i:Nat}{Q:Value->Shared->Prop}(f:FO z.heap a T vs)(e:vs[i]? =some x)(h:Q x z):wpAny (model prog w) A (field (.ref a) i) Q E z:=let⟨_,ho,_,hd⟩:=f;wpAny_field ho hd e h
theorem Mi{α:Type}{Q:α->Shared->Prop}(hh:A.handled=none)(h:∀h' a,(∀b o,z.heap.get? b=some o->h'.get? b=some o)/\(∃o,h'.get? a=some o/\o.cls= .type "StopIteration")->E (.ref a) {z with heap:=h' }):
  wpAny (model prog w) A (newExc (.type "StopIteration") []>>=λe=>(raiseNew e:Sem α)) Q E z:=by
 obtain⟨hp,g,dr,tk,os⟩:=z
 wp_walk using GaS
 .unfold raiseNew
  wp_walk
  exact h _ _ ⟨λb o e=>Gad _ (Gad _ e),_,Gat _ rfl,rfl⟩
 all_goals size_fits
theorem Es{e:Addr}{Q:Bool->Shared->Prop}(x:∃o,z.heap.get? e=some o/\o.cls= .type "StopIteration")(h:Q true z):wpAny (model prog w) A (isInstance (.ref e) (.type "StopIteration")) Q E z:=
 wpAny_isInstance (T:="StopIteration") x isSubtype_stop h
theorem Qw(es:Array DictEntry)(i:Nat):(if(i:Int)<0 then none else es[(i:Int).toNat]?)=es[i]? :=by simp;lia
def Emp(h:Heap)(S:Addr):Prop:=∃c,h.get? S=some {cls:= .type "list",data:= .seq #[] c}
theorem on{α:Type}{t:Sem α}{Q Q' :α->Shared->Prop}(h:wpAny (model prog w) A t Q E z)(k:∀a s,Q a s->Q' a s):wpAny (model prog w) A t Q' E z:=Gbg h k λ_ _ x=>x
theorem touched{S:Addr}{Q:Unit->Shared->Prop}(e:Emp z.heap S)(h:∀h2,Emp h2 S/\(∀b o,b≠S->z.heap.get? b=some o->h2.get? b=some o)->Q () {z with heap:=h2}):wpAny (model prog w) A (Builtin.List.listTouch (.ref S)) Q E z:=by
 obtain⟨c,e⟩:=e;have e1:=Gba (Obj.mapSeq (·.push Value.none)) e rfl;refine Gab (wpAny_updateSeq e rfl (wpAny_updateSeq (hz:=by seq_fits) e1 rfl (h _ ⟨⟨_,Gba (Obj.mapSeq (·.pop)) e1 rfl⟩,λb o n k=> ?_⟩)));rw[GaT _ _ (Gay n),GaT _ _ (Gay n),k]
theorem Kz{c:Code}{Q:Value->Shared->Prop}(h:∀R:Result->Shared->Prop,(∀v s',Q v s' ->R (.ok (.ret v)) s')->codeAny (model prog w) A c R z):wpAny (model prog w) A (runValue c) Q E z:=wpAny_runValue (h _ λ_ _ q=>q)
theorem gather{v:Value}{Q:List Value->Shared->Prop}
  (h:∀R:Result->Shared->Prop,(∀s' acc c,s'.heap.get? z.heap.objs.size=some {cls:= .type "list",dict:=none,data:= .seq acc c,slots:=#[]}->Q acc.toList s' ->R (.ok (.ret (.ref z.heap.objs.size))) s')->
   wpAny (model prog w) A.in1 (Builtin.List.listExtendWith (.ref z.heap.objs.size) v (.ref z.heap.objs.size)) (λfin s' =>match fin with| .done f=>R (.ok f) s' | .again c' =>c'.quiet=true/\codeAny (model prog w) A c' R s') (λe s' =>R (.error e) s') {z with heap:=z.heap.push (seqObj "list" #[] 0)}):
  wpAny (model prog w) A (collect v) Q E z:=by
 unfold collect;apply Gab;apply Kz;intro R r;apply GcV entry_proto_collect';apply Gab;refine wpAny_newList (Gah ⟨Code.quiet_builtin _ (by decide+kernel), ?_⟩);apply GcV entry_list_iadd';rw[GcW (by decide+kernel:plainId "list.__iadd__"=true)];exact h R λs' acc c k q=>r _ _ (Gab (wpAny_load k (Gah q)))
def BG(h:Heap)(S:Addr)(acc:Array Value):Prop:=∃c,h.get? S=some {cls:= .type "list",dict:=none,data:= .seq acc c,slots:=#[]}
end
open PySem.W (KatLex KatTups kas_sort kas_ask kat_kind kat_lt kat_one kat_run kat_snds BoolBack kat_lt_int)
def FlV:D->Value->Prop
 | .non,v=>v= .none
 | .int i,v=>∃t,v= .int i t
 | .str x,v=>∃t,v= .str x t
 |_,_=>False
def oO(h:Heap):D->Value->Prop
 | .int i,v=>∃t,v= .int i t
 | .tup fs,v=>∃a o n us,v= .ref a/\h.get? a=some o/\o.cls= .type "tuple"/\o.data= .seq (List.toArray us) n/\Paired FlV fs us
 |_,_=>False
theorem oO.keep{h h' :Heap}{d:D}{v:Value}(k:oO h d v)(e:∀b o,h.get? b=some o->h'.get? b=some o):oO h' d v:=by
 cases d with
 |int i=>exact k
 |tup fs=>obtain⟨a,o,n,us,h1,h2,h3⟩:=k;exact⟨a,o,n,us,h1,e _ _ h2,h3⟩
 |_=>exact k
theorem sZ{α β:Type}{R S:α->β->Prop}(h:∀a b,R a b->S a b){xs:List α}{ys:List β}(p:Paired R xs ys):Paired S xs ys:=L2.Paired.JO p h
theorem KA{xs ys:List Nat}(h:xs.map Int.ofNat=ys.map Int.ofNat):xs=ys:=by
 induction xs generalizing ys with
 |nil=>cases ys with
  |nil=>rfl
  |cons=>simp at h
 |cons x xs ih=>cases ys with
  |nil=>simp at h
  |cons y ys=>
   simp only[Gap,List.cons.injEq] at h;rw[ih h.2,Int.ofNat_inj.mp h.1]
variable{x y:Str}
theorem KC(h:x.cps.toList=y.cps.toList):x=y:=by
 cases x;cases y
 simp only at h;rw[Array.toList_inj.mp h]
variable{a:D}
theorem sI{b:D}(ha:pR a=true)(hb:pR b=true)(h:bG a=bG b):a=b:=by
 cases a<;>cases b<;>simp[pR,tyD] at ha hb<;>simp[bG] at h
 .rfl
 .rw[h]
 .have:=KC (KA h);rw[this]
theorem A0:∀{as bs:List D},as.all pR=true->bs.all pR=true->as.map bG=bs.map bG->as=bs
 |[],[],_,_,_=>rfl
 |[],_::_,_,_,h=>by simp at h
 |_::_,[],_,_,h=>by simp at h
 |a::as,b::bs,ha,hb,h=>by
  rw[GaO,Gam] at ha hb;simp only[Gap,List.cons.injEq] at h;rw[sI ha.1 hb.1 h.1,A0 ha.2 hb.2 h.2]
theorem NL{t:Nat}(h:(tyD a==t)=true)(ht:t≠3):pR a=true:=by
 unfold pR;rw[Gbj] at h;rw[h]
 simpa using ht
theorem om{t:Nat}{d:D}(ht:t≠3)(h:pS t d=true):∃f r,d= .tup (f::r)/\tyD f=t/\(f::r).all pR=true:=by
 unfold pS at h;split at h
 .rename_i f r;rw[Gam] at h;refine⟨f,r,rfl,Gbj.mp h.1, ?_⟩;rw[GaO,Gam];exact⟨NL h.1 ht,h.2⟩
 .cases h
theorem lF{d:D}(h:FG d=true):∃i,d= .int i:=by
 unfold FG at h;split at h
 .exact⟨_,rfl⟩
 .cases h
theorem HW{ds:List D}(h:keysOk ds=true):∀a∈ds,∀b∈ds,code a=code b->a=b:=by
 intro a ha b hb e;unfold keysOk at h;rw[GaR,Gam,GaR] at h;have tup:∀t,t≠3->ds.all (pS t)=true->a=b:=λt ht hk=>by
  obtain⟨f,r,rfl,_,q1⟩:=om ht (Gan.mp hk a ha);obtain⟨f',r',rfl,_,q2⟩:=om ht (Gan.mp hk b hb);rw[A0 q1 q2 e]
 rcases h with h| ⟨h|h,_⟩
 .obtain⟨i,rfl⟩:=lF (Gan.mp h a ha);obtain⟨j,rfl⟩:=lF (Gan.mp h b hb);simp[code,bG] at e;rw[e]
 .exact tup 1 (by decide) h
 .exact tup 2 (by decide) h
theorem Et{i j:Int}:iu ltI (bG (.int i)) (bG (.int j))=decide (i<j):=by
 unfold bG;simp only[iu,GaZ];by_cases e:i=j
 .subst e;simp
 .rw[Gag e];rfl
theorem Eu:∀(xs ys:List Nat),iu ltI (xs.map Int.ofNat) (ys.map Int.ofNat)=decide (xs<ys)
 |[],[]=>by simp[iu]
 |[],y::ys=>by simp[iu]
 |x::xs,[]=>by simp[iu]
 |x::xs,y::ys=>by
  simp only[Gap,iu];by_cases e:x=y
  .subst e;rw[Gaf rfl,Eu xs ys];simp[List.cons_lt_cons_iff]
  .rw[Gag (λz:Int.ofNat x=Int.ofNat y=>e (Int.ofNat_inj.mp z))];have:(x::xs<y::ys)↔x<y:=by rw[List.cons_lt_cons_iff];simp[e]
   unfold ltI;simp[this]
theorem KD:iu ltI (bG (.str x)) (bG (.str y))=decide (x.cps.toList<y.cps.toList):=by
 unfold bG;simp only[iu,GaZ];exact Eu _ _
section
variable{prog:Program}{w:World}{A:Around}{E:Value->Shared->Prop}{s:Shared}
variable{u v:Value}{b:D}
theorem Qx{a:D}{Q:Bool->Shared->Prop}(ha:FlV a u)(hb:FlV b v)(ht:tyD a=tyD b)(h:Q (decide (bG a=bG b)) s):wpAny (model prog w) A (eqBool u v) Q E s:=by
 cases a<;>cases b<;>simp[tyD] at ht<;>try exact ha.elim
 .cases ha;cases hb
  unfold eqBool;refine Gbi ?_;simp only[bG,decide_true] at h;rw[Gaf (by rfl)];exact Gab (wpAny_rule (Gah h))
 .obtain⟨t,rfl⟩:=ha;obtain⟨t',rfl⟩:=hb;refine wpAny_eqBool_int ?_;rename_i i j;have e:decide (bG (.int i)=bG (.int j))=(i==j):=by
   simp only[bG];by_cases q:i=j
   .subst q;simp
   .simp[q]
  rw[e] at h;exact h
 .obtain⟨t,rfl⟩:=ha;obtain⟨t',rfl⟩:=hb;refine eqBool_str ?_;rename_i i j;have e:decide (bG (.str i)=bG (.str j))=(i==j):=by
   by_cases q:i=j
   .subst q;simp
   .have:¬bG (.str i)=bG (.str j):=λz=>q (by
     have:=sI (a:= .str i) (b:= .str j) rfl rfl z;cases this;rfl)
    simp[q,this]
  rw[e] at h;exact h
theorem Qy{a:D}{one:Bool}{Q:Bool->Shared->Prop}(ha:FlV a u)(hb:FlV b v)(ht:tyD a=tyD b)(hk:tyD a=1\/tyD a=2)(h:Q (iu ltI (bG a) (bG b)) s):wpAny (model prog w) A (oneLt' one u v) Q E s:=by
 cases a<;>cases b<;>simp[tyD] at ht hk
 .obtain⟨t,rfl⟩:=ha;obtain⟨t',rfl⟩:=hb;rw[Et] at h;cases one with
  |true=>exact oneLt_int h
  |false=>exact kat_one _ _ (PyProof.Rows.lt_int h)
 .obtain⟨t,rfl⟩:=ha;obtain⟨t',rfl⟩:=hb;rw[KD] at h;cases one with
  |true=>exact oneLt_str h
  |false=>exact kat_one _ _ (PyProof.Rows.lt_str h)
theorem NM{b fin:Bool}{Q:Bool->Shared->Prop}:∀{as bs:List D} {us vs:List Value} (i:Nat),Paired FlV as us->Paired FlV bs vs->wO as bs=true->fin=decide (as.length<bs.length)->Q (ltC (as.map bG) (bs.map bG)) s->KatLex prog w A b fin Q (us.zip vs) i s:=by
 intro as;induction as with
 |nil=>
  intro bs us vs i p1 p2 _ hf h;have h' :Q fin s:=by
   rw[hf];cases p2 with
   |nil=>exact h
   |cons _ _=>rw[GaC (by simp)];exact h
  cases p1;exact h'
 |cons a as ih=>
  intro bs us vs i p1 p2 hc hf h;cases p1 with
  | @cons _ u _ us ha ta=>
  cases p2 with
  |nil=>
   have h' :Q fin s:=by rw[hf,GaD (by simp)];exact h
   exact h'
  | @cons c v cs vs hb tb=>
  unfold wO at hc;have h0:ltC ((a::as).map bG) ((c::cs).map bG)=if bG a=bG c then ltC (as.map bG) (cs.map bG) else iu ltI (bG a) (bG c):=rfl
  rw[h0] at h;have ht:tyD a=tyD c:=by
   split at hc
   .rename_i e;cases a<;>first|exact ha.elim|(cases c<;>first|exact hb.elim|rfl|(simp[bG] at e;done))
   .rw[Gam] at hc;exact Gbj.mp hc.1
  show wpAny _ _ (eqBool u v) _ _ s;refine Qx ha hb ht ?_;by_cases e:bG a=bG c
  .rw[GaC e,Gaf rfl];rw[Gaf e] at h hc;exact ih (i+1) ta tb hc (by rw[hf];simp) h
  .rw[GaD e,Gag Gai];rw[Gag e] at h hc;rw[Gam,GaR] at hc;exact Qy ha hb ht (hc.2.imp Gbj.mp Gbj.mp) h
variable{vs:List Value}{ds:List D}
theorem HX{Y:SortKind}(hK:Paired (oO s.heap) ds vs)(hok:keysOk ds=true)(hY:(ds.all FG=true/\Y=oneType')\/((ds.all (pS 1)||ds.all (pS 2))=true/\(ds.all λx=>ds.all λy=>CD x y)=true/\Y=tuples' true)):
  ∀i j C,i<ds.length->j<ds.length->C (decide (rank (ds.map code) i<rank (ds.map code) j)) s->kas_ask prog w A Y vs i j C s:=by
 intro i j C hi hj h;have hl:=hK.length;rw[DZ (by simpa using hi) (by simpa using hj)] at h;simp only[GcN] at h;unfold kas_ask;have gi:vs.getD i Value.none=vs[i]:=by simp[<-hl,hi]
 have gj:vs.getD j Value.none=vs[j]:=by simp[<-hl,hj]
 rw[gi,gj];have at_:∀{ds:List D} {vs:List Value},Paired (oO s.heap) ds vs->∀(i:Nat) (h1:i<ds.length) (h2:i<vs.length),oO s.heap ds[i] vs[i]:=by
  intro ds vs hK;induction hK with
  |nil=>intro i h1;simp at h1
  |cons h t ih=>
   intro i h1 h2;cases i with
   |zero=>exact h
   |succ i=>exact ih i (by simpa using h1) (by simpa using h2)
 have ki:=at_ hK i hi (by lia);have kj:=at_ hK j hj (by lia);rcases hY with⟨a1,rfl⟩| ⟨a1,a2,rfl⟩
 .obtain⟨x,hx⟩:=lF (Gan.mp a1 ds[i] (Gbd hi));obtain⟨y,hy⟩:=lF (Gan.mp a1 ds[j] (Gbd hj));rw[hx] at ki h;rw[hy] at kj h;obtain⟨t,ei⟩:=ki;obtain⟨t',ej⟩:=kj;rw[ei,ej];refine kat_lt_int ?_;have e:ltC (code (.int x)) (code (.int y))=decide (x<y):=by
   show iu (iu ltI) [bG (.int x)] [bG (.int y)]=_;unfold iu;split
   .rename_i z;have:=sI (a:= .int x) (b:= .int y) rfl rfl z;cases this;simp[iu]
   .exact Et
  rw[e] at h;exact h
 .have tup:∀d∈ds,∃fs,d= .tup fs:=λd hd=>by
   rw[GaR] at a1;rcases a1 with a1|a1
   .obtain⟨f,r,e,_⟩:=om (by decide) (Gan.mp a1 d hd);exact⟨_,e⟩
   .obtain⟨f,r,e,_⟩:=om (by decide) (Gan.mp a1 d hd);exact⟨_,e⟩
  have cm:=Gan.mp (Gan.mp a2 ds[i] (Gbd hi)) ds[j] (Gbd hj);obtain⟨xs,hx⟩:=tup ds[i] (Gbd hi);obtain⟨ys,hy⟩:=tup ds[j] (Gbd hj);rw[hx] at ki h cm;rw[hy] at kj h cm;obtain⟨a,o,n,us,ei,h1,h2,h3,h4⟩:=ki;obtain⟨a',o',n',Tx,ej,zr,TR,W5,V7⟩:=kj;rw[ei,ej];refine kat_lt h1 h3 zr W5 ?_;exact NM 0 h4 V7 cm (by rw[Gaj,Gaj,h4.length,V7.length]) h
theorem A1{t:Nat}(ht:t≠3)(p:Paired (oO s.heap) ds vs):ds.all (pS t)=true->∃fs:List Value,∃gs:List D,KatTups s.heap vs fs/\Paired FlV gs fs/\(∀g∈gs,tyD g=t)/\fs.length=vs.length:=by
 induction p with
 |nil=>exactλ_=> ⟨[],[],trivial,.nil,(by intro g hg;cases hg),rfl⟩
 |cons h tl ih=>
  intro hk;rw[GaO,Gam] at hk;obtain⟨fs,gs,h1,h2,h3,h4⟩:=ih hk.2;obtain⟨f,r,rfl,q1,q2⟩:=om ht hk.1;obtain⟨a,o,n,us,rfl,g1,g2,g3,g4⟩:=h;cases g4 with
  |cons p t=>
   refine⟨_::fs,f::gs,KatTups.cons g1 g2 g3 (by simp) h1,.cons p h2,λg hg=> ?_,by simp[h4]⟩;rcases Gaw.mp hg with e|e
   .subst e;exact q1
   .exact h3 g e
theorem Ew{M:Model}{h:Heap}{d:D}{t:Nat}(hd:FlV d v)(ht:tyD d=t):(t=1->PySem.W.Looks M h (typeOf v) (.type "int"))/\(t=2->PySem.W.Looks M h (typeOf v) (.type "str")):=by
 subst ht;cases d<;>simp[tyD]<;>try exact hd.elim
 .obtain⟨u,rfl⟩:=hd;exact PySem.W.Looks.of_pure rfl
 .obtain⟨u,rfl⟩:=hd;exact PySem.W.Looks.of_pure rfl
theorem FV{Q:SortKind->Shared->Prop}(hK:Paired (oO s.heap) ds vs)(hok:keysOk ds=true)(h2:2<=ds.length)
  (h:∀Y,((ds.all FG=true/\Y=oneType')\/((ds.all (pS 1)||ds.all (pS 2))=true/\(ds.all λx=>ds.all λy=>CD x y)=true/\Y=tuples' true))->Q Y s):wpAny (model prog w) A (keyKind' vs.toArray) Q E s:=by
 have hl:=hK.length;unfold keysOk at hok;rw[GaR,Gam] at hok;rcases hok with hok| ⟨hok,hc⟩
 .have ia:∀{ds:List D} {vs:List Value},Paired (oO s.heap) ds vs->ds.all FG=true->∃ns,IntsAre vs ns:=by
   intro ds vs hK;induction hK with
   |nil=>intro _;exact⟨[],.nil⟩
   |cons p t ih=>
    intro hk;rw[GaO,Gam] at hk;obtain⟨ns,q⟩:=ih hk.2;obtain⟨i,rfl⟩:=lF hk.1;obtain⟨u,rfl⟩:=p;exact⟨i::ns,.cons i u q⟩
  obtain⟨ns,q⟩:=ia hK hok
  match vs,hl,q with
  |[],e,_=>rw[List.length_nil] at e;lia
  |[_],e,_=>rw[Gcj] at e;lia
  |v1::v2::vr,_,q=>
   rw[keyKind_ints q];exact Gah (h _ (.inl ⟨hok,rfl⟩))
 .have ze :=hok;rw[GaR] at ze;rcases ze with a1|a1
  .obtain⟨fs,gs,q1,q2,q3,q4⟩:=A1 (s:=s) (by decide) hK a1;refine kat_kind (T:= .type "int") q1 (by rw[q4,<-hl];lia) (λv hv=> ?_) (by rfl) (h _ (.inr ⟨hok,hc,rfl⟩));obtain⟨g,hg,Uy⟩:∃g∈gs,FlV g v:=by
    clear q1 q3 q4;induction q2 with
    |nil=>cases hv
    |cons p t ih=>
     rcases Gaw.mp hv with e|e
     .subst e;exact⟨_,Gav,p⟩
     .obtain⟨g,h1,h2⟩:=ih e;exact⟨g,Gar _ h1,h2⟩
   exact(Ew Uy (q3 g hg)).1 rfl
  .obtain⟨fs,gs,q1,q2,q3,q4⟩:=A1 (s:=s) (by decide) hK a1;refine kat_kind (T:= .type "str") q1 (by rw[q4,<-hl];lia) (λv hv=> ?_) (by rfl) (h _ (.inr ⟨hok,hc,rfl⟩));obtain⟨g,hg,Uy⟩:∃g∈gs,FlV g v:=by
    clear q1 q3 q4;induction q2 with
    |nil=>cases hv
    |cons p t ih=>
     rcases Gaw.mp hv with e|e
     .subst e;exact⟨_,Gav,p⟩
     .obtain⟨g,h1,h2⟩:=ih e;exact⟨g,Gar _ h1,h2⟩
   exact(Ew Uy (q3 g hg)).2 rfl
theorem HY(vs:List Value):(vs.toArray.zip vs.toArray).map (·.2)=vs.toArray:=by
 apply Array.toList_inj.mp;rw[Array.toList_map,Array.toList_zip];exact List.map_snd_zip (Gao _)
variable{n:Nat}{a:Addr}
theorem CO{P:PySem.Fin->Shared->Prop}{Ok:Array Value->Prop}(ho:s.heap.get? a=some (seqObj "list" vs.toArray n))(sz:vs.length<=sizeLine)(one:vs.length<2->Ok vs.toArray)(len:∀out,Ok out->out.size=vs.length)
  (big:∀G:Heap,(∀b o,b≠a->s.heap.get? b=some o->G.get? b=some o)->2<=vs.length->wpAny (model prog w) A (keyKind' vs.toArray) (λY s1=>wpAny (model prog w) A (sortRuns'.run (SortSt.mk' Y (vs.toArray.zip vs.toArray) #[] 7 none)) (λr s2=>s2={s with heap:=G}/\failedOf r.2=none/\Ok ((arrOf r.2).map (·.2))) E s1) E {s with heap:=G})
  (h:∀out,Ok out->P (.done (.ret .none)) {s with heap:=sortedHeap s.heap a vs out}):wpAny (model prog w) A (Builtin.«list.sort» ⟨[.ref a],[]⟩) P E s:=by
 have⟨ep,e1⟩:∃ep,(s.heap.update a (Obj.mapSeq λ_=>(#[]:Array Value))).get? a=some (seqObj "list" #[] ep):=⟨_,get?_update_seq ho _⟩
 rw[list_sort_plain];refine Gab (listItems_at ho rfl (Gab (listUpdate_at ho rfl (Gab (seqEpoch_at e1 rfl (Gab (wpAny_newTuple (Gab (wpAny_newList (Gbi ?_) (GaX _))) sz)))) (by simpa using sz) (GaX _))));have e2:=Gad (seqObj "list" #[] 0) (Gad (seqObj "tuple" vs.toArray 0) e1);have last:∀st:SortSt,failedOf st=none->Ok ((arrOf st).map (·.2))->wpAny (model prog w) A (do
   let touched:=(<-seqEpoch a) !=ep
   Builtin.List.listUpdate (.ref a) λ_=>(arrOf st).map (·.2)
   if let some e:=failedOf st then rule "list.sort.comparison-raised";throw e
   if touched then rule "list.sort.modified";raiseError "ValueError" "list modified during sort"
   ret .none) P E {s with heap:=((s.heap.update a (Obj.mapSeq λ_=>(#[]:Array Value))).push (seqObj "tuple" vs.toArray 0)).push (seqObj "list" #[] 0)}:=λst f ok=>by
  refine Gab (seqEpoch_at e2 rfl (Gab (listUpdate_at e2 rfl ?_ (GaX _) (by rw[len _ ok];lia))));rw[f]
  wp_walk
  exact h _ ok
 by_cases c:vs.length<2
 .have c' :vs.toArray.size<2:=by simpa using c
  rw[Gaf c',Gaf c'];refine Gab (Gah (Gab (Gah (last (SortSt.mk' general' (vs.toArray.zip vs.toArray) #[] 7 none) rfl ?_))));show Ok ((vs.toArray.zip vs.toArray).map (·.2));rw[HY];exact one c
 .have c' :¬vs.toArray.size<2:=by simpa using c
  rw[Gag c',Gag c'];refine Gab (on (big _ (λb o n q=>Gad _ (Gad _ ((GaT _ _ (Gay n)).trans q))) (by lia)) λY s1 q=>Gab (on q ?_));rintro⟨⟨⟩,st⟩ s2 ⟨rfl,f,ok⟩;exact last st f ok
def mv(cs:List (List (List Int)))(vs:List Value)(out:Array Value):Prop:=∃p:Array Nat,Ord vs.length p/\Up (rank cs) p vs.length/\out=List.toArray (p.toList.map λi=>vs.getD i Value.none)
variable{cs:List (List (List Int))}
theorem mv.len{out:Array Value}(x:mv cs vs out):out.size=vs.length:=by
 obtain⟨p,h1,_,rfl⟩:=x;rw[Gaj,Gaq,GbB,h1.size]
theorem mv.one(c:vs.length<2):mv cs vs vs.toArray:=by
 refine⟨List.toArray (List.range vs.length),List.Perm.refl _,λu v q r=> ?_, ?_⟩
 .rw[show u=v by lia];exact Gca _
 .rcases vs with _| ⟨x,_| ⟨y,t⟩⟩
  .rfl
  .rfl
  .exact absurd c (by simp)
def KG(prog:Program)(w:World)(A:Around)(E:Value->Shared->Prop)(s:Shared)(cs:List (List (List Int)))(vs:List Value):Prop:=
 2<=vs.length->∀Q:SortKind->Shared->Prop,(∀Y,(∀i j C,i<vs.length->j<vs.length->C (decide (rank cs i<rank cs j)) s->kas_ask prog w A Y vs i j C s)->Q Y s)->wpAny (model prog w) A (keyKind' vs.toArray) Q E s
theorem vZ{P:PySem.Fin->Shared->Prop}(ho:s.heap.get? a=some (seqObj "list" vs.toArray n))(SW:vs.length<64)
  (hK:∀G:Heap,(∀b o,b≠a->s.heap.get? b=some o->G.get? b=some o)->KG prog w A E {s with heap:=G} cs vs)
  (h:∀p:Array Nat,Ord vs.length p->Up (rank cs) p vs.length->P (.done (.ret .none)) {s with heap:=sortedHeap s.heap a vs (List.toArray (p.toList.map λi=>vs.getD i Value.none))}):wpAny (model prog w) A (Builtin.«list.sort» ⟨[.ref a],[]⟩) P E s:=by
 refine CO (Ok:=mv cs vs) ho (by rw[Gbc];lia) mv.one (λ_ q=>q.len) (λG kp c=>hK G kp c _ λY hY=> ?_) λ_ ⟨p,h1,h2,e⟩=>e▸h p h1 h2;refine Gbg (kat_run (E:=E) (Q:=λst s2=>s2={s with heap:=G}/\failedOf st=none/\mv cs vs ((arrOf st).map (·.2))) (G:=λp s' =>s' ={s with heap:=G}/\Ord vs.length p/\Up (rank cs) p vs.length) rfl (by lia) SW (λp st s' q1 q2 q3 q4=> ?_) (Asks.wp (s:={s with heap:=G}) (λi j C hi hj=>hY i j C hi hj) (λp hp=> ⟨rfl,hp.1,hp.2⟩) _ (Ky (by lia)))) (λr s' q=>q) λ_ _ e=>e;exact⟨q4.1,q3,p,q4.2.1,q4.2.2,kat_snds rfl q2⟩
theorem AK{P:PySem.Fin->Shared->Prop}(ho:s.heap.get? a=some (seqObj "list" vs.toArray n))(SW:vs.length<64)(hK:Paired (oO s.heap) ds vs)(hok:keysOk ds=true)
  (h:∀p:Array Nat,Ord vs.length p->Up (rank (ds.map code)) p vs.length->P (.done (.ret .none)) {s with heap:=sortedHeap s.heap a vs (List.toArray (p.toList.map λi=>vs.getD i Value.none))}):wpAny (model prog w) A (Builtin.«list.sort» ⟨[.ref a],[]⟩) P E s:=by
 have hl:=hK.length;refine vZ ho SW (λG kp c Q q=> ?_) h;have one:∀{d:D} {v:Value},oO s.heap d v->oO G d v:=λ{d v} k=>by
  cases d with
  |tup fs=>
   obtain⟨b,o,m,us,h1,h2,h3,h4⟩:=k;refine⟨b,o,m,us,h1,kp b o (λz=> ?_) h2,h3,h4⟩;rw[z,ho] at h2;cases h2;exact absurd h3 (by simp[seqObj])
  |_=>exact k
 have hKG:=sZ (λ_ _=>one) hK;exact FV (s:={s with heap:=G}) hKG hok (by lia) λY hY=>q Y λi j C hi hj hc=>HX (s:={s with heap:=G}) hKG hok hY i j C (by lia) (by lia) hc
variable{T:String}{o:Obj}{l:Addr}
theorem BH{Q:List Value->Shared->Prop}(ho:s.heap.get? l=some o)(hc:o.cls= .type T)(hT:T="list"\/T="tuple")(hd:o.data= .seq vs.toArray n)
  (h:Q vs {s with heap:=(s.heap.push (seqObj "list" #[] 0)).update s.heap.objs.size (Obj.mapSeq (· ++vs.toArray))})(hsz:vs.length<=sizeLine):wpAny (model prog w) A (collect (.ref l)) Q E s:=by
 have e0:(s.heap.push (seqObj "list" #[] 0)).get? s.heap.objs.size=some (seqObj "list" #[] 0):=Gat _ rfl;have el:=Gad (seqObj "list" #[] 0) ho;have up:(#[]++vs.toArray:Array Value)=vs.toArray:=by simp
 have ek:((s.heap.push (seqObj "list" #[] 0)).update s.heap.objs.size (Obj.mapSeq (· ++vs.toArray))).get? s.heap.objs.size=some (seqObj "list" (#[]++vs.toArray) _):=get?_update_seq e0 _;rw[up] at ek;refine gather λR r=> ?_;have c:(Builtin.List.listSameRef (.ref s.heap.objs.size) (.ref l)||Value.type T== .type "list"||Value.type T== .type "tuple")=true:=by rcases hT with rfl|rfl<;>rw[GaR,GaR]<;>simp
 exact Gab (wpAny_typeOf ⟨o,el,hc⟩ (GbN (by rw[c];rfl) (Gab (listItems_at el hd (Gab (listItems_at e0 rfl (GbJ (by simp) (Gab (listUpdate_at e0 rfl (Gah (r _ vs.toArray _ ek h)) (GaX _) (by rw[up,Gaj];lia))))))))))
theorem FW{Q:Value->Shared->Prop}(ho:s.heap.get? l=some o)(hc:o.cls= .type T)(hT:T="list"\/T="tuple")(hd:o.data= .seq vs.toArray n)(SW:vs.length<64)(hK:Paired (oO s.heap) ds vs)(hok:keysOk ds=true)
  (h:∀p:Array Nat,Ord vs.length p->Up (rank (ds.map code)) p vs.length->Q (.ref (s.heap.objs.size+1)) {s with heap:=sortedAll s.heap vs (List.toArray (p.toList.map λi=>vs.getD i Value.none))}):wpAny (model prog w) A (call (.builtin "sorted") [.ref l]) Q E s:=by
 have szl:vs.length<=sizeLine:=by rw[Gbc];lia
 refine Calls.call_function_entry kind_sorted plain_sorted entry_sorted (args_sorted1 _) ?_;unfold Builtin.«sorted»;refine Gab (m:=checkCount "sorted" 1 1 _) (Gah (Gab (BH ho hc hT hd ?_ szl)));refine Gab (wpAny_newList ?_ szl);generalize hG:(s.heap.push (seqObj "list" #[] 0)).update s.heap.objs.size (Obj.mapSeq (· ++vs.toArray))=G;have hsz:G.objs.size=s.heap.objs.size+1:=by rw[<-hG,Heap.size_update,size_push']
 have TK:(G.push (seqObj "list" vs.toArray 0)).get? (s.heap.objs.size+1)=some (seqObj "list" vs.toArray 0):=by rw[<-hsz];exact Gat _ rfl
 have keep:∀b o,s.heap.get? b=some o->(G.push (seqObj "list" vs.toArray 0)).get? b=some o:=λb o e=>by
  have xy:=Gal e;refine Gad _ ?_;rw[<-hG,Heap.get?_update_ne _ _ _ _ (Gau xy)];exact Gad _ e
 have hKG:Paired (oO (G.push (seqObj "list" vs.toArray 0))) ds vs:=by
  exact sZ (λ_ _ p=>p.keep keep) hK
 show wpAny _ _ _ _ _ {s with heap:=G.push (seqObj "list" vs.toArray 0)};rw[hsz];refine Gab (Gbi (GbE slot_list_sort ⟨_,TK,rfl⟩ entry_list_sort (AK (s:={s with heap:=G.push (seqObj "list" vs.toArray 0)}) TK SW hKG hok λp h1 h2=> ⟨_,rfl, ?_⟩) (args_list_sort _)));have:=h p h1 h2;unfold sortedAll at this;rw[hG] at this;exact Gah ⟨_,rfl,this⟩
end
section
variable{X:Cx}
variable{u:Value}{v:V}{H:Hp}
theorem Qz{K:av}{F:Addr->Prop}{d:D}(r:Rep K F H d v)(hf:pR d=true)(ru:RelV v u):FlV d u:=by
 cases r<;>simp[pR,tyD] at hf
 .cases ru;rfl
 .exact ru
 .exact ru
theorem HZ{K:av}{F:Addr->Prop}{H:Hp}:∀{ds:List D} {vs:List V} {us:List Value},aT K F H ds vs->ds.all pR=true->Vals vs us->Paired FlV ds us
 |[],vs,us,r,_,ru=>by
  have:=r.cz;subst this;cases ru;exact .nil
 |d::ds,vs,us,r,hf,ru=>by
  obtain⟨v,w,rfl,h1,h2⟩:=r.cons_inv;rw[GaO,Gam] at hf;cases ru with
  |cons r1 r2=>exact .cons (Qz h1 hf.1 r1) (HZ h2 hf.2 r2)
noncomputable def isKey(d:D):Bool:=match d with
 | .int _=>true
 | .tup fs=>fs.all pR
 |_=>false
theorem kS{ee:List (Addr×Obj)}{σ:St}{F:Addr->Prop}{s:Shared}{d:D}(I:Inv X ee σ H s)(r:Rep X.K F H d v)(hk:isKey d=true)(ru:RelV v u):oO s.heap d u:=by
 cases r<;>simp[isKey] at hk
 .exact ru
 .rename_i a vs fs h l r;cases ru;obtain⟨eA,rv,⟨o,h1,h2,n,h3⟩,_⟩:=I.tuple (SqT.of h);exact⟨a,o,n,eA,rfl,h1,h2,h3,HZ ⟨l,r⟩ (Gan.mpr hk) rv⟩
theorem Ex{ee:List (Addr×Obj)}{σ:St}{F:Addr->Prop}{H:Hp}{s:Shared}(I:Inv X ee σ H s):∀{ds:List D} {vs:List V} {us:List Value},aT X.K F H ds vs->ds.all isKey=true->Vals vs us->Paired (oO s.heap) ds us
 |[],vs,us,r,_,ru=>by
  have:=r.cz;subst this;cases ru;exact .nil
 |d::ds,vs,us,r,hf,ru=>by
  obtain⟨v,w,rfl,h1,h2⟩:=r.cons_inv;rw[GaO,Gam] at hf;cases ru with
  |cons r1 r2=>exact .cons (kS I h1 hf.1 r1) (Ex I h2 hf.2 r2)
variable{ds:List D}
theorem I0(h:keysOk ds=true):ds.all isKey=true:=by
 unfold keysOk at h;rw[GaR,Gam,GaR] at h;refine Gan.mpr λd hd=> ?_;have tup:∀t,t≠3->ds.all (pS t)=true->isKey d=true:=λt ht hk=>by
  obtain⟨f,r,rfl,_,q1⟩:=om ht (Gan.mp hk d hd);exact q1
 rcases h with h| ⟨h|h,_⟩
 .obtain⟨i,rfl⟩:=lF (Gan.mp h d hd);rfl
 .exact tup 1 (by decide) h
 .exact tup 2 (by decide) h
theorem range_getD{α:Type}{xs:List α}{d:α}:(List.range xs.length).map (λi=>xs.getD i d)=xs:=by
 apply List.ext_getElem
 .simp
 .intro i h1 h2;simp[h2]
variable{p:Array Nat}
theorem uR{α:Type}{xs:List α}{d:α}(h:Ord xs.length p):(p.toList.map λi=>xs.getD i d).Perm xs:=by
 have:=List.Perm.map (λi=>xs.getD i d) h;rw[range_getD] at this;exact this
theorem Ia{n:Nat}(h:Ord n p){i:Nat}(hi:i<p.toList.length):p.toList[i]<n:=Gbs.mp (h.mem_iff.mp (Gbd hi))
theorem CP(h:Ord ds.length p)(hu:Up (rank (ds.map code)) p ds.length):gR (p.toList.map λi=>ds.getD i .non):=by
 refine List.pairwise_iff_getElem.mpr λi j hi hj zp=> ?_;rw[Gaq] at hi hj;rw[GcN,GcN];have bi:=Ia h hi;have bj:=Ia h hj;have hs:=h.size;have hi' :i<p.size:=by simpa using hi
 have hj' :j<p.size:=by simpa using hj
 have u:=hu i j (GcR zp) (by lia);unfold cB at u;have ei:p.getD i 0=p.toList[i]:=by simp[Array.getD,hi']
 have ej:p.getD j 0=p.toList[j]:=by simp[Array.getD,hj']
 rw[ei,ej] at u;have r:=DZ (cs:=ds.map code) (i:=p.toList[j]) (j:=p.toList[i]) (by simpa using bj) (by simpa using bi);rw[GaD (Gcy.mpr u)] at r;simp only[GcN] at r;have gd:∀{k:Nat} (hk:k<ds.length),ds.getD k .non=ds[k]:=λ{k} hk=>by simp[hk]
 have gi:=gd bi;have gj:=gd bj;rw[gi,gj];exact r.symm
variable{vs:List V}
theorem Ib{K:av}{F:Addr->Prop}(h:Ord ds.length p)(r:aT K F H ds vs):aT K F H (p.toList.map λi=>ds.getD i .non) (p.toList.map λi=>vs.getD i .non):=by
 refine⟨by simp,λi d v e1 e2=> ?_⟩;rw[Gas] at e1 e2;cases q:p.toList[i]? with
 |none=>rw[q] at e1;cases e1
 |some k=>
  rw[q] at e1 e2;have hk:k<ds.length:=Gbs.mp (h.mem_iff.mp (GaH q));have SR:k<vs.length:=by rw[<-r.1];exact hk
  cases e1;cases e2
  exact r.2 k _ _ (by simp[hk]) (by simp[SR])
theorem Ic{us:List Value}(h:Ord vs.length p)(r:Vals vs us):Vals (p.toList.map λi=>vs.getD i .non) (p.toList.map λi=>us.getD i Value.none):=by
 have hl:=r.length;have all:∀(l:List Nat),(∀i∈l,i<vs.length)->Vals (l.map λi=>vs.getD i .non) (l.map λi=>us.getD i Value.none):=by
  intro l;induction l with
  |nil=>intro _;exact .nil
  |cons i l ih=>
   intro hm;have hi:=hm i Gav;obtain⟨u,hu,ru⟩:=r.get (x:=vs[i]) (i:=i) (by simp[hi]);refine .cons ?_ (ih λj hj=>hm j (Gar _ hj));have e1:vs.getD i .non=vs[i]:=by simp[hi]
   have e2:us.getD i Value.none=u:=by simp[hu]
   show RelV (vs.getD i .non) (us.getD i Value.none);rw[e1,e2];exact ru
 exact all _ λi hi=>Gbs.mp (h.mem_iff.mp hi)
def Ey(K:av):List V->Hp->VK->Prop:=λxs H Q=>∃(p:Addr) (ds:List D) (vs:List V) (F:Addr->Prop),xs=[.ref p]/\(SqL K H p vs\/SqT K H p vs)/\aT K F H ds vs/\ds.length<64/\keysOk ds=true/\
 ∀l out,H l=none->(∀F',aT K F' H ds vs->aT K F' H (jg ds) out)->Q (.ref l) (upd H l (.lst out))
theorem j8:j0 X (.builtin "sorted") (Ey X.K):=by
 intro ee s σ H xs us Q I rv h;obtain⟨p,ds,vs,F,rfl,hq,hr,SW,hok,q⟩:=h;obtain⟨u,rfl,ru⟩:=rv.one;cases ru;obtain⟨o,T,n,eA,ho,hc,hT,hd,yg⟩:∃(o:Obj) (T:String) (n:Nat) (eA:List Value),s.heap.get? p=some o/\o.cls= .type T/\(T="list"\/T="tuple")/\o.data= .seq eA.toArray n/\Vals vs eA:=by
  rcases hq with hq|hq
  .obtain⟨eA,yg,pl,_⟩:=I.list hq;obtain⟨o,h1,h2,n,h3⟩:=pl.isList;exact⟨o,"list",n,eA,h1,h2,.inl rfl,h3,yg⟩
  .obtain⟨eA,yg,⟨o,h1,h2,n,h3⟩,_⟩:=I.tuple hq;exact⟨o,"tuple",n,eA,h1,h2,.inr rfl,h3,yg⟩
 have e1:eA.length=ds.length:=by rw[<-yg.length,hr.1]
 have hK:=Ex I hr (I0 hok) yg;refine FW ho hc hT hd (by lia) hK hok λod h1 h2=> ?_;have zr :Ord ds.length od:=by rw[<-e1];exact h1
 have TR :Up (rank (ds.map code)) od ds.length:=by rw[<-e1];exact h2
 have uniq:(od.toList.map λi=>ds.getD i .non)=jg ds:=kU ((uR zr).trans (jN ds).symm) (CP zr TR) (jx ds) λa ha b hb=>HW hok a ((uR zr).mem_iff.mp ha) b ((uR zr).mem_iff.mp hb);obtain⟨c,VZ⟩:=sortedAll_at s.heap eA (List.toArray (od.toList.map λi=>eA.getD i Value.none));have fresh:H (s.heap.objs.size+1)=none:=I.hok.fresh (Gcr _);have h1v:Ord vs.length od:=by rw[<-hr.1];exact zr
 refine⟨.ref (s.heap.objs.size+1),_,I.laid (a:=s.heap.objs.size+1) (o:= .lst (od.toList.map λi=>vs.getD i .non)) (t' :=s.toks) (λb ob e=>sortedAll_old e) (Gcr _) ?_,rfl,q _ _ fresh λF' r=> ?_⟩
 .refine⟨?_,_,c,Ic h1v yg,VZ⟩;rw[Gaq,GbB,h1v.size,<-hr.1,Gbc];lia
 .rw[<-uniq];exact Ib zr r
theorem gX:CallD X sortedS (Ey X.K):=by
 intro F H ds vs rv Q ps e k;obtain⟨d,xs,rfl,h1,h2⟩:=HP e;split at h2
 .rename_i c;rw[Gam] at c;cases h2;obtain⟨v,rfl,i⟩:=jz ps;obtain⟨p,vs,rfl,hs,r⟩:=CK i h1;exact⟨p,xs,vs,F,rfl,hs,r,GaI c.1,c.2,λl out hl hr=>k _ _ (c4 hl) ⟨l,rfl,hl,uI,rfl,jO hl (hr F r)⟩⟩
 .cases h2
end
section
variable{X:Cx}{e a b c:Expr}{f g h:DE}{pos:Pos}
theorem _root_.L2.Inv.uS{ee:List (Addr×Obj)}{σ:St}{H:Hp}{s s' :Shared}{ch:List Addr}{T:Addr}{o:HO}(I:Inv X ee σ H s)(hf:∀b∈ch,pK X ee H b)(zJ:s'.os=s.os)(hg:s'.gens=s.gens)
  (k:∀b u,b∉ch->s.heap.get? b=some u->s'.heap.get? b=some u)(hT:s.heap.objs.size<=T)(new:bx X.prog X.w (upd H T o) s'.heap T o):Inv X ee σ (upd H T o) s' :=by
 have hn:H T=none:=I.hok.fresh hT;have ne:∀{b u},H b=some u->b≠T:=λ{b u} q=>bc q hn;refine I.Bh (ch:=ch) zJ ⟨λb ob q _ _ hx=>k b ob hx q,λb ob q _ _ hx=> ⟨ob.slots,k b ob hx q⟩,λb ob q n _=> ?_,λb ob q hx=> ⟨ob,k b ob hx q⟩,λb xs q=> ?_,λb ob u q=> ?_,λb ps q=> ⟨#[], ?_⟩⟩ ?_ (by rw[hg];exact I.bare) λb hb=> ⟨(hf b hb).2.2.2.1,(hf b hb).2.1,(hf b hb).2.2.2.2.1,(hf b hb).2.2.2.2.2⟩
 .rw[ak (Gau (Gak (Gal q) hT))];exact n
 .rw[ak (ne q)];exact q
 .rw[ak (ne q)];exact q
 .rw[ak (ne q),q];simp
 .intro b u q;by_cases hb:b=T
  .subst hb;rw[aC] at q;cases q;exact new
  .rw[ak hb] at q;have tr:∀{c v},H c=some v->c∉ch:=λ{c v} z hc=>by rw[(hf c hc).1] at z;cases z
   refine(I.hok b u q).dC (λc v hc z=>k c v ?_ z) (λc z=>by rw[ak (ne z)];exact z) λc xs z=>by rw[ak (ne z)];exact z
   rcases hc with hc|hc
   .rw[hc];exact tr q
   .exact tr hc
noncomputable def Ite(K:av)(l:Addr):It:=
 ⟨λi H=>∃xs x,SqL K H l xs/\xs[i]? =some x,λi H x H' =>∃p y,H p=none/\x= .ref p/\H' =upd H p (.tup [.int i,y])/\∀xs,SqL K H l xs->xs[i]? =some y,λi H=>∃xs,SqL K H l xs/\xs.length<=i⟩
variable{tp:Pos}{elts:List Expr}{w:World}{P:Program}
theorem FY{K:av}{x1}(en it l:Addr)(yG:en≠it):Turn P w K (.Tuple elts x1 tp) (Ite K l) [en,it] en (λi h=>(∃old,IsEnum h en it i old)/\h.IsListIter it l i) where
 mem:=by simp
 obj:=λi h st b hb=>by
  obtain⟨⟨old,he⟩,o,e,c,d⟩:=st;rcases Gaw.mp hb with z|z
  .subst z;exact⟨_,he,λv z=>by
    have z' :Data.fields _=Data.cell v:=z;cases z'⟩
  .have z' :b=it:=by simpa using z
   subst z';exact⟨o,e,λv z=>by rw[d] at z;cases z⟩
 keep:=λi h h' st k=> ⟨let⟨old,he⟩:=st.1;⟨old,k en (by simp) _ he⟩,st.2.at λo e=>k it (by simp) o e⟩
 item:=by
  intro X hP hw hK hc i ee s σ H E I hf st hg;subst hP hw hK;obtain⟨⟨old,he⟩,hit⟩:=st;obtain⟨xs,x,hq,hx⟩:=hg;obtain⟨eA,rv,p,hz⟩:=I.list hq;obtain⟨u,hu,ru⟩:=rv.get hx;refine wpAny_pyNext_enum_item he hit p.isList (x:=u) (by simpa using hu) yG λh' ho yv hT hsz kk=> ⟨_,rfl, ?_⟩;refine wpAny_letOwnedTupleGo_enum (s:={s with heap:=h',toks:=s.toks+1}) ho λh2 Te sb=> ?_;have hltE:en<s.heap.objs.size:=Gal he;have kept:∀b o,b∉[en,it]->s.heap.get? b=some o->h2.get? b=some o:=λb o hb e=>by
   have b1:b≠en:=λz=>hb (by simp[z]);have b2:b≠it:=λz=>hb (by simp[z]);exact(sb.2 b b1).trans (kk b o b1 b2 e)
  have To:h2.get? s.heap.objs.size=some {cls:= .type "tuple",data:= .seq #[.int i s.toks,u]}:=(sb.2 _ (Gbp hltE)).trans hT;have I1:Inv X ee σ (upd H s.heap.objs.size (.tup [.int i,x])) {s with heap:=h2,toks:=s.toks+1}:=I.uS (ch:=[en,it]) hf rfl rfl kept (Gao _) (by
   refine⟨by simp[Gbc],[.int i s.toks,u],.cons ⟨_,rfl⟩ (.cons ru .nil),_,To,rfl,0,rfl⟩)
  refine⟨.ref s.heap.objs.size,_,I1,rfl,⟨_,x,I.fresh,rfl,rfl,λys hy=>by rw[I.Bi hy hq];exact hx⟩,⟨⟨u,by simpa using Te⟩,yv.at λo e=>(sb.2 it (Gay yG)).trans e⟩,λb hb=> ?_⟩;obtain⟨o,ob,_⟩:∃o,s.heap.get? b=some o/\True:=by
   rcases Gaw.mp hb with z|z
   .subst z;exact⟨_,he,trivial⟩
   .have z' :b=it:=by simpa using z
    subst z';obtain⟨o,e,_⟩:=hit;exact⟨o,e,trivial⟩
  rw[ak (Gau (Gal ob))];exact(hf b hb).1
 done:=by
  intro X hP hw hK hc i ee s σ H E I hf st hg;subst hP hw hK;obtain⟨⟨old,he⟩,hit⟩:=st;obtain⟨xs,hq,hx⟩:=hg;obtain⟨eA,rv,p,hz⟩:=I.list hq;obtain⟨f0,f1,f2,f3,f4,f5⟩:=hf it (by simp);have hl:=rv.length;exact wpAny_pyNext_enum_end (I.ok.hd hc) he hit p.isList (by simp;lia) λh' eb=> ⟨rfl,I.turned (t' :=s.toks) (λb o hb e=>eb b o hb e) f0 f1 f3 f4 f5⟩
 self:=λ_ _ _ _ _ st h=>let⟨old,he⟩:=st.1;GcE he h
variable{z:Shared}{A:Around}{prog:Program}
theorem uT{E:Value->Shared->Prop}{it t:Addr}{i:Nat}{eA:Array Value}{Q:Value->Shared->Prop}(hh:A.handled=none)(hit:z.heap.IsTupleIter it t i)(ht:z.heap.IsTuple t eA)
  (hQ:∀x h',eA[i]? =some x->h'.IsTupleIter it t (i+1)->Heap.SameBut it z.heap h' ->Q x {z with heap:=h' })
  (hE:∀h' e,eA[i]? =none->Heap.ExtBut it z.heap h' ->(∃o,h'.get? e=some o/\o.cls= .type "StopIteration")->E (.ref e) {z with heap:=h' }):wpAny (model prog w) A (Builtin.SmallTypes.nextOf (.ref it)) Q E z:=by
 have f:FO z.heap it _ _:=hit;obtain⟨ol,VI,_,nl,hdl⟩:=ht
 wp_walk using GbR f.ty F.slot_tuple_iterator_next,GbE F.slot_tuple_iterator_next f.ty F.entry_tuple_iterator_next (ha:=F.args_tuple_iterator_next_1 _),mr (i:=0) (x:= .ref t) f rfl,mr (i:=1) (x:= .int i 0) f rfl,wpAny_seqItems VI hdl
 rw[show eA[(i:Int).toNat]? =eA[i]? by simp];cases h:eA[i]? with
 |some x=>
  wp_walk using kX f
  .exactλh' k=>Gah ⟨_,rfl,Gah (hQ x h' h k.1 k.2)⟩
  .show _<2;decide
 |none=>
  wp_walk using kX f
  .exactλh1 k=>Mi hh λh' a q=>hE h' a h (λb o n e=>q.1 b o (k.2.extBut b o n e)) q.2
  .show _<2;decide
theorem FZ(hh:A.handled=none)(it l:Addr)(yG:l≠it)(eA:Array Value):Draws prog w A it [it,l] eA.size (λi v=>eA[i]? =some v) (λi h=>h.IsTupleIter it l i/\h.IsTuple l eA) where
 live:=λ_ _ st=>let⟨o,ho,_⟩:=st.1;⟨o,ho⟩
 frame:=λ_ _ _ st hk=> ⟨st.1.at λo e=>hk it (by simp) o e,let⟨o,ho,r⟩:=st.2;⟨o,hk l (by simp) _ ho,r⟩⟩
 item:=λi z Q E hi st hQ=>uT hh st.1 st.2 (λx h' hx yv xI =>hQ x h' z.toks hx ⟨yv,let⟨o,ho,r⟩:=st.2;⟨o,xI.extBut _ _ yG ho,r⟩⟩ xI) λ_ _ q=>absurd hi (by simpa using q)
 done:=λz Q E st hE=>uT hh st.1 st.2 (λ_ _ q=>absurd (Gbr.mp q).1 (GaN _)) λh' e _=>hE h' e
noncomputable def QA(K:av)(l:Addr):It:=
 ⟨λi H=>∃xs x,SqT K H l xs/\xs[i]? =some x,λi H x H' =>∃p y,H p=none/\x= .ref p/\H' =upd H p (.tup [.int i,y])/\∀xs,SqT K H l xs->xs[i]? =some y,λi H=>∃xs,SqT K H l xs/\xs.length<=i⟩
theorem CQ{K:av}{x1}(en it l:Addr)(yG:en≠it)(hle:l≠en)(VO:l≠it):Turn P w K (.Tuple elts x1 tp) (QA K l) [en,it] en (λi h=>(∃old,IsEnum h en it i old)/\h.IsTupleIter it l i) where
 mem:=by simp
 obj:=λi h st b hb=>by
  obtain⟨⟨old,he⟩,o,e,c,d⟩:=st;rcases Gaw.mp hb with z|z
  .subst z;exact⟨_,he,λv z=>by
    have z' :Data.fields _=Data.cell v:=z;cases z'⟩
  .have z' :b=it:=by simpa using z
   subst z';exact⟨o,e,λv z=>by rw[d] at z;cases z⟩
 keep:=λi h h' st k=> ⟨let⟨old,he⟩:=st.1;⟨old,k en (by simp) _ he⟩,st.2.at λo e=>k it (by simp) o e⟩
 item:=by
  intro X hP hw hK hc i ee s σ H E I hf st hg;subst hP hw hK;obtain⟨⟨old,he⟩,hit⟩:=st;obtain⟨xs,x,hq,hx⟩:=hg;obtain⟨eA,rv,p,hz⟩:=I.tuple hq;obtain⟨u,hu,ru⟩:=rv.get hx;have hi:i<eA.toArray.size:=by
   have:=(Gae.mp hu).1
   simpa using this
  refine wpAny_pyNext_enum_itemD (FZ (A:=X.A.in1) (I.ok.hd hc) it l VO eA.toArray) he ⟨hit,p⟩ hi yG (by simp[yG,Gay hle]) λu' h' tk TH ho yv hT hsz kk=> ⟨_,rfl, ?_⟩;have hit1:=yv.1;have eu:u' =u:=by
   have Uk:eA.toArray[i]? =some u:=by simpa using hu
   rw[Uk] at TH;cases TH;rfl
  subst eu;refine wpAny_letOwnedTupleGo_enum (s:={s with heap:=h',toks:=tk+1}) ho λh2 Te sb=> ?_;have hltE:en<s.heap.objs.size:=Gal he;have kept:∀b o,b∉[en,it]->s.heap.get? b=some o->h2.get? b=some o:=λb o hb e=>by
   have b1:b≠en:=λz=>hb (by simp[z]);have b2:b≠it:=λz=>hb (by simp[z]);exact(sb.2 b b1).trans (kk b o b1 b2 e)
  have To:h2.get? s.heap.objs.size=some {cls:= .type "tuple",data:= .seq #[.int i tk,u']}:=(sb.2 _ (Gbp hltE)).trans hT;have I1:Inv X ee σ (upd H s.heap.objs.size (.tup [.int i,x])) {s with heap:=h2,toks:=tk+1}:=I.uS (ch:=[en,it]) hf rfl rfl kept (Gao _) (by
   refine⟨by simp[Gbc],[.int i tk,u'],.cons ⟨_,rfl⟩ (.cons ru .nil),_,To,rfl,0,rfl⟩)
  refine⟨.ref s.heap.objs.size,_,I1,rfl,⟨_,x,I.fresh,rfl,rfl,λys hy=>by rw[I.wD hy hq];exact hx⟩,⟨⟨u',by simpa using Te⟩,hit1.at λo e=>(sb.2 it (Gay yG)).trans e⟩,λb hb=> ?_⟩;obtain⟨o,ob,_⟩:∃o,s.heap.get? b=some o/\True:=by
   rcases Gaw.mp hb with z|z
   .subst z;exact⟨_,he,trivial⟩
   .have z' :b=it:=by simpa using z
    subst z';obtain⟨o,e,_⟩:=hit;exact⟨o,e,trivial⟩
  rw[ak (Gau (Gal ob))];exact(hf b hb).1
 done:=by
  intro X hP hw hK hc i ee s σ H E I hf st hg;subst hP hw hK;obtain⟨⟨old,he⟩,hit⟩:=st;obtain⟨xs,hq,hx⟩:=hg;obtain⟨eA,rv,p,hz⟩:=I.tuple hq;obtain⟨f0,f1,f2,f3,f4,f5⟩:=hf it (by simp);have hl:=rv.length;have fe:FO s.heap en "enumerate" _:=⟨_,he,rfl,rfl⟩
  have pt:s.heap.IsTuple l eA.toArray:=p
  wp_walk using GbR fe.ty F.slot_enumerate_next,GbE F.slot_enumerate_next fe.ty F.entry_enumerate_next (ha:=F.args_enumerate_next_1 _),mr (i:=2) (x:= .ref it) fe rfl,uT (A:=X.A.in1) (I.ok.hd hc) hit pt
  .exactλx h' q=>absurd (Gbr.mp q).1 (by simp;lia)
  .exactλh' e _ eb q=>Gab (Es q (Gah ⟨rfl,I.turned (t' :=s.toks) (λb o hb e=>eb b o hb e) f0 f1 f3 f4 f5⟩))
 self:=λ_ _ _ _ _ st h=>let⟨old,he⟩:=st.1;GcE he h
theorem Ie{E:Value->Shared->Prop}{b:Bool}{Q:Bool->Shared->Prop}(h:∀b,Q b z):wpAny (model prog w) A (pure b) Q E z:=Gah (h b)
theorem BI(l:Addr)(items:Array Value):
  Meets (Builtin.«enumerate.__new__» ⟨[.type "enumerate",.ref l],[]⟩) (λ_ R s=>s.heap.IsTuple l items/\
   R (.ok (.ret (.ref (s.heap.objs.size+1)))) {s with heap:=(s.heap.push {cls:= .type "tuple_iterator",data:= .fields #[.ref l,.int 0 0]}).push {cls:= .type "enumerate",data:= .fields #[.none,.bool false,.ref s.heap.objs.size,rawInt 0,.none,.none]}}):=by
 apply Meets.of_wp;rintro prog w A R s ⟨hl,h⟩;have sub:=sub_enumerate
 wp_walk using Gcu hl,wpAny_stack_any
 intro st;refine Ie λshort=> ?_;have sz:(s.heap.push {cls:= .type "tuple_iterator",data:= .fields #[.ref l,.int 0 0]}).objs.size=s.heap.objs.size+1:=GbM ..;rw[<-sz] at h;cases short<;>wp_walk using Gcu hl<;>exact⟨_,rfl,h⟩
theorem CS{E:Value->Shared->Prop}{l:Addr}{items:Array Value}{Q:Value->Shared->Prop}(hL:z.heap.IsTuple l items)
  (h:∀h',IsEnum h' (z.heap.objs.size+1) z.heap.objs.size 0 .none->h'.IsTupleIter z.heap.objs.size l 0->(∀b o,z.heap.get? b=some o->h'.get? b=some o)->Q (.ref (z.heap.objs.size+1)) {z with heap:=h' }):
  wpAny (model prog w) A (call (.type "enumerate") [.ref l]) Q E z:=by
 have sz:(z.heap.push {cls:= .type "tuple_iterator",data:= .fields #[.ref l,.int 0 0]}).objs.size=z.heap.objs.size+1:=GbM ..;have en:IsEnum ((z.heap.push {cls:= .type "tuple_iterator",data:= .fields #[.ref l,.int 0 0]}).push {cls:= .type "enumerate",data:= .fields #[.none,.bool false,.ref z.heap.objs.size,rawInt 0,.none,.none]}) (z.heap.objs.size+1) z.heap.objs.size 0 .none:=sz▸Gat _ rfl;exact callType_new F.called_enumerate (by decide) (F.typeCall_enumerate_1 _) (F.newCall_enumerate_1 _) (λ_=>F.args_object_init_2 _ _) F.entry_enumerate_new (BI l items) ⟨hL,⟨_,en,rfl⟩,h _ en ⟨_,Gad _ (Gat _ rfl),rfl,rfl⟩ λb o q=>Gad _ (Gad _ q)⟩
def QB(K:av)(tl:TA):TI:=λσ H R=>tl σ H λvs H1=>∃l,vs=[.ref l]/\(((∃xs,SqL K H1 l xs)/\R (Ite K l) H1)\/((∃xs,SqT K H1 l xs)/\R (QA K l) H1))
variable{p:Pos}
theorem KH{x1}{ta:TA}(hg:Gl X "enumerate")(hm:X.mg "enumerate"=none)(ha:PA X [a] ta)(hs:autoParam (starEach [a] X.env=[(false,eval a X.env)]) Za1._auto_1):PI X (.Tuple elts x1 tp) (.Call (.Name "enumerate" p) [a] [] pos) (QB X.K ta):=by
 intro ee s σ H R I h;refine Call_ (rS I hg hm AG (Gcm (thn (ha pos ee s σ H _ I h) λus s1 ⟨vs,H1,I1,r1,q1⟩=> ?_) hs rfl));obtain⟨l,e,q1⟩:=q1;subst e;cases r1 with
 |cons r rr=>
  cases rr;cases r;have Va:∀b∈[s1.heap.objs.size+1,s1.heap.objs.size],pK X ee H1 b:=λb hb=>by
   rcases Gaw.mp hb with z|z
   .subst z;exact I1.Fo (Gcr _) (I1.hok.fresh (Gcr _))
   .have z' :b=s1.heap.objs.size:=by simpa using z
    subst z';exact I1.Fo (Gao _) (I1.hok.fresh (Gao _))
  rcases q1 with⟨⟨xs,hq⟩,q⟩| ⟨⟨xs,hq⟩,q⟩
  .obtain⟨eA,rv,pl,hz⟩:=I1.list hq;refine call_enumerate_list pl.isList λh' he hit hsz kk=> ?_;refine GcE (s:={s1 with heap:=h' }) he ?_;exact⟨s1.heap.objs.size+1,[s1.heap.objs.size+1,s1.heap.objs.size],_,_,H1,rfl,I1.kept (t' :=s1.toks) kk,FY _ _ l (Nat.succ_ne_self _),⟨⟨.none,he⟩,hit⟩,Va,q⟩
  .obtain⟨eA,rv,pl,hz⟩:=I1.tuple hq;have xy:l<s1.heap.objs.size:=pl.lt;refine CS (show s1.heap.IsTuple l eA.toArray from pl) λh' he hit kk=> ?_;refine GcE (s:={s1 with heap:=h' }) he ?_;exact⟨s1.heap.objs.size+1,[s1.heap.objs.size+1,s1.heap.objs.size],_,_,H1,rfl,I1.kept (t' :=s1.toks) kk,CQ _ _ l (Nat.succ_ne_self _) (Gau (Gdf xy)) (Gau xy),⟨⟨.none,he⟩,hit⟩,Va,q⟩
theorem AL{x1}(hg:Gl X "enumerate")(hm:X.mg "enumerate"=none)(he:PEd X e f)(hs:autoParam (starEach [e] X.env=[(false,eval e X.env)]) Za1._auto_1):PId X (.Tuple elts x1 tp) (.Call (.Name "enumerate" p) [e] [] pos) (E5 f):=by
 refine(KH hg hm (a8 he ah hs) hs).aG ?_;rintro σ H R ⟨H0,eh,env,ds,E,hf,k⟩;obtain⟨⟨kd,d⟩,hr,hf⟩:=ef hf;split at hf
 .cases hf
 rename_i hk;split at hf
 .rename_i xs hd;have xY :d= .lst xs:=hd;subst xY;cases hf;refine⟨H0,eh,env,[⟨kd,.lst xs⟩],E,by unfold aa ao;rw[hr];rfl,λvs H1 s1 Rs=> ?_⟩;cases Rs with
  |cons Rv tl=>
   cases tl;have ii:=Rv.inn;have hno:=Ej E rfl hk Rv;have E1:=E.mono s1;cases ii with
   | @lst la lv _ h r=>
    refine⟨_,rfl,.inl ⟨⟨_,.inl h⟩,k _ H1 s1 λHi keep=> ?_⟩⟩;have hh:Rd Hi la (.lst lv):=by
     rcases h with h| ⟨o,h⟩
     .exact .inl (keep _ _ h (hno _ rfl))
     .exact .inr ⟨o,keep _ _ h (hno _ rfl)⟩
    refine⟨λi d hd=> ?_,⟨_,.inl hh,by rw[sf,r.1];exact Gao _⟩⟩;rw[si] at hd;obtain⟨y,hy,rfl⟩:=Gac.mp hd;obtain⟨v,h1,h2⟩:=r.get hy;refine⟨⟨_,v,.inl hh,h1⟩,λz H2 ⟨p,w,hp,ez,eH,ew⟩=> ?_⟩;subst ez eH;have:=ew _ (.inl hh);rw[h1] at this;cases this
    refine⟨c4 hp, ?_⟩;have rp:=E1.oh keep h2;rw[show(((0+i:Nat)):Int)=(i:Int) by simp];exact gy hp (.cons (.int _) (.cons rp .nil))
 .rename_i xs hd;have xY :d= .tup xs:=hd;subst xY;cases hf;refine⟨H0,eh,env,[⟨kd,.tup xs⟩],E,by unfold aa ao;rw[hr];rfl,λvs H1 s1 Rs=> ?_⟩;cases Rs with
  |cons Rv tl=>
   cases tl;have ii:=Rv.inn;have E1:=E.mono s1;cases ii with
   | @tup la lv _ h r=>
    refine⟨_,rfl,.inr ⟨⟨_,SqT.of h⟩,k _ H1 s1 λHi keep=> ?_⟩⟩;have hh:Hi la=some (.tup lv):=keep _ _ h λw=>E1.gA w h trivial;refine⟨λi d hd=> ?_,⟨_,SqT.of hh,by rw[sf,r.1];exact Gao _⟩⟩;rw[si] at hd;obtain⟨y,hy,rfl⟩:=Gac.mp hd;obtain⟨v,h1,h2⟩:=r.get hy;refine⟨⟨_,v,SqT.of hh,h1⟩,λz H2 ⟨p,w,hp,ez,eH,ew⟩=> ?_⟩;subst ez eH;have:=ew _ (SqT.of hh);rw[h1] at this;cases this
    refine⟨c4 hp, ?_⟩;have rp:=E1.oh keep h2;rw[show(((0+i:Nat)):Int)=(i:Int) by simp];exact gy hp (.cons (.int _) (.cons rp .nil))
 .cases hf
end
section
variable{X:Cx}{e a b c:Expr}{f g h:DE}{pos:Pos}
def NN(neg:Bool):R2:=λx y H Q=>∃a o,y= .ref a/\pO H a x o/\Q (.bl (if neg then !o.isSome else o.isSome)) H
theorem G0(hu:X.A.units+1<cLine):OpR X (compareOp .In) (NN false):=by
 intro ee s σ H x y v u Q I rx ry h;obtain⟨p,o,rfl,g,q⟩:=h;cases ry;exact S5 hu I g rx λs' I' => ⟨.bl o.isSome,H,I',rfl,q⟩
theorem CT(hu:X.A.units+1<cLine):OpR X (compareOp .NotIn) (NN true):=by
 intro ee s σ H x y v u Q I rx ry h;obtain⟨p,o,rfl,g,q⟩:=h;cases ry;exact K9 hu I g rx λs' I' => ⟨.bl (!o.isSome),H,I',rfl,q⟩
variable{v:V}{H:Hp}
theorem KI{K:av}{F:Addr->Prop}(n:Nat){d d' :D}(p:b0 n d=true)(q:b0 n d' =true)(r:Rep K F H d v)(t:Rep K F H d' v):d=d' :=AF n p q r t
noncomputable def QC:Value->V
 | .bool b=> .bl b
 | .int i _=> .int i
 | .str x _=> .str x
 | .bytes b _=> .byt b
 | .float b _=> .flt b
 | .ref a=> .ref a
 | .type n=> .ty n
 |_=> .non
variable{u:Value}
theorem BJ(h:RelV v u):QC u=v:=by
 cases v<;>first|(obtain⟨t,rfl⟩:=h;rfl)|(have h' :=h;unfold RelV at h';subst h';rfl)
theorem Ig{v' :V}(h:RelV v u)(h' :RelV v' u):v=v' :=(BJ h).symm.trans (BJ h')
def NO(K:av)(neg:Bool):R2:=λx y H Q=>∃p xs dx ds,y= .ref p/\(SqL K H p xs\/SqT K H p xs)/\b0 10 dx=true/\ds.all (b0 10)=true/\Rep K (λ_=>True) H dx x/\aT K (λ_=>True) H ds xs/\Q (.bl (if neg then !ds.any (λy=>eqD y dx) else ds.any (λy=>eqD y dx))) H
variable{x:V}{dx:D}
theorem qH{ee:List (Addr×Obj)}{σ:L2.St}{z:Shared}(I:Inv X ee σ H z)(hu:X.A.units+20<cLine){xs:List V}{eA:List Value}{ds:List D}{v:Value}(r:Vals xs eA)(hx:b0 10 dx=true)(hs:ds.all (b0 10)=true)
  (rx:Rep X.K (λ_=>True) H dx x)(rs:aT X.K (λ_=>True) H ds xs)(rv:RelV x v):∃ev:Value->Bool,(∀w∈eA,SeqAt.EqAt X.A.in1 z w v (ev w))/\eA.any ev=ds.any λy=>eqD y dx:=by
 classical
 have hll:=r.length;have tri:∀(i:Nat) (w:Value),eA[i]? =some w->∃d u,ds[i]? =some d/\xs[i]? =some u/\RelV u w/\Rep X.K (λ_=>True) H d u/\b0 10 d=true:=λi w hw=>by
  have hi:i<eA.length:=(Gae.mp hw).1;have hd:ds[i]? =some (ds[i]'(by rw[rs.1,hll];exact hi)):=GaF _;obtain⟨u,UZ,Uk⟩:=rs.get hd;obtain⟨w',UX,VB⟩:=r.get UZ;rw[hw] at UX;cases UX
  exact⟨_,u,hd,UZ,VB,Uk,Gan.mp hs _ (GaH hd)⟩
 refine⟨λw=>decide (∃(i:Nat) (d:D),eA[i]? =some w/\ds[i]? =some d/\eqD d dx=true),λw hw=> ?_, ?_⟩
 .obtain⟨i,hi⟩:=List.getElem?_of_mem hw;obtain⟨d,u,h1,h2,h3,h4,h5⟩:=tri i w hi;have key:decide (∃(i:Nat) (d:D),eA[i]? =some w/\ds[i]? =some d/\eqD d dx=true)=eqD d dx:=by
   cases q:eqD d dx with
   |true=>exact GaC ⟨i,d,hi,h1,q⟩
   |false=>
    refine GaD ?_;rintro⟨j,d',g1,g2,g3⟩;obtain⟨d2,u2,k1,k2,k3,k4,k5⟩:=tri j w g1;rw[g2] at k1;cases k1
    have eu:=Ig h3 k3;subst eu;rw[KI 10 h5 k5 h4 k4] at q;rw[q] at g3;cases g3
  show SeqAt.EqAt X.A.in1 z w v (decide _);rw[key];exact uN I 10 h5 hx h4 rx h3 rv (by show X.A.units+1+10<_;lia)
 .rw[Bool.eq_iff_iff,GcM,GcM];constructor
  .rintro⟨w,hw,e⟩;obtain⟨i,d,_,h2,h3⟩:=GaI e;exact⟨d,GaH h2,h3⟩
  .rintro⟨d,hd,e⟩;obtain⟨i,hi⟩:=List.getElem?_of_mem hd;have hl:i<eA.length:=by rw[<-hll,<-rs.1];exact(Gae.mp hi).1
   exact⟨eA[i],Gbd hl,GaC ⟨i,d,GaF hl,hi,e⟩⟩
theorem NP(hu:X.A.units+20<cLine):OpR X (compareOp .In) (NO X.K false):=by
 intro ee z σ H x y v u Q I rx ry h;obtain⟨p,xs,dx,ds,rfl,hq,fx,fs,r1,r2,q⟩:=h;cases ry;rcases hq with hq|hq
 .obtain⟨eA,r,pl,hz⟩:=I.list hq;obtain⟨ev,e1,e2⟩:=qH I hu r fx fs r1 r2 rx;refine SeqAt.in_listAt ev pl.isList (λw hw=>e1 w (by simpa using hw)) ⟨.bl _,H,I,rfl, ?_⟩;rw[show eA.toArray.any ev=eA.any ev by simp,e2];exact q
 .obtain⟨eA,r,pl,hz⟩:=I.tuple hq;obtain⟨ev,e1,e2⟩:=qH I hu r fx fs r1 r2 rx;refine SeqAt.in_tupleAt ev pl (λw hw=>e1 w (by simpa using hw)) ⟨.bl _,H,I,rfl, ?_⟩;rw[show eA.toArray.any ev=eA.any ev by simp,e2];exact q
theorem KJ(hu:X.A.units+20<cLine):OpR X (compareOp .NotIn) (NO X.K true):=by
 intro ee z σ H x y v u Q I rx ry h;obtain⟨p,xs,dx,ds,rfl,hq,fx,fs,r1,r2,q⟩:=h;cases ry;rcases hq with hq|hq
 .obtain⟨eA,r,pl,hz⟩:=I.list hq;obtain⟨ev,e1,e2⟩:=qH I hu r fx fs r1 r2 rx;refine SeqAt.notIn_listAt ev pl.isList (λw hw=>e1 w (by simpa using hw)) ⟨.bl _,H,I,rfl, ?_⟩;rw[show eA.toArray.any ev=eA.any ev by simp,e2];exact q
 .obtain⟨eA,r,pl,hz⟩:=I.tuple hq;obtain⟨ev,e1,e2⟩:=qH I hu r fx fs r1 r2 rx;refine SeqAt.notIn_tupleAt ev pl (λw hw=>e1 w (by simpa using hw)) ⟨.bl _,H,I,rfl, ?_⟩;rw[show eA.toArray.any ev=eA.any ev by simp,e2];exact q
def G1(K:av)(neg:Bool):R2:=λx y H Q=>NO K neg x y H Q\/NN neg x y H Q
theorem CU(hu:X.A.units+20<cLine):OpR X (compareOp .In) (G1 X.K false):=(NP hu).or (G0 (by lia))
theorem KL(hu:X.A.units+20<cLine):OpR X (compareOp .NotIn) (G1 X.K true):=(KJ hu).or (CT (by lia))
theorem Ez{neg:Bool}{F:Addr->Prop}{dy:D}{y:V}{b:Bool}{Q:VK}(ix:Inn X.K F H dx x)(iy:Inn X.K F H dy y)(e:inB dx dy=some b)(q:Q (.bl (if neg then !b else b)) H):G1 X.K neg x y H Q:=by
 have seq:∀{ds:List D} {p:Addr} {vs:List V},y= .ref p->(SqL X.K H p vs\/SqT X.K H p vs)->aT X.K F H ds vs->wQ dx ds=some b->G1 X.K neg x y H Q:=λ{ds p vs} ey hs r hb=>by
  unfold wQ at hb;split at hb
  .rename_i c;rw[Gam] at c;cases hb;exact .inl ⟨p,vs,dx,ds,ey,hs,c.1,c.2,ix.any,⟨r.1,λi d v e1 e2=>(r.2 i d v e1 e2).inn.any⟩,q⟩
  .cases hb
 unfold inB at e;split at e
 .obtain⟨k,hk,rfl⟩:=Gac.mp e;obtain⟨g1,g2⟩:=qD iy ix;obtain⟨p,ws,ey,r,g⟩:=g1 _ k rfl hk;refine .inr ⟨p,_,ey,g, ?_⟩;rename_i et;have:(gL ws k).isSome=(look et k).isSome:=by
   cases z:look et k with
   |none=>rw[og r z];rfl
   |some d=>obtain⟨v,h1,_⟩:=jP r z;rw[h1];rfl
  rw[this];exact q
 .split at e
  .rename_i _ et _ ks;obtain⟨k,hk,rfl⟩:=Gac.mp e;obtain⟨g1,g2⟩:=qD iy ix;obtain⟨p,ws,ey,r,g⟩:=g2 _ _ k rfl rfl hk;refine .inr ⟨p,_,ey,g, ?_⟩;have:(gL ws k).isSome=(look et k).isSome:=by
    cases z:look et k with
    |none=>rw[og r z];rfl
    |some d=>obtain⟨v,h1,_⟩:=jP r z;rw[h1];rfl
   rw[this];exact q
  .cases e
 .cases iy with
  |lst h r=>exact seq rfl (.inl (.inl h)) r e
 .cases iy with
  |tup h r=>exact seq rfl (.inr (SqT.of h)) r e
 .cases e
theorem CV:OpB X inB (G1 X.K false):=λF H dx dy x y b Q ix iy e q=>Ez (neg:=false) ix iy e q
theorem KN:OpB X oN (G1 X.K true):=λF H dx dy x y b Q ix iy e q=>by
 obtain⟨b',e',rfl⟩:=Gac.mp e;exact Ez (neg:=true) ix iy e' q
end
namespace Fr
end Fr
section
variable{X:Cx}{e a b c:Expr}{f g h:DE}{pos:Pos}
theorem BK{K:av}{F:Addr->Prop}{H:Hp}{α:Type}{dd:α->D}{vv:α->V}(h:∀n,Rep K F H (dd n) (vv n)):∀{l:List α},aT K F H (l.map dd) (l.map vv)
 |[]=> .nil
 |x::l=> .cons (h x) (BK h)
end
def QD(prog:Program)(w:World)(A:Around)(op:CmpOp)(G:Shared->Prop)(P:Nat->Value->Prop)(bt:Nat->Nat->Bool):Prop:=
 ∀i j vi vj (z:Shared) (Q:Value->Shared->Prop) (E:Value->Shared->Prop),G z->P i vi->P j vj->Q (.bool (bt i j)) z->wpAny (model prog w) A (richCompare op vi vj) Q E z
noncomputable def mmO(mx:Bool):CmpOp:=bif mx then .Gt else .Lt
noncomputable def mmN(mx:Bool):String:=bif mx then "max.loop" else "min.loop"
noncomputable def lG:Option Value->Array Value
 |none=>#[]
 |some v=>#[v,v]
section
variable{prog:Program}{w:World}{A:Around}{R:Result->Shared->Prop}{I B:Addr}{kw:List (Str×Value)}{z:Shared}
theorem AM{old:Option Value}{v:Option Value}{Q:Unit->Shared->Prop}{E:Value->Shared->Prop}(e:BG z.heap B (lG old))(h:∀h',BG h' B (lG v)->(∀b o,b≠B->z.heap.get? b=some o->h'.get? b=some o)->Q () {z with heap:=h' }):
  wpAny (model prog w) A (updateSeq B λ_=>lG v) Q E z:=by
 obtain⟨c,e⟩:=e;have l1:(lG old).size<=2:=by cases old<;>simp[lG]
 have l2:(lG v).size<=2:=by cases v<;>simp[lG]
 have:=Gbc;refine wpAny_updateSeq e rfl (h _ ⟨_,Gba _ e rfl⟩ λb o n q=> ?_) (by lia) (by lia);rw[GaT _ _ (Gay n),q]
theorem EA(mx:Bool){old:Option Value}
  (h:wpAny (model prog w) A.in1 (pyNext (.ref I)) (λr s' =>BG s'.heap B (lG old)/\match r,old with
   |none,some v=>∀h',(∀b o,b≠B->s'.heap.get? b=some o->h'.get? b=some o)->R (.ok (.ret v)) {s' with heap:=h' }
   |none,none=>∃k d t,kw=(k,d)::t/\R (.ok (.ret d)) s'
   |some x,some v=>∃bt:Bool,(∀Q E,Q (.bool bt) s' ->wpAny (model prog w) A.in1 (richCompare (mmO mx) x v) Q E s')/\∀h',BG h' B (lG (some (if bt then x else v)))->(∀b o,b≠B->s'.heap.get? b=some o->h'.get? b=some o)->codeAny (model prog w) A (.builtin (mmN mx) ⟨[.ref I,.none,.ref B],kw⟩) R {s' with heap:=h' }
   |some x,none=>∀h',BG h' B (lG (some x))->(∀b o,b≠B->s'.heap.get? b=some o->h'.get? b=some o)->codeAny (model prog w) A (.builtin (mmN mx) ⟨[.ref I,.none,.ref B],kw⟩) R {s' with heap:=h' }) (λ_ _=>False) z)(hB:BG z.heap B (lG old)):
  codeAny (model prog w) A (.builtin (mmN mx) ⟨[.ref I,.none,.ref B],kw⟩) R z:=by
 obtain⟨c,e⟩:=id hB;have quiet:Code.quiet (.builtin (mmN mx) ⟨[.ref I,.none,.ref B],kw⟩)=true:=by cases mx<;>exact plainId_quiet (by decide+kernel) _
 cases mx
 all_goals
  first
  |(apply GcV F.entry_min_loop;rw[GcW F.plain_min_loop])
  |(apply GcV F.entry_max_loop;rw[GcW F.plain_max_loop])
  refine Gab (wpAny_seqItems e rfl (Gab (wpAny_tryCatch (Gbg h (λr s' q=> ?_) λ_ _ q=>q.elim))));obtain⟨e',q⟩:=q;rcases r with _|x<;>rcases old with _|v
  .obtain⟨k,d,t,rfl,q⟩:=q;exact Gab (wpAny_rule (Gah q))
  .exact Gab (AM (v:=none) e' λh' _ k=>Gab (wpAny_letGo (Gah (q h' k))))
  .exact Gab (Gah (Gab (AM (v:=some x) e' λh' l k=>Gah ⟨quiet,q h' l k⟩)))
  .obtain⟨bt,q1,q2⟩:=q;refine Gab (Gah (Gab (wpAny_tryCatch (Gbi (Gab (q1 _ _ (Gab (Gbi (Gbo (Gab (wpAny_letGo (Gah ?_))))))))))));cases bt
   .exact Gab (wpAny_letGo (Gah ⟨quiet,q2 _ e' λ_ _ _ k=>k⟩))
   .exact Gab (AM (v:=some x) e' λh' l k=>Gab (wpAny_letGo (Gah ⟨quiet,q2 h' l k⟩)))
variable{fp wr:List Addr}{n:Nat}{P:Nat->Value->Prop}{St:Nat->Heap->Prop}{G:Shared->Prop}
theorem EC(mx:Bool)(W:Walks prog w A.in1 I fp wr n P St)(bt:Nat->Nat->Bool)(Th:QD prog w A.in1 (mmO mx) G P bt)(hf:B∉fp)
  (hG:∀h' tk,(∀b o,b∉wr->b≠B->z.heap.get? b=some o->h'.get? b=some o)->G {z with heap:=h',toks:=tk})
  (hE:n=0->∃k d t,kw=(k,d)::t/\∀h' tk,(∀b o,b∉wr->b≠B->z.heap.get? b=some o->h'.get? b=some o)->R (.ok (.ret d)) {z with heap:=h',toks:=tk})
  (hR:0<n->∀v h' tk,P (argBest bt (n -1)) v->(∀b o,b∉wr->b≠B->z.heap.get? b=some o->h'.get? b=some o)->R (.ok (.ret v)) {z with heap:=h',toks:=tk}):
  ∀(k i:Nat) (old:Option Value) (h:Heap) (tk:Nat),i+k=n->St i h->BG h B (lG old)->(∀b o,b∉wr->b≠B->z.heap.get? b=some o->h.get? b=some o)->(match old with|none=>i=0|some v=>0<i/\P (argBest bt (i -1)) v)->
   codeAny (model prog w) A (.builtin (mmN mx) ⟨[.ref I,.none,.ref B],kw⟩) R {z with heap:=h,toks:=tk}
 |0,i,old,h,tk,hk,st,l,kp,ho=>by
  cases hk;refine EA mx (W.done {z with heap:=h,toks:=tk} _ _ st λh' yQ k=> ⟨let⟨c,e⟩:=l;⟨c,k B _ (λm=>hf (W.sub _ m)) e⟩, ?_⟩) l;have kp' :∀b o,b∉wr->b≠B->z.heap.get? b=some o->h'.get? b=some o:=λb o q1 q2 q=>k b o q1 (kp b o q1 q2 q);cases old with
  |none=>
   obtain⟨a,d,t,q1,q2⟩:=hE ho;exact⟨a,d,t,q1,q2 h' yQ kp'⟩
  |some v=>exactλh2 k2=>hR ho.1 v h2 yQ ho.2 λb o q1 q2 q=>k2 b o q2 (kp' b o q1 q2 q)
 |k+1,i,old,h,tk,hk,st,l,kp,ho=>by
  refine EA mx (W.item i {z with heap:=h,toks:=tk} _ _ (by lia) st λx h' yQ hP yR k' => ⟨let⟨c,e⟩:=l;⟨c,k' B _ (λm=>hf (W.sub _ m)) e⟩, ?_⟩) l;have kp' :∀b o,b∉wr->b≠B->z.heap.get? b=some o->h'.get? b=some o:=λb o q1 q2 q=>k' b o q1 (kp b o q1 q2 q);have go:∀v h2,BG h2 B (lG (some v))->(∀b o,b≠B->h'.get? b=some o->h2.get? b=some o)->P (argBest bt i) v->codeAny (model prog w) A (.builtin (mmN mx) ⟨[.ref I,.none,.ref B],kw⟩) R {z with heap:=h2,toks:=yQ }:=λv h2 l2 k2 hv=>
   EC mx W bt Th hf hG hE hR k (i+1) (some v) h2 yQ (by lia) (W.frame _ _ _ yR λb m o q=>k2 b o (λe=>hf (e▸m)) q) l2 (λb o q1 q2 q=>k2 b o q2 (kp' b o q1 q2 q)) ⟨Nat.succ_pos _,hv⟩
  cases old with
  |none=>
   cases ho
   exactλh2 l2 k2=>go x h2 l2 k2 hP
  |some v=>
   obtain⟨pos,hv⟩:=ho;obtain⟨j,rfl⟩:∃j,i=j+1:=⟨i -1,by lia⟩
   refine⟨bt (j+1) (argBest bt j),λQ E q=>Th _ _ x v _ Q E (hG h' yQ kp') hP hv q,λh2 l2 k2=>go _ h2 l2 k2 ?_⟩;show P (if bt (j+1) (argBest bt j)=true then j+1 else argBest bt j) _;split
   .exact hP
   .exact hv
theorem CW(a d:Value):argsOk "min" ⟨[a],[(Str.ofString "default",d)]⟩:=by unfold argsOk;kernel_rfl
theorem CY(a d:Value):argsOk "max" ⟨[a],[(Str.ofString "default",d)]⟩:=by unfold argsOk;kernel_rfl
noncomputable def mmF(mx:Bool):String:=bif mx then "max" else "min"
abbrev MMs(prog:Program)(w:World)(A:Around)(mx:Bool)(od:Option Value)(Q:Value->Shared->Prop)(it:Value)(s₂:Shared):Prop:=∃I fp wr n P St bt G,it= .ref I/\Walks prog w A.in1 I fp wr n P St/\St 0 s₂.heap/\(∀b∈fp,b<s₂.heap.objs.size)/\QD prog w A.in1 (mmO mx) G P bt/\
 (∀h' tk,(∀b o,b∉wr->s₂.heap.get? b=some o->h'.get? b=some o)->G {s₂ with heap:=h',toks:=tk})/\(n=0->∃d,od=some d/\∀h' tk,(∀b o,b∉wr->s₂.heap.get? b=some o->h'.get? b=some o)->Q d {s₂ with heap:=h',toks:=tk})/\
 (0<n->∀v h' tk,P (argBest bt (n -1)) v->(∀b o,b∉wr->s₂.heap.get? b=some o->h'.get? b=some o)->Q v {s₂ with heap:=h',toks:=tk})
theorem qI(mx:Bool)(od:Option Value){E Q:Value->Shared->Prop}{it:Value}{s₂:Shared}(q:MMs prog w A mx od Q it s₂):codeAny (model prog w) A (.builtin (mmN mx) ⟨[it,.none,.ref s₂.heap.objs.size],od.toList.map λd=>(Str.ofString "default",d)⟩) (λr s' =>match r with| .ok (.ret v)=>Q v s' | .ok _=>False| .error e=>E e s') {s₂ with heap:=s₂.heap.push {cls:= .type "list",data:= .seq #[]}}:=by
 obtain⟨I,fp,wr,n,P,St,bt,G,rfl,W,st,lt,hc,hG,h0,hv⟩:=q;have up:∀{h' :Heap},(∀b o,b∉wr->b≠s₂.heap.objs.size->s₂.heap.get? b=some o->h'.get? b=some o)->∀b o,b∉wr->s₂.heap.get? b=some o->h'.get? b=some o:=λk b o q e=>k b o q (Gau (Gal e)) e;refine EC (z:=s₂) mx W bt hc (λm=>GaN _ (lt _ m)) (λh' tk k=>hG h' tk (up k)) (λn0=> ?_) (λp v h' tk hp k=>hv p v h' tk hp (up k)) n 0 none _ s₂.toks (Nat.zero_add _) (W.frame _ _ _ st λb _ o e=>Gad _ e) ⟨0,Gat _ rfl⟩ (λb o _ _ e=>Gad _ e) rfl;obtain⟨d,rfl,hd⟩:=h0 n0;exact⟨_,d,_,rfl,λh' tk k=>hd h' tk (up k)⟩
theorem KO(mx:Bool)(od:Option Value){x:Value}{E Q:Value->Shared->Prop}(h:wpAny (model prog w) A.in1 (pyIter x) (MMs prog w A mx od Q) E z):wpAny (model prog w) A (call (.builtin (mmF mx)) [x] (od.toList.map λd=>(Str.ofString "default",d))) Q E z:=by
 have quiet:∀a,Code.quiet (.builtin (mmN mx) a)=true:=λa=>by cases mx<;>exact plainId_quiet (by decide+kernel) _
 cases mx<;>cases od
 .exact Gcl F.kind_min F.plain_min F.entry_min (F.args_min1 _) (Gab (GcG (a:=[none,none]) rfl (Gab (Gah (Gab (on h λ_ _ q=>Gab (GaS (Gah ⟨quiet _,qI _ _ q⟩))))))))
 .exact Gcl F.kind_min F.plain_min F.entry_min (CW _ _) (Gab (GcG (a:=[none,some _]) rfl (Gab (Gah (Gab (on h λ_ _ q=>Gab (GaS (Gah ⟨quiet _,qI _ _ q⟩))))))))
 .exact Gcl F.kind_max F.plain_max F.entry_max (F.args_max1 _) (Gab (GcG (a:=[none,none]) rfl (Gab (Gah (Gab (on h λ_ _ q=>Gab (GaS (Gah ⟨quiet _,qI _ _ q⟩))))))))
 .exact Gcl F.kind_max F.plain_max F.entry_max (CY _ _) (Gab (GcG (a:=[none,some _]) rfl (Gab (Gah (Gab (on h λ_ _ q=>Gab (GaS (Gah ⟨quiet _,qI _ _ q⟩))))))))
end
section
variable{X:Cx}{e a b c:Expr}{f g h:DE}{pos:Pos}
def NQ(K:av)(dv:V)(t:TA):TE:=λσ H Q=>t σ H λvs H1=>∃(p:Addr) (ns:List Int),vs=[.ref p]/\(SqL K H1 p (ns.map V.int)\/SqT K H1 p (ns.map V.int))/\Q (match ns with|[]=>dv|n::ns=> .int (Hq n ns)) H1
variable{dv:V}{dx:Expr}{p kp:Pos}
theorem KP{pos:Pos}{t:TA}(hc:X.calm=true)(hg:Gl X "max")(hm:X.mg "max"=none)(ha:PA X [e] t)(hd:PE X dx (tC dv))(hs:autoParam (starEach [e] X.env=[(false,eval e X.env)]) Za1._auto_1):PE X (.Call (.Name "max" p) [e] [⟨some "default",dx,kp⟩] pos) (NQ X.K dv t):=by
 intro ee z σ H Q I h;refine Gbl (rS I hg hm NF ?_);refine PyProof.Rows.callWith_kw (thn (ha pos ee z σ H _ I h) λus s1 ⟨vs,H1,I1,r1,q1⟩=> ?_) (by rw[hs];rfl) (by rw[hs];rfl) rfl rfl;obtain⟨l,ns,e1,hq,q⟩:=q1;subst e1;cases r1 with
 |cons r rr=>
  cases rr;cases r;refine PyProof.Rows.kws_cons (thn (hd ee s1 σ H1 (λv H2=>v=dv/\H2=H1) I1 ⟨rfl,rfl⟩) λdu s2 ⟨v,H2,I2,r2,e2,e3⟩=>PyProof.Rows.kws_nil ?_);subst e2 e3;show wpAny _ _ (call (.builtin "max") [.ref l] [(Str.ofString "default",du)]) _ _ _;refine KO true (some du) (BC hc I2 hq λIt fp wr P St s₃ W st lt hP kept=> ⟨It,fp,wr,_,P,St,_,λ_=>True,rfl,W,st,lt,λi j vi vj zz Q' E' _ hi hj yD =>CmpOf.ints_gt (AJ ns) (BE hP) i j vi vj zz Q' E' hi hj yD,λ_ _ _=>trivial,λhn=> ⟨du,rfl,λh' tk hk=> ?_⟩,λhn u h' tk hu hk=> ?_⟩)
  .cases ns with
   |nil=>exact⟨v,H2,kept h' tk hk,r2,q⟩
   |cons n ns=>simp at hn
  .cases ns with
   |nil=>simp at hn
   |cons n ns=>
    obtain⟨t,rfl⟩:=BE hP _ _ hu;rw[show((n::ns).map V.int).length -1=ns.length by simp,HM _ (Gao _),List.take_length];exact⟨.int (Hq n ns),H2,kept h' tk hk,⟨t,rfl⟩,q⟩
theorem KQ{pos:Pos}{dd:D}(hc:X.calm=true)(hg:Gl X "max")(hm:X.mg "max"=none)(he:PEd X e f)(hd:PE X dx (tC dv))(VV:∀K F H,Inn K F H dd dv)(ht:dd.top=false)(hs:autoParam (starEach [e] X.env=[(false,eval e X.env)]) Za1._auto_1):PEd X (.Call (.Name "max" p) [e] [⟨some "default",dx,kp⟩] pos) (mmE Hq dd f):=by
 refine(KP hc hg hm (a8 he ah hs) hd hs).aG ?_;rintro σ H Q ⟨H0,eh,env,rv,E,e,k⟩;obtain⟨r,hr,e⟩:=ef e;refine⟨H0,eh,env,[r],E,by unfold aa ao;rw[hr];rfl,λvs H1 s1 Rs=> ?_⟩;cases Rs with
 |cons R1 tl=>
  cases tl;unfold mmD at e;obtain⟨ds,h1,e⟩:=ef e;obtain⟨ns,h2,e⟩:=Gac.mp e;obtain⟨p,vs,rfl,hq,rr⟩:=CK R1.inn h1;rw[Eo rr h2] at hq;refine⟨p,ns,rfl,hq, ?_⟩;subst e;cases ns with
  |nil=>exact k _ _ s1 ((VV _ _ _).rep λa _ w=>by rw[ht] at w;cases w)
  |cons n ns=>exact k _ _ s1 (.int _)
end
section
variable{X:Cx}{e a b c:Expr}{f g h:DE}{pos:Pos}
theorem KR{K:av}{F:Addr->Prop}{H:Hp}(k:Key):Rep K F H (Kg k) (kV k):=by
 cases k with
 |inl i=>exact .int i
 |inr x=>exact .str x
end
section
variable{X:Cx}{e a b c:Expr}{f g h:DE}{pos:Pos}
variable{H:Hp}
theorem NR{K:av}{F:Addr->Prop}{d:D}{v:V}{k:D}{o:Option D}(i:Inn K F H d v)(e:FI d k=some o):∃p,v= .ref p/\IsD H p:=by
 unfold FI at e;split at e
 .cases i with
  |dK h r=>exact⟨_,rfl,.inl ⟨_,.inl h⟩⟩
 .cases i with
  |dT h r=>exact⟨_,rfl,.inr ⟨_,.inl h⟩⟩
 .cases e
theorem Ih{K:av}{F:Addr->Prop}{dx dy rd:D}{y vz:V}{p:Addr}{o' :Option D}(ix:Inn K F H dx (.ref p))(iy:Inn K F H dy y)(e:FI dx dy=some o')(rz:Rep K F H rd vz):∃o,pO H p y o/\Rep K F H (o'.getD rd) (o.getD vz):=by
 obtain⟨g1,g2⟩:=qD ix iy;have fin:∀{Y:Type} [DecidableEq Y] {et:List (Y×D)} {ws:List (Y×V)} {k:Y},b5 K F H et ws->Rep K F H ((look et k).getD rd) ((gL ws k).getD vz):=λ{Y _ et ws k} rp=>by
  cases z:look et k with
  |none=>rw[og rp z];exact rz
  |some d=>obtain⟨v,h1,h2⟩:=jP rp z;rw[h1];exact h2
 unfold FI at e;split at e
 .obtain⟨k',hk,rfl⟩:=Gac.mp e;obtain⟨q,ws,eq,rp,gg⟩:=g1 _ k' rfl hk;cases eq;exact⟨_,gg,fin rp⟩
 .obtain⟨k',hk,rfl⟩:=Gac.mp e;obtain⟨q,ws,eq,rp,gg⟩:=g2 _ _ k' rfl rfl hk;cases eq;exact⟨_,gg,fin rp⟩
 .cases e
theorem ED{apos eL:Pos}{o:Expr}(hu:X.A.units+1<cLine)(ho:PEd X o f)(he:PEd X a g)(hd:PEd X b h)(m:M2 X o "get" apos a b eL):PEd X (.Call (.Attribute o "get" apos) [a,b] [] eL) (Ny f g h):=by
 refine(He hu ho he hd m).aG ?_;rintro σ H Q ⟨H0,eh,env,rv,E,e,k⟩;obtain⟨x,hx,e⟩:=ef e;obtain⟨y,hy,e⟩:=ef e;obtain⟨r,hr,e⟩:=ef e;split at e
 .rename_i hc;obtain⟨o',e',rfl⟩:=Gac.mp e;refine⟨H0,eh,env,x,E,hx,λvx H1 s1 R1=> ?_⟩;obtain⟨p,rfl,hD⟩:=NR R1.inn e';refine⟨p,rfl,hD,H0,eh,env,y,E.mono s1,hy,λvy H2 s2 R2=> ⟨H0,eh,env,r,(E.mono s1).mono s2,hr,λvz H3 s3 R3=> ?_⟩⟩;have rz:Rep X.K (Cln eh env σ) H3 r.d vz:=R3.rep ((E.mono s1).mono s2) (by unfold RV.free;rw[hc]);obtain⟨ov,gg,rp⟩:=Ih ((R1.inn.same s2).same s3) (R2.inn.same s3) e' rz;exact⟨ov,gg,k _ H3 (s1.trans (s2.trans s3)) rp⟩
 .cases e
end
section
variable{prog:Program}{w:World}{A:Around}{E:Value->Shared->Prop}{s:Shared}
theorem tR(d:Addr)(hd:(d==sysModules)=false):MeetsIn prog w (Builtin.«dict.items» ⟨[.ref d],[]⟩) (λ_ R s=>s.TypeIs (.ref d) "dict"/\R (.ok (.ret (.ref s.heap.objs.size))) {s with heap:=s.heap.push {cls:= .type "dict_items",data:= .fields #[.ref d]}}):=by
 apply MeetsIn.of_wp;rintro A R s ⟨hm,h⟩
 wp_walk using GcQ hm,GaS
 .exact⟨_,rfl,h⟩
 .size_fits
variable{ep:Nat}
theorem uU{v d:Addr}{es:Array DictEntry}{Q:Value->Shared->Prop}(hv:s.heap.IsItemsView v d)(hm:HU s.heap d es ep)
  (hQ:Q (.ref s.heap.objs.size) {s with heap:=s.heap.push {cls:= .type "dict_itemiterator",data:= .fields #[.none,.bool false,.ref d,.int 0 0,.int es.size 0,.int ep 0,.none,.none]}}):wpAny (model prog w) A (pyIter (.ref v)) Q E s:=by
 have f:FO s.heap v _ _:=hv;apply wpAny_pyIter_slot f.ty F.slot_dict_items_iter;apply GbE F.slot_dict_items_iter f.ty F.entry_dict_items_iter (ha:=F.args_dict_items_iter_1 _)
 wp_walk using mr (i:=0) (x:= .ref d) f rfl,HV hm,Mh hm,GaS
 .exact⟨_,rfl,_,_,⟨_,Gat _ rfl,rfl⟩,Gcc.lookup,hQ⟩
 .simp[sizeOk,Builtin.Dict_items.ownsTuple,Builtin.Dict_items.ownedTupleFields,Gbc]
abbrev ItI(h:Heap)(it d:Addr)(i n ep:Nat)(f0 f1 ok ov:Value):Prop:=FO h it "dict_itemiterator" #[f0,f1,.ref d,.int i 0,.int n 0,.int ep 0,ok,ov]
def Kept(h:Heap)(it:Addr)(f0 f1:Value):Prop:=f0= .none\/∃(a:Addr) (oa:Obj) (f:Bool),f0=rawInt a/\f1= .bool f/\h.get? a=some oa/\a≠it
variable{f0 f1 ov:Value}{it:Addr}
theorem G2{x2 x3 x4 x5 ok k v:Value}{Q:Value->Shared->Prop}(f:FO s.heap it "dict_itemiterator" #[f0,f1,x2,x3,x4,x5,ok,ov])(hf:Kept s.heap it f0 f1)
  (h:∀h' g0 g1 zY zX,FO h' it "dict_itemiterator" #[g0,g1,x2,x3,x4,x5,zY,zX]->((f0= .none/\g0=rawInt s.heap.objs.size/\g1= .bool false)\/(f0≠ .none/\g0=f0/\g1= .bool true))->
   h'.get? s.heap.objs.size=some {cls:= .type "tuple",data:= .seq #[k,v]}->h'.objs.size=s.heap.objs.size+1->(∀b o,b≠it->s.heap.get? b=some o->h'.get? b=some o)->Q (.ref s.heap.objs.size) {s with heap:=h' }):
  wpAny (model prog w) A (Builtin.Dict_items.pairFromOwner (.ref it) 6 k v) Q E s:=by
 have ne:s.heap.objs.size≠it:=Gbp f.lt;apply Gab;refine wpAny_newTuple ?_;have f2:=f.at λo=>Gad {cls:= .type "tuple",data:= .seq #[k,v]};have t2:(s.heap.push {cls:= .type "tuple",data:= .seq #[k,v]}).get? s.heap.objs.size=_:=Gat _ rfl;have k2:∀b o,s.heap.get? b=some o->(s.heap.push {cls:= .type "tuple",data:= .seq #[k,v]}).get? b=some o:=λb o=>Gad _;have z2:(s.heap.push {cls:= .type "tuple",data:= .seq #[k,v]}).objs.size=s.heap.objs.size+1:=GbM ..;generalize s.heap.push {cls:= .type "tuple",data:= .seq #[k,v]}=p at*;have fin:∀h',Heap.SameBut it p h' ->h'.get? s.heap.objs.size=some {cls:= .type "tuple",data:= .seq #[k,v]}/\h'.objs.size=s.heap.objs.size+1/\∀b o,b≠it->s.heap.get? b=some o->h'.get? b=some o:=λh' sb=> ⟨sb.extBut _ _ ne t2,sb.1.trans z2,λb o n e=>sb.extBut b o n (k2 b o e)⟩;rcases hf with rfl| ⟨a,oa,b,rfl,rfl,ha,Wq⟩
 .wp_walk using mr (i:=0) (x:= .none) f2 rfl,mr (i:=6) (x:=ok) f2 rfl,mr (i:=7) (x:=ov) f2 rfl,kX f2
  .rintro h3 ⟨f3,s3⟩;refine Gab (kX f3 (λh4 ⟨f4,s4⟩=>Gab (kX f4 (λh5 ⟨f5,s5⟩=>Gab (kX f5 (λh6 ⟨f6,s6⟩=>Gab (wpAny_letGo (Gah ?_))) (by simp))) (by simp))) (by simp));obtain⟨q1,q2,q3⟩:=fin h6 (((s3.trans s4).trans s5).trans s6);exact h h6 _ _ _ _ f6 (.inl ⟨rfl,rfl,rfl⟩) q1 q2 q3
  .show _<8;decide
 .wp_walk using mr (i:=0) (x:=rawInt a) f2 rfl,PySem.W.kdx_alive (k2 a oa ha),mr (i:=1) (x:= .bool b) f2 rfl
  have q1:(Value.bool b !=Value.bool true)= !b:=by cases b<;>rfl
  rw[q1];have no:rawInt (a:Int)≠Value.none:=by simp[rawInt]
  cases b with
  |true=>
   wp_walk
   obtain⟨q1,q2,q3⟩:=fin p (Heap.SameBut.refl _ _);exact h p _ _ _ _ f2 (.inr ⟨no,rfl,rfl⟩) q1 q2 q3
  |false=>
   wp_walk using kX f2
   .rintro h3 ⟨f3,s3⟩
    wp_walk
    obtain⟨q1,q2,q3⟩:=fin h3 s3;exact h h3 _ _ _ _ f3 (.inr ⟨no,rfl,rfl⟩) q1 q2 q3
   .show _<8;decide
variable{i:Nat}
theorem nC{d:Addr}{es:Array DictEntry}{ok:Value}{Q:Option Value->Shared->Prop}(hh:A.handled=none)(hit:ItI s.heap it d i es.size ep f0 f1 ok ov)(hm:HU s.heap d es ep)(hf:Kept s.heap it f0 f1)
  (hQ:∀e h' g0 g1 zY zX,es[i]? =some e->ItI h' it d (i+1) es.size ep g0 g1 zY zX ->((f0= .none/\g0=rawInt s.heap.objs.size/\g1= .bool false)\/(f0≠ .none/\g0=f0/\g1= .bool true))->
   h'.get? s.heap.objs.size=some {cls:= .type "tuple",data:= .seq #[e.key,e.val]}->(∀b o,b≠it->s.heap.get? b=some o->h'.get? b=some o)->Q (some (.ref s.heap.objs.size)) {s with heap:=h' })
  (hE:∀h',es.size<=i->Heap.ExtBut it s.heap h' ->Q none {s with heap:=h' }):wpAny (model prog w) A (pyNext (.ref it)) Q E s:=by
 have hT:=hit.ty
 wp_walk using GbR hT Gcc,GbE Gcc hT F.entry_dict_itemiterator_next (ha:=F.args_dict_itemiterator_next_1 _),HV hm,Mh hm,NK hit,GbZ hT
 rw[Qw];cases h:es[i]? with
 |some e=>
  wp_walk using GbZ hT,wpAny_isOneOf_itemiter hT,kX hit
  .rintro h1 ⟨f,hs⟩;replace f:ItI h1 it d (i+1) es.size ep f0 f1 ok ov:=f;have kp:Kept h1 it f0 f1:=hf.imp id λ⟨a,o,b,q1,q2,q3,q4⟩=> ⟨a,o,b,q1,q2,hs.extBut a o q4 q3,q4⟩
   wp_walk using wpAny_isOneOf_itemiter f.ty,G2 f kp
   intro h' g0 g1 zY zX f' g t _ k;rw[show h1.objs.size=s.heap.objs.size from hs.1] at*;exact Gah ⟨_,rfl,Gah (hQ e h' g0 g1 zY zX h f' g t λb o n q=>k b o n (hs.extBut b o n q))⟩
  .show _<8;decide
 |none=>
  wp_walk using GbZ hT,kX hit
  .rintro h' ⟨f,hs⟩;exact Mi hh λh2 a k=>Gab (Es k.2 (Gah (hE h2 (by simpa using h) λb o n e=>k.1 b o (hs.extBut b o n e))))
  .show _<8;decide
theorem Ij{elts:List Expr}{x1}{pos:Pos}{d a:Addr}{n:Nat}{ok:Value}{Q:Unit->Shared->Prop}(he:ItI s.heap it d i n ep (rawInt a) f1 ok ov)
  (hQ:∀h',ItI h' it d i n ep .none f1 ok ov->Heap.SameBut it s.heap h' ->Q () {s with heap:=h' }):
  wpAny (model prog w) A (letOwnedTupleGo (.Tuple elts x1 pos) (.ref it) (.ref a)) Q E s:=by
 obtain⟨⟨c,dc,dt,sl⟩,ho,hc,hd⟩:=id he;cases hc;cases hd
 apply Gab;apply wpAny_load ho;apply wpAny_ite_split<;>intro hi
 .exact Gab (wpAny_rule (kX he (λh' k=>hQ h' k.1 k.2) (by simp)))
 .exact absurd (by simp) hi
end
section
variable{X:Cx}{e a b c:Expr}{f g h:DE}{pos:Pos}{ee:List (Addr×Obj)}{σ:St}{H:Hp}{s:Shared}
variable{o:Obj}{et:List (List Key×V)}
theorem _root_.L2.Inv.freeze{d:Addr}(I:Inv X ee σ H s)(e:H d=some (.dT et))(ho:s.heap.get? d=some o):Inv X ee σ (upd H d (.frz o (.dT et))) s:=by
 have:=qu (t' :=s.toks) (h' :=s.heap) (ob:= .frz o (.dT et)) I (by rw[e];trivial) (Heap.SameBut.refl _ _) ⟨o,ho⟩
  ⟨ho,(I.hok d _ e).dC (λb u _ q=>q) (λb q=>by rw[ak (oR q e (by simp))];exact q) λb xs q=>by rw[ak (oR q e (by simp))];exact q⟩
 exact this
theorem _root_.L2.Inv.NS{d:Addr}(I:Inv X ee σ H s)(e:H d=some (.frz o (.dT et)))(hn:∀o u,X.H0 d≠some (.frz o u)):Inv X ee σ (upd H d (.dT et)) s:=by
 have ne:∀{b:Addr},H b=none->b≠d:=λq z=>by rw[z,e] at q;cases q
 have nt:∀{b:Addr} {u:HO},H b=some u->u≠ .frz o (.dT et)->b≠d:=λq hu z=>by rw[z,e] at q;cases q;exact hu rfl
 refine⟨I.ok,I.os,I.bare,⟨I.base.keep,I.base.slot,λb ob q n hx=> ?_,I.base.there,λb xs q=> ?_,λb ob u q=> ?_,λb ps q=> ?_⟩,I.loc,I.cell, ?_,λx c q=> ?_,λp hp=> ?_,λb u q=> ?_,I.len⟩
 .have:=I.base.free b ob q n hx;rw[ak (ne this)];exact this
 .have:=I.base.o9 b xs q;rw[ak (nt this (by simp))];exact this
 .have:=I.base.mL b ob u q;rw[ak (λz=>hn ob u (by rw[<-z];exact q))];exact this
 .obtain⟨more,q'⟩:=I.base.qj b ps q;exact⟨more,by rw[ak (nt q' (by simp))];exact q'⟩
 .rw[ak (ne I.free)];exact I.free
 .rw[ak (ne (I.jc x c q))];exact I.jc x c q
 .obtain⟨h1,h2,h3⟩:=I.pin p hp;exact⟨h1,by rw[ak (ne h2)];exact h2,h3⟩
 .have st:∀{b:Addr} {u:HO},bx X.prog X.w H s.heap b u->bx X.prog X.w (upd H d (.dT et)) s.heap b u:=λx=>
   x.dC (λ_ _ _ q=>q) (λc q=>by rw[ak (nt q (by simp))];exact q) λc xs q=>by rw[ak (nt q (by simp))];exact q
  by_cases hb:b=d
  .subst hb;rw[aC] at q;cases q
   exact st (I.hok b _ e).2
  .rw[ak hb] at q;exact st (I.hok b _ q)
variable{ep:Nat}
theorem EF{d:Addr}{es:Array DictEntry}(I:Inv X ee σ H s)(e:H d=some (.frz o (.dT et)))(hd:o.data= .dict es ep):HU s.heap d es ep/\es.size=et.length/\
  ∀(i:Nat) p,et[i]? =some p->∃b en,es[i]? =some en/\en.key= .ref b/\H b=some (.tup (p.1.map kV))/\RelV p.2 en.val:=by
 obtain⟨ho,h1,h2,xs,kt,o',yf,TV,yB,hx,xY,he,_⟩:=I.hok d _ e;rw[ho] at yB;cases yB
 rw[hd] at xY;cases xY
 have hl:et.length=xs.length:=Paired.length kt;have hs:es.size=xs.length:=by rw[<-GbB,he,Gaq]
 refine⟨⟨o,ho,hx,hd⟩,by lia,λi p hp=> ?_⟩;have hi:i<xs.length:=by rw[<-hl];exact(Gae.mp hp).1
 have rel:∀{l:List (List Key×V)} {m:List (List Key×Addr×Value)},Paired (λ(p:List Key×V) (q:List Key×Addr×Value)=>p.1=q.1/\H q.2.1=some (.tup (p.1.map kV))/\RelV p.2 q.2.2) l m->∀(i:Nat) p q,l[i]? =some p->m[i]? =some q->H q.2.1=some (.tup (p.1.map kV))/\RelV p.2 q.2.2:=by
  intro l m q;induction q with
  |nil=>intro i p q h;simp at h
  |cons hq t ih=>
   intro i p' q' h1 h2;cases i with
   |zero=>simp at h1 h2;subst h1 h2;exact hq.2
   |succ i=>exact ih i p' q' (by simpa using h1) (by simpa using h2)
 obtain⟨r1,r2⟩:=rel kt i p xs[i] hp (by simp[hi]);refine⟨xs[i].2.1,entryOfKey (tupleKind (cy X.prog X.w)) xs[i], ?_,rfl,r1,r2⟩;have:es.toList[i]? =some (entryOfKey (tupleKind (cy X.prog X.w)) xs[i]):=by rw[he,Gas];simp[hi]
 simpa using this
noncomputable def NT(d:Addr)(o:Obj)(et:List (List Key×V)):It:=
 ⟨λi H=>H d=some (.frz o (.dT et))/\i<et.length,λi H x H' =>∃p b q,et[i]? =some p/\H b=some (.tup (p.1.map kV))/\H q=none/\x= .ref q/\H' =upd H q (.tup [.ref b,p.2]),λi H=>H d=some (.frz o (.dT et))/\et.length<=i⟩
variable{w:World}
theorem CZ{prog:Program}{A:Around}{E:Value->Shared->Prop}{s:Shared}{it d:Addr}{i n:Nat}{f0 f1 ok ov:Value}{Q:Value->Shared->Prop}(hit:ItI s.heap it d i n ep f0 f1 ok ov)(h:Q (.ref it) s):wpAny (model prog w) A (pyIter (.ref it)) Q E s:=by
 have hT:=hit.ty;apply wpAny_pyIter_slot hT Gcz;apply GbE Gcz hT PySem.W.kcp_entry (ha:=PySem.F.args_dict_itemiterator_iter_1 _);exact Gah ⟨_,rfl,_,_,hT,PySem.F.slot_dict_itemiterator_next.lookup,h⟩
variable{tp:Pos}{elts:List Expr}
theorem D0{P:Program}{K:av}{x1}(it d:Addr)(o:Obj)(et:List (List Key×V))(es:Array DictEntry)(ep:Nat)(hd:o.data= .dict es ep)(yG:d≠it):
  Turn P w K (.Tuple elts x1 tp) (NT d o et) [it] it (λi h=>∃f1 ok ov,ItI h it d i es.size ep .none f1 ok ov) where
 mem:=by simp
 obj:=λi h st b hb=>by
  have e:b=it:=by simpa using hb
  subst e;obtain⟨f1,ok,ov,o,e,c,d⟩:=st;exact⟨o,e,λv z=>by rw[d] at z;cases z⟩
 keep:=λi h h' st k=>let⟨f1,ok,ov,e⟩:=st;⟨f1,ok,ov,e.at (k it (by simp))⟩
 item:=by
  intro X hP hw hK hc i ee s σ H E I hf st hg;subst hP hw hK;obtain⟨he,hi⟩:=hg;obtain⟨hr,hz,hx⟩:=EF I he hd;obtain⟨f1,ok,ov,hit⟩:=st;obtain⟨b,en,q1,q2,q3,q4⟩:=hx i et[i] (by simp[hi]);refine nC (I.ok.hd hc) hit hr (.inl rfl) (λWz h' g0 g1 zY zX Vk yv hg hT kk=> ⟨_,rfl, ?_⟩) λ_ hl _=>absurd hl (by lia);cases q1.symm.trans Vk;have hg0:g0=rawInt s.heap.objs.size:=by
   rcases hg with⟨_,z,_⟩| ⟨z,_⟩
   .exact z
   .exact absurd rfl z
  subst hg0;refine Ij (s:={s with heap:=h' }) yv λh2 Te sb=> ?_;have xy:it<s.heap.objs.size:=hit.lt;have kept:∀b o,b∉[it]->s.heap.get? b=some o->h2.get? b=some o:=λb o hb e=>by
   have b1:b≠it:=λz=>hb (by simp[z]);exact(sb.2 b b1).trans (kk b o b1 e)
  have To:h2.get? s.heap.objs.size=some {cls:= .type "tuple",data:= .seq #[en.key,en.val]}:=(sb.2 _ (Gbp xy)).trans hT;have I1:Inv X ee σ (upd H s.heap.objs.size (.tup [.ref b,et[i].2])) {s with heap:=h2}:=I.uS (ch:=[it]) hf rfl rfl kept (Gao _) (by
   refine⟨by simp[Gbc],[en.key,en.val],.cons q2 (.cons q4 .nil),_,To,rfl,0,rfl⟩)
  refine⟨.ref s.heap.objs.size,_,I1,rfl,⟨et[i],b,_,by simp[hi],q3,I.fresh,rfl,rfl⟩,⟨_,_,_,Te⟩,λb' hb=> ?_⟩;have z:b' =it:=by simpa using hb
  subst z;rw[ak (Gau xy)];exact(hf b' hb).1
 done:=by
  intro X hP hw hK hc i ee s σ H E I hf st hg;subst hP hw hK;obtain⟨he,hi⟩:=hg;obtain⟨hr,hz,hx⟩:=EF I he hd;obtain⟨f0,f1,f2,f3,f4,f5⟩:=hf it (by simp);obtain⟨Wu,ok,ov,hit⟩:=st;exact nC (I.ok.hd hc) hit hr (.inl rfl) (λ_ _ _ _ _ _ q=>absurd (Gbr.mp q).1 (by lia)) λh' _ eb=> ⟨rfl,I.turned (t' :=s.toks) (λb o hb e=>eb b o hb e) f0 f1 f3 f4 f5⟩
 self:=λ_ _ _ _ _ st h=>let⟨_,_,_,e⟩:=st;CZ e h
def Ik(X:Cx)(J:Addr->Obj->List (List Key×V)->It)(to:TE):TI:=λσ H R=>to σ H λx H1=>∃d et,x= .ref d/\H1 d=some (.dT et)/\∀o,(∀o u,X.H0 d≠some (.frz o u))->R (J d o et) (upd H1 d (.frz o (.dT et)))
theorem BL{o:Expr}{x1}{to:TE}{apos eL:Pos}(ho:PE X o to)(xm:autoParam (attributeBase o "items" X.env (eval o X.env)=eval o X.env) Za1._auto_1)(xh:autoParam ((apos.endLine==eL.line)=true) Za1._auto_1):PI X (.Tuple elts x1 tp) (.Call (.Attribute o "items" apos) [] [] eL) (Ik X NT to):=by
 intro ee s σ H R I h;refine wpAny_Call_method0_late xm xh (thn (ho ee s σ H _ I h) λv s1 ⟨x,H1,I1,r1,d,et,ex,hd,q1⟩=> ?_);subst ex;cases r1;obtain⟨_,yp,xs,kt,ob,es,ep,Uo,hx,SV,he,_⟩:=DU I1.hok hd;obtain⟨t1,t2,_⟩:=Ax I1 (.inr ⟨et,.inl hd⟩);refine⟨"dict","dict.items",GbS,PySem.F.slot_dict_items,PySem.F.type_dict_items,t1,t2,Gbq rfl (PySem.evalArgs_none ?_)⟩;refine GcU PySem.F.slot_dict_items t1 PySem.F.entry_dict_items (PySem.F.args_dict_items_1 _) (tR d yp) ⟨t1, ?_⟩;generalize hh1:s1.heap.push {cls:= .type "dict_items",data:= .fields #[.ref d]}=h1;have hv:h1.IsItemsView s1.heap.objs.size d:=by rw[<-hh1];exact⟨_,Gat _ rfl,rfl,rfl⟩
 have k1:∀b u,s1.heap.get? b=some u->h1.get? b=some u:=λb u q=>by rw[<-hh1];exact Gad _ q
 have I2:Inv X ee σ H1 {s1 with heap:=h1}:=I1.kept (t' :=s1.toks) k1;refine uU (s:={s1 with heap:=h1}) hv ⟨ob,k1 _ _ Uo,hx,SV⟩ ?_;have I3:Inv X ee σ H1 {s1 with heap:=h1.push {cls:= .type "dict_itemiterator",data:= .fields #[.none,.bool false,.ref d,.int 0 0,.int es.size 0,.int ep 0,.none,.none]}}:=I2.kept (t' :=s1.toks) λb u q=>Gad _ q;have I4:=I3.freeze hd (o:=ob) (Gad _ (k1 _ _ Uo));have xy:d<h1.objs.size:=Gal (k1 _ _ Uo);have fresh:(upd H1 d (.frz ob (.dT et))) h1.objs.size=none:=by
  rw[ak (Gbp xy)];exact I2.fresh
 refine⟨h1.objs.size,[h1.objs.size],_,_,_,rfl,I4,D0 _ d ob et es ep SV (Gau xy),⟨_,_,_,_,Gat _ rfl,rfl,rfl⟩,λb hb=> ?_,q1 ob λo u z=> ?_⟩
 .have z:b=h1.objs.size:=by simpa using hb
  subst z;exact I2.Fo (Gao _) fresh
 .have:=I1.base.mL d o u z;rw[hd] at this;cases this
end
section
variable{X:Cx}{e a b c:Expr}{f g h:DE}{pos:Pos}
def D1(J:Addr->Obj->List (List Key×V)->It)(vw:List (List Key×D)->List D):Prop:=
 ∀{K:av} {Hf:Hp} {a:Addr} {o:Obj} {ws:List (List Key×V)} {et:List (List Key×D)} {F F' Nn:Addr->Prop},Hf a=some (.frz o (.dT ws))->b5 K F Hf et ws->
  (∀b u,Hf b=some u->(F b\/isT u)->Nn b)->(∀b,F b->Hf b≠none->F' b)->FK K F' Nn (J a o ws) (vw et) Hf
variable{H:Hp}
theorem A2{Y:Type}{K:av}{F:Addr->Prop}{et:List (Y×D)}{ws:List (Y×V)}(r:b5 K F H et ws):et.length=ws.length:=by
 have:=congrArg List.length r.1
 simpa using this
variable{i:Nat}
theorem G3{Y:Type}{K:av}{F:Addr->Prop}{et:List (Y×D)}{ws:List (Y×V)}(r:b5 K F H et ws){p:Y×D}(e:et[i]? =some p):∃q,ws[i]? =some q/\p.1=q.1/\Rep K F H p.2 q.2:=by
 have hi:i<ws.length:=by rw[<-A2 r];exact(Gae.mp e).1
 have hq:ws[i]? =some ws[i]:=GaF hi;refine⟨ws[i],hq, ?_,r.2 i p _ e hq⟩;have:=congrArg (λl=>l[i]?) r.1;simp only[Gas,e,hq,Option.map_some,Gde] at this;exact this
theorem uV:D1 NT cA:=by
 intro K Hf a o ws et F F' Nn hA r hN hF Hi keep;have V6:Hi a=some (.frz o (.dT ws)):=keep a _ hA (hN a _ hA (.inr trivial));have r' :b5 K F' Hi et ws:=r.gen (λb u hb q=>keep b u hb (hN b u hb q)) hF;refine⟨λi d hd=> ?_,V6,by unfold cA;rw[Gaq,A2 r];exact Gao _⟩;unfold cA at hd;rw[Gas] at hd;obtain⟨p,hp,rfl⟩:=Gac.mp hd;obtain⟨q,h1,h2,h3⟩:=G3 r' hp;refine⟨⟨V6,(Gae.mp h1).1⟩,λx H2 ⟨q',b,t,e2,e3,e4,e5,e6⟩=> ?_⟩;subst e5 e6;rw[h1] at e2;cases e2
 refine⟨c4 e4,gy e4 (.cons ?_ (.cons h3 .nil))⟩;have rs:aT K F' Hi (p.1.map Kg) (q.1.map kV):=by rw[h2];exact BK λk=>KR k
 exact .tup e3 rs.1 rs.2
variable{vw:List (List Key×D)->List D}{tg iter:Expr}
theorem KS{J:Addr->Obj->List (List Key×V)->It}(hi:PI X tg iter (Ik X J (tE X f)))(hv:D1 J vw):PId X tg iter (Hs vw f):=by
 refine hi.aG ?_;rintro σ H R ⟨H0,eh,env,ds,E,hf,k⟩;obtain⟨⟨kd,d⟩,hr,hf⟩:=ef hf;split at hf
 .rename_i hk;have zm :kd= .tn:=hk;subst zm;split at hf
  .rename_i et hd;have xY :d= .dT et:=hd;subst xY;cases hf;refine⟨H0,eh,env,⟨.tn,.dT et⟩,E,hr,λv H1 s1 Rv=> ?_⟩;obtain⟨a,ev,hn,wr,_,ii⟩:=Rv;subst ev;cases ii with
   | @dT _ ws _ h r=>
    refine⟨a,ws,rfl,h,λo SK=> ?_⟩;have sm:bz H (upd H1 a (.frz o (.dT ws))):=λb u q=>by
     rw[ak (bc q hn)];exact s1 b u q
    have E1:=E.mono sm;refine k _ _ sm (hv aC (r.gen (λb u hb q=> ?_) λb q _=>q) (λb u hb q=> ?_) λb q hb=> ⟨q.1,hb⟩)
    .have:b≠a:=by
      rcases q with q|q
      .exact q.2
      .intro z;subst z;rw[h] at hb;cases hb;exact q
     rw[ak this];exact hb
    .rcases q with q|q
     .exactλ⟨i,h1,h2⟩=>q.1.2 i h1.ol.top h2
     .exactλw=>E1.gA w hb q
  .cases hf
 .cases hf
variable{apos eL tp:Pos}{elts:List Expr}
theorem Il{o:Expr}{x1}(ho:PEd X o f)(xm:autoParam (attributeBase o "items" X.env (eval o X.env)=eval o X.env) Za1._auto_1)(xh:autoParam ((apos.endLine==eL.line)=true) Za1._auto_1):PId X (.Tuple elts x1 tp) (.Call (.Attribute o "items" apos) [] [] eL) (Hs cA f):=KS (BL ho xm xh) uV
variable{j:Nat}{env:Env}
theorem lH{sl:Slot}(h:(env.set i none)[j]? =some (some sl)):j≠i/\env[j]? =some (some sl):=by
 by_cases z:i=j
 .subst z;rw[Gdg] at h;simp at h
 .rw[Gaa z] at h;exact⟨Gay z,h⟩
theorem qJ(h:b6 (env.set i none)[j]?):j≠i/\b6 env[j]? :=by
 by_cases z:i=j
 .subst z;rw[Gdg] at h;split at h
  .split at h<;>exact h.elim
  .exact absurd rfl (by assumption)
 .rw[Gaa z] at h;exact⟨Gay z,h⟩
theorem BM(h:mV (env.set i none)[j]?):j≠i/\mV env[j]? :=by
 by_cases z:i=j
 .subst z;rw[Gdg] at h;split at h
  .split at h<;>exact h.elim
  .exact absurd rfl (by assumption)
 .rw[Gaa z] at h;exact⟨Gay z,h⟩
variable{ws:List (List Key×V)}{o:Obj}{σ:St}{H0:Hp}
theorem aA.QE{K:av}{eh:Addr->Prop}{a:Addr}(E:aA K H0 eh env σ H)(ti:b6 env[i]?)(ea:σ[i]? =some (some (.ref a)))
  (yY:∀j:Nat,j≠i->b6 env[j]? ->σ[j]? ≠some (some (.ref a)))(hH:H a=some (.dT ws)):
  aA K (λb=>if b=a then none else H0 b) (λb=>eh b\/b=a) (env.set i none) σ (upd H a (.frz o (.dT ws)))/\∀b,Cln (λb=>eh b\/b=a) (env.set i none) σ b↔Cln eh env σ b:=by
 have cl:∀b,Cln (λb=>eh b\/b=a) (env.set i none) σ b↔Cln eh env σ b:=λb=>by
  constructor
  .intro q;refine⟨λz=>q.1 (.inl z),λj tj ej=> ?_⟩;by_cases z:j=i
   .subst z;rw[ea] at ej;cases ej;exact q.1 (.inr rfl)
   .exact q.2 j (by rw[Gaa (Gay z)];exact tj) ej
  .intro q;refine⟨λz=> ?_,λj tj ej=>q.2 j (qJ tj).2 ej⟩;rcases z with z|z
   .exact q.1 z
   .subst z;exact q.2 i ti ea
 have na:¬Cln eh env σ a:=λq=>q.2 i ti ea;have dC:j5 (Cln eh env σ) H (upd H a (.frz o (.dT ws))):=λb u hb q=>by
  have:b≠a:=by
   rcases q with q|q
   .intro z;subst z;exact na q
   .intro z;subst z;rw[hH] at hb;cases hb;exact q
  rw[ak this];exact hb
 have hF:∀b,Cln eh env σ b->H b≠none->Cln (λb=>eh b\/b=a) (env.set i none) σ b:=λb q _=>(cl b).mpr q;refine⟨⟨λb u q=> ?_,by rw[List.length_set];exact E.len,λb q=> ?_,λj d q=> ?_,λj d q=> ?_,λj d q=> ?_,λj k b tj tk ej ek=> ?_⟩,cl⟩
 .by_cases z:b=a
  .subst z;rw[Gaf rfl] at q;cases q
  .rw[Gag z] at q;rw[ak z];exact E.same b u q
 .rcases q with q|q
  .by_cases z:b=a
   .subst z;rw[aC];simp
   .rw[ak z];exact E.bad b q
  .subst q;rw[aC];simp
 .obtain⟨v,h1,h2⟩:=E.sh j d (lH q).2;exact⟨v,h1,h2.gen dC hF⟩
 .have q' :j≠i/\(env[j]? =some (some (.own d))\/env[j]? =some (some (.lok d))):=by
   rcases q with q|q
   .exact⟨(lH q).1,.inl (lH q).2⟩
   .exact⟨(lH q).1,.inr (lH q).2⟩
  have tj:b6 env[j]? :=by rcases q'.2 with z|z<;>rw[z]<;>trivial
  obtain⟨a',h1,h2,h3,h4,h5,h6⟩:=E.ow j d q'.2;have ne:a' ≠a:=λz=>yY j q'.1 tj (by rw[h1,z]);refine⟨a',h1,by rw[Gag ne];exact h2,λz=>z.elim h3 ne, ?_,h5,h6.gen dC hF λb eb _ u hu=> ?_⟩
  .obtain⟨u,hu,wu⟩:=h4;exact⟨u,by rw[ak ne];exact hu,wu⟩
  .cases eb;rw[ak ne];exact hu
 .have q' :=lH q;have tj:b6 env[j]? :=by rw[q'.2];trivial
  obtain⟨a',h1,h4,h5,h6⟩:=E.bo j d q'.2;have ne:a' ≠a:=λz=>yY j q'.1 tj (by rw[h1,z]);refine⟨a',h1, ?_,h5,h6.gen dC hF λb eb _ u hu=> ?_⟩
  .obtain⟨u,hu,wu⟩:=h4;exact⟨u,by rw[ak ne];exact hu,wu⟩
  .cases eb;rw[ak ne];exact hu
 .exact E.dj j k b (BM tj).2 (qJ tk).2 ej ek
theorem Rep.NS{K:av}{F:Addr->Prop}{a:Addr}{d:D}{v:V}(hH:H a=some (.frz o (.dT ws)))(nf:¬F a)(r:Rep K F H d v):Rep K F (upd H a (.dT ws)) d v:=by
 induction r with
 |non=>exact .non
 |bl b=>exact .bl b
 |int i=>exact .int i
 |str x=>exact .str x
 | @tup b vs ds h l r ih=>
  refine .tup ?_ l ih;rw[ak λz=>by subst z;rw[hH] at h;cases h];exact h
 | @lst b vs ds f h l r ih=>
  have ne:b≠a:=λz=>by subst z;exact nf f
  refine .lst f ?_ l ih;rcases h with h| ⟨o',h⟩
  .exact .inl (by rw[ak ne];exact h)
  .exact .inr ⟨o',by rw[ak ne];exact h⟩
 | @exc b C n v d h r ih=>
  obtain⟨dx,vs,sl,od,h1,h2⟩:=h;exact .exc ⟨dx,vs,sl,od,by rw[ak λz=>by subst z;rw[hH] at h1;cases h1];exact h1,by rw[ak λz=>by subst z;rw[hH] at h2;cases h2];exact h2⟩ ih
 | @obj b dx C ns vs ds h ln l r ih=>exact .obj (by rw[ak λz=>by subst z;rw[hH] at h;cases h];exact h) ln l ih
 | @scr b ns h=>
  refine .scr ?_;rcases h with⟨o',h⟩|h
  .exact .inl ⟨o',by rw[ak λz=>by subst z;rw[hH] at h;cases h];exact h⟩
  .exact .inr h
 | @dK b xo et f h l r ih=>exact .dK f (by rw[ak λz=>by subst z;exact nf f];exact h) l ih
 | @dT b xo et f h l r ih=>exact .dT f (by rw[ak λz=>by subst z;exact nf f];exact h) l ih
variable{et:List (List Key×D)}
theorem Mj{a:Addr}{K:av}{F:Addr->Prop}(ii:Inn K F H (.dT et) (.ref a)):∃ws,H a=some (.dT ws)/\b5 K F H et ws:=by
 cases ii with
 |dT h r=>exact⟨_,h,r⟩
theorem G4{K:av}{eh:Addr->Prop}(E:aA K H0 eh env σ H)(e:dictAt i env=some et):
  ∃a ws,b6 env[i]? /\σ[i]? =some (some (.ref a))/\(∀j:Nat,j≠i->b6 env[j]? ->σ[j]? ≠some (some (.ref a)))/\H a=some (.dT ws)/\b5 K (Cln eh env σ) H et ws:=by
 unfold dictAt at e;have own:∀{d:D},(env[i]? =some (some (.own d))\/env[i]? =some (some (.lok d)))->d= .dT et->∃a ws,b6 env[i]? /\σ[i]? =some (some (.ref a))/\(∀j:Nat,j≠i->b6 env[j]? ->σ[j]? ≠some (some (.ref a)))/\H a=some (.dT ws)/\b5 K (Cln eh env σ) H et ws:=by
  intro d q hd;subst hd;obtain⟨a,h1,h2,h3,h4,h5,h6⟩:=E.ow i _ q;obtain⟨ws,g1,g2⟩:=Mj h6;refine⟨a,ws,by rcases q with z|z<;>rw[z]<;>trivial,h1,λj hj tj ej=>hj (E.dj i j a (by rcases q with z|z<;>rw[z]<;>trivial) tj h1 ej).symm,g1,g2⟩
 split at e
 .rename_i q;cases e;exact own (.inl q) rfl
 .rename_i q;cases e;exact own (.inr q) rfl
 .rename_i q;split at e
  .rename_i hs;cases e;obtain⟨a,h1,h4,h5,h6⟩:=E.bo i _ q;obtain⟨ws,g1,g2⟩:=Mj h6;refine⟨a,ws,by rw[q];trivial,h1,λj hj tj ej=> ?_,g1,g2⟩;have xy:j<env.length:=by
    rcases Gcv j env.length with z|z
    .exact z
    .rw[GaP z] at tj;exact tj.elim
   have hsj:=Gan.mp hs j (Gbs.mpr xy);cases hq:env[j]? with
   |none=>rw[hq] at tj;exact tj.elim
   |some sl=>
    cases sl with
    |none=>rw[hq] at tj;exact tj.elim
    |some sl=>
     cases sl with
     |sh d=>rw[hq] at tj;exact tj.elim
     |own d=>exact hj (E.dj j i a (by rw[hq];trivial) (by rw[q];trivial) ej h1)
     |lok d=>exact hj (E.dj j i a (by rw[hq];trivial) (by rw[q];trivial) ej h1)
     |bor d=>rw[hq] at hsj;simp[hj] at hsj
  .cases e
 .cases e
variable{gd:DG}{eP:List Nat}{n:Nat}{N:List Str}{scope:Scope}{ifs:List Expr}{elt:Expr}
theorem Im{t:DT}{f:DE}{J:Addr->Obj->List (List Key×V)->It}(hc:X.calm=true)(S:mn X scope N n eP)
  (hi:PI X tg iter (Ik X J (Ap i)))(hv:D1 J vw)(zP:wX gd)(B:Blk X scope N tg elt ifs gd t f)
  (hs:∀x,foldedSetIterable iter X.env x=pure x:=by intro _;rfl):PEd X (.ListComp elt [⟨tg,iter,ifs,0⟩] scope pos) (pU vw i n eP gd t f):=by
 intro ee s σ H Q I hw;obtain⟨H0,eh,env,r,E,e,k⟩:=hw;unfold pU at e;obtain⟨et,hk,e⟩:=ef e;split at e
 .rename_i hz;obtain⟨rs,xA,rfl⟩:=Gac.mp e;obtain⟨a,ws,ti,ea,yY,hH,rp⟩:=G4 E hk;obtain⟨cl,h1,h2,h3⟩:=oV (S.cells I);rw[eval_ListComp];refine wpAny_comprehension_free (use:=none) rfl hs h1 S.kind S.HK ?_;refine thn (hi ee s σ H (λJ' H' =>∃o,(∀o u,X.H0 a≠some (.frz o u))/\J' =J a o ws/\H' =upd H a (.frz o (.dT ws))) I ⟨.ref a,ea,a,ws,rfl,hH,λo SK=> ⟨o,SK,rfl,rfl⟩⟩) λv s1 q1=>thn q1 λTC s2 q2=> ?_;obtain⟨it,fp,tn,J2,H2,e,I2,T,T4,f2,o,SK,eJ,eH⟩:=q2;subst e eJ eH;obtain⟨E2,UL⟩:=E.QE (o:=o) ti ea yY hH;have na:¬Cln eh env σ a:=λq=>q.2 i ti ea;have dC:j5 (Cln eh env σ) H (upd H a (.frz o (.dT ws))):=λb u hb q=>by
   have:b≠a:=by
    rcases q with q|q
    .intro z;subst z;exact na q
    .intro z;subst z;rw[hH] at hb;cases hb;exact q
   rw[ak this];exact hb
  have io:FK X.K (λb=>Cln (λb=>eh b\/b=a) (env.set i none) σ b/\(upd H a (.frz o (.dT ws))) b≠none) (λb=>¬Ow (env.set i none) σ b) (J a o ws) (vw et) (upd H a (.frz o (.dT ws))):=
   hv (F:=Cln (λb=>eh b\/b=a) (env.set i none) σ) aC (rp.gen dC λb q _=>(UL b).mpr q) (λb u hb q=>by
    rcases q with q|q
    .exactλ⟨j,h1,h2⟩=>q.2 j h1.ol.top h2
    .exactλw=>E2.gA w hb q) λb q hb=> ⟨q,hb⟩
  refine wZ (RR:=λacc C=>compPost (model X.prog X.w) X.A X.xe none (EP X ee σ Q) acc C) hc S I2 h2 h3 f2 T T4 (λC s' H' =>B.g cl C s' H' fp) (λC s' H' =>B.t cl C s' H' fp) (λC s' H' =>B.e cl C s' H' fp) E2 io zP hz xA ?_;intro p C s' H' m IX hm hC hF G;obtain⟨g1,g2,vs,g3,g4⟩:=G;have hA:H' a=some (.frz o (.dT ws)):=g1 a _ aC;have yU:p≠a:=λz=>by subst z;rw[aC] at g2;cases g2
  refine⟨m,hm,λh' xI => ⟨.ref p,upd H' a (.dT ws),(IX.Mf hF xI).NS hA SK,rfl, ?_⟩⟩;have sm:bz H (upd H' a (.dT ws)):=λb u q=>by
   by_cases z:b=a
   .subst z;rw[aC,<-q,hH]
   .rw[ak z];exact g1 b u (by rw[ak z];exact q)
  have V8 :(upd H' a (.dT ws)) p=some (.lst vs):=by rw[ak yU];exact g3
  refine k _ _ sm ⟨p,rfl,by rw[ak yU] at g2;exact g2,⟨_,V8,trivial⟩,rfl,.lst (.inl V8) ⟨g4.1,λj d v e1 e2=> ?_⟩⟩;have r1:=Rep.NS hA (λq=>na ((UL a).mp q.1)) (g4.2 j d v e1 e2);exact r1.imp λb q=> ⟨(UL b).mp q.1,q.2⟩
 .cases e
theorem qK{x1}{t:DT}{f:DE}{x:Str}{px:Pos}(hN:X.N[i]? =some x)(hv:Vis X.env.scope x)(hc:X.calm=true)(S:mn X scope N n eP)
  (zP:wX gd)(B:Blk X scope N (.Tuple elts x1 tp) elt ifs gd t f)(hd:autoParam ((x==("__debug__":Str))=false) Za2._auto_1)(xp:autoParam ((x==("__classdict__":Str))=false) Za2._auto_1)
  (xm:autoParam (attributeBase (.Name x px) "items" X.env (eval (.Name x px) X.env)=eval (.Name x px) X.env) Za1._auto_1)(xh:autoParam ((apos.endLine==eL.line)=true) Za1._auto_1)
  (hs:∀y,foldedSetIterable (.Call (.Attribute (.Name x px) "items" apos) [] [] eL) X.env y=pure y:=by intro _;rfl):
  PEd X (.ListComp elt [⟨.Tuple elts x1 tp,.Call (.Attribute (.Name x px) "items" apos) [] [] eL,ifs,0⟩] scope pos) (pU cA i n eP gd t f):=Im hc S (BL (g6 hN hv hd xp) xm xh) uV zP B hs
end
open PySem.W (KatLex KatTups kas_sort kas_ask kat_kind kat_lt kat_one kat_run kat_snds BoolBack kat_lt_int)
section
variable{K:av}{H0 H H' H1:Hp}{eh yM :Addr->Prop}{env eD :Env}{σ σ' :St}{d:D}{v:V}{a p:Addr}{i j:Nat}{as:List Addr}{eG:List (List D)}
theorem Io(nb:E9 env=true){k:Nat}(e:env[k]? =some (some (.bor d))):False:=by
 have:=Gan.mp nb _ (GaH e);cases this
theorem aA.Ip{o o' :HO}(E:aA K H0 eh env σ H)(hb:eh a)(h0:H0 a=none)(h:H a=some o)(ho:¬isT o)(nb:E9 env=true):aA K H0 eh env σ (upd H a o'):=by
 have dC:j5 (Cln eh env σ) H (upd H a o'):=λb x hx q=>by
  have:b≠a:=by
   rintro rfl;rcases q with q|q
   .exact q.1 hb
   .rw[h] at hx;cases hx;exact ho q
  rw[ak this];exact hx
 refine⟨λb x hx=> ?_,E.len,λb q z=> ?_,λk dk e=> ?_,λk dk e=> ?_,λk dk e=>(Io nb e).elim,E.dj⟩
 .have:b≠a:=by rintro rfl;rw[h0] at hx;cases hx
  rw[ak this];exact E.same b x hx
 .by_cases m:b=a
  .subst m;rw[aC] at z;cases z
  .rw[ak m] at z;exact E.bad b q z
 .obtain⟨u,h1,h2⟩:=E.sh k dk e;exact⟨u,h1,h2.gen dC λ_ f _=>f⟩
 .obtain⟨b,h1,h2,h3,h4,h5,h6⟩:=E.ow k dk e;have m:b≠a:=λz=>h3 (z▸hb);refine⟨b,h1,h2,h3, ?_,h5,h6.gen dC (λ_ f _=>f) λc ec _ x hx=> ?_⟩
  .unfold Wr;rw[ak m];exact h4
  .cases ec;rw[ak m];exact hx
theorem aA.hide(E:aA K H0 eh env σ H)(i:Nat)(v:V):aA K H0 eh (env.set i none) (σ.set i (some v)) H:=by
 have xr:∀{k:Nat},b6 (env.set i none)[k]? ->i≠k/\b6 env[k]? :=λ{k} t=>by
  by_cases q:i=k
  .subst q;by_cases z:i<env.length
   .rw[bA z] at t;exact t.elim
   .rw[GaP (by simpa using Gco z)] at t;exact t.elim
  .rw[Gaa q] at t;exact⟨q,t⟩
 have hV:∀b,Cln eh env σ b->Cln eh (env.set i none) (σ.set i (some v)) b:=λb h=> ⟨h.1,λk t e=>by
  obtain⟨q,t⟩:=xr t;rw[Gaa q] at e;exact h.2 k t e⟩
 refine⟨E.same,by simp[E.len],E.bad,λk dk e=> ?_,λk dk e=> ?_,λk dk e=> ?_,λk l b t1 t2 e1 e2=> ?_⟩
 .rcases eO e with⟨q,e⟩| ⟨q,e⟩
  .cases e
  .obtain⟨u,h1,h2⟩:=E.sh k dk e;exact⟨u,by rw[Gaa q];exact h1,h2.imp hV⟩
 .have e' :i≠k/\(env[k]? =some (some (.own dk))\/env[k]? =some (some (.lok dk))):=by
   rcases e with e|e
   .rcases eO e with⟨q,e⟩| ⟨q,e⟩
    .cases e
    .exact⟨q,.inl e⟩
   .rcases eO e with⟨q,e⟩| ⟨q,e⟩
    .cases e
    .exact⟨q,.inr e⟩
  obtain⟨b,h1,h2,h3,h4,h5,h6⟩:=E.ow k dk e'.2;exact⟨b,by rw[Gaa e'.1];exact h1,h2,h3,h4,h5,h6.imp hV⟩
 .rcases eO e with⟨q,e⟩| ⟨q,e⟩
  .cases e
  .obtain⟨b,h1,hw,h2,h3⟩:=E.bo k dk e;exact⟨b,by rw[Gaa q];exact h1,hw,h2,h3.imp hV⟩
 .obtain⟨q1,zy⟩:=xr t1.top;obtain⟨q2,t2⟩:=xr t2;rw[Gaa q1] at e1 t1;rw[Gaa q2] at e2;exact E.dj k l b t1 t2 e1 e2
theorem aA.EG{New:Addr->Prop}(E:aA K H0 eh env σ H)(s:bz H H')(h1:∀b,New b->H b=none)(h2:∀b,New b->H' b≠none):aA K H0 (λb=>eh b\/New b) env σ H' :=by
 have hV:∀b,Cln eh env σ b->H b≠none->Cln (λb=>eh b\/New b) env σ b:=λb h n=> ⟨λq=>q.elim h.1 λz=>n (h1 b z),h.2⟩;refine⟨E.same.trans s,E.len,λb q z=>q.elim (λq=>E.bad b q (s.free z)) λq=>h2 b q z,λk dk e=> ?_,λk dk e=> ?_,λk dk e=> ?_,E.dj⟩
 .obtain⟨u,q1,q2⟩:=E.sh k dk e;exact⟨u,q1,q2.gen (.of_same s) hV⟩
 .obtain⟨b,q1,q2,q3,q4,q5,q6⟩:=E.ow k dk e;exact⟨b,q1,q2,λz=>z.elim q3 λz=>q4.there (h1 b z),q4.same s,q5,q6.gen (.of_same s) hV λc ec _ x hx=>s c x hx⟩
 .obtain⟨b,q1,qw,q2,q3⟩:=E.bo k dk e;exact⟨b,q1,qw.same s,q2,q3.gen (.of_same s) hV λc ec _ x hx=>s c x hx⟩
end
abbrev SM:=StateT SortSt Sem
open PySem.W (kas_item)
open PySem.W (kas_item kas_swaps_map)
noncomputable def Rk(rk:Nat->Int)(p:Array Nat)(i:Nat):Int:=rk (p.getD i 0)
structure Ag(lo hi:Nat)(p p' :Array Nat):Prop where
 perm:p'.Perm p
 out:∀k,k<lo\/hi<=k->p'[k]? =p[k]?
theorem Ag.rk{rk:Nat->Int}{lo hi k:Nat}{p q:Array Nat}(a:Ag lo hi p q)(h:k<lo\/hi<=k):Rk rk q k=Rk rk p k:=by
 unfold Rk;have:=a.out k h;simp only[Gcn,this]
section
variable{prog:Program}{w:World}{A:Around}{E:Value->Shared->Prop}{z:Shared}
theorem after{c:Code}{Q:Value->Shared->Prop}{R:Result->Shared->Prop}(h:codeAny (model prog w) A c (wants Q E) z)(k:∀v s',Q v s' ->R (.ok (.ret v)) s')(e:∀x s',E x s' ->R (.error x) s'):codeAny (model prog w) A c R z:=by
 refine Gch h ?_;rintro(x|(v|_|_|_)) s' q
 .exact e x s' q
 all_goals first|exact k _ s' q|exact q.elim
end
namespace Fr
end Fr
section
variable{X:Cx}{ee:List (Addr×Obj)}{σ:St}{H:Hp}{s:Shared}
theorem _root_.L2.Inv.draw(I:Inv X ee σ H s)(d:Drawn):Inv X ee σ H {s with drawn:=d}:=⟨I.ok,I.os,I.bare,I.base,I.loc,I.cell,I.free,I.jc,I.pin,I.hok,I.len⟩
end
section
variable{X:Cx}{e a b c:Expr}{f g h:DE}{pos:Pos}{ee:List (Addr×Obj)}{σ:St}{H:Hp}{s:Shared}
theorem rW:∀{ns:List Int} {us:List Value},Vals (ns.map V.int) us->IntsAre us ns
 |[],_,.nil=> .nil
 |n::ns,_,.cons h t=>by
  obtain⟨k,rfl⟩:=h;exact .cons n k (rW t)
end
namespace Fr
end Fr
section
variable{X:Cx}{e a b c:Expr}{f g h:DE}{pos:Pos}{ee:List (Addr×Obj)}{σ:St}{H:Hp}{s:Shared}
noncomputable def gone(H:Hp)(it l:Addr)(o:HO):Hp:=λb=>if b=it then none else upd H l o b
end
section
variable{prog:Program}{w:World}{K:Type} [DecidableEq K]{knd:HeapKind prog w K}{A:Around}{E:Value->Shared->Prop}{s:Shared}
theorem BN{d:Addr}{o:Obj}{es:Array DictEntry}{ep:Nat}{ys:List (K×Addr×Value)}{f:Array DictEntry->Array DictEntry}{p:Option Value}{Q:Unit->Shared->Prop}(ho:s.heap.get? d=some o)(hc:o.ExactDict)(hd:o.data= .dict es ep)(he:(f es).toList=ys.map (entryOfKey knd))
  (zo:∀x∈ys,knd.is s.heap x.1 x.2.1)(hn:(ys.map (·.1)).Nodup)(hz:es.size<=sizeLine)(hf:(f es).size<=es.size+1)(h:∀h',h'.DictOfH knd d ys->Heap.SameBut d s.heap h' ->Q () {s with heap:=h' }):wpAny (model prog w) A (updateDictKeys d f p) Q E s:=by
 have sb:=Heap.SameBut.update s.heap d (Obj.mapDictKeys f);refine wpAny_updateDictKeys ho hd (h _ ⟨_,f es,ep+1,Gba _ ho ?_,hc.mapDictKeys _,Obj.data_mapDictKeys hd _,he,λx m=>knd.keeps (zo x m) ho hd sb,hn⟩ sb) hz hf;exact Obj.isFreed_of_dict (Obj.data_mapDictKeys hd _)
theorem tU{d a:Addr}{xs:List (K×Addr×Value)}{k:K}{v:Value}{Q:Value->Shared->Prop}(hu:knd.room A)(hW:knd.is s.heap k a)(hm:s.heap.DictOfH knd d xs)
  (zG:∀p,atKey xs k=some p->Q p.2 {s with toks:=s.toks+knd.draws k})
  (Uq:atKey xs k=none->∀h',h'.DictOfH knd d (storedH xs k a v)->Heap.SameBut d s.heap h' ->Q v {s with heap:=h',toks:=s.toks+knd.draws k})
  (hsz:xs.length<=sizeLine):
  wpAny (model prog w) A (dictSetDefault d (.ref a) v) Q E s:=by
 obtain⟨o,es,ep,ho,hc,hd,he,zo,hn⟩:=hm;have sz:=size_of_entries he
 wp_walk using knd.pyHash hu hW,wpAny_dictFind_heap (s:={s with toks:=s.toks+knd.draws k}) hu hW ho hd he zo hn
 .intro no;have none' :=atKey_none_of_get no;have ys:=storedH_new none' a v;refine Gab (wpAny_rule (Gab (BN (knd:=knd) (ys:=storedH xs k a v) (s:={s with toks:=s.toks+knd.draws k}) ho hc hd ?_ ?_ ?_ (by lia) (by simp) λh' q1 q2=>Gah (Uq none' h' q1 q2))))
  .rw[ys,Array.toList_push,he,Gbf];rfl
  .rw[ys];intro x m;rcases Gby.mp m with m|m
   .exact zo x m
   .rw[Gbw.mp m];exact hW
  .rw[ys,Gbf,List.nodup_append];exact⟨hn,by simp,λx m y n=>by simp at n;rw[n];exactλe=>not_mem_keys_of_get no (e▸m)⟩
 .intro j p at_;have e:=entry_at he j;rw[at_] at e
  wp_walk using GcD (s:={s with toks:=s.toks+knd.draws k}) ho hd
  rw[e]
  wp_walk
  exact zG p (atKey_of_get hn at_)
theorem qL(d a:Addr)(hd:(d==sysModules)=false)(dflt:Value):
  MeetsIn prog w (Builtin.«dict.setdefault» ⟨[.ref d,.ref a,dflt],[]⟩) (λA R s=>knd.room A.in1/\∃k xs,knd.is s.heap k a/\s.heap.DictOfH knd d xs/\xs.length<=sizeLine/\
   (∀p,atKey xs k=some p->R (.ok (.ret p.2)) {s with toks:=s.toks+knd.draws k})/\
   (atKey xs k=none->∀h',h'.DictOfH knd d (storedH xs k a dflt)->Heap.SameBut d s.heap h' ->R (.ok (.ret dflt)) {s with heap:=h',toks:=s.toks+knd.draws k})):=by
 apply MeetsIn.of_wp;rintro A R s ⟨hu,k,xs,hW,hm,hsz,h1,h2⟩
 wp_walk using GcQ hm.typeIs,tU hu hW hm
 .exactλp q=>Gah ⟨_,rfl,h1 p q⟩
 .exactλq h' q1 q2=>Gah ⟨_,rfl,h2 q h' q1 q2⟩
 .exact hsz
end
section
variable{X:Cx}{ee:List (Addr×Obj)}{σ:St}{H:Hp}{s:Shared}{a b:Addr}{d:V}{u r:Value}{o:Option V}{A:Around}{E:Value->Shared->Prop}
theorem AN{et:List (List Key×V)}{k:List Key}{Q:Value->Shared->Prop}(hu:A.units+1<cLine)(I:Inv X ee σ H s)(e:H a=some (.dT et))(eb:H b=some (.tup (k.map kV)))(hl:et.length<sizeLine)(rd:RelV d r)
  (h1:∀v w' s',gL et k=some v->Inv X ee σ H s' ->RelV v w' ->Q w' s')(h2:∀s',gL et k=none->Inv X ee σ (upd H a (.dT (putK et k d))) s' ->Q r s'):
  wpAny (model X.prog X.w) A (call (.builtin "dict.setdefault") [.ref a,.ref b,r]) Q E s:=by
 obtain⟨z,hd,xs,rel,dd⟩:=DU I.hok e;have hz:xs.length<=sizeLine:=by rw[<-Paired.length rel];exact z
 refine GcU PySem.F.slot_dict_setdefault dd.typeIs PySem.F.entry_dict_setdefault (PySem.F.args_dict_setdefault_3 _ _ _) (qL (knd:=tupleKind (cy X.prog X.w)) a b hd r) ⟨Gbv hu,k,xs,L2.kS I.hok eb,dd,hz,λp hp=> ?_,λhn h' zt hs=> ?_⟩
 .have rv:=rel.val k;rw[hp] at rv;cases hv:gL et k with
  |none=>rw[hv] at rv;exact rv.elim
  |some v=>rw[hv] at rv;exact h1 v _ _ hv (I.tok _) rv
 .have rv:=rel.val k;rw[hn] at rv;cases hv:gL et k with
  |some v=>rw[hv] at rv;exact rv.elim
  |none=>
   refine h2 _ hv ?_;have zO :(putK et k d).length<=sizeLine:=by have:=n9 et k d;lia
   obtain⟨q,es,ep,hq,g2,g3,g4,_,g5⟩:=zt;refine qu I (by rw[e];exact True.intro) hs ⟨q,hq⟩ ⟨zO,hd,_,(rel.put k eb rd).keeps λc ys ec=> ?_,q,es,ep,hq,g2,g3,g4,g5⟩;rw[ak (oR ec e (λz=>nomatch z))];exact ec
end
def NU(td ty tx:TE):TE:=λσ H Q=>td σ H λx H1=>∃a,x= .ref a/\IsD H1 a/\ty σ H1 λy H2=>tx σ H2 λz H3=>∃et k b,H3 a=some (.dT et)/\y= .ref b/\H3 b=some (.tup (k.map kV))/\et.length<sizeLine/\
 (∀v,gL et k=some v->Q v H3)/\(gL et k=none->Q z (upd H3 a (.dT (putK et k z))))
section
variable{X:Cx}{o e f:Expr}{apos eL:Pos}{td ty tx:TE}
theorem Iq(hu:X.A.units+1<cLine)(ho:PE X o td)(he:PE X e ty)(hf:PE X f tx)(m:M2 X o "setdefault" apos e f eL):PE X (.Call (.Attribute o "setdefault" apos) [e,f] [] eL) (NU td ty tx):=by
 intro ee s σ H Q I h;refine GcC m.base m.few m.line GbS PySem.F.slot_dict_setdefault PySem.F.type_dict_setdefault (thn (ho ee s σ H _ I h) λu s1 ⟨x,H1,I1,rx,a,ex,d,q1⟩=> ?_);subst ex;obtain rfl:u=Value.ref a:=rx;obtain⟨t1,t2,_⟩:=Ax I1 d;refine⟨t1,t2, ?_⟩;rw[m.trees];refine Gbq rfl (GbL (Gbt (thn (he ee s1 σ H1 _ I1 q1) λiv s2 ⟨y,H2,I2,ry,q2⟩=>
  Gbt (thn (hf ee s2 σ H2 _ I2 q2) λfv s3 ⟨z,H3,I3,rz,et,k,b,e1,e2,e3,e4,e5,e6⟩=>Gce ?_))))
 subst e2;cases(show iv=Value.ref b from ry);exact AN hu I3 e1 e3 e4 rz (λv w' s4 hv I4 rv=> ⟨_,H3,I4,rv,e5 v hv⟩) λs4 hv I4=> ⟨_,_,I4,rz,e6 hv⟩
end
def j9(eh:Addr->Prop)(p:Addr)(ws:List (List Key×V))(b:Addr):Prop:=eh b\/b=p\/V.ref b∈ws.map (·.2)
structure fY(K:av)(eh:Addr->Prop)(env:Env)(σ:St)(H:Hp)(i:Nat)(p:Addr)(ws:List (List Key×V))(et:Rws):Prop where
 at_:σ[i]? =some (some (.ref p))
 hid:env[i]? =some none
 top:H p=some (.dT ws)
 keys:et.map (·.1)=ws.map (·.1)
 row:∀(j:Nat) k v d,ws[j]? =some (k,v)->et[j]? =some (k,d)->∃a ds vs,v= .ref a/\d= .lst ds/\a≠p/\H a=some (.lst vs)/\aT K (λ_=>False) H ds vs
 inj:∀(j j' :Nat) k k' a,ws[j]? =some (k,V.ref a)->ws[j']? =some (k',V.ref a)->j=j'
def pY(H H' :Hp):Prop:=∀b o,H b=some o->isT o->H' b=some o
variable{H H1:Hp}
theorem pY.trans{H2:Hp}(a:pY H H1)(b:pY H1 H2):pY H H2:=λc o e t=>b c o (a c o e t) t
theorem pY.same(s:bz H H1):pY H H1:=λc o e _=>s c o e
theorem pY.upd{H:Hp}{a:Addr}{o o' :HO}(h:H a=some o)(n:¬isT o):pY H (upd H a o'):=λc x e t=>by
 have:c≠a:=by rintro rfl;rw[h] at e;cases e;exact n t
 rw[ak this];exact e
section
variable{K:av}{H0 H H' H1:Hp}{eh yM :Addr->Prop}{env eD :Env}{σ σ' :St}{d:D}{v:V}{a p:Addr}{i j:Nat}{ws:List (List Key×V)}{et:Rws}
theorem fY.mono(N:fY K eh env σ H i p ws et)(s:bz H H'):fY K eh env σ H' i p ws et where
 at_:=N.at_
 hid:=N.hid
 top:=s _ _ N.top
 keys:=N.keys
 row:=λj k v d h1 h2=>let⟨a,ds,vs,e1,e2,e3,e4,e5⟩:=N.row j k v d h1 h2;⟨a,ds,vs,e1,e2,e3,s _ _ e4,e5.gen (.of_same s) λ_ f _=>f⟩
 inj:=N.inj
theorem fY.gh(N:fY K eh env σ H i p ws et)(zp:i≠j):fY K eh (env.set j (some (.sh d))) (σ.set j (some v)) H i p ws et where
 at_:=by rw[Gaa (Gay zp)];exact N.at_
 hid:=by rw[Gaa (Gay zp)];exact N.hid
 top:=N.top
 keys:=N.keys
 row:=λj k v d h1 h2=>let⟨a,ds,vs,e1,e2,e3,e4,e5⟩:=N.row j k v d h1 h2;⟨a,ds,vs,e1,e2,e3,e4,e5⟩
 inj:=N.inj
theorem fY.NV(N:fY K eh env σ H i p ws et):fY K yM env σ H i p ws et:=⟨N.at_,N.hid,N.top,N.keys,N.row,N.inj⟩
theorem fY.app{vs:List V}{ds:List D}{k:List Key}(N:fY K eh env σ H i p ws et)(ba:eh a)(ha:ws[j]? =some (k,.ref a))(hd:et[j]? =some (k,.lst ds))(hv:H a=some (.lst vs))(rp:aT K (λ_=>False) H (ds++[d]) (vs++[v])):
  fY K eh env σ (upd H a (.lst (vs++[v]))) i p ws (et.set j (k,.lst (ds++[d]))):=by
 have dC:j5 (λ_=>False) H (upd H a (.lst (vs++[v]))):=λb x hx q=>by
  have:b≠a:=by
   rintro rfl;rcases q with q|q
   .exact q
   .rw[hv] at hx;cases hx;exact q
  rw[ak this];exact hx
 have yU:p≠a:=by
  obtain⟨a',_,_,e1,_,e3,_⟩:=N.row j k _ _ ha hd;cases e1;exact Gay e3
 have hjl:=(Gae.mp hd).1;refine⟨N.at_,N.hid,by rw[ak yU];exact N.top, ?_,λj' k' v' d' h1 h2=> ?_,N.inj⟩
 .rw[List.map_set,<-N.keys];apply Gdd;intro m;by_cases q:j=m
  .subst q;rw[GaB (by simpa using hjl),Gas,hd];rfl
  .rw[Gaa q]
 .by_cases q:j=j'
  .subst q;rw[ha] at h1;cases h1
   rw[GaB hjl] at h2;cases h2;exact⟨a,_,_,rfl,rfl,Gay yU,aC,rp.gen dC λ_ f _=>f⟩
  .rw[Gaa q] at h2;obtain⟨a',TY,us,e1,e2,e3,e4,e5⟩:=N.row j' k' v' d' h1 h2;subst e1;have na:a' ≠a:=by
    rintro rfl;exact q (N.inj j j' _ _ _ ha h1)
   exact⟨a',TY,us,rfl,e2,e3,by rw[ak na];exact e4,e5.gen dC λ_ f _=>f⟩
theorem fY.make{k:List Key}(N:fY K eh env σ H i p ws et)(bp:eh p)(ba:eh a)(hn:V.ref a∉ws.map (·.2))(yU:a≠p)(hv:H a=some (.lst [])):fY K eh env σ (upd H p (.dT (ws++[(k,.ref a)]))) i p (ws++[(k,.ref a)]) (et++[(k,.lst [])]):=by
 have dC:j5 (λ_=>False) H (upd H p (.dT (ws++[(k,.ref a)]))):=λb x hx q=>by
  have:b≠p:=by
   rintro rfl;rcases q with q|q
   .exact q
   .rw[N.top] at hx;cases hx;exact q
  rw[ak this];exact hx
 have h8:et.length=ws.length:=by have:=congrArg List.length N.keys;simpa using this
 refine⟨N.at_,N.hid,aC,by rw[Gbf,Gbf,N.keys];rfl,λj' k' v' d' h1 h2=> ?_,λj1 j2 k1 k2 b h1 h2=> ?_⟩
 .by_cases q:j' <ws.length
  .rw[GaJ q] at h1;rw[GaJ (by lia)] at h2;obtain⟨a',TY,us,e1,e2,e3,e4,e5⟩:=N.row j' k' v' d' h1 h2;exact⟨a',TY,us,e1,e2,e3,by rw[ak e3];exact e4,e5.gen dC λ_ f _=>f⟩
  .rw[GaA (by lia)] at h1;rw[GaA (by lia)] at h2;rw[h8] at h2;cases hz:j' -ws.length with
   |zero=>
    rw[hz] at h1 h2;cases h1;cases h2
    exact⟨a,[],[],rfl,rfl,yU,by rw[ak yU];exact hv,.nil⟩
   |succ n=>rw[hz] at h1;simp at h1
 .by_cases q1:j1<ws.length
  .rw[GaJ q1] at h1;by_cases q2:j2<ws.length
   .rw[GaJ q2] at h2;exact N.inj j1 j2 _ _ _ h1 h2
   .rw[GaA (by lia)] at h2;cases hz:j2 -ws.length with
    |zero=>
     rw[hz] at h2;cases h2
     exact absurd (GaY.mpr ⟨_,GaH h1,rfl⟩) hn
    |succ n=>rw[hz] at h2;simp at h2
  .rw[GaA (by lia)] at h1;cases hz:j1 -ws.length with
   |succ n=>rw[hz] at h1;simp at h1
   |zero=>
    rw[hz] at h1;cases h1
    by_cases q2:j2<ws.length
    .rw[GaJ q2] at h2;exact absurd (GaY.mpr ⟨_,GaH h2,rfl⟩) hn
    .rw[GaA (by lia)] at h2;cases hz2:j2 -ws.length with
     |succ n=>rw[hz2] at h2;simp at h2
     |zero=>lia
end
def FrW(H0:Hp)(eh:Addr->Prop)(p:Addr)(ws:List (List Key×V)):Prop:=∀b,(b=p\/V.ref b∈ws.map (·.2))->H0 b=none/\¬eh b
variable{ws:List (List Key×V)}{et:Rws}
theorem AO{k:List Key}(h:et.map (·.1)=ws.map (·.1)):et.findIdx? (λp=>decide (p.1=k))=ws.findIdx? (λp=>decide (p.1=k)):=by
 have h1:(et.map (·.1)).findIdx? (λq=>decide (q=k))=et.findIdx? (λp=>decide (p.1=k)):=by rw[List.findIdx?_map];rfl
 have h2:(ws.map (·.1)).findIdx? (λq=>decide (q=k))=ws.findIdx? (λp=>decide (p.1=k)):=by rw[List.findIdx?_map];rfl
 rw[<-h1,<-h2,h]
theorem find_some:∀{ws:List (List Key×V)} {k:List Key} {j:Nat},ws.findIdx? (λp=>decide (p.1=k))=some j->∃v,ws[j]? =some (k,v)/\gL ws k=some v
 |[],k,j,h=>by simp at h
 |p::ws,k,j,h=>by
  rw[List.findIdx?_cons] at h;by_cases c:p.1=k
  .rw[GaC c] at h;cases h;exact⟨p.2,by rw[<-c];rfl,n8 c⟩
  .rw[GaD c] at h;simp only[Gax,GaW] at h;obtain⟨j',hj,rfl⟩:=Gac.mp h;obtain⟨v,h1,h2⟩:=find_some hj;exact⟨v,by rw[List.getElem?_cons_succ];exact h1,by rw[jJ c];exact h2⟩
theorem find_none:∀{ws:List (List Key×V)} {k:List Key},ws.findIdx? (λp=>decide (p.1=k))=none->gL ws k=none
 |[],k,h=>rfl
 |p::ws,k,h=>by
  rw[List.findIdx?_cons] at h;by_cases c:p.1=k
  .rw[GaC c] at h;cases h
  .rw[GaD c] at h;simp only[Gax,GaW] at h;rw[jJ c];exact find_none (Option.map_eq_none_iff.mp h)
theorem D2{j:Nat}{k:List Key}{v:V}{q:List Key×D}(h:et.map (·.1)=ws.map (·.1))(h1:et[j]? =some q)(h2:ws[j]? =some (k,v)):q.1=k:=by
 have e1:(et.map (·.1))[j]? =some q.1:=by rw[Gas,h1];rfl
 have e2:(ws.map (·.1))[j]? =some k:=by rw[Gas,h2];rfl
 rw[h,e2] at e1;cases e1;rfl
def tM(X:Cx)(i:Nat)(f:DM):TS:=λD σ H=>∃H0 eh env p ws et q,aA X.K H0 (j9 eh p ws) env σ H/\fY X.K (j9 eh p ws) env σ H i p ws et/\FrW H0 eh p ws/\f env et=some q/\
 ∀σ' H' xo,aA X.K H0 (j9 eh p xo) q.1 σ' H' ->fY X.K (j9 eh p xo) q.1 σ' H' i p xo q.2->FrW H0 eh p xo ->pY H H' ->D.nx σ' H'
section
variable{X:Cx}{e a b c:Expr}{f g h:DE}{t u:DT}{pos:Pos}{st:Stmt}{rest body:List Stmt}{i j:Nat}{x:Str}{n1 n2:DM}
theorem KU(h1:PS X st (tM X i n1)):PSs X [st] (tM X i n1):=jm h1
theorem Ir(h1:PS X st (tM X i n1))(h2:PSs X rest (tM X i n2)):PSs X (st::rest) (tM X i (Qp n1 n2)):=by
 refine(g7 h1 h2).aG ?_;rintro D σ H ⟨H0,eh,env,p,ws,et,q,E,N,h0,e,k⟩;obtain⟨q1,hq,e⟩:=ef e;exact⟨H0,eh,env,p,ws,et,q1,E,N,h0,hq,λσ' H' xo E' N' f' t' => ⟨H0,eh,q1.1,p,xo,q1.2,q,E',N',f',e,λσ2 H2 yN E2 N2 f2 t2=>k σ2 H2 yN E2 N2 f2 (t'.trans t2)⟩⟩
variable{pos' :Pos}
theorem NW(hN:X.N.Nodup)(hj:X.N[j]? =some x)(hx:Loc X.env.scope x)(zp:i≠j)(he:PEd X e f)(hs:autoParam (swapsWith e (some (.Name x pos')) pos.line X.env=pure false) Za1._auto_1)
  (hf:autoParam (X.fn x=true\/X.env.scope.names.lookup x=some .local) Za3._auto_1):PS X (.Assign [.Name x pos'] e pos) (tM X i (setM j f)):=by
 refine(lR hN hj hx he hs hf).aG ?_;rintro D σ H ⟨H0,eh,env,p,ws,et,q,E,N,h0,e,k⟩;obtain⟨⟨kr,d⟩,hr,e⟩:=ef e;cases kr with
 |c=>
  cases e;refine⟨H0,_,env,_,E,hr,λv H1 s1 R=> ?_⟩;exact k _ _ ws ((E.mono s1).gh R) ((N.mono s1).gh zp) h0 (.same s1)
 |tn=>cases e
 |to=>cases e
 |tb=>cases e
theorem bindM{α β:Type}{o:Option α}{f:α->Option β}{b:β}(h:o.bind f=some b):∃a,o=some a/\f a=some b:=ef h
variable{px:Pos}
theorem NX{ap cp apos eL lp:Pos}{ke:Expr}(hu:X.A.units+1<cLine)(hN:X.N[i]? =some x)(hv:Vis X.env.scope x)(hk:PEd X ke g)(he:PEd X e f)(hd:autoParam ((x==("__debug__":Str))=false) Za2._auto_1)(xp:autoParam ((x==("__classdict__":Str))=false) Za2._auto_1)
  (m:M2 X (.Name x px) "setdefault" ap ke (.List [] lp) cp:=by exact⟨rfl,rfl,rfl,rfl⟩)
  (xf:autoParam (starEach [e] X.env=[(false,eval e X.env)]) Za1._auto_1)
  (xm:autoParam (attributeBase (.Call (.Attribute (.Name x px) "setdefault" ap) [ke,.List [] lp] [] cp) "append" X.env (eval (.Call (.Attribute (.Name x px) "setdefault" ap) [ke,.List [] lp] [] cp) X.env)=eval (.Call (.Attribute (.Name x px) "setdefault" ap) [ke,.List [] lp] [] cp) X.env) Za1._auto_1)
  (yw:((backTo eL (starEach [e] X.env)).all (λx=> !x.1)&&(backToKw eL (keywordEach [] X.env)).all (λx=>x.1.isSome)
   &&decide (([e]:List Expr).length+([]:List Keyword).length+(if([]:List Keyword).isEmpty then 0 else 1)<30))=true:=by rfl)
  (xh:autoParam ((apos.endLine==eL.line)=true) Za1._auto_1)(hs:autoParam (swapsWith (.Call (.Attribute (.Call (.Attribute (.Name x px) "setdefault" ap) [ke,.List [] lp] [] cp) "append" apos) [e] [] eL) none pos.line X.env=pure false) Za1._auto_1):
  PS X (.Expr (.Call (.Attribute (.Call (.Attribute (.Name x px) "setdefault" ap) [ke,.List [] lp] [] cp) "append" apos) [e] [] eL) pos) (tM X i (Qq g f)):=by
 refine(u7 (GZ GbT PySem.F.slot_list_append PySem.F.type_list_append rV (Iq hu (g6 hN hv hd xp) hk (Cu lU) m) (a8 he ah xf) xm yw xh xf rfl) hs).aG ?_;rintro D σ H ⟨H0,eh,env,p,ws,et,q,E,N,h0,e,kk⟩;obtain⟨⟨ky,dy⟩,hy,e⟩:=bindM e;obtain⟨r,hr,e⟩:=bindM e;cases dy with
 |tup ks=>
  dsimp only at e;split at e
  .rename_i z;rw[Gam] at z;obtain⟨key,hW,e⟩:=bindM e;obtain⟨zD,yT,e⟩:=Gac.mp e;cases e;have bp:j9 eh p ws p:= .inr (.inl rfl);refine⟨_,N.at_,p,rfl,.inr ⟨ws,.inl N.top⟩,H0,_,env,_,E,hy,λvy H1 s1 Ry=> ?_⟩;have iy:Inn X.K (Cln (j9 eh p ws) env σ) H1 (.tup ks) vy:=Ry.inn;cases iy with
   | @tup bk kv _ hb rb=>
    have ekv:=gD rb hW;subst ekv;have E1:=E.mono s1;have N1:=N.mono s1;refine⟨GaX _,λa1 zC => ?_⟩;have sA:bz H1 (upd H1 a1 (.lst [])):=c4 zC;have VY:upd H1 a1 (.lst []) bk=some (.tup (key.map kV)):=sA _ _ hb;have N2:=N1.mono sA;have E2:=E1.mono sA;have h8:et.length=ws.length:=by have:=congrArg List.length N.keys;simpa using this
    have szk:et.length<aq/\((∃jj ds k0,et.findIdx? (λp=>decide (p.1=key))=some jj/\et[jj]? =some (k0,.lst ds)/\ds.length<aq/\zD =et.set jj (key,.lst (ds++[r.d])))\/(et.findIdx? (λp=>decide (p.1=key))=none/\zD =et++[(key,.lst [r.d])])):=by
     unfold Ht at yT;split at yT
     .rename_i hz;refine⟨hz, ?_⟩;split at yT
      .rename_i jj yE;split at yT
       .rename_i k0 ds yp;split at yT
        .rename_i hl;cases yT;exact .inl ⟨jj,ds,k0,yE,yp,hl,rfl⟩
        .cases yT
       .cases yT
      .rename_i yE;cases yT;exact .inr ⟨yE,rfl⟩
     .cases yT
    have fin:∀(H2:Hp) (yN:List (List Key×V)) (yZ:Rws) (jj:Nat) (a:Addr) (ds:List DL.D),aA X.K H0 (j9 eh p yN) env σ H2->fY X.K (j9 eh p yN) env σ H2 i p yN yZ->FrW H0 eh p yN->pY H H2->yN[jj]? =some (key,.ref a)->yZ[jj]? =some (key,.lst ds)->ds.length<aq->zD =yZ.set jj (key,.lst (ds++[r.d]))->
      tyV X.K "list" (.ref a) H2/\tA X (aa f ao) σ H2 λvs H3=>DR (.ref a) vs H3 λ_ H4=>D.nx σ H4:=by
     intro H2 yN yZ jj a ds E2 N2 F2 T2 hw hkv hl ek;obtain⟨a',TY,vs,e1,e2,e3,UY,rp⟩:=N2.row jj _ _ _ hw hkv;cases e1;cases e2
     have ba:j9 eh p yN a:= .inr (.inr (GaY.mpr ⟨_,GaH hw,rfl⟩));refine⟨.inl ⟨rfl,vs,.inl (.inl UY)⟩,H0,_,env,[r],E2,by unfold aa ao;rw[hr];rfl,λus H3 s3 Rs=> ?_⟩;cases Rs with
     | @cons _ v _ _ R1 tl=>
      cases tl;have z0:=s3 _ _ UY;have N3:=N2.mono s3;have E3:=E2.mono s3;refine⟨_,vs,v,rfl,rfl,z0,by rw[<-rp.1,<-eU];exact hl, ?_⟩;have rep1:Rep X.K (λ_=>False) H3 r.d v:=R1.inn.imm z.1;have rp3:aT X.K (λ_=>False) H3 (ds++[r.d]) (vs++[v]):=(rp.gen (.of_same s3) λ_ f _=>f).append (.cons rep1 .nil);have N4:=N3.app ba hw hkv z0 rp3;rw[<-ek] at N4;exact kk σ _ yN (E3.Ip ba (F2 a (.inr (GaY.mpr ⟨_,GaH hw,rfl⟩))).1 z0 (λz=>z) z.2) N4 F2 ((T2.trans (.same s3)).trans (.upd z0 λz=>z))
    refine⟨ws,key,bk,N2.top,rfl,VY,by rw[<-h8,<-eU];exact szk.1,λv hv=> ?_,λhv=> ?_⟩
    .rcases szk.2 with⟨jj,ds,k0,yE,yp,hl,ek⟩| ⟨yE,_⟩
     .rw[AO N.keys] at yE;obtain⟨v',hw,zF⟩:=find_some yE;rw[hv] at zF;cases zF
      have hk0:k0=key:=D2 N.keys yp hw;subst hk0;obtain⟨a',_,_,e1,_⟩:=N.row jj _ _ _ hw yp;subst e1;exact fin _ ws et jj a' ds E2 N2 h0 ((pY.same s1).trans (.same sA)) hw yp hl ek
     .rw[AO N.keys] at yE;rw[find_none yE] at hv;cases hv
    .rcases szk.2 with⟨jj,ds,k0,yE,yp,hl,ek⟩| ⟨yE,ek⟩
     .rw[AO N.keys] at yE;obtain⟨v',hw,zF⟩:=find_some yE;rw[hv] at zF;cases zF
     .have hn:V.ref a1∉ws.map (·.2):=λhm=>by
       obtain⟨⟨k1,v1⟩,VN,Us⟩:=GaY.mp hm;have hm2' :v1=V.ref a1:=Us;subst hm2';obtain⟨j1,Uw⟩:=List.mem_iff_getElem?.mp VN;have hj1' :j1<et.length:=by rw[h8];exact(Gae.mp Uw).1
       have hk1:et[j1]? =some et[j1]:=GaF hj1';have SR:et[j1].1=k1:=D2 N.keys hk1 Uw;obtain⟨a',_,us,e1,_,_,e4,_⟩:=N1.row j1 k1 _ et[j1].2 Uw (by rw[hk1,<-SR]);cases e1;rw[zC] at e4;cases e4
      have yU:a1≠p:=λq=>by subst q;rw[N1.top] at zC;cases zC
      rw[Hb _ hv];have eB:(λb=>j9 eh p ws b\/b=a1)=j9 eh p (ws++[(key,V.ref a1)]):=by
       funext b
       apply propext;unfold j9;rw[Gbf,Gby];simp only[Gap,GbF,Gbw,V.ref.injEq];constructor
       .rintro((h|h|h)|h)
        .exact .inl h
        .exact .inr (.inl h)
        .exact .inr (.inr (.inl h))
        .exact .inr (.inr (.inr h))
       .rintro(h|h|h|h)
        .exact .inl (.inl h)
        .exact .inl (.inr (.inl h))
        .exact .inl (.inr (.inr h))
        .exact .inr h
      have E3:aA X.K H0 (j9 eh p (ws++[(key,V.ref a1)])) env σ (upd H1 a1 (.lst [])):=by
       rw[<-eB];exact E1.EG (New:=λb=>b=a1) sA (λb hb=>by rw[hb];exact zC) λb hb=>by rw[hb,aC];simp
      have N3:fY X.K (j9 eh p (ws++[(key,V.ref a1)])) env σ (upd H1 a1 (.lst [])) i p ws et:=by
       exact N1.NV.mono sA
      have F3:FrW H0 eh p (ws++[(key,V.ref a1)]):=λb hb=>by
       rw[Gbf,Gby] at hb;simp only[Gap,GbF,Gbw,V.ref.injEq] at hb;rcases hb with h|h|h
       .exact h0 b (.inl h)
       .exact h0 b (.inr h)
       .subst h;exact⟨E1.same.free zC,λq=>E1.bad b (.inl q) zC⟩
      have bp' :j9 eh p (ws++[(key,V.ref a1)]) p:= .inr (.inl rfl);have ba' :j9 eh p (ws++[(key,V.ref a1)]) a1:= .inr (.inr (by rw[Gbf,Gby];exact .inr Gav));have N4:=N3.make (k:=key) bp' ba' hn yU aC;have E4:=E3.Ip (o' := .dT (ws++[(key,V.ref a1)])) bp' (F3 p (.inl rfl)).1 N3.top (λz=>z) z.2;have lw:(ws++[(key,V.ref a1)])[ws.length]? =some (key,V.ref a1):=by rw[GaA (Gao _),Nat.sub_self];rfl
      have lk:(et++[(key,DL.D.lst [])])[ws.length]? =some (key,DL.D.lst []):=by rw[<-h8,GaA (Gao _),Nat.sub_self];rfl
      refine fin _ _ (et++[(key,DL.D.lst [])]) ws.length a1 [] E4 N4 F3 (((pY.same s1).trans (.same sA)).trans (.upd N3.top λz=>z)) lw lk (by rw[eU,Gbc];exact(by decide:(0:Nat)<16777216)) ?_;rw[ek,<-h8,List.set_append_right _ _ (Gao _),Nat.sub_self]
      rfl
  .cases e
 |_=>cases e
theorem NY(hp:PassesOwn (model X.prog X.w) X.A X.env X.xe)(hc:X.calm=true)(he:PEd X e f)(hN:X.N.Nodup)(hj:X.N[j]? =some x)(hx:Loc X.env.scope x)(zp:i≠j)(hb:PSs X body (tM X i n1))
  (hs:∀x,foldedSetIterable e X.env x=pure x:=by intro _;rfl)
  (hf:autoParam (X.fn x=true\/X.env.scope.names.lookup x=some .local) Za3._auto_1):
  PS X (.For (.Name x px) e body [] pos) (tM X i (Md j f n1)):=by
 refine(Cm hp hc (HG he) (Ar hN hj hx hf) hb hs).aG ?_;rintro D σ H ⟨H0,eh,env,p,ws,et,q,E,N,h0,e,k⟩;obtain⟨⟨kr,d⟩,hr,e⟩:=bindM e;split at e
 .rename_i xs hd;have xY :d= .tup xs:=hd;subst xY;split at e
  .rename_i him;refine⟨H0,_,env,_,E,hr,λv H1 s1 R=> ?_⟩;have i1:Inn X.K (Cln (j9 eh p ws) env σ) H1 (.tup xs) v:=R.inn;cases i1 with
   | @tup la lv _ hla rr=>
    have hll:xs.length=lv.length:=rr.1;refine⟨_,rfl,.inr ⟨⟨_,SqT.of hla⟩, ?_⟩⟩;refine⟨λc n σ' H' =>n=xs.length -c/\c<=xs.length/\pY H1 H' /\∃eQ yC zE,aA X.K H0 (j9 eh p yC) eQ σ' H' /\fY X.K (j9 eh p yC) eQ σ' H' i p yC zE/\FrW H0 eh p yC/\qB j n1 (xs.drop c) eQ zE=some q,
     ⟨xs.length,by simp,GaX _,λ_ _ e _=>e,env,ws,et,E.mono s1,N.mono s1,h0,by simpa using e⟩, ?_⟩
    rintro c n σ' H' ⟨rfl,hle,tS,eQ,yC,zE,Ei,Ni,Fi,ei⟩;have hla' :H' la=some (.tup lv):=tS _ _ hla trivial;by_cases xy:c<xs.length
    .have hd:xs.drop c=xs[c]::xs.drop (c+1):=Gbx xy;rw[hd] at ei;unfold qB at ei;obtain⟨q1,hq,ei⟩:=bindM ei;have Ta:lv[c]? =some (lv[c]'(by lia)):=GaF _;refine .inr ⟨⟨lv,_,SqT.of hla',Ta⟩,λσ2 H2=>pY H1 H2/\∃eQ yC zE,aA X.K H0 (j9 eh p yC) eQ σ2 H2/\fY X.K (j9 eh p yC) eQ σ2 H2 i p yC zE/\FrW H0 eh p yC/\qB j n1 (xs.drop (c+1)) eQ zE=some q,λσ2 H2 z=> ⟨xs.length -(c+1),by lia,rfl,xy,z⟩,λy H2 ⟨e2,e3⟩=> ?_⟩;subst e2;have ey:=e3 _ (SqT.of hla');rw[Ta] at ey;cases ey;have rep0:=rr.2 c _ _ (GaF xy) Ta;have rep1:Rep X.K (λ_=>False) H1 xs[c] lv[c]:=rep0.imm (mh him c _ (GaF xy));have rep2:Rep X.K (Cln (j9 eh p yC) eQ σ') H2 xs[c] lv[c]:=rep1.gen (λb o hb w=>w.elim (λz=>z.elim) λw=>tS b o hb w) λ_ z _=>z.elim;refine⟨H0,eh,eQ.set j (some (.sh xs[c])),p,yC,zE,q1,Ei.gh rep2,Ni.gh zp,Fi,hq,λσ3 H3 Vg E3 N3 F3 t3=> ?_⟩;exact⟨tS.trans t3,q1.1,Vg,q1.2,E3,N3,F3,ei⟩
    .have zQ :c=xs.length:=by lia
     subst zQ;rw[GcL] at ei;cases ei;exact .inl ⟨⟨lv,SqT.of hla',by lia⟩,k σ' H' yC Ei Ni Fi ((pY.same s1).trans tS)⟩
  .cases e
 .cases e
theorem G5{dp rp:Pos}(hN:X.N.Nodup)(hi:X.N[i]? =some x)(hx:Loc X.env.scope x)(hv:Vis X.env.scope x)(h1:PS X st (tM X i n1))(hd:autoParam ((x==("__debug__":Str))=false) Za2._auto_1)(xp:autoParam ((x==("__classdict__":Str))=false) Za2._auto_1)
  (hs:autoParam (swapsWith (.Dict [] [] dp) (some (.Name x pos')) pos.line X.env=pure false) Za1._auto_1)
  (hf:autoParam (X.fn x=true\/X.env.scope.names.lookup x=some .local) Za3._auto_1):
  kW X [.Assign [.Name x pos'] (.Dict [] [] dp) pos,st,.Return (some (.Name x px)) rp] (Hu i n1):=by
 intro ee z σ H D I hw;have hl:=I.len;refine(g7 (lR hN hi hx Br hs hf) (g7 h1 (jm (Aq (g6 hi hv hd xp))))) ee z σ H D I ?_;obtain⟨H0,eh,env,o,E,e,k⟩:=hw;obtain⟨q,hq,e⟩:=bindM e;cases e;have hie:i<env.length:=HE E hl hi;have hie' :i<σ.length:=by rw[<-E.len];exact hie
 intro p np;have eB:(λb=>eh b\/b=p)=j9 eh p []:=by
  funext b
  apply propext;unfold j9;simp
 have E1:aA X.K H0 (j9 eh p []) (env.set i none) (σ.set i (some (.ref p))) (upd H p (.dT [])):=by
  rw[<-eB];exact(E.hide i (.ref p)).EG (New:=λb=>b=p) (c4 np) (λb hb=>by rw[hb];exact np) λb hb=>by rw[hb,aC];simp
 have N1:fY X.K (j9 eh p []) (env.set i none) (σ.set i (some (.ref p))) (upd H p (.dT [])) i p [] []:=
  ⟨bA hie',bA hie,aC,rfl,λj k v d h=>by simp at h,λj j' k k' a h=>by simp at h⟩
 have F1:FrW H0 eh p []:=λb hb=>by
  rcases hb with rfl|hb
  .exact⟨E.same.free np,λq=>E.bad b q np⟩
  .simp at hb
 refine⟨H0,eh,env.set i none,p,[],[],q,E1,N1,F1,hq,λσ' H' xo E' N' F' _=> ?_⟩;refine⟨.ref p,N'.at_,k (.ref p) H' E'.same ⟨λ_=> ⟨p,rfl,(F' p (.inl rfl)).1,⟨_,N'.top,trivial⟩⟩,.dT N'.top ⟨N'.keys,λj pd wd e1 e2=> ?_⟩⟩⟩;obtain⟨kd,dd⟩:=pd;obtain⟨kw,vw⟩:=wd;have ek:kd=kw:=D2 N'.keys e1 e2;subst ek;obtain⟨a,ds,vs,r1,r2,r3,r4,r5⟩:=N'.row j kd vw dd e2 e1;subst r1 r2;have fa:=F' a (.inr (GaY.mpr ⟨_,GaH e2,rfl⟩));exact .lst ⟨fa.1,λz=>r3 (by cases z;rfl)⟩ (.inl r4) r5.1 λj' d v h1 h2=>(r5.2 j' d v h1 h2).imp λ_ z=>z.elim
end
theorem cS{N P:List Str}{sc:Scope}(a:autoParam (sc.kind= .function) Za1._auto_1)(b:autoParam (sc.isCoroutine=false) Za1._auto_1)(c:autoParam (sc.isGenerator=false) Za1._auto_1)(d:N.Nodup:=by decide+kernel)(e:autoParam (N.take P.length=P) Za1._auto_1)(f:∀x∈P,sc.names.lookup x=some .local\/sc.names.lookup x=some .cell:=by decide+kernel)(g:∀y∈sc.names,y.2≠ .free:=by decide+kernel):aM N P sc:=⟨a,b,c,d,e,f,g⟩
section
variable{X:Cx}{e a b c:Expr}{f g h:DE}{pos:Pos}
theorem Iu{prog:Program}{w:World}{A:Around}{E:Value->Shared->Prop}{z:Shared}{t b:Addr}{ws:List Value}{Q:Value->Shared->Prop}(ht:IsTup z.heap t #[])(hb:IsTup z.heap b ws.toArray)(h:Q (.ref b) z):wpAny (model prog w) A (binaryOp .Add (.ref t) (.ref b)) Q E z:=by
 obtain⟨⟨cls,dd,data,sl⟩,ho,hc,n,hd⟩:=id ht;obtain⟨⟨UK,TZ,data2,T5⟩,zL,Ti,n2,hd2⟩:=id hb;simp only at hc hd Ti hd2;subst hc hd Ti hd2;exact concat_meets ⟨_,ho,rfl⟩ ⟨_,zL,rfl⟩ noFill_tuple_add seq_tuple_add GcF GcA (Gct _ _)
  (tuple_addW0 t b #[] ws.toArray n n2 dd TZ sl T5 (by simp)) ⟨ho,zL,h⟩
def Ml(K:av):R2:=λx y H Q=>∃a b ys,x= .ref a/\y= .ref b/\SqT K H a []/\SqT K H b ys/\Q (.ref b) H
theorem KW:OpR X (binaryOp .Add) (Ml X.K):=by
 intro ee s σ H x y v u Q I rx ry h;obtain⟨a,b,ys,rfl,rfl,ha,hb,q⟩:=h;cases rx;cases ry;obtain⟨eA,r1,p1,_⟩:=I.tuple ha;obtain⟨eX,r2,p2,_⟩:=I.tuple hb;have e:eA=[]:=r1.cz.mpr rfl;subst e;exact Iu p1 p2 ⟨.ref b,H,I,rfl,q⟩
theorem Iv:OpD X gC (λx y H Q=>Ml X.K x y H Q\/Hx X.K x y H Q):=by
 intro F H dx dy x y rv Q ix iy e k;unfold gC at e;split at e
 .cases e;cases ix with
  |tup hx rx=>
   cases iy with
   |tup hy ry=>
    have:=rx.ne.mpr rfl;subst this;exact .inl ⟨_,_,_,rfl,rfl,SqT.of hx,SqT.of hy,k _ H cE (.tup hy ry.1 ry.2)⟩
 .exact .inr (Ee F H dx dy x y rv Q ix iy e k)
theorem mw(ha:PEd X a f)(hb:PEd X b g):PEd X (.BinOp a .Add b pos) (opE gC f g):=uH (KW.or Ed) Iv ha hb
variable{i j:Nat}{env:Env}
theorem NZ{d d' :D}(h:(env.set i (some (.bor d')))[j]? =some (some (.sh d))):j≠i/\env[j]? =some (some (.sh d)):=by
 by_cases c:i=j
 .subst c;by_cases hi:i<env.length
  .rw[GaB hi] at h;cases h
  .rw[GaP (by simp;lia)] at h;cases h
 .rw[Gaa c] at h;exact⟨λz=>c z.symm,h⟩
theorem uf(h:FJ i env=true)(hj:j≠i):env[j]? =none\/env[j]? =some none\/∃d,env[j]? =some (some (.sh d))/\d.imm=true:=by
 rcases Gcv j env.length with z|z
 .have:=Gan.mp h j (Gbs.mpr z);cases q:env[j]? with
  |none=>exact .inl rfl
  |some sl=>
   rw[q] at this;cases sl with
   |none=>exact .inr (.inl rfl)
   |some sl=>
    cases sl with
    |sh d=>exact .inr (.inr ⟨d,rfl,by simpa[hj] using this⟩)
    |own d=>simp[hj] at this
    |lok d=>simp[hj] at this
    |bor d=>simp[hj] at this
 .exact .inl (GaP z)
theorem aA.QF{K:av}{H0:Hp}{eh:Addr->Prop}{σ:L2.St}{H:Hp}{et:List (List Key×D)}(E:aA K H0 eh env σ H)(hi:env[i]? =some (some (.sh (.dT et))))(hl:FJ i env=true)(im:aZ (et.map (·.2))=true):
  aA K H0 eh (env.set i (some (.bor (.dT et)))) σ H/\∀b,Cln eh (env.set i (some (.bor (.dT et)))) σ b->Cln eh env σ b:=by
 have xy:i<env.length:=(Gae.mp hi).1;have at' :∀j,j≠i->(env.set i (some (.bor (.dT et))))[j]? =env[j]? :=λj hj=>Gaa (λz=>hj z.symm);have self:(env.set i (some (.bor (.dT et))))[i]? =some (some (.bor (.dT et))):=GaB xy;obtain⟨v,hv,rp⟩:=E.sh i _ hi;refine⟨⟨E.same,by rw[List.length_set];exact E.len,E.bad,λj d q=> ?_,λj d q=> ?_,λj d q=> ?_,λj k a tj tk ej ek=> ?_⟩,λb q=> ⟨q.1,λj tj=> ?_⟩⟩
 .obtain⟨hj,q'⟩:=NZ q;rcases uf hl hj with z|z| ⟨d',z,Vz⟩
  .rw[z] at q';cases q'
  .rw[z] at q';cases q'
  .rw[z] at q';cases q';obtain⟨u,hu,ru⟩:=E.sh j _ z;exact⟨u,hu,ru.imm Vz⟩
 .exfalso;by_cases hj:j=i
  .subst hj;rw[self] at q;rcases q with q|q<;>cases q
  .rw[at' j hj] at q;rcases uf hl hj with z|z| ⟨d',z,_⟩<;>rw[z] at q<;>rcases q with q|q<;>cases q
 .by_cases hj:j=i
  .subst hj;rw[self] at q;cases q;cases rp with
   | @dT a ws _ f h l r=>
    refine⟨a,hv,⟨_,h,trivial⟩,rfl,.dT h ⟨l,λm p q' e1 e2=>(r m p q' e1 e2).imm ?_⟩⟩;exact mh im m p.2 (by rw[Gas,e1];rfl)
  .rw[at' j hj] at q;rcases uf hl hj with z|z| ⟨d',z,_⟩<;>rw[z] at q<;>cases q
 .exfalso;by_cases hj:j=i
  .subst hj;rw[self] at tj;exact tj
  .rw[at' j hj] at tj;rcases uf hl hj with z|z| ⟨d',z,_⟩<;>rw[z] at tj<;>exact tj
 .by_cases hj:j=i
  .subst hj;rw[hi] at tj;exact tj.elim
  .exact q.2 j (by rw[at' j hj];exact tj)
theorem Iw{ex:Expr}{vw:List (List Key×D)->List D}{n:Nat}{eP:List Nat}{gd:DG}{t:DT}{f:DE}(hx:PEd X ex (pU vw i n eP gd t f)):PEd X ex (AB vw i n eP gd t f):=by
 intro ee s σ H Q I hw;obtain⟨H0,eh,env,r,E,e,k⟩:=hw;unfold AB at e;split at e
 .rename_i et hi;split at e
  .rename_i c;rw[Gam] at c;obtain⟨E',cl⟩:=E.QF hi c.1 c.2;refine hx ee s σ H Q I ⟨H0,eh,_,r,E',e,λv H' s' R=>k v H' s' ?_⟩;have hk:r.k= .tn:=by
    unfold pU at e;obtain⟨kv,_,e⟩:=ef e;split at e
    .obtain⟨rs,_,rfl⟩:=Gac.mp e
     rfl
    .cases e
   obtain⟨rk,rd⟩:=r;dsimp only at hk;subst hk;obtain⟨a,e1,h1,h2,h3,h4⟩:=R;exact⟨a,e1,h1,h2,h3,h4.gen (λb u hb q=>hb) (λb q _=> ⟨cl b q.1,q.2⟩) λ_ _ _ _ h=>h⟩
  .cases e
 .cases e
end
noncomputable def jh{Y β:Type} [DecidableEq Y](et:List (Y×β))(k:Y):List (Y×β):=et.filter λkv=> !decide (kv.1=k)
theorem uW{Y β:Type} [DecidableEq Y]:∀{xs:List (Y×β)} {j:Nat} {k:Y} {p:β},(xs.map (·.1)).Nodup->xs[j]? =some (k,p)->xs.eraseIdx j=jh xs k
 |[],j,k,p,_,e=>by simp at e
 |x::xs,0,k,p,hn,e=>by
  rw[Gap,GbI] at hn;simp at e;subst e;show xs=jh ((k,p)::xs) k;unfold jh;rw[Gbm (by simp)]
  symm
  rw[List.filter_eq_self];intro y hy;have:y.1≠k:=λz=>hn.1 (GaY.mpr ⟨y,hy,z⟩);simp[this]
 |x::xs,j+1,k,p,hn,e=>by
  rw[Gap,GbI] at hn;have e' :xs[j]? =some (k,p):=by simpa using e
  have ih:=uW hn.2 e';have ne:x.1≠k:=λz=>hn.1 (GaY.mpr ⟨(k,p),GaH e',z.symm⟩);rw[GcB,ih];unfold jh;rw[Gbn (by simp[ne])]
theorem A3{α β:Type}(f:α->β):∀(l:List α) (j:Nat),(l.map f).eraseIdx j=(l.eraseIdx j).map f
 |[],j=>by simp
 |x::l,0=>by simp
 |x::l,j+1=>by rw[Gap,GcB,GcB,Gap,A3 f l j]
section
variable{prog:Program}{w:World}{K:Type} [DecidableEq K]{knd:HeapKind prog w K}{A:Around}{E:Value->Shared->Prop}{s:Shared}
theorem AQ{d a:Addr}{xs:List (K×Addr×Value)}{k:K}{p:Addr×Value}{Q:Option DictEntry->Shared->Prop}(hu:knd.room A)(hW:knd.is s.heap k a)(hm:s.heap.DictOfH knd d xs)(hp:atKey xs k=some p)(hsz:xs.length<=sizeLine)
  (h:∀h' (e:DictEntry),e.val=p.2->h'.DictOfH knd d (jh xs k)->Heap.SameBut d s.heap h' ->Q (some e) {s with heap:=h',toks:=s.toks+knd.draws k}):
  wpAny (model prog w) A (Builtin.Dict.takeOut d (.ref a)) Q E s:=by
 obtain⟨o,es,ep,ho,hc,hd,he,zo,hn⟩:=hm;have sz:=size_of_entries he
 wp_walk using knd.pyHash hu hW,wpAny_dictFind_heap (s:={s with toks:=s.toks+knd.draws k}) hu hW ho hd he zo hn
 .exactλno=>absurd hp (by rw[atKey_none_of_get no];exactλq=>nomatch q)
 .intro j q at_;cases(atKey_of_get hn at_).symm.trans hp;have e:=entry_at he j;rw[at_] at e
  wp_walk using GcD (s:={s with toks:=s.toks+knd.draws k}) ho hd
  rw[e];refine Gab (BN (knd:=knd) (ys:=jh xs k) (s:={s with toks:=s.toks+knd.draws k}) ho hc hd ?_ (λx m=>zo x (GbV.mp m).1) ?_ (by lia) ?_ λh' q1 q2=>Gah (h h' _ rfl q1 q2))
  .rw[<-uW hn at_,<-A3,<-he];obtain⟨l⟩:=es;simp
  .exact hn.sublist (List.filter_sublist.map _)
  .obtain⟨l⟩:=es;simp only[List.eraseIdxIfInBounds_toArray,Gaj];exact Nat.le_succ_of_le (List.length_eraseIdx_le _ _)
theorem D3(d a:Addr):MeetsIn prog w (Builtin.«dict.pop» ⟨[.ref d,.ref a],[]⟩) (λA R s=>knd.room A.in1/\∃k xs p,knd.is s.heap k a/\s.heap.DictOfH knd d xs/\xs.length<=sizeLine/\atKey xs k=some p/\
   ∀h',h'.DictOfH knd d (jh xs k)->Heap.SameBut d s.heap h' ->R (.ok (.ret p.2)) {s with heap:=h',toks:=s.toks+knd.draws k}):=
 .of_wp λA R s ⟨hu,k,xs,p,hW,hm,hsz,hp,h⟩=>by
  obtain⟨o,es,ep,ho,hc,hd,he,zo,hn⟩:=id hm;have ne:es.isEmpty=false:=by
   rw[Array.isEmpty_eq_false_iff];rintro rfl;cases xs with
   |nil=>cases hp
   |cons x xs=>cases he
  wp_walk using GcQ hm.typeIs,GcD ho hd,AQ hu hW hm hp hsz
  intro h' e ev q1 q2
  wp_walk
  exact⟨_,rfl,ev▸h h' q1 q2⟩
end
section
variable{X:Cx}{ee:List (Addr×Obj)}{σ:St}{H:Hp}{s:Shared}{a b:Addr}{A:Around}{E:Value->Shared->Prop}
theorem KY{H:Hp}{l:List (List Key×V)}{m:List (List Key×Addr×Value)}(k:List Key)(q:KT H l m):KT H (jh l k) (jh m k):=by
 induction q with
 |nil=>exact .nil
 | @cons x y l m hq t ih=>
  unfold jh at ih⊢;by_cases c:x.1=k
  .rw[Gbm (by simp[c]),Gbm (by simp[<-hq.1,c])];exact ih
  .rw[Gbn (by simp[c]),Gbn (by simp[<-hq.1,c])];exact .cons hq ih
theorem O0{et:List (List Key×V)}{k:List Key}{v:V}{Q:Value->Shared->Prop}(hu:A.units+1<cLine)(I:Inv X ee σ H s)(e:H a=some (.dT et))(eb:H b=some (.tup (k.map kV)))(hv:gL et k=some v)
  (h:∀w' s',Inv X ee σ (upd H a (.dT (jh et k))) s' ->RelV v w' ->Q w' s'):wpAny (model X.prog X.w) A (call (.builtin "dict.pop") [.ref a,.ref b]) Q E s:=by
 obtain⟨z,hd,xs,rel,dd⟩:=DU I.hok e;have hz:xs.length<=sizeLine:=by rw[<-Paired.length rel];exact z
 have rv:=rel.val k;rw[hv] at rv;cases hp:atKey xs k with
 |none=>rw[hp] at rv;exact rv.elim
 |some p=>
  rw[hp] at rv;refine GcU PySem.F.slot_dict_pop dd.typeIs PySem.F.entry_dict_pop (PySem.F.args_dict_pop_2 _ _) (D3 (knd:=tupleKind (cy X.prog X.w)) a b) ⟨Gbv hu,k,xs,p,L2.kS I.hok eb,dd,hz,hp,λh' zt hs=> ?_⟩;refine h _ _ ?_ rv;have zO :(jh et k).length<=sizeLine:=GaQ (GaK _ _) z;obtain⟨q,es,ep,hq,g2,g3,g4,_,g5⟩:=zt;refine qu I (by rw[e];exact True.intro) hs ⟨q,hq⟩ ⟨zO,hd,_,(KY k rel).keeps λc ys ec=> ?_,q,es,ep,hq,g2,g3,g4,g5⟩;rw[ak (oR ec e (λz=>nomatch z))];exact ec
end
def O1(td ty:TE):TE:=λσ H Q=>td σ H λx H1=>∃a,x= .ref a/\IsD H1 a/\ty σ H1 λy H2=>∃et k b v,H2 a=some (.dT et)/\y= .ref b/\H2 b=some (.tup (k.map kV))/\gL et k=some v/\Q v (upd H2 a (.dT (jh et k)))
section
variable{X:Cx}{o e:Expr}{apos eL:Pos}{td ty:TE}
theorem Iy(hu:X.A.units+1<cLine)(ho:PE X o td)(he:PE X e ty)(m:M1 X o "pop" apos e eL):PE X (.Call (.Attribute o "pop" apos) [e] [] eL) (O1 td ty):=by
 intro ee s σ H Q I h;refine GcC m.base m.few m.line GbS PySem.F.slot_dict_pop PySem.F.type_dict_pop (thn (ho ee s σ H _ I h) λu s1 ⟨x,H1,I1,rx,a,ex,d,q1⟩=> ?_);subst ex;obtain rfl:u=Value.ref a:=rx;obtain⟨t1,t2,_⟩:=Ax I1 d;refine⟨t1,t2, ?_⟩;rw[m.trees];refine Gbq rfl (GbL (Gbt (thn (he ee s1 σ H1 _ I1 q1) λiv s2 ⟨y,H2,I2,ry,et,k,b,v,e1,e2,e3,e4,q2⟩=>Gce ?_)));subst e2;cases(show iv=Value.ref b from ry);exact O0 hu I2 e1 e3 e4 λw' s3 I3 yt => ⟨v,_,I3,yt,q2⟩
end
section
variable{X:Cx}{pos:Pos}
theorem b5.drop{K:av}{F:Addr->Prop}{H:Hp}{et:List (List Key×D)}{ws:List (List Key×V)}(k:List Key)(h:b5 K F H et ws):b5 K F H (jh et k) (jh ws k):=by
 induction et generalizing ws with
 |nil=>rw[b5.cz h];exact .nil
 |cons x et ih=>
  obtain⟨c,d⟩:=x;obtain⟨v,r,rfl,h1,h2⟩:=h.cons_inv;have ih' :=ih h2;unfold jh at ih' ⊢;by_cases q:c=k
  .rw[Gbm (by simp[q]),Gbm (by simp[q])];exact ih'
  .rw[Gbn (by simp[q]),Gbn (by simp[q])];exact b5.cons h1 ih'
end
section
variable{prog:Program}{w:World}{A:Around}{E:Value->Shared->Prop}{h:Heap}{g:Array GenState}{d:Drawn}{t:Nat}{os:OsState}
variable{nm q:Str}{C N:Addr}{bs bm Tv:List Value}{Tf:Bool}{sn:List Str}{sub:List Value}{ab:Bool}{col:Option Bool}{dd:Option Addr}{k0 k1 k2 k3 k5:Option Value}{B Bn newId UT yu Vy:String}{Wi:List Value}
theorem Iz{α:Type}{m:Sem α}{Q:α->Shared->Prop}{s s' :Shared}(e:s=s')(h:wpAny (model prog w) A m Q E s'):wpAny (model prog w) A m Q E s:=e▸h
variable{us:List Value}
theorem IB(Fn:ExcBaseFacts Bn newId Vy Wi)(V5:Tv.contains (.type Bn)=true)(F:ExcBaseFacts B UT yu Tv)(T:OwnTail h Tv bm){mN:Str->Option Value}{fI:Addr}{oI:Obj}{Q:Value->Shared->Prop}
  (hC:h.get? C=some (excClassObj nm q C N bs bm Tf sn sub ab col dd k0 k1 k2 k3 k5 newId))(hn:h.Ns N mN)(hi:mN "__init__"=some (.ref fI))(VS:h.get? fI=some oI)(UA:oI.cls= .type "function")
  (hq:∀h' e,Heap.MadeExcOf h h' e (.ref C) us->h.objs.size<e->wpAny (model prog w) (A.under (.builtin "type.__call__" ⟨.ref C::us,[]⟩)) (call (.ref fI) (.ref e::us)) (λr s' =>r= .none/\Q (.ref e) s') E ⟨h',g,d,t,os⟩)(hz:us.length<=sizeLine):
  wpAny (model prog w) A (call (.ref C) us) Q E ⟨h,g,d,t,os⟩:=by
 have f1:=tc_lookup;have f2:=tc_bind (.ref C);have tC:Shared.TypeIs ⟨h,g,d,t,os⟩ (.ref C) "type":=⟨_,hC,rfl⟩
 apply GbX;apply codeAny_of_tree
 wp_walk using Gcg hC
 refine⟨rfl,codeAny_call_builtin_at (Code.quiet_builtin _ (by decide+kernel)) entry_typeCall (wpAny_check_type_call_sub hC ?_)⟩
 wp_walk using Gcg hC,wpAny_madeBy_exc hC
 refine codeAny_call_builtin_code (Code.quiet_builtin _ Fn.quiet) (wpAny_check_new_subU Fn V5 T hC (codeAny_exc_new_subU Fn V5 F T hC ?_ hz));have old:∀b o,h.get? b=some o->((h.push {cls:= .type "tuple",data:= .seq us.toArray}).push {cls:= .ref C,data:= .fields #[.ref h.objs.size,.none,.none,.none,.bool false,.none]}).get? b=some o:=λb o e=>Gad _ (Gad _ e);have eE:((h.push {cls:= .type "tuple",data:= .seq us.toArray}).push {cls:= .ref C,data:= .fields #[.ref h.objs.size,.none,.none,.none,.bool false,.none]}).get? (h.objs.size+1)=some {cls:= .ref C,data:= .fields #[.ref h.objs.size,.none,.none,.none,.bool false,.none]}:=by heap_get
 have eT:((h.push {cls:= .type "tuple",data:= .seq us.toArray}).push {cls:= .ref C,data:= .fields #[.ref h.objs.size,.none,.none,.none,.bool false,.none]}).get? h.objs.size=some {cls:= .type "tuple",data:= .seq us.toArray}:=Gad _ (Gat _ rfl);have mE:Heap.MadeExcOf h ((h.push {cls:= .type "tuple",data:= .seq us.toArray}).push {cls:= .ref C,data:= .fields #[.ref h.objs.size,.none,.none,.none,.bool false,.none]}) (h.objs.size+1) (.ref C) us:=⟨old,GcS (Gcr _),h.objs.size,eE,GcS (Gao _),eT⟩
 have run:=hq _ _ mE (GbO _);have T1:=T.keeps old;have eC:=old _ _ hC;have nN:Heap.Ns _ N mN:=let⟨o,es,ep,e,r⟩:=hn;⟨o,es,ep,old _ _ e,r⟩
 have eI:=old _ _ VS;refine Iz (s' :=⟨(h.push {cls:= .type "tuple",data:= .seq us.toArray}).push {cls:= .ref C,data:= .fields #[.ref h.objs.size,.none,.none,.none,.bool false,.none]},g,d,t,os⟩) rfl ?_;generalize (h.push {cls:= .type "tuple",data:= .seq us.toArray}).push {cls:= .ref C,data:= .fields #[.ref h.objs.size,.none,.none,.none,.bool false,.none]}=h1 at*;have tI:Shared.TypeIs ⟨h1,g,d,t,os⟩ (.ref fI) "function":=⟨_,eI,UA⟩
 have inC:(Value.ref C::bm).contains (.ref C)=true:=by simp
 have sC:∀{P:Bool->Shared->Prop} {E' :Value->Shared->Prop},P true ⟨h1,g,d,t,os⟩->wpAny (model prog w) (A.under (.builtin "type.__call__" ⟨.ref C::us,[]⟩)) (isSubtype (.ref C) (.ref C)) P E' ⟨h1,g,d,t,os⟩:=λq=>wpAny_isSubtype_exc eC (by rw[inC];exact q);have lI:∀{P:Option Value->Shared->Prop} {E' :Value->Shared->Prop},P (some (.ref fI)) ⟨h1,g,d,t,os⟩->wpAny (model prog w) (A.under (.builtin "type.__call__" ⟨.ref C::us,[]⟩)) (typeLookup (.ref C) (Str.ofString "__init__")) P E' ⟨h1,g,d,t,os⟩:=λq=>wpAny_typeLookup_tail eC nN T1 F.mroIs F.init.lookup (by rw[hi];exact q);refine Gab (Gab (Gab (Gcg eE (Gah (sC ?_)))))
 wp_walk using Gcg eE
 refine lI (Gbi (Gab (Gab (wpAny_typeOf tI (GbN (by decide) (Gah (Gab (on run ?_))))))));rintro _ s' ⟨rfl,q⟩
 wp_walk
 exact q
theorem IC(F:ExcBaseFacts B UT yu Tv)(T:OwnTail h Tv bm){e t0:Addr}{x1 x2 x3 x4 x5:Value}{dx:Option Addr}{sl:Array (Option Value)}{Q:Value->Shared->Prop}
  (hC:h.get? C=some (excClassObj nm q C N bs bm Tf sn sub ab col dd k0 k1 k2 k3 k5 newId))(he:h.get? e=some {cls:= .ref C,dict:=dx,data:= .fields #[.ref t0,x1,x2,x3,x4,x5],slots:=sl})
  (hq:∀h',h'.get? e=some {cls:= .ref C,dict:=dx,data:= .fields #[.ref h.objs.size,x1,x2,x3,x4,x5],slots:=sl}->h'.get? h.objs.size=some {cls:= .type "tuple",data:= .seq us.toArray}->(∀b o,b≠e->h.get? b=some o->h'.get? b=some o)->Q .none ⟨h',g,d,t,os⟩)(hz:us.length<=sizeLine):
  wpAny (model prog w) A (call (.builtin yu) (.ref e::us)) Q E ⟨h,g,d,t,os⟩:=by
 apply GbX;apply Gcp F.init.plain F.initEntry;apply wpAny_check_init_subU F T hC he rfl;have eE:=Gad {cls:= .type "tuple",data:= .seq us.toArray} he;have ne:h.objs.size≠e:=Gbp (Gal he)
 wp_walk
 .refine hq _ ((Gba (Obj.mapFields λx=>x.setIfInBounds 0 (.ref h.objs.size)) eE rfl).trans rfl) ?_ λb o n k=> ?_
  .rw[GaT _ _ (Gay ne)];exact Gat _ rfl
  .rw[GaT _ _ (Gay n)];exact Gad _ k
end
def FX(h:Heap)(a:Addr)(cls:Value)(dx:Option Addr)(vs:Array Value):Prop:=∃sl,h.get? a=some {cls:=cls,dict:=dx,data:= .fields vs,slots:=sl}
section
variable{prog:Program}{w:World}{A:Around}{E:Value->Shared->Prop}{z:Shared}
variable{vs:Array Value}{dx:Option Addr}{cls:Value}{a:Addr}{h:Heap}
theorem FX.at{h' :Heap}(x:FX h a cls dx vs)(k:∀o,h.get? a=some o->h'.get? a=some o):FX h' a cls dx vs:=let⟨sl,q⟩:=x;⟨sl,k _ q⟩
theorem FX.lt(x:FX h a cls dx vs):a<h.objs.size:=let⟨_,q⟩:=x;Gal q
variable{x:Value}
theorem uX{i:Nat}{Q:Value->Shared->Prop}(f:FX z.heap a cls dx vs)(e:vs[i]? =some x)(h:Q x z):wpAny (model prog w) A (field (.ref a) i) Q E z:=let⟨_,q⟩:=f;wpAny_field q rfl e h
theorem AR{k:Nat}{Q:Unit->Shared->Prop}(f:FX z.heap a cls dx vs)(h:∀h',FX h' a cls dx (vs.setIfInBounds k x)->Heap.SameBut a z.heap h' ->Q () {z with heap:=h' })(hk:k<vs.size):wpAny (model prog w) A (setField (.ref a) k x) Q E z:=by
 obtain⟨sl,q⟩:=f;exact wpAny_setField q rfl hk (h _ ⟨sl,Gba _ q rfl⟩ (Heap.SameBut.update ..))
def Trc(h:Heap)(e:Addr)(tb:Value):Prop:=tb= .none\/∃T cls dx ts,tb= .ref T/\T≠e/\FX h T cls dx ts/\ts[3]? =some .none
variable{env:PySem.Env}
theorem uY{base:Heap}{outer:List PySem.Env}{L e:Addr}{a0 tb x2 x3 x4 x5:Value}{Q:Unit->Shared->Prop}(yV:A.frames=some (env::outer))(hl:z.heap.FunFrames base (env::outer))(hf:env.frame=some L)
  (f:FX z.heap e cls dx #[a0,tb,x2,x3,x4,x5])(ht:Trc z.heap e tb)
  (hQ:∀h' T ts,FX h' e cls dx #[a0,.ref T,x2,x3,x4,x5]->T≠e->z.heap.objs.size<=T->FX h' T (.type "traceback") none ts->ts[3]? =some .none->
   (∀b o,b≠e->tb≠ .ref b->z.heap.get? b=some o->∃sl,h'.get? b=some {o with slots:=sl})->(∀b o,b≠e->tb≠ .ref b->b∉(env::outer).filterMap (·.frame)->z.heap.get? b=some o->h'.get? b=some o)->Q () {z with heap:=h' }):
  wpAny (model prog w) A (noteFrame (.ref e) env) (λ_ s' =>wpAny (model prog w) A (setFlight (.ref e) none) Q E s') E z:=by
 have ne:e∉(env::outer).filterMap (·.frame):=λm=>by
  obtain⟨_,o,ho,no⟩:=hl.mem m;obtain⟨sl,q⟩:=f;rw[q] at ho;cases ho
  exact no _ rfl
 have make:∀(y:Shared) (P:Unit->Shared->Prop),y.heap.FunFrames base (env::outer)->FX y.heap e cls dx #[a0,tb,x2,x3,x4,x5]->(∀h' T ts,FX h' e cls dx #[a0,.ref T,x2,x3,x4,x5]->T≠e->y.heap.objs.size<=T->FX h' T (.type "traceback") none ts->3<ts.size->
   (∀b o,b≠e->y.heap.get? b=some o->∃sl,h'.get? b=some {o with slots:=sl})->(∀b o,b≠e->b∉(env::outer).filterMap (·.frame)->y.heap.get? b=some o->h'.get? b=some o)->P () {y with heap:=h' })->∀(hd:Value) (n:Bool) E',
   wpAny (model prog w) A (do let a<-frameOf env;let pl<-entryPlaceOf L n;let b<-EntryCells.newEntry hd a .none (rawInt L) .none pl;setField (.ref e) 1 b) P E' y:=by
  intro y P hl f hP hd n E';refine Gab (wpAny_frameOf_fun yV hl hf λh1 s1=>Gab (wpAny_entryPlaceOf λpl xa=>Gab (GaS ?_ (xa.sizeOk5 _ _ _ _ _))));have e1:FX h1 e cls dx #[a0,tb,x2,x3,x4,x5]:=let⟨sl,q⟩:=f;⟨sl,(s1.2.1 e ne).trans q⟩
  have nT:h1.objs.size≠e:=Gbp e1.lt;have le:y.heap.objs.size<=h1.objs.size:=Nat.le_of_eq s1.1.symm;refine AR (z:={y with heap:=h1.push _}) (e1.at λo=>Gad _) (λh' fx sb=>hP h' h1.objs.size _ fx nT le ⟨_,(sb.2 _ nT).trans (Gat _ rfl)⟩ ?_ (λb o n q=> ?_) λb o n m q=> ?_) (by simp)
  .simp only[Gaj,Gbb,Gaz,List.length_nil];lia
  .obtain⟨sl,q⟩:=s1.2.2 b o q;exact⟨sl,(sb.2 b n).trans (Gad _ q)⟩
  .exact(sb.2 b n).trans (Gad _ ((s1.2.1 b m).trans q))
 have land:∀(h1:Heap) (T:Addr) (ts:Array Value) {P:Unit->Shared->Prop} {E'},FX h1 e cls dx #[a0,.ref T,x2,x3,x4,x5]->T≠e->FX h1 T (.type "traceback") none ts->3<ts.size->(∀h' yP,FX h' e cls dx #[a0,.ref T,x2,x3,x4,x5]->FX h' T (.type "traceback") none yP ->yP[3]? =some .none->(∀b o,b≠T->h1.get? b=some o->h'.get? b=some o)->P () {z with heap:=h' })->
   wpAny (model prog w) A (setFlight (.ref e) none) P E' {z with heap:=h1}:=by
  intro h1 T ts P E' fe n ft sz hP;refine Gab (uX (z:={z with heap:=h1}) (i:=1) (x:= .ref T) fe rfl (GbN (by simp) (AR (z:={z with heap:=h1}) ft (λh' zj sb=>hP h' _ (fe.at λo=>(sb.2 e (Gay n)).trans) zj ?_ λb o n q=>(sb.2 b n).trans q) sz)));rw[Array.getElem?_setIfInBounds_self];simp[sz]
 unfold noteFrame;simp only[hf];rcases ht with rfl| ⟨T0,c0,d0,t0,rfl,n0,f0,q0⟩
 .refine Gab (uX (i:=1) (x:= .none) f rfl (GbJ rfl (make z _ hl f (λh1 T ts fe n le ft sz k1 k2=>land h1 T ts fe n ft sz λh' yP UH zj q k=>hQ h' T yP UH n le zj q (λb o nb _ e=> ?_) λb o nb _ nf e=> ?_) _ _ _)))
  .obtain⟨sl,e1⟩:=k1 b o nb e;exact⟨sl,k b _ (Gau (Gak (Gal e) le)) e1⟩
  .exact k b o (Gau (Gak (Gal e) le)) (k2 b o nb nf e)
 .have lt3:3<t0.size:=(Gbr.mp q0).1;refine Gab (uX (i:=1) (x:= .ref T0) f rfl (GbN (by simp) (Gab (uX (i:=3) f0 q0 (GbJ (by simp[rawInt]) (Gab (AR f0 (λh0 Wv sb=> ?_) lt3)))))));have old:∀b o,b≠T0->z.heap.get? b=some o->h0.get? b=some o:=λb o n e=>(sb.2 b n).trans e;have hl0:h0.FunFrames base (env::outer):=hl.of_keeps λb o e no=> ⟨o,old b o (λq=>by obtain⟨sl,q1⟩:=f0;rw[q,q1] at e;cases e;exact no _ rfl) e,rfl⟩;refine make {z with heap:=h0} _ hl0 (f.at λo=>old e o (Gay n0)) (λh1 T ts fe n le ft sz k1 k2=>land h1 T ts fe n ft sz λh' yP UH zj q k=>hQ h' T yP UH n (sb.1▸le) zj q (λb o nb nt e=> ?_) λb o nb nt nf e=> ?_) _ _ _
  .have nT:b≠T0:=λq=>nt (by rw[q]);obtain⟨sl,e1⟩:=k1 b o nb (old b o nT e);exact⟨sl,k b _ (Gau (Gak (Gal (old b o nT e)) le)) e1⟩
  .have nT:b≠T0:=λq=>nt (by rw[q]);exact k b o (Gau (Gak (Gal (old b o nT e)) le)) (k2 b o nb nf (old b o nT e))
theorem A4{e:Addr}{Q:Unit->Shared->Prop}(h:wpAny (model prog w) A (noteFrame (.ref e) env) (λ_ s' =>wpAny (model prog w) A (setFlight (.ref e) none) Q E s') E z):wpAny (model prog w) A (leaving env (.ref e)) Q E z:=Gab h
end
open PySem.W (findIn clsIn mroIn looks_findIn looks_clsIn looks_mroIn InstAt set_plain check_slot osa_eq Looks)
section
variable{prog:Program}{w:World}{A:Around}{E:Value->Shared->Prop}{z:Shared}{K:PySem.W.Frag}
theorem lk{α:Type}{t:Sem α}{r:α}{Q:α->Shared->Prop}{n:Nat}(x:Looks (model prog w) z.heap t r)(q:Q r {z with toks:=n}):wpAny (model prog w) A t Q E {z with toks:=n}:=x _ _ _ _ (λ_ _ e=>e) q
variable{v:Value}{name:Str}
theorem G6{h:Heap}{a:Addr}(n:h.Ns1 a λy=>if y=name then some v else none):∃o,h.get? a=some o/\o.data.pastItsLine=none:=by
 have one:Within (λy=>if y=name then some v else none) [name]:=λy e=>by
  by_cases c:y=name
  .simp[c]
  .simp[c] at e
 obtain⟨o,es,ep,q,d,le⟩:=n.count one;have le:es.size<=1:=le;exact⟨o,q,d▸pastItsLine_dict (by lia)⟩
theorem BO{e C H:Addr}{cd:ClassData}{vs:Array Value}{Q:Unit->Shared->Prop}(X:K.In z.heap)(hs:findIn K (.ref C) "__setattr__"=some (some (.builtin "object.__setattr__")))(ho:mroIn K C (.type "object")=some true)
  (hc:clsIn K C=some cd)(hm:cd.mro=[.ref C,.ref H,.type "ValueError",.type "Exception",.type "BaseException",.type "object"])(hd:cd.hasDict=true)(hn:findIn K (.ref C) name=some none)(f:FX z.heap e (.ref C) none vs)
  (hQ:∀h' yQ,FX h' e (.ref C) (some z.heap.objs.size) vs->h'.Ns1 z.heap.objs.size (λy=>if y=name then some v else none)->(∀b o,b≠e->z.heap.get? b=some o->h'.get? b=some o)->Q () {z with heap:=h',toks:=yQ }):
  wpAny (model prog w) A (setAttr (.ref e) name v) Q E z:=by
 have SF:=PySem.F.store_ValueError;obtain⟨sl,q⟩:=f;have I:InstAt z.heap e {cls:= .ref C,dict:=none,data:= .fields vs,slots:=sl} C none:=⟨q,rfl,rfl,trivial⟩
 have isO:Looks (model prog w) z.heap (isInstance (.ref e) (.type "object")) true:=I.type.andThen (looks_mroIn X ho);have ne:e≠z.heap.objs.size:=Gau (Gal q);apply set_plain X I hs;apply Gcp SF.slot.plain SF.entry;apply @check_slot (model prog w) _ _ {z with toks:=z.toks+1} "object.__setattr__" "object" "__setattr__" (.ref e) [.str name z.toks,v] [] _ SF.kind SF.split isO (SF.args (.ref e) (.str name z.toks) v);have mro:Looks (model prog w) z.heap (mroOf (.ref C)) cd.mro:=(looks_clsIn X hc).andThen .now;rw[osa_eq,refuse_eq];refine Gab (Gab (lk I.type (Gab (lk mro ?_))));rw[hm,refuseLoop_ref,refuseLoop_ref,SF.passes];refine Gah (Gab (lk I.type (Gab (lk (Gcx X hn) (Gab (Gah ?_))))));have kd:=looks_clsIn (M:=model prog w) X hc;have nm:(Value.ref C==Value.type "module")=false:=rfl;have qd:((z.heap.push {cls:= .type "dict",data:= .dict #[]}).update e λo=>{cls:=o.cls,dict:=some z.heap.objs.size,data:=o.data,slots:=o.slots}).get? z.heap.objs.size=some {cls:= .type "dict",data:= .dict #[]}:=(GaT _ _ ne).trans (Gat _ rfl);have n1:=Heap.Ns1.of_empty (h:=(z.heap.push {cls:= .type "dict",data:= .dict #[]}).update e λo=>{cls:=o.cls,dict:=some z.heap.objs.size,data:=o.data,slots:=o.slots}) (a:=z.heap.objs.size) ⟨_,#[],0,qd,rfl,λe he=>absurd he (by simp),λ_=>rfl⟩
 wp_walk using lk kd,wpAny_nsSet1 (s:=⟨_,z.gens,z.drawn,z.toks+1,z.os⟩) n1
 intro h' n2 sb;obtain⟨oD,q2,small⟩:=G6 n2;refine Gab (wpAny_lookBehind q2 small (Gah (hQ h' _ ⟨sl, ?_⟩ ?_ λb o nb k=> ?_)))
 .exact(sb.2 e ne).trans (Gba _ (Gad _ q) rfl)
 .exact n2
 .exact(sb.2 b (Gau (Gal k))).trans ((GaT _ _ (Gay nb)).trans (Gad _ k))
end
open PySem.W (findIn clsIn mroIn looks_findIn looks_clsIn looks_mroIn InstAt check_slot Looks handedIn handedOut_of)
section
variable{prog:Program}{w:World}{A:Around}{E:Value->Shared->Prop}{z:Shared}{K:PySem.W.Frag}
theorem ID{e C dx:Addr}{cd:ClassData}{name:Str}{v:Value}{vs:Array Value}{m:Str->Option Value}{expr:Bool}{Q:Value->Shared->Prop}(X:K.In z.heap)(hg:findIn K (.ref C) "__getattribute__"=some (some (.builtin "BaseException.__getattribute__")))(hh:findIn K (.ref C) "__getattr__"=some none)
  (hb:mroIn K C (.type "BaseException")=some true)(hc:clsIn K C=some cd)(hd:cd.hasDict=true)(hn:findIn K (.ref C) name=some none)(f:FX z.heap e (.ref C) (some dx) vs)(n:z.heap.Ns1 dx m)(hm:m name=some v)(hv:handedIn v=true)(hQ:Q v {z with toks:=z.toks+1}):
  wpAny (model prog w) A (getAttr (.ref e) name expr) Q E z:=by
 obtain⟨sl,q⟩:=f;have tE:Looks (model prog w) z.heap (typeOf (.ref e)) (.ref C):=(Looks.ld q).andThen .now;have isB:Looks (model prog w) z.heap (isInstance (.ref e) (.type "BaseException")) true:=tE.andThen (looks_mroIn X hb);have lg:=Gcx (M:=model prog w) X hg;have lh:=Gcx (M:=model prog w) X hh;have ln:=Gcx (M:=model prog w) X hn;have lc:=looks_clsIn (M:=model prog w) X hc;have no:(Value.builtin "BaseException.__getattribute__"==Value.builtin "object.__getattribute__")=false:=by decide+kernel
 refine Gab (wpAny_mkText (Gbi (Gab (lk tE (Gab (lk lg ?_))))));dsimp only;rw[no,Gck];refine GbJ rfl (Gab (GbN rfl (lk lh (Gab (wpAny_attempt (Gbi ?_))))));have G:=PySem.F.attrBase_ValueError.ga;have bd:=G.bind (.ref e);have nh:(expr&&onTheHeap (Value.builtin "BaseException.__getattribute__"))=false:=by cases expr<;>rfl
 refine GbJ (by rw[nh];rfl) (Gab (GcG bd (GbX (Gcp G.plain PySem.F.entry_bexc_ga (@check_slot (model prog w) _ _ {z with toks:=z.toks+1} "BaseException.__getattribute__" "BaseException" "__getattribute__" (.ref e) [.str name z.toks] [] _ (by decide+kernel) (by decide+kernel) isB (PySem.F.args_bexc_ga _ _) ?_)))))
 wp_walk using lk tE,lk ln,lk lc,wpAny_nsGet (s:=⟨z.heap,z.gens,z.drawn,z.toks+1,z.os⟩) n.ns
 rw[hm]
 wp_walk
 show wpAny _ _ (handedOut v) _ _ _;rw[handedOut_of hv];exact Gah hQ
end
open PySem.W (findIn clsIn mroIn looks_findIn looks_clsIn looks_mroIn InstAt check_slot Looks handedIn handedOut_of keepIn readsIn findCls specialIn cls_value method_cls)
noncomputable abbrev bmV:List Value:=[.type "ValueError",.type "Exception",.type "BaseException",.type "object"]
structure XCl(K:PySem.W.Frag)(B C f:Addr)(n:Str):Prop where
 obj:∀h,K.In h->∃nm q N bs hd sn sub ab col dd k0 k1 k2 k3 k5 mN oI,h.get? C=some (excClassObj nm q C N bs (.ref B::bmV) hd sn sub ab col dd k0 k1 k2 k3 k5 "ValueError.__new__")/\OwnTail h bmV (.ref B::bmV)/\h.Ns N mN/\mN "__init__"=some (.ref f)/\h.get? f=some oI/\oI.cls= .type "function"
 st:findIn K (.ref C) "__setattr__"=some (some (.builtin "object.__setattr__"))
 ob:mroIn K C (.type "object")=some true
 cd:∃cd,clsIn K C=some cd/\cd.mro= .ref C:: .ref B::bmV/\cd.hasDict=true
 nf:findIn K (.ref C) n=some none
 ga:findIn K (.ref C) "__getattribute__"=some (some (.builtin "BaseException.__getattribute__"))
 gt:findIn K (.ref C) "__getattr__"=some none
 be:mroIn K C (.type "BaseException")=some true
 kp:keepIn K (.ref C)=true
structure XBs(K:PySem.W.Frag)(B:Addr):Prop where
 rd:readsIn K B (.type "type")=true
 fc:findCls K (.ref B) (.type "type") "__init__"=some (.val (.builtin "ValueError.__init__"))
 sp:specialIn K (.ref B) "__getattribute__"=some (some (.builtin "type.__getattribute__"))
def X0(a C:Addr):Heap->Prop:=λh=>∃t0,FX h a (.ref C) none #[.ref t0,.none,.none,.none,.bool false,.none]
def X1(a C dx:Addr):Heap->Prop:=λh=>∃t0,FX h a (.ref C) (some dx) #[.ref t0,.none,.none,.none,.bool false,.none]
variable{o:HO}{h:Heap}{H:Hp}
theorem _root_.L2.Un.more{fs ex:List Addr}{H1:Hp}{h1:Heap}{d:Addr}(u:Un fs ex H H1 h h1)(hd:h.objs.size<=d)(n:H1 d=none):Un fs ex H (upd H1 d o) h h1 where
 keep:=u.keep
 slot:=u.slot
 free:=λb ob q z x=>by rw[ak (Gau (Gak (Gal q) hd))];exact u.free b ob q z x
 there:=u.there
 o9:=λb xs q=>by rw[ak (bc (u.o9 b xs q) n)];exact u.o9 b xs q
 mL:=λb ob w q=>by rw[ak (bc (u.mL b ob w q) n)];exact u.mL b ob w q
 qj:=λb ps q=>let⟨m,e⟩:=u.qj b ps q;⟨m,by rw[ak (bc e n)];exact e⟩
theorem _root_.L2.HOk.more{P:Program}{w:World}{d:Addr}(x:HOk P w H h)(n:H d=none)(new:bx P w (upd H d o) h d o):HOk P w (upd H d o) h:=λb u e=>by
 by_cases c:b=d
 .subst c;rw[aC] at e;cases e;exact new
 .rw[ak c] at e;exact(x b u e).dC (λ_ _ _ q=>q) (λy q=>by rw[ak (bc q n)];exact q) λy xs q=>by rw[ak (bc q n)];exact q
theorem one_le:1<=sizeLine:=by decide
section
variable{X:Cx}{B C f a:Addr}{n:Str}{H:Hp}
variable{h:Heap}
theorem Mm(x:X0 a C h):bx X.prog X.w H h a (.ext (X0 a C)):=⟨x,let⟨_,_,q⟩:=x;⟨_,q⟩,λ_ _ ⟨t,y⟩ k=> ⟨t,y.at k⟩⟩
theorem QG{dx:Addr}(x:X1 a C dx h):bx X.prog X.w H h a (.ext (X1 a C dx)):=⟨x,let⟨_,_,q⟩:=x;⟨_,q⟩,λ_ _ ⟨t,y⟩ k=> ⟨t,y.at k⟩⟩
theorem IE{o:HO}(h:H a=some o):upd H a o=H:=by
 funext b
 unfold upd;split
 .rename_i e;rw[e,h]
 .rfl
def QH(K:PySem.W.Frag)(B:Addr)(t:TA):TS:=λD σ H=>t σ H λvs H1=>∃a v C f n,vs=[.ref a,v]/\XCl K B C f n/\H1 a=some (.ext (X0 a C))/\D.nx σ H1
theorem O2{b:Str}{e:Expr}{es:List Expr}{t:TA}{p1 p2 p3 p4:Pos}{pl:Sem Bool}(bs:XBs X.K B)(hg:Gl X b)(hm:X.mg b=some (.ref B))(ha:PA X (e::es) t)
  (ht:eval (.Call (.Attribute (.Name b p1) "__init__" p2) (e::es) [] p3) X.env=(do
   let ov<-eval (.Name b p1) X.env
   standAt p2.atName
   let(f,first)<-holding [ov] (getMethod ov "__init__" pl)
   callWith p3 f first (backTo p3 (starEach (e::es) X.env)) (backToKw p3 (keywordEach [] X.env))))(xu:autoParam ((b==("__debug__":Str))=false) Za2._auto_1)
  (xR:autoParam (starEach (e::es) X.env=(false,eval e X.env)::starEach es X.env) Za1._auto_1)(xa:autoParam ((backTo p3 (starEach es X.env)).any (·.1)=false) Za1._auto_1)(hs:autoParam (swapsWith (.Call (.Attribute (.Name b p1) "__init__" p2) (e::es) [] p3) none p4.line X.env=pure false) Za1._auto_1):
  PS X (.Expr (.Call (.Attribute (.Name b p1) "__init__" p2) (e::es) [] p3) p4) (QH X.K B t):=by
 intro ee s σ H D I h;refine wpAny_Expr_any (Gci (kq I hg hm (method_cls I.kIn bs.sp (cls_value I.kIn bs.rd bs.fc (by rfl) ?_)) xu) ht) I.quiet hs;have I1:=I.tok (s.toks+1);refine GcT (thn (ha p3 ee _ σ H _ I1 h) λus s1 ⟨vs,H1,I2,r,a,v,C,f,n,ev,cl,ea,q⟩=> ?_) xR xa;subst ev;cases r with
 |cons r0 r=>
  cases r with
  |cons r1 r=>
   cases r;obtain rfl:=(show _=Value.ref a from r0)
   obtain⟨⟨t0,sl,q0⟩,_,_⟩:=(show bx X.prog X.w H1 s1.heap a (.ext (X0 a C)) from I2.hok a _ ea)
   obtain⟨nm,qq,N,UM,hd,sn,sub,ab,col,dd,k0,k1,k2,k3,k5,mN,oI,hC,T,_⟩:=cl.obj _ I2.kIn;obtain⟨hh,g,d,tk,os⟩:=s1;refine IC Gcq T hC q0 (λh' e1 e2 k=> ?_) one_le;refine⟨σ,H1, ?_,q⟩;have W:=I2.write (x:=a) (e:=a) (o:= .ext (X0 a C)) (h' :=h') (t' :=tk) (by rw[ea];trivial) (.inl rfl) k ⟨_,e1⟩ (Mm ⟨_,sl,e1⟩);rw[IE ea] at W;exact W
def QI(K:PySem.W.Frag)(B:Addr)(n:Str)(ta tv:TE):TS:=λD σ H=>tv σ H λy H1=>ta σ H1 λx H2=>∃a C f,x= .ref a/\XCl K B C f n/\H2 a=some (.ext (X0 a C))/\∀dx,H2 dx=none->dx≠a->D.nx σ (upd (upd H2 a (.ext (X1 a C dx))) dx (.xd [(n,y)]))
theorem O3{o value:Expr}{ta tv:TE}{pos pos' :Pos}(ha:PE X o ta)(hv:PE X value tv)(hs:swapsWith value (some (.Attribute o n pos')) pos.line X.env=pure false):PS X (.Assign [.Attribute o n pos'] value pos) (QI X.K B n ta tv):=by
 intro ee s σ H D I h;refine plainObj_wpAny_Assign_Attribute (thn (hv ee s σ H _ I h) λu s1 ⟨y,H1,I1,ry,q⟩=>thn (ha ee s1 σ H1 _ I1 q) λov s2 ⟨x,H2,I2,rx,a,C,f,ex,cl,ea,q2⟩=> ?_) hs;subst ex;obtain rfl:ov=Value.ref a:=rx;obtain⟨⟨t0,fx⟩,_,_⟩:=(show bx X.prog X.w H2 s2.heap a (.ext (X0 a C)) from I2.hok a _ ea)
 obtain⟨cd,c1,c2,c3⟩:=cl.cd;refine BO I2.kIn cl.st cl.ob c1 c2 c3 cl.nf fx λh' yQ e1 e2 k=> ?_;have ne:s2.heap.objs.size≠a:=Gbp fx.lt;have fr:H2 s2.heap.objs.size=none:=I2.hok.fresh (Gao _);refine⟨σ,_, ?_,q2 _ fr ne⟩;have I3:=I2.write (x:=a) (e:=a) (o:= .ext (X1 a C s2.heap.objs.size)) (h' :=h') (t' :=yQ) (by rw[ea];trivial) (.inl rfl) k (let⟨_,q⟩:=e1;⟨_,q⟩) (QG ⟨_,e1⟩);have n3:upd H2 a (.ext (X1 a C s2.heap.objs.size)) s2.heap.objs.size=none:=by rw[ak ne];exact fr
 have un:Un X.fs [] H2 (upd H2 a (.ext (X1 a C s2.heap.objs.size))) s2.heap h' :=Un.write (e:=a) (by rw[ea];trivial) (.inl rfl) k (let⟨_,q⟩:=e1;⟨_,q⟩);refine I2.un (un.more (Gao _) n3) (I3.hok.more n3 ⟨_,e2,λy' => ?_⟩);by_cases c:y' =n
 .subst c;simp only[GaG,beq_self_eq_true,GaZ];exact ry
 .have c' :(y' ==n)=false:=by simpa using c
  simp only[GaG,c',List.lookup_nil,Gag c];exact True.intro
end
open PySem.W (findIn clsIn mroIn looks_findIn looks_clsIn looks_mroIn InstAt check_slot Looks)
noncomputable def uZ(K:PySem.W.Frag)(B C:Addr)(n:Str):Sp:=λvs H Q _=>∃a v,vs=[.ref a,v]/\H a=some (.ext (X0 a C))/\∀dx,H dx=none->dx≠a->Q .non (upd (upd H a (.ext (X1 a C dx))) dx (.xd [(n,v)]))
section
variable{X:Cx}{B C f a:Addr}{n:Str}{H:Hp}{CX:CXT}{k:Nat}{fd:FuncData}{ps:List Str}{E:XK}{ee:List (Addr×Obj)}{σ:L2.St}{s:Shared}
theorem KZ{Q:VK}{u:Value}{v:V}(cl:XCl X.K B C f n)(F:bu X.prog X.w X.K X.mg X.base CX k f fd ps (uZ X.K B C n))(hr:cP (k+1) X.A)(hb:Binds X.K fd ps [])(hx:Passes CX X E)(I:Inv X ee σ H s)(ru:RelV v u)
  (h:∀a dx,s.heap.objs.size<=a->H a=none->H dx=none->dx≠a->Q (.ref a) (upd (upd H a (.ext (X1 a C dx))) dx (.xd [(n,v)]))):wpAny (model X.prog X.w) X.A (call (.ref C) [u]) (EP X ee σ Q) X.xe s:=by
 obtain⟨hh,g,d,tk,os⟩:=s;obtain⟨nm,qq,N,bs,hd,sn,sub,ab,col,dd,k0,k1,k2,k3,k5,mN,oI,hC,T,hn,hi,hf,UA⟩:=cl.obj _ I.kIn;refine IB Gcq (by decide) Gcq T hC hn hi hf UA (λh' e m lt=> ?_) one_le;obtain⟨t0,q0,_⟩:=m.there;have le:hh.objs.size<=e:=GcR lt;have fr:=I.hok.fresh le;have I2:Inv X ee σ (upd H e (.ext (X0 e C))) ⟨h',g,d,tk,os⟩:=I.laid (a:=e) (o:= .ext (X0 e C)) (t' :=tk) m.keeps le (Mm ⟨t0,_,q0⟩);have sp:uZ X.K B C n [.ref e,v] (upd H e (.ext (X0 e C))) (λv H2=>v= .non/\Q (.ref e) H2) E:=⟨e,v,rfl,aC,λdx z ne=> ⟨rfl,by
  have q:=h e dx le fr (by rw[ak ne] at z;exact z) ne;rw[Dy];exact q⟩⟩
 have hl:[Value.ref e,u].length=ps.length:=F.len _ _ _ _ sp;have r2:Vals [V.ref e,v] [Value.ref e,u]:= .cons rfl (.cons ru .nil);refine GbX (Gch (F.run _ X.stack _ _ ⟨[.ref e,u],[]⟩ [.ref e,u] _ _ E (hr.make C [u] []) (I2.JY.make C [u] []) (by have:=hb ⟨h',g,d,tk,os⟩ [.ref e,u] I2.kIn (by rw[GaV];exact hl);rw[GaV] at this;exact this) r2 sp) λr s' yD => ?_);cases r with
 |error e=>exact hx ee σ _ _ e s' I2 yD
 |ok fl=>
  cases fl with
  |ret u=>
   obtain⟨v',H',I3,rv,ev,q3⟩:=I2.after yD;subst ev;exact⟨rv,⟨V.ref e,H',I3,rfl,q3⟩⟩
  |next=>exact False.elim yD
  |brk=>exact False.elim yD
  |cont=>exact False.elim yD
theorem D4{env:PySem.Env}{x:Sem Value}{E' :Value->Shared->Prop}{Q:Flow->Shared->Prop}{A:Around}(hh:A.handled=none)(h:wpAny (model X.prog X.w) A x (λv s1=>∃a C B f n dx,v= .ref a/\X.K.In s1.heap/\XCl X.K B C f n/\X1 a C dx s1.heap/\E' (.ref a) s1) E' s):
  wpAny (model X.prog X.w) A (raiseStmt env (some x) none) Q E' s:=by
 unfold raiseStmt;refine Gab (Gbg h (λv s1 ⟨a,C,B,f,n,dx,ev,kin,cl,⟨t0,sl,q⟩,hE⟩=> ?_) λ_ _ y=>y);subst ev;have tE:Looks (model X.prog X.w) s1.heap (typeOf (.ref a)) (.ref C):=(Looks.ld q).andThen .now;have isB:Looks (model X.prog X.w) s1.heap (isInstance (.ref a) (.type "BaseException")) true:=tE.andThen (looks_mroIn kin cl.be);obtain⟨nm,qq,N,bs,hd,sn,sub,ab,col,dd,k0,k1,k2,k3,k5,mN,oI,hC,_⟩:=cl.obj _ kin;have tC:Looks (model X.prog X.w) s1.heap (typeOf (.ref C)) (.type "type"):=(Looks.ld hC).andThen .now;obtain⟨hp,g,d,tk,os⟩:=s1
 wp_walk using lk (z:=⟨hp,g,d,tk,os⟩) isB,lk (z:=⟨hp,g,d,tk,os⟩) tE,lk (z:=⟨hp,g,d,tk,os⟩) tC,Gcg q
 exact wpAny_raiseNew_none hh hE
end
def X2(a C dx T:Addr):Heap->Prop:=λh=>∃t0,FX h a (.ref C) (some dx) #[.ref t0,.ref T,.none,.none,.bool false,.none]
structure O4(P:Program)(w:World)(outer:List PySem.Env)(H:Hp)(s:Shared)(a C dx T:Addr)(n:Str)(v:V)(H' :Hp)(s' :Shared):Prop where
 os:s'.os=s.os
 bare:AllBare s'.gens
 un:Un (frs outer) [] H H' s.heap s'.heap
 hok:HOk P w H' s'.heap
 new:s.heap.objs.size<=a
 OM:s.heap.objs.size<=T
 ne:T≠a
 obj:H' a=some (.ext (X2 a C dx T))
 dct:H' dx=some (.xd [(n,v)])
 trc:∃ts,FX s'.heap T (.type "traceback") none ts/\ts[3]? =some .none
 trf:H' T=none
noncomputable def CXE(P:Program)(w:World)(K:PySem.W.Frag):CXT:=λouter H s E e s' =>∃a B C f dx T n v H',e= .ref a/\XCl K B C f n/\O4 P w outer H s a C dx T n v H' s' /\E (.ref C) (some dx) H'
def Loose:Option HO->Prop
 |some (.ext _)=>True
 |some (.xd _)=>True
 |_=>False
theorem jU{H:Hp}{a b:Addr}{o:HO}(l:Loose (H a))(e:H b=some o)(n:¬Loose (some o)):b≠a:=λq=>by subst q;rw[e] at l;exact n l
section
variable{P:Program}{w:World}{H H1:Hp}{h h1 h2:Heap}{a:Addr}{o:HO}{fs:List Addr}
theorem _root_.L2.HOk.qM(ok:HOk P w H h)(l:Loose (H a))(k:∀b u,b≠a->H b≠none->h.get? b=some u->h1.get? b=some u)(new:bx P w (upd H a o) h1 a o):HOk P w (upd H a o) h1:=λb u q=>by
 by_cases hb:b=a
 .subst hb;rw[aC] at q;cases q;exact new
 .rw[ak hb] at q;refine(ok b u q).dC (λc v hc r=> ?_) (λc r=>by rw[ak (jU l r λz=>z)];exact r) λc xs r=>by rw[ak (jU l r λz=>z)];exact r
  rcases hc with rfl|hc
  .exact k c v hb (by rw[q];simp) r
  .exact k c v (jU l hc λz=>z) (by rw[hc];simp) r
theorem _root_.L2.Un.qM(u:Un fs [] H H1 h h1)(l:Loose (H1 a)):Un fs [] H (upd H1 a o) h h1 where
 keep:=u.keep
 slot:=u.slot
 free:=λb ob q z x=>by
  have e:=u.free b ob q z x;rw[ak λc=>by subst c;rw[e] at l;exact l];exact e
 there:=u.there
 o9:=λb xs q=>by rw[ak (jU l (u.o9 b xs q) λz=>z)];exact u.o9 b xs q
 mL:=λb ob w q=>by rw[ak (jU l (u.mL b ob w q) λz=>z)];exact u.mL b ob w q
 qj:=λb ps q=>let⟨m,e⟩:=u.qj b ps q;⟨m,by rw[ak (jU l e λz=>z)];exact e⟩
theorem _root_.L2.Un.past{ex:List Addr}(u:Un fs ex H H1 h h1)(k1:∀b ob,b<h.objs.size->h1.get? b=some ob->∃sl,h2.get? b=some {ob with slots:=sl})(k2:∀b ob,b<h.objs.size->b∉fs->h1.get? b=some ob->h2.get? b=some ob):Un fs ex H H1 h h2 where
 keep:=λb ob q z m x=>k2 b ob (Gal q) m (u.keep b ob q z m x)
 slot:=λb ob q z m x=>by
  obtain⟨sl,e⟩:=u.slot b ob q z m x;obtain⟨TB,e'⟩:=k1 b _ (Gal q) e;exact⟨TB,e'⟩
 free:=u.free
 there:=λb ob q x=>by
  obtain⟨o',e⟩:=u.there b ob q x;obtain⟨TB,e'⟩:=k1 b _ (Gal q) e;exact⟨_,e'⟩
 o9:=u.o9
 mL:=u.mL
 qj:=u.qj
end
section
variable{P:Program}{w:World}{K:PySem.W.Frag}{mg:Str->Option Value}{base:Heap}{N:List Str}{qual:Str}{scope:Scope}{f:Addr}{cd:Value}{A:Around}{outer:List PySem.Env}{s s1:Shared}{H H1:Hp}{E:XK}{ee:List (Addr×Obj)}{σ:L2.St}
variable{a C dx:Addr}
theorem Mn{T:Addr}{h:Heap}(x:X2 a C dx T h):bx P w H h a (.ext (X2 a C dx T)):=⟨x,let⟨_,_,q⟩:=x;⟨_,q⟩,λ_ _ ⟨t,y⟩ k=> ⟨t,y.at k⟩⟩
theorem IF{B fI:Addr}{n:Str}{v:V}(I:Inv (jn (CXE P w K) P w K mg base N qual scope f cd A outer s H E) ee σ H1 s1)(cl:XCl K B C fI n)(ha:s.heap.objs.size<=a)(ea:H1 a=some (.ext (X1 a C dx)))(ed:H1 dx=some (.xd [(n,v)]))
  (hE:∀T,E (.ref C) (some dx) (upd H1 a (.ext (X2 a C dx T)))):(jn (CXE P w K) P w K mg base N qual scope f cd A outer s H E).xe (.ref a) s1:=by
 obtain⟨⟨t0,fx⟩,_,_⟩:=(show bx P w H1 s1.heap a (.ext (X1 a C dx)) from I.hok a _ ea)
 have lo:Loose (H1 a):=by rw[ea];trivial
 have nd:dx≠a:=oR ed ea (λz=>by cases z);have fl:s.heap.objs.size<=(jn (CXE P w K) P w K mg base N qual scope f cd A outer s H E).env.locals:=I.ok.above;have big:∀b,b<s.heap.objs.size->b∉frs outer->b∉(jn (CXE P w K) P w K mg base N qual scope f cd A outer s H E).stack.filterMap (·.frame):=λb lt m z=>by
  rcases Gaw.mp (I.uu b z) with e|z
  .exact absurd (Gak lt fl) (by rw[e];exact GaN _)
  .exact m z
 refine A4 (uY (base:=base) I.ok.frames I.stack rfl fx (.inl rfl) λh' T ts fe n1 le ft q3 k1 k2=> ?_);refine⟨a,B,C,fI,dx,T,n,v,upd H1 a (.ext (X2 a C dx T)),rfl,cl,⟨I.os,I.bare,((show Un (frs outer) [] H H1 s.heap s1.heap from I.base).past (h2:=h') (λb ob lt q=>k1 b ob (Gau (Gak lt ha)) (λz=>by cases z) q) λb ob lt m q=>k2 b ob (Gau (Gak lt ha)) (λz=>by cases z) (big b lt m) q).qM lo,I.hok.qM lo (λb u nb z q=>k2 b u nb (λz=>by cases z) (λm=>z (I.qm b m)) q) (Mn ⟨t0,fe⟩),ha,GaQ I.sz le,n1,aC,by rw[ak nd];exact ed,⟨ts,ft,q3⟩, ?_⟩,hE T⟩;rw[ak n1];exact I.hok.fresh le
end
inductive RX where
 |ok (d:D)
 |exc (C:Nat) (n:Str) (d:D)
inductive OX where
 |o (x:Out)
 |x (C:Nat) (n:Str) (d:D)
abbrev DX:=Env->Option OX
@[simp] noncomputable def rzX(C:Nat)(n:Str)(f:DE):DX:=λenv=>(f env).bind λr=>if r.d.imm then some (.x C n r.d) else none
noncomputable def D5(cs:List (Nat×Bool)):D->Option Bool
 | .exc C _ _=>cs.lookup C
 |_=>none
@[simp] noncomputable def va(cs:List (Nat×Bool))(f:DE):DT:=λenv=>(f env).bind λx=>D5 cs x.d
noncomputable def O5(cs:List Nat)(m:Str):D->Option RV
 | .exc C n d=>if cs.contains C=true/\n=m then some ⟨.c,d⟩ else none
 |_=>none
@[simp] noncomputable def L0(cs:List Nat)(m:Str)(f:DE):DE:=λenv=>(f env).bind λx=>match x.k with
 | .c=>O5 cs m x.d
 |_=>none
def XW(K:av)(H0:Hp)(E:XK)(C:Nat)(n:Str)(d:D):Prop:=∀v dx H',bz H0 H' ->H0 dx=none->H' dx=some (.xd [(n,v)])->Rep K (λ_=>True) H' d v->E (.ref C) (some dx) H'
def tX(X:Cx)(E:XK)(f:DX):TS:=λD σ H=>∃H0 eh env o,aA X.K H0 eh env σ H/\f env=some o/\match o with
 | .o o=>Eb X H0 eh env σ H D o
 | .x C n d=>XW X.K H0 E C n d
theorem _root_.L2.PS.nox{X:Cx}{st:Stmt}{t:TS}(h:PS X.nox st t):PS X st t:=λee s σ H D I hw=>
 Gbg (h ee s σ H D (I.oM _) hw) (λ_ _ q=>q.iC) λ_ _ z=>False.elim z
theorem _root_.L2.PA.nox{X:Cx}{es:List Expr}{t:TA}(h:PA X.nox es t):PA X es t:=λpos ee s σ H Q I hw=>
 Gbg (h pos ee s σ H Q (I.oM _) hw) (λ_ _ ⟨v,H',I',r,q⟩=> ⟨v,H',I'.iC,r,q⟩) λ_ _ z=>False.elim z
section
variable{X:Cx}{E:XK}{st:Stmt}{xQ rest:List Stmt}{f:DS}{g g1 g2:DX}{c:Expr}{t:DT}{pos:Pos}
def XL(X:Cx)(E:XK):Prop:=∀(ee:List (Addr×Obj)) (σ:L2.St) (H:Hp) (s:Shared) (a B C f dx:Addr) (n:Str) (v:V),Inv X ee σ H s->XCl X.K B C f n->X.s₀.heap.objs.size<=a->H a=some (.ext (X1 a C dx))->H dx=some (.xd [(n,v)])->(∀T,E (.ref C) (some dx) (upd H a (.ext (X2 a C dx T))))->X.xe (.ref a) s
theorem Rep.told{K:av}{F F' :Addr->Prop}{H H' :Hp}{d:D}{v:V}(r:Rep K F H d v)(hd:d.imm=true)(s:∀b o,H b=some o->isT o->H' b=some o):Rep K F' H' d v:=
 (r.imm (F' :=λ_=>False) hd).gen (λb o e z=>s b o e (z.resolve_left λq=>q)) λ_ q _=>q.elim
theorem IG{B C fI:Addr}{n cn:Str}{k:Nat}{fd:FuncData}{ps:List Str}{e:Expr}{f:DE}{p1 p2 p3:Pos}(cl:XCl X.K B C fI n)(F:bu X.prog X.w X.K X.mg X.base CX0 k fI fd ps (uZ X.K B C n))(hr:cP (k+1) X.A)(hb:Binds X.K fd ps [])
  (hL:XL X E)(hg:Gl X cn)(hm:X.mg cn=some (.ref C))(he:PEd X.nox e f)(xu:autoParam ((cn==("__debug__":Str))=false) Za2._auto_1)(hs:autoParam (starEach [e] X.env=(false,eval e X.env)::starEach [] X.env) Za1._auto_1):
  PS X (.Raise (some (.Call (.Name cn p1) [e] [] p2)) none p3) (tX X E (rzX C n f)):=by
 intro ee s σ H D I h;obtain⟨H0,eh,env,o,EO,eo,k⟩:=h;obtain⟨r,hf,eo⟩:=ef eo;split at eo
 .rename_i im;cases eo;rw[arm_exec_Raise];refine Gab (wpAny_standAt (D4 hr.hd (Gab (thn ?_ λv s1 q=>Gab (wpAny_standAt (Gah q))))));refine Gbl (kq I hg hm ?_ xu);have ha:PA X [e] (Bl (tE X f) GS):=dB (PE.nox he) lU hs;have h0:Bl (tE X f) GS σ H λvs H1=>∃v,vs=[v]/\bz H H1/\je X.K H0 eh env σ H H1 r v:=⟨H0,eh,env,r,EO,hf,λv H1 s1 R=> ⟨v,rfl,s1,R⟩⟩
  refine Gbu (h₀:=X.base) I.ok.mod.kin cl.kp (thn (ha p2 ee s σ H _ I h0) λus s1 ⟨vs,H1,I1,rr,v,ev,sm,R⟩=> ⟨I1.kIn, ?_⟩) hs rfl;subst ev;cases rr with
  |cons ru rr=>
   cases rr;rename_i u _;refine thn (KZ (Q:=λv2 H2=>∃a dx,s1.heap.objs.size<=a/\H1 a=none/\H1 dx=none/\dx≠a/\v2= .ref a/\H2=upd (upd H1 a (.ext (X1 a C dx))) dx (.xd [(n,v)])) cl F hr hb uE I1 ru λa dx q1 q2 q3 q4=> ⟨a,dx,q1,q2,q3,q4,rfl,rfl⟩) λw s2 ⟨v2,H2,I2,rv,a,dx,q1,q2,q3,q4,e1,e2⟩=> ?_;subst e1 e2;obtain rfl:w=Value.ref a:=rv;have ea:upd (upd H1 a (.ext (X1 a C dx))) dx (.xd [(n,v)]) a=some (.ext (X1 a C dx)):=by rw[ak (Gay q4)];exact aC
   obtain⟨x1,_,_⟩:=(show bx X.prog X.w _ s2.heap a (.ext (X1 a C dx)) from I2.hok a _ ea)
   refine⟨a,C,B,fI,n,dx,rfl,I2.kIn,cl,x1,hL ee σ _ s2 a B C fI dx n v I2 cl (GaQ I1.sz q1) ea aC λT=> ?_⟩;have hS:bz H1 (upd (upd (upd H1 a (.ext (X1 a C dx))) dx (.xd [(n,v)])) a (.ext (X2 a C dx T))):=λb ob q=>by
    rw[ak (bc q q2),ak (bc q q3),ak (bc q q2)];exact q
   refine k v dx _ ((EO.same.trans sm).trans hS) ((EO.same.trans sm).free q3) (by rw[ak q4];exact aC) (((R.inn.imm (F' :=λ_=>True) im).same hS))
 .cases eo
end
section
variable{P:Program}{w:World}{K:av}{mg:Str->Option Value}{base:Heap}{x qual:Str}{sd:Stmt}{fa:Addr}{fd:FuncData}{N ps:List Str}{k np:Nat}
theorem QJ{X:Cx}:Passes (CXE X.prog X.w X.K) X E0:=λ_ _ _ _ _ _ _ ⟨_,_,_,_,_,_,_,_,_,_,_,_,h⟩=>False.elim h
end
open PySem.W (Looks exmOne exm_one)
noncomputable abbrev hdl (X:Cx) (e:Value):Cx:={X with A:=X.A.mark (some e),calm:=false,xe:=λ_ _=>False}
section
variable{X:Cx}{ee:List (Addr×Obj)}{σ:L2.St}{H:Hp}{s:Shared}
theorem _root_.L2.Inv.mark(I:Inv X ee σ H s)(e:Value):Inv (hdl X e) ee σ H s:=
 ⟨⟨I.ok.mod,I.ok.kind,I.ok.glob,I.ok.blt,I.ok.above,I.ok.inj,I.ok.has,I.ok.cab,λz=>(by cases z),I.ok.frames,I.ok.stk,I.ok.exf,I.ok.bs,I.ok.bsz,I.ok.Ds,I.ok.Dt,I.ok.ql,I.ok.frf⟩,I.os,I.bare,I.base,I.loc,I.cell,I.free,I.jc,I.pin,I.hok,I.len⟩
theorem _root_.L2.Inv.unmark{e:Value}(I:Inv (hdl X e) ee σ H s)(hd:X.calm=true->X.A.handled=none):Inv X ee σ H s:=
 ⟨⟨I.ok.mod,I.ok.kind,I.ok.glob,I.ok.blt,I.ok.above,I.ok.inj,I.ok.has,I.ok.cab,hd,I.ok.frames,I.ok.stk,I.ok.exf,I.ok.bs,I.ok.bsz,I.ok.Ds,I.ok.Dt,I.ok.ql,I.ok.frf⟩,I.os,I.bare,I.base,I.loc,I.cell,I.free,I.jc,I.pin,I.hok,I.len⟩
theorem G7{M:Model}{A:Around}{E:Value->Shared->Prop}{k:Nat}{x:Str}{v:V}{Q:Unit->Shared->Prop}(I:Inv X ee σ H s)(hN:X.N.Nodup)(hk:X.N[k]? =some x)(hx:X.env.scope.names.lookup x=some .local)(hv:σ[k]? =some (some v))
  (h:∀s',Inv X ee (σ.set k none) H s' ->Q () s'):wpAny M A (unbindName X.env x) Q E s:=by
 have kl:X.env.kindOf x=some .local:=hx;obtain⟨m,hn,names⟩:=I.loc;obtain⟨u,hm⟩:∃u,m x=some u:=by
  obtain⟨u,_,⟨_,e⟩| ⟨z|z,_⟩⟩:=names k x v hk hv (.inl hx)
  .exact⟨u,e⟩
  all_goals rw[kl] at z;cases z
 have far:∀b,b<X.s₀.heap.objs.size->b≠X.env.locals:=λb lt e=>absurd (Gak lt I.ok.above) (by rw[e];exact GaN _);have left:∀{h' :Heap},Heap.SameBut X.env.locals s.heap h' ->HOk X.prog X.w H h' :=λhs b ob e=>(I.hok b ob e).dC (λc _ hc q=>(hs.2 c λz=>by subst z;rcases hc with z|z;(rw[<-z,I.free] at e;cases e);(rw[I.free] at z;cases z)).trans q) (λ_ q=>q) λ_ _ q=>q;refine wpAny_unbindName_local kl hn hm (by rw[I.ok.kind];rfl) λh' u' Ur hs=>h _ {ok:=I.ok,os:=I.os,bare:=I.bare,base:= ?_,loc:=⟨_,Ur,λj y v' e1 e2 e3=> ?_⟩,cell:=λy c e=> ?_,free:=I.free,jc:=I.jc,pin:=λp hp=> ?_,hok:=left hs,len:=by simpa using I.len}
 .exact I.base.past (λb ob lt q=> ⟨ob.slots,(hs.2 b (far b lt)).trans q⟩) λb ob lt _ q=>(hs.2 b (far b lt)).trans q
 .rcases eO e2 with⟨_,z⟩| ⟨hj,e2⟩
  .cases z
  .obtain⟨w,yt,look⟩:=names j y v' e1 e2 e3;have ny:y≠x:=λe=>hj (uw hN hk (e▸e1));exact⟨w,yt,look.imp (λ⟨a,b⟩=> ⟨a,(Gag ny).trans b⟩) λ⟨a,c,b,z⟩=> ⟨a,c,b,z.sameBut hs (I.cne y c b)⟩⟩
 .exact(I.cell y c e).imp λ_ z=>z.sameBut hs (I.cne y c e)
 .obtain⟨q1,q2,q3,q4⟩:=I.pin p hp;exact⟨(hs.2 _ q3).trans q1,q2,q3,q4⟩
end
section
variable{K:av}{H0 H H' :Hp}{eh:Addr->Prop}{env:Env}{σ:St}{k:Nat}
theorem iI{j:Nat}(h:b6 (env.set k none)[j]?):k≠j/\b6 env[j]? :=by
 by_cases q:k=j
 .subst q;by_cases z:k<env.length
  .rw[bA z] at h;exact h.elim
  .rw[GaP (by simpa using Gco z)] at h;exact h.elim
 .rw[Gaa q] at h;exact⟨q,h⟩
theorem aA.clear(E:aA K H0 eh env σ H)(k:Nat):aA K H0 eh (env.set k none) (σ.set k none) H:=by
 have hV:∀b,Cln eh env σ b->Cln eh (env.set k none) (σ.set k none) b:=λb ⟨h1,h2⟩=> ⟨h1,λj t e=>by
  obtain⟨q,t⟩:=iI t;rw[Gaa q] at e;exact h2 j t e⟩
 have at' :∀{i:Nat} {s:Slot},(env.set k none)[i]? =some (some s)->k≠i/\env[i]? =some (some s):=λe=>by
  rcases eO e with⟨_,z⟩|z
  .cases z
  .exact z
 refine⟨E.same,by simpa using E.len,E.bad,λi d e=> ?_,λi d e=> ?_,λi d e=> ?_,λi j a t1 t2 e1 e2=> ?_⟩
 .obtain⟨q,e⟩:=at' e;obtain⟨v,h1,h2⟩:=E.sh i d e;exact⟨v,by rw[Gaa q];exact h1,h2.imp hV⟩
 .obtain⟨q,e⟩:k≠i/\(env[i]? =some (some (.own d))\/env[i]? =some (some (.lok d))):=by
   rcases e with e|e
   .exact⟨(at' e).1,.inl (at' e).2⟩
   .exact⟨(at' e).1,.inr (at' e).2⟩
  obtain⟨a,h1,h2,h3,h4,h5,h6⟩:=E.ow i d e;exact⟨a,by rw[Gaa q];exact h1,h2,h3,h4,h5,h6.imp hV⟩
 .obtain⟨q,e⟩:=at' e;obtain⟨a,h1,h2,h3,h4⟩:=E.bo i d e;exact⟨a,by rw[Gaa q];exact h1,h2,h3,h4.imp hV⟩
 .obtain⟨q1,_⟩:=iI t1.top;obtain⟨q2,zx⟩:=iI t2;rw[Gaa q1] at t1 e1;rw[Gaa q2] at e2;exact E.dj i j a t1 zx e1 e2
end
section
variable{X:Cx}{ee:List (Addr×Obj)}{σ:L2.St}{H H1 H' :Hp}{s s1 s' :Shared}
theorem IH{a B C Cn fI dx T:Addr}{n cn xj en:Str}{v:V}{j k:Nat}{p5 p6 p7 p8 p9:Pos}{Q:Flow->Shared->Prop}(I1:Inv X ee σ H1 s1)(cx:O4 X.prog X.w X.stack H1 s1 a C dx T n v H' s')(cl:XCl X.K B C fI n)(xR:X.stack=X.env::X.outer)(yV:X.env.frame=some X.env.locals)
  (hm:exmOne X.K (.ref C) (.ref Cn)=some true)(hg:Gl X cn)(zN:X.mg cn=some (.ref Cn))(hN:X.N.Nodup)(hj:X.N[j]? =some xj)(hk:X.N[k]? =some en)(Ug:Loc X.env.scope xj)(zl:X.env.scope.names.lookup en=some .local)(Uv:j≠k)
  (hs:swapsWith (.Name en p7) (some (.Name xj p6)) p8.line X.env=pure false)(hf:X.fn xj=true\/X.env.scope.names.lookup xj=some .local)(xu:(cn==("__debug__":Str))=false)(UB:(en==("__debug__":Str))=false)(Tg:(en==("__classdict__":Str))=false)
  (hq:∀Hf s2,Inv X ee ((σ.set j (some (.ref a))).set k none) Hf s2->(∃vs sl od,Hf a=some (.frz {cls:= .ref C,dict:=some dx,data:= .fields vs,slots:=sl} (.own a))/\Hf dx=some (.frz od (.xd [(n,v)])))->(∀b,b≠a->b≠dx->Hf b=H' b)->Q .next s2):
  wpAny (model X.prog X.w) X.A (noteFrame (.ref a) X.env) (λ_ s2=>wpAny (model X.prog X.w) X.A (setFlight (.ref a) none) (λ_ s3=>wpAny (model X.prog X.w) X.A (handleBy (.ref a) X.env [.ExceptHandler (some (.Name cn p5)) (some en) [.Assign [.Name xj p6] (.Name en p7) p8] p9]) Q X.xe s3) X.xe s2) X.xe s' :=by
 obtain⟨⟨t0,fx⟩,_,_⟩:=(show bx X.prog X.w H' s'.heap a (.ext (X2 a C dx T)) from cx.hok a _ cx.obj)
 obtain⟨ts,ft,q3⟩:=cx.trc;obtain⟨mA,Vp,U8⟩:=(show bx X.prog X.w H' s'.heap dx (.xd [(n,v)]) from cx.hok dx _ cx.dct)
 obtain⟨od,Wa,Wb,V1,T6⟩:=id Vp;have nd:dx≠a:=oR cx.dct cx.obj (λz=>by cases z);have I2:Inv X ee σ H' s' :=I1.Bh (ch:=[]) cx.os cx.un cx.hok cx.bare (λ_ z=>nomatch z);have lo:Loose (H' a):=by rw[cx.obj];trivial
 have stk:s'.heap.FunFrames X.base (X.env::X.outer):=xR▸I2.stack;have free:∀b∈frs (X.env::X.outer),H' b=none:=xR▸I2.qm;refine uY (base:=X.base) (I1.ok.frames.trans (by rw[xR])) stk yV fx (.inr ⟨T,_,_,ts,rfl,cx.ne,ft,q3⟩) λh' T' yP fe n1 le zj U9 k1 k2=> ?_;have keep:∀b u,b≠a->H' b≠none->s'.heap.get? b=some u->h'.get? b=some u:=λb u nb z q=>k2 b u nb (λe=>by cases e;exact z cx.trf) (λm=>z (free b m)) q;have T9 :h'.get? dx=some od:=keep dx od nd (by rw[cx.dct];simp) V1;obtain⟨sl,oa⟩:=id fe;have ltD:dx<s'.heap.objs.size:=Gal V1;have un1:Un (frs X.stack) [] H1 H' s1.heap h' :=cx.un.past (λb ob lt q=>k1 b ob (Gau (Gak lt cx.new)) (λe=>by cases e;exact absurd (Gak lt cx.OM) (GaN _)) q)
  λb ob lt m q=>k2 b ob (Gau (Gak lt cx.new)) (λe=>by cases e;exact absurd (Gak lt cx.OM) (GaN _)) (λz=>m (by rw[xR];exact z)) q
 obtain⟨Hf,fA,fD,fO,I3⟩:∃Hf:Hp,Hf a=some (.frz {cls:= .ref C,dict:=some dx,data:= .fields #[.ref t0,.ref T',.none,.none,.bool false,.none],slots:=sl} (.own a))/\Hf dx=some (.frz od (.xd [(n,v)]))/\(∀b,b≠a->b≠dx->Hf b=H' b)/\Inv X ee σ Hf {s' with heap:=h' }:=by
  have lod:∀o,Loose (upd H' a o dx):=λo=>by rw[ak nd,cx.dct];trivial
  refine⟨upd (upd H' a (.frz {cls:= .ref C,dict:=some dx,data:= .fields #[.ref t0,.ref T',.none,.none,.bool false,.none],slots:=sl} (.own a))) dx (.frz od (.xd [(n,v)])),by rw[ak (Gay nd)];exact aC,aC,λb h1 h2=>by rw[ak h2,ak h1], ?_⟩;have ok1:HOk X.prog X.w (upd H' a (.frz {cls:= .ref C,dict:=some dx,data:= .fields #[.ref t0,.ref T',.none,.none,.bool false,.none],slots:=sl} (.own a))) h' :=cx.hok.qM lo keep (show _/\_ from⟨oa,_,oa⟩);have Ua:HOk X.prog X.w (upd (upd H' a (.frz {cls:= .ref C,dict:=some dx,data:= .fields #[.ref t0,.ref T',.none,.none,.bool false,.none],slots:=sl} (.own a))) dx (.frz od (.xd [(n,v)]))) h' :=ok1.qM (lod _) (λ_ _ _ _ q=>q) (show _/\_ from⟨T9,mA,⟨od,Wa,Wb,T9,T6⟩,U8⟩);exact I1.Bh (s' :={s' with heap:=h' }) (ch:=[]) cx.os ((un1.qM lo).qM (lod _)) Ua cx.bare (λ_ z=>nomatch z)
 have fT:Hf T' =none:=by rw[fO T' n1 (Gbp (Gak ltD le))];exact cx.hok.fresh le
 have sz3:3<yP.size:=(Gbr.mp U9).1;refine wpAny_handleBy_cons (codeAny_handlers_test (kq (X:=hdl X (.ref a)) (I3.mark (.ref a)) hg zN ?_ xu)) (by intro q;cases q);have LT:Looks (model X.prog X.w) h' (typeOf (.ref a)) (.ref C):=(Looks.ld oa).andThen .now;refine exm_one (M:=model X.prog X.w) I3.kIn LT hm _ _ _ _ (λ_ _ e=>e) (codeAny_handlers_suite_as ?_);refine Gab (uX (z:={s' with heap:=h' }) (i:=1) (x:= .ref T') fe rfl (GbN (by simp) (AR (z:={s' with heap:=h' }) zj (λh2 Wt sb=> ?_) sz3)));have I4:Inv X ee σ Hf {s' with heap:=h2}:=I3.turned (s:={s' with heap:=h' }) (h' :=h2) (t' :=s'.toks) (it:=T') (λb o nb q=>(sb.2 b nb).trans q) fT (Gbp (Gak I2.lt le)) (.inr (GaQ I2.sz le))
  (λx c e z=>by obtain⟨_,o,ho,_⟩:=I2.cell x c e;exact absurd (Gak (Gal ho) le) (by rw[z];exact GaN _))
  λp hp z=>absurd (Gak (Gal (I2.pin p hp).1) le) (by rw[z];exact GaN _)
 have hkσ:k<σ.length:=by rw[I1.len];exact(Gae.mp hk).1
 refine mZ I4 hN hk (.inl zl) (v:= .ref a) rfl (λs5 I5=> ?_) (.inr zl);have st:PSs (hdl X (.ref a)) [.Assign [.Name xj p6] (.Name en p7) p8] (Po (Ap k) (GI j)):=jm (lR (X:=hdl X (.ref a)) hN hj Ug (g6 hk (.inl zl) UB Tg) hs hf);refine Gbg (st ee s5 (σ.set k (some (.ref a))) Hf {nx:=λσ' Wj =>σ' =(σ.set k (some (.ref a))).set j (some (.ref a))/\Wj =Hf,rt:=λ_ _=>False} (I5.mark (.ref a)) ⟨_,GaB hkσ,rfl,rfl⟩) (λf s6 q=> ?_) λ_ _ z=>z.elim;cases f with
 |brk=>obtain⟨_,_,_,z⟩:=q;exact z.elim
 |cont=>obtain⟨_,_,_,z⟩:=q;exact z.elim
 |ret u=>obtain⟨_,_,_,_,_,z⟩:=q;exact z.elim
 |next=>
  obtain⟨σ6,H6,I6,e1,e2⟩:=q;subst e1 e2;have I6:=I6.unmark I1.ok.hd;refine Gab (wpAny_bindName (mZ I6 hN hk (.inl zl) (v:= .non) rfl (λs7 I7=> ?_) (.inr zl)));refine wpAny_onRaise (G7 I7 hN hk zl (v:= .non) (GaB (by simpa using hkσ)) λs8 I8=> ?_);have eσ:(((σ.set k (some (.ref a))).set j (some (.ref a))).set k (some .non)).set k none=(σ.set j (some (V.ref a))).set k none:=by
   rw[List.set_set,List.set_comm _ _ (Gay Uv),List.set_set]
  rw[eσ] at I8;exact hq _ s8 I8 ⟨_,_,_,fA,fD⟩ fO
variable{kk np i j k:Nat}{fa Cn:Addr}{fd:FuncData}{ps:List Str}{sp:List D->Option RX}{xi xj en cn fn:Str}{p1 p2 p3 p4 p5 p6 p7 p8 p9 zW:Pos}{e:Expr}{es:List Expr}{a:DA}{cs:List Nat}
end
mutual
noncomputable def D.sub(a:Nat)(ns:List Str)(es:List D):D->D
 | .tup ds=> .tup (subs a ns es ds)
 | .lst ds=> .lst (subs a ns es ds)
 | .exc C n d=> .exc C n (d.sub a ns es)
 | .obj b C ms ds=>if b=a then .obj b C ns es else .obj b C ms (subs a ns es ds)
 | .non=> .non
 | .bl b=> .bl b
 | .int i=> .int i
 | .str x=> .str x
 | .scr l=> .scr l
 | .dK l=> .dK l
 | .dT l=> .dT l
noncomputable def subs(a:Nat)(ns:List Str)(es:List D):List D->List D
 |[]=>[]
 |d::ds=>d.sub a ns es::subs a ns es ds
end
mutual
noncomputable def D.nd:D->Bool
 | .tup ds=>nds ds
 | .lst ds=>nds ds
 | .exc _ _ d=>d.nd
 | .obj _ _ _ ds=>nds ds
 | .dK _=>false
 | .dT _=>false
 |_=>true
noncomputable def nds:List D->Bool
 |[]=>true
 |d::ds=>d.nd&&nds ds
end
mutual
noncomputable def D.pl:D->Bool
 | .tup ds=>pls ds
 | .lst _=>false
 | .exc _ _ d=>d.pl
 | .obj _ _ _ _=>false
 | .dK _=>false
 | .dT _=>false
 |_=>true
noncomputable def pls:List D->Bool
 |[]=>true
 |d::ds=>d.pl&&pls ds
end
noncomputable def Slot.d:Slot->D
 | .sh d=>d
 | .own d=>d
 | .lok d=>d
 | .bor d=>d
noncomputable def Slot.sub(a:Nat)(ns:List Str)(es:List D):Slot->Slot
 | .sh d=> .sh (d.sub a ns es)
 | .own d=> .own (d.sub a ns es)
 | .lok d=> .lok (d.sub a ns es)
 | .bor d=> .bor (d.sub a ns es)
noncomputable def cq(a:Nat)(ns:List Str)(es:List D)(env:Env):Env:=env.map (Option.map (Slot.sub a ns es))
noncomputable def ndE(env:Env):Bool:=env.all λs=>match s with
 |some s=>s.d.nd
 |none=>true
noncomputable def kn{α:Type}(n:Str)(y:α):List Str->List α->List Str×List α
 |[],_=>([n],[y])
 |m::ns,[]=>(m::ns,[])
 |m::ns,x::xs=>if m=n then(m::ns,y::xs) else(m::(kn n y ns xs).1,x::(kn n y ns xs).2)
noncomputable def L4(C:Nat)(n:Str):D->Option RV
 | .obj _ C' ns ds=>if C' =C then((ns.zip ds).lookup n).map λd=> ⟨.c,d⟩ else none
 |_=>none
@[simp] noncomputable def vb(C:Nat)(n:Str)(f:DE):DE:=λenv=>(f env).bind λx=>L4 C n x.d
noncomputable def dR(C:Nat)(m:Str):D->Bool
 | .obj _ C' ns ds=>decide (C' =C)&&((ns.zip ds).lookup m).isNone
 |_=>false
@[simp] noncomputable def kC(C:Nat)(m:Str)(sp:List D->Option D)(f:DE)(a:DA):DE:=λenv=>(f env).bind λx=>(a env).bind λrs=>if dR C m x.d then(sp (x.d::rs.map (·.d))).map c5 else none
structure MK where
 nx:List Nat->Env->Prop
 bk:List Nat->Env->Prop
 ct:List Nat->Env->Prop
 rt:D->Env->Prop
 ex:Nat->Str->D->Env->Prop
 rl:Nat->D->List D->Env->Prop
abbrev MS:=List Nat->Env->MK->Prop
abbrev MX:=List Nat->Env->(D->List Nat->Env->Prop)->(Nat->Str->D->Env->Prop)->Prop
abbrev MD:=List D->(D->D->Prop)->(Nat->Str->D->D->Prop)->Prop
@[simp] noncomputable def bH(f:DS):MS:=λL env R=>∃o,f env=some o/\match o with
 | .nx e=>R.nx L e
 | .bk e=>R.bk L e
 | .ct e=>R.ct L e
 | .ret d=>R.rt d env
@[simp] noncomputable def cQ(f g:MS):MS:=λL env R=>f L env {R with nx:=λL e=>g L e R}
@[simp] noncomputable def ifW(t:DT)(f g:MS):MS:=λL env R=>∃b,t env=some b/\if b=true then f L env R else g L env R
@[simp] noncomputable def II:MS:=λ_ _ _=>False
@[simp] noncomputable def L5(C:Nat)(n:Str)(f g:DE):MS:=λL env R=>∃x y,g env=some y/\f env=some x/\y.d.pl=true/\ndE env=true/\match x.d with
 | .obj a C' ns ds=>C' =C/\a∈L/\ns.length<1000/\ns.length=ds.length/\pls ds=true/\R.nx L (cq a (kn n y.d ns ds).1 (kn n y.d ns ds).2 env)
 |_=>False
@[simp] def qN(L:List Nat)(env:Env)(b C:Nat)(k:Env->Prop):D->Prop
 | .obj b' C' ns es=>b' =b/\C' =C/\pls es=true/\k (cq b ns es env)
 |_=>False
@[simp] noncomputable def BP(m:MD)(a:DA):MX:=λL env R E=>∃rs,a env=some rs/\ndE env=true/\match(rs.map λ(r:RV)=>r.d:List D) with
 | .obj b C ns es::ds=>b∈L/\m (.obj b C ns es::ds) (λd o=>d.imm=true/\qN L env b C (R d L) o) (λX n d o=>qN L env b C (E X n d) o)
 |_=>False
@[simp] noncomputable def lJ(C:Nat)(x:Str)(m:MD)(f:DE)(a:DA):MX:=λL env R E=>∃y rs,f env=some y/\a env=some rs/\ndE env=true/\dR C x y.d=true/\match y.d with
 | .obj b C ns es=>b∈L/\m (.obj b C ns es::rs.map (·.d)) (λd o=>d.imm=true/\qN L env b C (R d L) o) (λX n d o=>qN L env b C (E X n d) o)
 |_=>False
@[simp] noncomputable def vc(f:MX):MS:=λL env R=>f L env (λ_ L e=>R.nx L e) R.ex
@[simp] noncomputable def BQ(f:MX):MS:=λL env R=>f L env (λd _ e=>R.rt d e) R.ex
@[simp] noncomputable def L6(i:Nat)(f:MX):MS:=λL env R=>f L env (λd L e=>R.nx L (e.set i (some (.sh d)))) R.ex
@[simp] noncomputable def O6(m:MD)(a:DA)(i:Nat)(cs:List Nat)(j k:Nat):MS:=λL env R=>BP m a L env (λd L e=>R.nx L (e.set i (some (.sh d)))) λC n d e=>cs.contains C=true/\R.nx L ((e.set j (some (.sh (.exc C n d)))).set k none)
@[simp] noncomputable def nD(C:Nat)(n:Str)(f:DE):MS:=λL env R=>∃r,f env=some r/\r.d.imm=true/\R.ex C n r.d env
@[simp] def QK(b C:Nat)(k:D->Prop):D->Prop
 | .obj b' C' ns es=>b' =b/\C' =C/\pls es=true/\k (.obj b C ns es)
 |_=>False
@[simp] noncomputable def oX(C:Nat)(m:MD)(a:DA):MX:=λL env R _=>∃rs,a env=some rs/\∀b,b∉L->m (.obj b C [] []::rs.map (·.d)) (λd o=>d= .non/\QK b C (λo=>R o (b::L) env) o) λ_ _ _ _=>False
@[simp] noncomputable def O7(i C:Nat)(m:MD)(a1 a2:DA):MS:=λL env R=>oX C m a1 L env (λo1 L1 e1=>oX C m a2 L1 e1 (λo2 L2 e2=>R.nx L2 (e2.set i (some (.own (.lst [o1,o2]))))) λ_ _ _ _=>False) λ_ _ _ _=>False
@[simp] noncomputable def rdW(C:Nat)(x:Str)(sp:List D->Option D)(f:MX):MX:=λL env R E=>f L env (λd L e=>dR C x d=true/\∃r,sp [d]=some r/\r.imm=true/\R r L e) E
@[simp] noncomputable def IJ(sp:List D->Option D)(f:MX)(a:DA):MX:=λL env R E=>f L env (λd L e=>∃rs,a e=some rs/\∃r,sp (d::rs.map (·.d))=some r/\r.imm=true/\R r L e) E
abbrev MT:=List Nat->Env->(Bool->List Nat->Env->Prop)->(Nat->Str->D->Env->Prop)->Prop
@[simp] noncomputable def QL(f:MX):MT:=λL env R E=>f L env (λd L e=>∃b,d= .bl b/\R b L e) E
@[simp] noncomputable def QM(t:MT):MT:=λL env R E=>t L env (λb L e=>R (!b) L e) E
@[simp] noncomputable def QN(o:D->D->Option Bool)(f:MX)(g:DE):MT:=λL env R E=>f L env (λd L e=>∃y,g e=some y/\∃b,o d y.d=some b/\R b L e) E
@[simp] noncomputable def orW(t:MT)(u:DT):MT:=λL env R E=>t L env (λb L e=>if b=true then R true L e else∃c,u e=some c/\R c L e) E
@[simp] noncomputable def O8(t:MT)(f g:MS):MS:=λL env R=>t L env (λb L e=>if b=true then f L e R else g L e R) R.ex
noncomputable def t4(i:Nat)(body:MS):Nat->Int->MS
 |0,_=>λL env R=>R.nx L env
 |n+1,k=>λL env R=>body L (env.set i (some (.sh (.int k)))) {R with nx:=λL e=>t4 i body n (k+1) L e R,ct:=λL e=>t4 i body n (k+1) L e R,bk:=R.nx}
@[simp] noncomputable def QO(i:Nat)(f:DE)(body:MS):MS:=λL env R=>∃r j,f env=some r/\r.d= .int j/\me j=true/\t4 i body j.toNat 0 L env R
@[simp] noncomputable def Mo(i:Nat)(fk fv:DE)(c:Bool):MS:=λL env R=>∃ds y v j,env[i]? =some (some (.bor (.lst ds)))/\fv env=some v/\fk env=some y/\y.d= .int j/\(0<=j/\j<ds.length)/\v.d.pl=true/\pls ds=true/\R.rl i (.bl c) (ds.set j.toNat v.d) env
abbrev MD2:=List D->(D->D->Prop)->(D->D->List D->Prop)->Prop
@[simp] noncomputable def Mp(m:MD2)(i:Nat)(f:DE)(a:DA):MX:=λL env R _=>∃x rs l,f env=some x/\a env=some rs/\ndE env=true/\env[i]? =some (some (.own (.lst l)))/\match x.d with
 | .obj b C ns es=>b∈L/\m (.obj b C ns es:: .lst l::rs.map (·.d)) (λd o=>d.imm=true/\qN L env b C (R d L) o) λd o l' =>d.imm=true/\pls l' =true/\qN L env b C (λe=>R d L (e.set i (some (.own (.lst l'))))) o
 |_=>False
noncomputable def O9:D->Option RV
 | .lst ds=>(nj ds).map λbs=> ⟨.c,.int (bs.countP id:Nat)⟩
 |_=>none
@[simp] noncomputable def QP(f:DE):DE:=λenv=>(f env).bind λr=>O9 r.d
noncomputable def ko:Option (Option Slot)->Bool
 |some (some (.own _))=>true
 |some (some (.lok _))=>true
 |some (some (.bor _))=>true
 |_=>false
noncomputable def lbB:Option (Option Slot)->Bool
 |some (some (.lok _))=>true
 |some (some (.bor _))=>true
 |_=>false
noncomputable def kD(l:List Nat)(env:Env):Bool:=(List.range env.length).all λj=>l.contains j|| !ko env[j]?
abbrev DA2:=Nat->Nat->Env->Option Out
@[simp] noncomputable def qO(k:Nat)(f:DS):DA2:=λp q env=>(f env).bind λo=>match o with
 | .nx e=>if(lbB e[k]? &&lbB e[p]? &&lbB e[q]? &&kD [k,p,q] e)=true then some (.nx e) else none
 | .ret d=>some (.ret d)
 |_=>none
@[simp] noncomputable def BR(f g:DA2):DA2:=λp q env=>(f p q env).bind λo=>match o with
 | .nx e=>g p q e
 |o=>some o
@[simp] noncomputable def ifL(t:DT)(f g:DA2):DA2:=λp q env=>(t env).bind λb=>if b=true then f p q env else g p q env
@[simp] noncomputable def put2(k p:Nat)(et:List (List Key×D))(env:Env):Env:=(env.set k (some (.bor (.dT et)))).set p (some (.bor (.dT et)))
@[simp] noncomputable def putL(k:Nat)(fk fv:DE):DA2:=λp _ env=>(fv env).bind λv=>(fk env).bind λy=>match env[k]?,y.d with
 |some (some (.bor (.dT et))),.tup ks=>if v.d.pl=true/\pls (et.map (·.2))=true/\et.length<aq then(keysOf ks).map λkey=> .nx (put2 k p (put et key v.d) env) else none
 |_,_=>none
@[simp] noncomputable def QQ(k i:Nat)(fk:DE):DA2:=λp q env=>(fk env).bind λy=>match env[k]?,y.d with
 |some (some (.bor (.dT et))),.tup ks=>(keysOf ks).bind λkey=>(look et key).bind λd=>if d.pl=true/\pls (et.map (·.2))=true/\i≠k/\i≠p/\i≠q then some (.nx ((put2 k p (et.filter λkv=> !decide (kv.1=key)) env).set i (some (.sh d)))) else none
 |_,_=>none
@[simp] noncomputable def QR:Option Out->Option Out
 |some (.ret d)=>some (.ret d)
 |_=>none
@[simp] noncomputable def D6(k g w:Nat)(t:DT)(f:DA2):DS:=λenv=>match env[g]?,env[w]? with
 |some (some (.own (.dT dg))),some (some (.own (.dT dw)))=>if kD [g,w] env=true then(t (env.set k none)).bind λb=>QR (f (if b=true then w else g) (if b=true then g else w) (((env.set g (some (.bor (.dT dg)))).set w (some (.bor (.dT dw)))).set k (some (.bor (.dT (if b=true then dw else dg)))))) else none
 |_,_=>none
@[simp] def D7(a C:Nat)(k:D->Prop)(e:Env):Prop:=∃ns es,e[0]? =some (some (.sh (.obj a C ns es)))/\pls es=true/\k (.obj a C ns es)
@[simp] noncomputable def tV(n np:Nat)(body:MS):MD:=λds R E=>ds.length=np/\match ds with
 | .obj a C _ _::_=>body [a] (aE n ds) {nx:=λ_ e=>D7 a C (R .non) e,bk:=λ_ _=>False,ct:=λ_ _=>False,rt:=λd e=>D7 a C (R d) e,ex:=λX m d e=>D7 a C (E X m d) e,rl:=λ_ _ _ _=>False}
 |_=>False
@[simp] noncomputable def Mq(n np:Nat)(body:MS):MD2:=λds R R2=>ds.length=np/\match ds with
 | .obj a C ns es:: .lst l::r=>aZ r=true/\pls es=true/\pls l=true/\body [a] ((aE n (.obj a C ns es:: .lst l::r)).set 1 (some (.bor (.lst l)))) {nx:=λ_ _=>False,bk:=λ_ _=>False,ct:=λ_ _=>False,rt:=λd e=>D7 a C (R d) e,ex:=λ_ _ _ _=>False,rl:=λp d l' e=>p=1/\D7 a C (λo=>R2 d o l') e}
 |_=>False
abbrev ML:=List D->(D->Prop)->Prop
@[simp] noncomputable def QS(n np:Nat)(body:MS):ML:=λds R=>ds.length=np/\body [] (aE n ds) {nx:=λ_ _=>R .non,bk:=λ_ _=>False,ct:=λ_ _=>False,rt:=λd _=>R d,ex:=λ_ _ _ _=>False,rl:=λ_ _ _ _=>False}
section
variable{a:Nat}{ns:List Str}{es:List D}
theorem qP:∀ds:List D,subs a ns es ds=ds.map (D.sub a ns es)
 |[]=>by unfold subs;rfl
 |d::ds=>by unfold subs;rw[qP ds];rfl
theorem AS:∀{ds:List D},nds ds=true->∀(i:Nat) d,ds[i]? =some d->d.nd=true
 |[],_,i,d,e=>by simp at e
 |x::xs,h,i,d,e=>by
  unfold nds at h;rw[Gam] at h;cases i with
  |zero=>simp at e;subst e;exact h.1
  |succ i=>exact AS h.2 i d (by simpa using e)
end
structure Chg(a C dx:Addr)(ns:List Str)(vs:List V)(H H' :Hp):Prop where
 old:∃fs,H a=some (.ins C dx fs)
 new:H' a=some (.ins C dx (ns.zip vs))
 ln:ns.length=vs.length
 rest:∀b o,b≠a->H b=some o->H' b=some o
section
variable{K:av}{F F' :Addr->Prop}{H H' :Hp}{d:D}{v:V}{ds es:List D}{us vs:List V}{a C dx:Addr}{ns:List Str}
variable{o:HO}{b:Addr}
theorem Chg.ne(c:Chg a C dx ns vs H H')(h:H b=some o)(n:∀C dx fs,o≠ .ins C dx fs):b≠a:=by
 rintro rfl;obtain⟨fs,e⟩:=c.old;rw[h] at e;cases e
 exact n _ _ _ rfl
theorem Chg.at(c:Chg a C dx ns vs H H')(h:H b=some o)(n:∀C dx fs,o≠ .ins C dx fs):H' b=some o:=c.rest b o (c.ne h n) h
theorem Chg.rd(c:Chg a C dx ns vs H H')(h:Rd H b o)(n:∀C dx fs,o≠ .ins C dx fs):Rd H' b o:=by
 rcases h with h| ⟨q,h⟩
 .exact .inl (c.at h n)
 .exact .inr ⟨q,c.at h λ_ _ _ z=>by cases z⟩
theorem Chg.scr{b:Addr}{l:List Int}(c:Chg a C dx ns vs H H')(h:Scr K H b l):Scr K H' b l:=by
 rcases h with⟨o,h⟩|h
 .exact .inl ⟨o,c.at h λ_ _ _ z=>by cases z⟩
 .exact .inr h
theorem Rep.sub(c:Chg a C dx ns vs H H')(R:aT K F H' es vs)(r:Rep K F H d v):d.nd=true->Rep K F H' (d.sub a ns es) v:=by
 have items:∀{ds:List D} {us:List V},(∀(i:Nat) d v,ds[i]? =some d->us[i]? =some v->d.nd=true->Rep K F H' (d.sub a ns es) v)->nds ds=true->∀(i:Nat) d v,(subs a ns es ds)[i]? =some d->us[i]? =some v->Rep K F H' d v:=λih hd i d v e1 e2=>by
  rw[qP,Gas] at e1;obtain⟨d0,q,rfl⟩:=Gac.mp e1;exact ih i d0 v q e2 (AS hd i d0 q)
 have len:∀{ds:List D} {us:List V},ds.length=us.length->(subs a ns es ds).length=us.length:=λl=>by rw[qP,Gaq];exact l
 induction r with
 |non=>intro _;unfold D.sub;exact .non
 |bl b=>intro _;unfold D.sub;exact .bl b
 |int i=>intro _;unfold D.sub;exact .int i
 |str x=>intro _;unfold D.sub;exact .str x
 |tup h l r ih=>intro hd;unfold D.nd at hd;unfold D.sub;exact .tup (c.at h λ_ _ _ z=>by cases z) (len l) (items ih hd)
 |lst f h l r ih=>intro hd;unfold D.nd at hd;unfold D.sub;exact .lst f (c.rd h λ_ _ _ z=>by cases z) (len l) (items ih hd)
 |scr h=>intro _;unfold D.sub;exact .scr (c.scr h)
 |exc h r ih=>
  intro hd;unfold D.nd at hd;unfold D.sub
  obtain⟨dx,vs,sl,od,h1,h2⟩:=h;exact .exc ⟨dx,vs,sl,od,(c.at h1 λ_ _ _ z=>by cases z),(c.at h2 λ_ _ _ z=>by cases z)⟩ (ih hd)
 | @obj b SX C' ms Tx ds h ln l r ih=>
  intro hd;unfold D.nd at hd;unfold D.sub
  by_cases q:b=a
  .rw[Gaf q];subst q;obtain⟨fs,e⟩:=c.old;rw[h] at e;cases e
   exact .obj c.new c.ln R.1 R.2
  .rw[Gag q];exact .obj (c.rest b _ q h) ln (len l) (items ih hd)
 |dK f h l r ih=>intro hd;unfold D.nd at hd;cases hd
 |dT f h l r ih=>intro hd;unfold D.nd at hd;cases hd
theorem aT.sub(c:Chg a C dx ns vs H H')(R:aT K F H' es vs)(r:aT K F H ds us)(hd:nds ds=true):aT K F H' (subs a ns es ds) us:=by
 refine⟨by rw[qP,Gaq];exact r.1,λi d v e1 e2=> ?_⟩;rw[qP,Gas] at e1;obtain⟨d0,q,rfl⟩:=Gac.mp e1;exact(r.2 i d0 v q e2).sub c R (AS hd i d0 q)
theorem Inn.sub(c:Chg a C dx ns vs H H')(R:aT K F H' es vs)(r:Inn K F H d v)(hd:d.nd=true)(ht:d.top=true):Inn K F H' (d.sub a ns es) v:=by
 cases r with
 |lst h r=>unfold D.nd at hd;unfold D.sub;exact .lst (c.rd h λ_ _ _ z=>by cases z) (aT.sub c R r hd)
 |dK h r=>unfold D.nd at hd;cases hd
 |dT h r=>unfold D.nd at hd;cases hd
 |_=>simp[D.top] at ht
theorem EH(d:D):(d.sub a ns es).top=d.top:=by
 cases d<;>unfold D.sub<;>try rfl
 split<;>rfl
end
theorem kF:∀{ds:List D},pls ds=true->∀(i:Nat) d,ds[i]? =some d->d.pl=true
 |[],_,i,d,e=>by simp at e
 |x::xs,h,i,d,e=>by
  unfold pls at h;rw[Gam] at h;cases i with
  |zero=>simp at e;subst e;exact h.1
  |succ i=>exact kF h.2 i d (by simpa using e)
theorem Rep.pl{K:av}{F F' :Addr->Prop}{H H' :Hp}{d:D}{v:V}(s:∀b o,H b=some o->isT o->(∀C dx fs,o≠ .ins C dx fs)->H' b=some o)(r:Rep K F H d v):d.pl=true->Rep K F' H' d v:=by
 induction r with
 |non=>intro _;exact .non
 |bl b=>intro _;exact .bl b
 |int i=>intro _;exact .int i
 |str x=>intro _;exact .str x
 |tup h l r ih=>intro hd;unfold D.pl at hd;exact .tup (s _ _ h trivial λ_ _ _ z=>by cases z) l λi d v e1 e2=>ih i d v e1 e2 (kF hd i d e1)
 |lst f h l r ih=>intro hd;unfold D.pl at hd;cases hd
 |scr h=>
  intro _;refine .scr ?_;rcases h with⟨o,h⟩|h
  .exact .inl ⟨o,s _ _ h trivial λ_ _ _ z=>by cases z⟩
  .exact .inr h
 |exc h r ih=>
  intro hd;unfold D.pl at hd;obtain⟨dx,vs,sl,od,h1,h2⟩:=h;exact .exc ⟨dx,vs,sl,od,(s _ _ h1 trivial λ_ _ _ z=>by cases z),(s _ _ h2 trivial λ_ _ _ z=>by cases z)⟩ (ih hd)
 |obj h ln l r ih=>intro hd;unfold D.pl at hd;cases hd
 |dK f h l r ih=>intro hd;unfold D.pl at hd;cases hd
 |dT f h l r ih=>intro hd;unfold D.pl at hd;cases hd
theorem aT.pl{K:av}{F F' :Addr->Prop}{H H' :Hp}{ds:List D}{vs:List V}(s:∀b o,H b=some o->isT o->(∀C dx fs,o≠ .ins C dx fs)->H' b=some o)(r:aT K F H ds vs)(hd:pls ds=true):aT K F' H' ds vs:=⟨r.1,λi d v e1 e2=>(r.2 i d v e1 e2).pl s (kF hd i d e1)⟩
section
variable{a:Nat}{ns:List Str}{es:List D}{env:Env}{i:Nat}
theorem nE:(cq a ns es env)[i]? =env[i]?.map (Option.map (Slot.sub a ns es)):=by unfold cq;rw[Gas]
variable{s:Slot}
theorem oo(e:(cq a ns es env)[i]? =some (some s)):∃s0,env[i]? =some (some s0)/\s=s0.sub a ns es:=by
 rw[nE] at e;obtain⟨o,h1,h2⟩:=Gac.mp e;obtain⟨s0,h3,h4⟩:=Gac.mp h2;exact⟨s0,by rw[h1,h3],h4.symm⟩
theorem L7{d:D}(e:(cq a ns es env)[i]? =some (some (.sh d))):∃d0,env[i]? =some (some (.sh d0))/\d=d0.sub a ns es:=by
 obtain⟨s0,h,q⟩:=oo e;cases s0<;>cases q
 exact⟨_,h,rfl⟩
theorem IK{d:D}(e:(cq a ns es env)[i]? =some (some (.own d))):∃d0,env[i]? =some (some (.own d0))/\d=d0.sub a ns es:=by
 obtain⟨s0,h,q⟩:=oo e;cases s0<;>cases q
 exact⟨_,h,rfl⟩
theorem IL{d:D}(e:(cq a ns es env)[i]? =some (some (.lok d))):∃d0,env[i]? =some (some (.lok d0))/\d=d0.sub a ns es:=by
 obtain⟨s0,h,q⟩:=oo e;cases s0<;>cases q
 exact⟨_,h,rfl⟩
theorem IM{d:D}(e:(cq a ns es env)[i]? =some (some (.bor d))):∃d0,env[i]? =some (some (.bor d0))/\d=d0.sub a ns es:=by
 obtain⟨s0,h,q⟩:=oo e;cases s0<;>cases q
 exact⟨_,h,rfl⟩
theorem BS:b6 (cq a ns es env)[i]? ↔b6 env[i]? :=by
 rw[nE]
 match env[i]? with
 |none=>exact .rfl
 |some none=>exact .rfl
 |some (some (.sh _))=>exact .rfl
 |some (some (.own _))=>exact .rfl
 |some (some (.lok _))=>exact .rfl
 |some (some (.bor _))=>exact .rfl
theorem L8:mV (cq a ns es env)[i]? ↔mV env[i]? :=by
 rw[nE]
 match env[i]? with
 |none=>exact .rfl
 |some none=>exact .rfl
 |some (some (.sh _))=>exact .rfl
 |some (some (.own _))=>exact .rfl
 |some (some (.lok _))=>exact .rfl
 |some (some (.bor _))=>exact .rfl
theorem AU(h:ndE env=true)(e:env[i]? =some (some s)):s.d.nd=true:=
 (Gan.mp h) (some s) (GaH e)
end
open Classical in
noncomputable def fu(env:Env)(σ:St)(H:Hp):Hp:=λb=>if∃i:Nat,mV env[i]? /\σ[i]? =some (some (.ref b)) then none else H b
section
variable{K:av}{H0 H H' :Hp}{eh:Addr->Prop}{env:Env}{σ:St}{a C dx:Addr}{ns:List Str}{vs:List V}{es:List D}
variable{b:Addr}
theorem A5{i:Nat}(h:mV env[i]?)(e:σ[i]? =some (some (.ref b))):fu env σ H b=none:=by
 unfold fu;rw[Gaf ⟨i,h,e⟩]
variable{o:HO}
theorem oq(e:fu env σ H b=some o):H b=some o:=by
 unfold fu at e;split at e
 .cases e
 .exact e
theorem nF(n:∀i:Nat,mV env[i]? ->σ[i]? ≠some (some (.ref b))):fu env σ H b=H b:=by
 unfold fu;rw[Gag λ⟨i,h,e⟩=>n i h e]
theorem aA.rebase(E:aA K H0 eh env σ H):aA K (fu env σ H) eh env σ H where
 same:=λb o e=>oq e
 len:=E.len
 bad:=E.bad
 sh:=E.sh
 ow:=λi d e=>by
  obtain⟨b,h1,h2,h3⟩:=E.ow i d e;refine⟨b,h1,A5 (i:=i) ?_ h1,h3⟩;rcases e with e|e<;>rw[e]<;>trivial
 bo:=E.bo
 dj:=E.dj
theorem aA.D8(E:aA K H0 eh env σ H)(e:H0 b=some o)(i:Nat)(h:mV env[i]?):σ[i]? ≠some (some (.ref b)):=λq=>by
 have z:H0 b=none:=by
  match x:env[i]?,h with
  |some (some (.own d)),_=>obtain⟨c,h1,h2,_⟩:=E.ow i d (.inl x);rw[q] at h1;cases h1;exact h2
  |some (some (.lok d)),_=>obtain⟨c,h1,h2,_⟩:=E.ow i d (.inr x);rw[q] at h1;cases h1;exact h2
 rw[e] at z;cases z
theorem aA.old(E:aA K H0 eh env σ H)(e:H0 b=some o):fu env σ H b=some o:=by
 rw[nF (E.D8 e)];exact E.same b o e
theorem aA.IP(E:aA K H0 eh env σ H)(e:H b=some o)(n:¬isW o):fu env σ H b=some o:=by
 rw[nF λi h q=> ?_];exact e
 obtain⟨u,h1,h2⟩:=E.Hv h.top q;rw[e] at h1;cases h1;exact n h2
theorem aA.dC(E:aA K H0 eh env σ H)(s:bz (fu env σ H) H'):j5 (Cln eh env σ) H H' :=λb o e h=>by
 refine s b o ?_;rcases h with h|h
 .rw[nF λi t q=>h.2 i t.top q];exact e
 .exact E.IP e (by cases o<;>first|exactλz=>z|exact h.elim)
theorem EI:Cln eh (cq a ns es env) σ b↔Cln eh env σ b:=by
 unfold Cln;exact and_congr_right λ_=>forall_congr' λi=>by rw[BS]
theorem aA.chg(E:aA K H0 eh env σ H)(c:Chg a C dx ns vs H H')(R:aT K (λ_=>False) H' es vs)(hd:ndE env=true):aA K (fu env σ H') eh (cq a ns es env) σ H' :=by
 have R' :aT K (Cln eh env σ) H' es vs:=⟨R.1,λi d v e1 e2=>(R.2 i d v e1 e2).imp λ_ z=>z.elim⟩
 have cl:∀{d:D} {v:V},Rep K (Cln eh env σ) H' d v->Rep K (Cln eh (cq a ns es env) σ) H' d v:=λh=>h.imp λb z=>EI.mpr z;have ci:∀{d:D} {v:V},Inn K (Cln eh env σ) H' d v->Inn K (Cln eh (cq a ns es env) σ) H' d v:=λh=>h.imp λb z=>EI.mpr z;have wr:∀{b:Addr},Wr H b->Wr H' b:=λ⟨o,h1,h2⟩=> ⟨o,c.at h1 (λ_ _ _ z=>by subst z;exact h2),h2⟩;refine⟨λb o e=>oq e,by rw[cq,Gaq];exact E.len,λb h e=> ?_,λi d e=> ?_,λi d e=> ?_,λi d e=> ?_,λi j b t1 t2=>E.dj i j b (L8.mp t1) (BS.mp t2)⟩
 .cases q:H b with
  |none=>exact E.bad b h q
  |some o=>
   by_cases z:b=a
   .rw[z,c.new] at e;cases e
   .rw[c.rest b o z q] at e;cases e
 .obtain⟨d0,h0,rfl⟩:=L7 e;obtain⟨v,h1,h2⟩:=E.sh i d0 h0;exact⟨v,h1,cl (h2.sub c R' (AU hd h0))⟩
 .have h0:∃d0,(env[i]? =some (some (.own d0))\/env[i]? =some (some (.lok d0)))/\d=d0.sub a ns es/\d0.nd=true:=by
   rcases e with e|e
   .obtain⟨d0,h0,q⟩:=IK e;exact⟨d0,.inl h0,q,AU hd h0⟩
   .obtain⟨d0,h0,q⟩:=IL e;exact⟨d0,.inr h0,q,AU hd h0⟩
  obtain⟨d0,h0,rfl,nd⟩:=h0;obtain⟨b,h1,h2,h3,h4,h5,h6⟩:=E.ow i d0 h0;exact⟨b,h1,A5 (i:=i) (by rcases h0 with q|q<;>rw[q]<;>trivial) h1,h3,wr h4,by rw[EH];exact h5,ci (h6.sub c R' nd h5)⟩
 .obtain⟨d0,h0,rfl⟩:=IM e;obtain⟨b,h1,h4,h5,h6⟩:=E.bo i d0 h0;exact⟨b,h1,wr h4,by rw[EH];exact h5,ci (h6.sub c R' (AU hd h0) h5)⟩
end
def Kin:HO->HO->Prop
 | .ins C dx _,.ins C' SX _=>C=C' /\dx=SX
 | .lst _,.lst _=>True
 |_,_=>False
theorem Kin.ins{o:HO}{C dx:Addr}{fs TU :List (Str×V)}(h:Kin o (.ins C dx fs)):Kin o (.ins C dx TU):=by
 cases o<;>first|exact h|exact h.elim
def fZ(M:Addr->Prop)(H H' :Hp):Prop:=∀b o,H b=some o->H' b=some o\/(M b/\∃u,Kin o u/\H' b=some u)
def Pnd(Pn:Nat->V->Prop)(env:Env)(σ:St):Prop:=∀p v,Pn p v->mW env[p]? ->σ[p]? =some (some v)
def Ins(L:List Nat)(H:Hp):Prop:=∀b∈L,∃C dx fs,H b=some (.ins C dx fs)
def cf(K:av)(H0:Hp)(M:Addr->Prop)(Pn:Nat->V->Prop)(L:List Nat)(env:Env)(σ:St)(H:Hp):Prop:=∃H₁ eh,fZ M H0 H₁/\(∀b∈L,M b\/H0 b=none)/\Pnd Pn env σ/\Ins L H/\aA K H₁ eh env σ H
def Objs(K:av)(env:Env)(H:Hp):Prop:=∀(i a C:Nat) ns ds,env[i]? =some (some (.sh (.obj a C ns ds)))->pls ds=true->Rep K (λ_=>False) H (.obj a C ns ds) (.ref a)
section
variable{K:av}{H0 H H1 H' :Hp}{M M' :Addr->Prop}{Pn:Nat->V->Prop}{L:List Nat}{env:Env}{σ:St}{b a C dx:Addr}{ns:List Str}{vs:List V}{es:List D}{d:D}{v:V}
theorem fZ.free(s:fZ M H H')(e:H' b=none):H b=none:=by
 cases q:H b with
 |none=>rfl
 |some o=>rcases s b o q with z| ⟨_,_,_,z⟩<;>rw[e] at z<;>cases z
theorem fZ.then(s:fZ M H H1)(t:bz H1 H'):fZ M H H' :=λb o e=>(s b o e).imp (t b o) λ⟨m,u,k,e2⟩=> ⟨m,u,k,t b _ e2⟩
theorem cf.max(E:cf K H0 M Pn L env σ H):∃eh,fZ M H0 (fu env σ H)/\aA K (fu env σ H) eh env σ H:=by
 obtain⟨H₁,eh,s,_,_,_,E⟩:=E;exact⟨eh,λb o e=>(s b o e).imp E.old λ⟨m,u,k,e2⟩=> ⟨m,u,k,E.old e2⟩,E.rebase⟩
theorem cf.lst(E:cf K H0 M Pn L env σ H):∀b∈L,M b\/H0 b=none:=let⟨_,_,_,l,_⟩:=E;l
theorem cf.pn(E:cf K H0 M Pn L env σ H):Pnd Pn env σ:=let⟨_,_,_,_,l,_⟩:=E;l
theorem cf.ins(E:cf K H0 M Pn L env σ H):Ins L H:=let⟨_,_,_,_,_,l,_⟩:=E;l
theorem Ins.same(h:Ins L H)(s:bz H H'):Ins L H' :=λb hb=>let⟨C,dx,fs,e⟩:=h b hb;⟨C,dx,fs,s _ _ e⟩
theorem Pnd.stp{eD :Env}{σ' :St}(h:Pnd Pn env σ)(s:Stp env σ H eD σ' H'):Pnd Pn eD σ' :=λp v z l=>by
 obtain⟨e1,e2⟩:=s.lk p l;rw[e2];rw[e1] at l;exact h p v z l
theorem L9{i:Nat}:mW (cq a ns es env)[i]? ↔mW env[i]? :=by
 rw[nE]
 match env[i]? with
 |none=>exact .rfl
 |some none=>exact .rfl
 |some (some (.sh _))=>exact .rfl
 |some (some (.own _))=>exact .rfl
 |some (some (.lok _))=>exact .rfl
 |some (some (.bor _))=>exact .rfl
theorem Pnd.gh(h:Pnd Pn env σ)(i:Nat):Pnd Pn (env.set i (some (.sh d))) (σ.set i (some v)):=λp u z l=>by
 by_cases q:i=p
 .subst q;by_cases w:i<env.length
  .rw[bA w] at l;exact l.elim
  .rw[GaP (by simpa using Gco w)] at l;exact l.elim
 .rw[Gaa q] at l⊢;exact h p u z l
theorem cf.same(E:cf K H0 M Pn L env σ H):fZ M H0 H:=let⟨_,_,s,_,_,_,E⟩:=E;s.then E.same
theorem cf.mono(E:cf K H0 M Pn L env σ H)(s:bz H H'):cf K H0 M Pn L env σ H' :=let⟨H₁,eh,s1,l,p,i,E⟩:=E;⟨H₁,eh,s1,l,p,i.same s,E.mono s⟩
theorem aA.objs{eh:Addr->Prop}(E:aA K H0 eh env σ H)(s:bz (fu env σ H) H'):Objs K env H' :=λi a C ns ds e hp=>by
 obtain⟨v,h1,h2⟩:=E.sh i _ e;have h3:Rep K (λ_=>True) H' (.obj a C ns ds) v:=h2.gen (E.dC s) λ_ _ _=>trivial;cases h3 with
 |obj h ln l r=>exact .obj h ln l λi d v e1 e2=>(r i d v e1 e2).pl (λ_ _ q _ _=>q) (kF hp i d e1)
theorem cf.objs(E:cf K H0 M Pn L env σ H):Objs K env H:=by
 obtain⟨H₁,eh,s,_,_,_,E⟩:=E;exact E.objs λb o e=>oq e
theorem cf.chg(E:cf K H0 M Pn L env σ H)(hL:a∈L)(c:Chg a C dx ns vs H H')(R:aT K (λ_=>False) H' es vs)(hd:ndE env=true):cf K H0 M Pn L (cq a ns es env) σ H' :=by
 have ha:=E.lst a hL;obtain⟨H₁,eh,s,l,pn,ins,E⟩:=E;refine⟨fu env σ H',eh,λb o e=> ?_,l,λp v z q=>pn p v z (L9.mp q),λb hb=> ?_,E.chg c R hd⟩
 rotate_left
 .by_cases z:b=a
  .exact⟨_,_,_,by rw[z];exact c.new⟩
  .obtain⟨C',SX,TU,q⟩:=ins b hb;exact⟨_,_,_,c.rest b _ z q⟩
 have here:∀{o},H₁ b=some o->b≠a->fu env σ H' b=some o:=λ{o} q z=>by
  rw[nF (E.D8 q)];exact c.rest b o z (E.same b o q)
 by_cases z:b=a
 .subst z;obtain⟨fs,oc⟩:=c.old;have nw:∀{o},H₁ b=some o->fu env σ H' b=some (.ins C dx (ns.zip vs)):=λ{o} q=>by rw[nF (E.D8 q)];exact c.new
  have ma:M b:=ha.resolve_right λq=>by rw[e] at q;cases q
  rcases s b o e with q| ⟨_,u,kin,e2⟩
  .have:=(E.same b o q).symm.trans oc;cases this;exact .inr ⟨ma,_,(show Kin (.ins C dx fs) (.ins C dx _) from⟨rfl,rfl⟩),nw q⟩
  .have:=(E.same b _ e2).symm.trans oc;cases this;exact .inr ⟨ma,_,kin.ins,nw e2⟩
 .rcases s b o e with q| ⟨m,u,kin,e2⟩
  .exact .inl (here q z)
  .exact .inr ⟨m,u,kin,here e2 z⟩
theorem iA.before{H1:Hp}(h:iA K H1 H' d v)(n:∀b,H1 b=none->H0 b=none):iA K H0 H' d v:=
 ⟨λt=>let⟨a,e,z,w⟩:=h.1 t;⟨a,e,n a z,w⟩,h.2.imp λb z=> ⟨n b z.1,z.2⟩⟩
theorem iA.imm(h:iA K H H' d v)(im:d.imm=true):Rep K (λ_=>False) H' d v:=h.2.imm im
theorem cf.gh(E:cf K H0 M Pn L env σ H)(r:Rep K (λ_=>False) H d v)(i:Nat):cf K H0 M Pn L (env.set i (some (.sh d))) (σ.set i (some v)) H:=
 let⟨H₁,eh,s,l,p,n,E⟩:=E;⟨H₁,eh,s,l,p.gh i,n,E.gh (r.imp λ_ z=>z.elim)⟩
end
structure QT(K:av)(H0:Hp)(M:Addr->Prop)(Pn:Nat->V->Prop)(E:XK)(D:Ends)(R:MK):Prop where
 nx:∀L env σ H,cf K H0 M Pn L env σ H->R.nx L env->D.nx σ H
 bk:∀L env σ H,cf K H0 M Pn L env σ H->R.bk L env->D.bk σ H
 ct:∀L env σ H,cf K H0 M Pn L env σ H->R.ct L env->D.ct σ H
 rt:∀d env v H,fZ M H0 H->iA K H0 H d v->Objs K env H->R.rt d env->D.rt v H
 ex:∀C n d env v dx H,fZ M H0 H->H0 dx=none->H dx=some (.xd [(n,v)])->d.imm=true->Rep K (λ_=>False) H d v->Objs K env H->R.ex C n d env->E (.ref C) (some dx) H
 rl:∀p d ds env v c vs H,Pn p (.ref c)->fZ (λb=>M b\/b=c) H0 H->H c=some (.lst vs)->aT K (λ_=>False) H ds vs->iA K H0 H d v->Objs K env H->R.rl p d ds env->D.rt v H
def mS(X:Cx)(H0:Hp)(M:Addr->Prop)(Pn:Nat->V->Prop)(E:XK)(f:MS):TS:=λD σ H=>∃L env R,cf X.K H0 M Pn L env σ H/\f L env R/\QT X.K H0 M Pn E D R
def mX(X:Cx)(H0:Hp)(M:Addr->Prop)(Pn:Nat->V->Prop)(E:XK)(f:MX):TE:=λσ H Q=>∃L env R Rx,cf X.K H0 M Pn L env σ H/\f L env R Rx/\
 (∀d L' eD v H',cf X.K H0 M Pn L' eD σ H' ->d.imm=true->Rep X.K (λ_=>False) H' d v->R d L' eD ->Q v H')/\
 (∀C n d eD v dx H',fZ M H0 H' ->H0 dx=none->H' dx=some (.xd [(n,v)])->d.imm=true->Rep X.K (λ_=>False) H' d v->Objs X.K eD H' ->Rx C n d eD ->E (.ref C) (some dx) H')
section
variable{X:Cx}{H0:Hp}{M:Addr->Prop}{Pn:Nat->V->Prop}{E:XK}{st:Stmt}{xQ rest:List Stmt}{f:DS}{g g1 g2:MS}{c e:Expr}{t:DT}{pos:Pos}{x:MX}
theorem IQ{D:Ends}{σ:St}{H:Hp}{L:List Nat}{env:Env}{R:MK}{eh:Addr->Prop}{o:Out}(E0:fZ M H0 (fu env σ H))(E1:aA X.K (fu env σ H) eh env σ H)(l:∀b∈L,M b\/H0 b=none)(pn:Pnd Pn env σ)(ii:Ins L H)(O:QT X.K H0 M Pn E D R)
  (k:match o with
   | .nx e=>R.nx L e
   | .bk e=>R.bk L e
   | .ct e=>R.ct L e
   | .ret d=>R.rt d env):Eb X (fu env σ H) eh env σ H D o:=by
 have il:∀{H'},bz (fu env σ H) H' ->Ins L H' :=λs b hb=>let⟨C,dx,fs,e⟩:=ii b hb;⟨C,dx,fs,s _ _ (E1.IP e λz=>z)⟩
 cases o with
 |nx e=>exactλσ' H' E' st=>O.nx L e σ' H' ⟨_,eh,E0,l,pn.stp st,il E'.same,E'⟩ k
 |bk e=>exactλσ' H' E' st=>O.bk L e σ' H' ⟨_,eh,E0,l,pn.stp st,il E'.same,E'⟩ k
 |ct e=>exactλσ' H' E' st=>O.ct L e σ' H' ⟨_,eh,E0,l,pn.stp st,il E'.same,E'⟩ k
 |ret d=>exactλv H' s r=>O.rt d env v H' (E0.then s) (r.before λb z=>E0.free z) (E1.objs s) k
theorem cW(h:PSd X.nox st f):PS X st (mS X H0 M Pn E (bH f)):=by
 refine(PS.nox h).aG ?_;rintro D σ H ⟨L,env,R,EM,⟨o,ho,k⟩,O⟩;obtain⟨eh,E0,E1⟩:=EM.max;exact⟨_,eh,env,o,E1,ho,IQ E0 E1 EM.lst EM.pn EM.ins O k⟩
theorem bL(h:kW X.nox xQ f):PSs X xQ (mS X H0 M Pn E (bH f)):=by
 refine(PSs.nox h).aG ?_;rintro D σ H ⟨L,env,R,EM,⟨o,ho,k⟩,O⟩;obtain⟨eh,E0,E1⟩:=EM.max;exact⟨_,eh,env,o,E1,ho,IQ E0 E1 EM.lst EM.pn EM.ins O k⟩
theorem aW(h1:PS X st (mS X H0 M Pn E g1))(h2:PSs X rest (mS X H0 M Pn E g2)):PSs X (st::rest) (mS X H0 M Pn E (cQ g1 g2)):=by
 refine(g7 h1 h2).aG ?_;rintro D σ H ⟨L,env,R,EM,k,O⟩;exact⟨L,env,_,EM,k,⟨λL e σ H hU k=> ⟨L,e,R,hU,k,O⟩,O.bk,O.ct,O.rt,O.ex,O.rl⟩⟩
theorem cL(h1:PS X st (mS X H0 M Pn E g)):PSs X [st] (mS X H0 M Pn E g):=jm h1
theorem kG{xs ys:List Stmt}(hc:PTd X.nox c t)(ha:PSs X xs (mS X H0 M Pn E g1))(hb:PSs X ys (mS X H0 M Pn E g2)):PS X (.If c xs ys pos) (mS X H0 M Pn E (ifW t g1 g2)):=by
 refine(Bj (PT.nox hc) ha hb).aG ?_;rintro D σ H ⟨L,env,R,EM,⟨b,hb,k⟩,O⟩;obtain⟨eh,E0,E1⟩:=EM.max;refine⟨_,eh,env,b,E1,hb,λH1 s1=> ?_⟩;dsimp only;split
 .rename_i q;rw[Gaf q] at k;exact⟨L,env,R,EM.mono s1,k,O⟩
 .rename_i q;rw[Gag q] at k;exact⟨L,env,R,EM.mono s1,k,O⟩
theorem IS:PS X st (mS X H0 M Pn E II):=λ_ _ _ _ _ _ ⟨_,_,_,_,k,_⟩=>k.elim
theorem ot(h:PE X e (mX X H0 M Pn E x))(hs:autoParam (swapsWith e none pos.line X.env=pure false) Za1._auto_1):PS X (.Expr e pos) (mS X H0 M Pn E (vc x)):=by
 refine(u7 h hs).aG ?_;rintro D σ H ⟨L,env,R,EM,k,O⟩;exact⟨L,env,_,_,EM,k,λd L' eD v H' hU _ _ k=>O.nx L' eD σ H' hU k,O.ex⟩
theorem pZ(h:PE X e (mX X H0 M Pn E x)):PS X (.Return (some e) pos) (mS X H0 M Pn E (BQ x)):=by
 refine(Aq h).aG ?_;rintro D σ H ⟨L,env,R,EM,k,O⟩;exact⟨L,env,_,_,EM,k,λd L' eD v H' hU im r k=>O.rt d eD v H' hU.same (Eg r.inn im) hU.objs k,O.ex⟩
theorem IT{i:Nat}{y:Str}{p:Pos}(hN:X.N.Nodup)(hi:X.N[i]? =some y)(hx:Loc X.env.scope y)(h:PE X e (mX X H0 M Pn E x))(hs:autoParam (swapsWith e (some (.Name y p)) pos.line X.env=pure false) Za1._auto_1)(hf:autoParam (X.fn y=true\/X.env.scope.names.lookup y=some .local) Za3._auto_1):
  PS X (.Assign [.Name y p] e pos) (mS X H0 M Pn E (L6 i x)):=by
 refine(lR hN hi hx h hs hf).aG ?_;rintro D σ H ⟨L,env,R,EM,k,O⟩;exact⟨L,env,_,_,EM,k,λd L' eD v H' hU im r k=>O.nx _ _ _ _ (hU.gh r i) k,O.ex⟩
end
section
variable{α β:Type}{n:Str}
theorem vd{K:av}{F:Addr->Prop}{H:Hp}:∀{ns:List Str} {ds:List D} {vs:List V} {d:D},aT K F H ds vs->(ns.zip ds).lookup n=some d->∃v,(ns.zip vs).lookup n=some v/\Rep K F H d v
 |[],ds,vs,d,_,e=>by simp at e
 |m::ns,[],vs,d,_,e=>by simp at e
 |m::ns,x::ds,vs,d,r,e=>by
  obtain⟨v,us,rfl,h1,h2⟩:=r.cons_inv;rw[GcZ,GaG] at e⊢;cases q:n==m with
  |true=>rw[q] at e;cases e;exact⟨v,rfl,h1⟩
  |false=>rw[q] at e;exact vd h2 e
theorem ou:∀{ns:List Str} {xs:List α} {ys:List β},xs.length=ys.length->(ns.zip xs).lookup n=none->(ns.zip ys).lookup n=none
 |[],_,_,_,_=>by simp
 |m::ns,[],[],_,_=>by simp
 |m::ns,x::xs,y::ys,l,e=>by
  rw[GcZ,GaG] at e⊢;cases q:n==m with
  |true=>rw[q] at e;cases e
  |false=>rw[q] at e;exact ou (by simpa using l) e
 |_::_,[],_::_,l,_=>by simp at l
 |_::_,_::_,[],l,_=>by simp at l
theorem BU{y:V}:∀{ns:List Str} {vs:List V},ns.length=vs.length->mU n y (ns.zip vs)=(kn n y ns vs).1.zip (kn n y ns vs).2/\(kn n y ns vs).1.length=(kn n y ns vs).2.length
 |[],vs,_=>by unfold kn;exact⟨rfl,rfl⟩
 |m::ns,[],l=>by simp at l
 |m::ns,v::vs,l=>by
  obtain⟨h1,h2⟩:=BU (y:=y) (ns:=ns) (vs:=vs) (by simpa using l);unfold kn;rw[GcZ];unfold mU;by_cases q:m=n
  .rw[Gaf q,Gaf q];exact⟨rfl,by simpa using l⟩
  .rw[Gag q,Gag q,h1];exact⟨rfl,by simpa using h2⟩
theorem BV{K:av}{F:Addr->Prop}{H:Hp}{d:D}{y:V}(r:Rep K F H d y):∀{ns:List Str} {ds:List D} {vs:List V},ns.length=vs.length->aT K F H ds vs->(kn n d ns ds).1=(kn n y ns vs).1/\aT K F H (kn n d ns ds).2 (kn n y ns vs).2
 |[],ds,vs,_,_=>by unfold kn;exact⟨rfl,.cons r .nil⟩
 |m::ns,ds,[],l,_=>by simp at l
 |m::ns,[],v::vs,_,z=>absurd z.1 (by simp)
 |m::ns,x::ds,v::vs,l,z=>by
  obtain⟨v',us,e,h1,h2⟩:=z.cons_inv;cases e;obtain⟨q1,q2⟩:=BV r (ns:=ns) (by simpa using l) h2;unfold kn;by_cases q:m=n
  .rw[Gaf q,Gaf q];exact⟨rfl,.cons r h2⟩
  .rw[Gag q,Gag q,q1];exact⟨rfl,.cons h1 q2⟩
end
section
variable{X:Cx}{H0:Hp}{M:Addr->Prop}{Pn:Nat->V->Prop}{E:XK}{C:Addr}{n:Str}{e o:Expr}{f g:DE}{pos p:Pos}
theorem kY(cl:L2.Cls X.K C)(na:kR X.K C n)(he:PEd X e f)(hb:autoParam (attributeBase e n X.env (eval e X.env)=eval e X.env) Za1._auto_1):PEd X (.Attribute e n pos) (vb C n f):=by
 refine(N8 he hb).aG ?_;rintro σ H Q ⟨H0,eh,env,r,EO,h0,k⟩;obtain⟨x,hx,h⟩:=ef h0;clear h0;refine⟨H0,eh,env,x,EO,hx,λv H1 s1 R=> ?_⟩;have ii:=R.inn;obtain⟨xk,xd⟩:=x;cases ii with
 | @obj _ _ C' _ _ _ h1 ln r1=>
  unfold L4 at h;dsimp only at h;by_cases q:C' =C
  .rw[Gaf q] at h;subst q
   obtain⟨d,hd,rfl⟩:=Gac.mp h;obtain⟨v,hv,rv⟩:=vd r1 hd;exact⟨_,_,_,_,v,rfl,h1,cl,na,hv,k v H1 s1 rv⟩
  .rw[Gag q] at h;cases h
 |_=>cases h
theorem D9(cl:L2.Cls X.K C)(na:kR X.K C n)(ho:PEd X.nox o f)(he:PEd X.nox e g)(hs:autoParam (swapsWith e (some (.Attribute o n p)) pos.line X.env=pure false) Za1._auto_1):PS X (.Assign [.Attribute o n p] e pos) (mS X H0 M Pn E (L5 C n f g)):=by
 refine(N9 (PE.nox ho) (PE.nox he) hs).aG ?_;rintro D σ H ⟨L,env,R,EM,⟨x,y,hy,hx,im,nd,k⟩,O⟩;obtain⟨eh,E0,E1⟩:=EM.max;refine⟨_,eh,env,y,E1,hy,λv H1 s1 R1=> ⟨_,eh,env,x,E1.mono s1,hx,λu H2 s2 R2=> ?_⟩⟩;have ii:=R2.inn;obtain⟨xk,xd⟩:=x;cases ii with
 | @obj a dx C' ns vs ds h1 ln r1=>
  obtain⟨rfl,hL,hl,V3,ids,k⟩:=k;obtain⟨z1,z2⟩:=BU (n:=n) (y:=v) ln;have st:∀u b o,H2 b=some o->isT o->(∀C dx fs,o≠ .ins C dx fs)->upd H2 a u b=some o:=λu b o q _ nn=>by
   rw[ak (oR q h1 (nn _ _ _))];exact q
  have ry:∀u,Rep X.K (λ_=>False) (upd H2 a u) y.d v:=λu=>((R1.inn.same s2).any).pl (st u) im;have rs:∀u,aT X.K (λ_=>False) (upd H2 a u) ds vs:=λu=>r1.pl (st u) ids;obtain⟨z3,z4⟩:=BV (n:=n) (ry (.ins C' dx ((kn n v ns vs).1.zip (kn n v ns vs).2))) ln (rs _);refine⟨a,C',dx,_,rfl,h1,cl,na,by rw[List.length_zip,<-ln];lia, ?_⟩;rw[z1];exact O.nx _ _ σ _ ((EM.mono (s1.trans s2)).chg hL (vs:=(kn n v ns vs).2) (ns:=(kn n y.d ns ds).1) ⟨⟨_,h1⟩,by rw[z3];exact aC,by rw[z3];exact z2,λb o nb q=>by rw[ak nb];exact q⟩ z4 nd) k
 |_=>exact k.elim
end
section
variable{X:Cx}{C:Addr}{m:Str}{e o:Expr}{f:DE}{a:DA}{es:List Expr}{pos p:Pos}{k np:Nat}{fa:Addr}{fd:FuncData}{ps:List Str}{sp:List D->Option D}{pl:Sem Bool}
theorem EJ{σ:St}{H:Hp}{Q:VK}(h:tE X (kC C m sp f a) σ H Q)(hl:∀env rs,a env=some rs->rs.length+1=np):GV C m (spD X.K np sp) [] E0 (tE X f) (tA X a) σ H Q:=by
 obtain⟨H0,eh,env,r,EO,h0,k⟩:=h;obtain⟨x,hx,h1⟩:=ef h0;obtain⟨rs,xA,h2⟩:=ef h1;clear h0 h1;refine⟨H0,eh,env,x,EO,hx,λv H1 s1 R=> ?_⟩;have ii:=R.inn;obtain⟨xk,xd⟩:=x;cases ii with
 | @obj a0 _ C' ns vs ds h1 ln r1=>
  by_cases q:dR C m (.obj a0 C' ns ds)=true
  .rw[Gaf q] at h2;unfold dR at q;rw[Gam] at q;obtain⟨d,hd,rfl⟩:=Gac.mp h2;cases GaI q.1;refine⟨_,_,_,rfl,h1,ou r1.1 (Gcs.mp q.2),H0,eh,env,rs,EO.mono s1,xA,λus H2 s2 P=> ⟨_::rs.map (·.d),d, ?_, ?_,hd,λv' H3 s3 res=>k v' H3 ((s1.trans s2).trans s3) ((res.rv (EO.mono (s1.trans s2))).from (s1.trans s2))⟩⟩
   .rw[Gaz,Gaq];exact hl env rs xA
   .rw[GaV];exact .cons ((R.same s2).inn.any) (gE P)
  .rw[Gag q] at h2;cases h2
 |_=>cases h2
theorem mz(cl:L2.Cls X.K C)(hm:Meth X.K C m fa)(F:bu X.prog X.w X.K X.mg X.base CX0 k fa fd ps (spD X.K np sp))(hr:cP k X.A)(hb:Binds X.K fd ps [])(ho:PEd X o f)(ha:PAd X (e::es) a)(hl:∀env rs,a env=some rs->rs.length+1=np)
  (xR:autoParam (starEach (e::es) X.env=(false,eval e X.env)::starEach es X.env) Za1._auto_1)(xa:autoParam ((backTo pos (starEach es X.env)).any (·.1)=false) Za1._auto_1)
  (ht:eval (.Call (.Attribute o m p) (e::es) [] pos) X.env=(do
   let ov<-eval o X.env
   standAt p.atName
   let(f,first)<-holding [ov] (getMethod ov m pl)
   callWith pos f first (backTo pos (starEach (e::es) X.env)) (backToKw pos (keywordEach [] X.env))):=by rfl):PEd X (.Call (.Attribute o m p) (e::es) [] pos) (kC C m sp f a):=
 (JZ (pl:=pl) (dvs:=[]) ho cl hm F hr hb .nil uE ha xR xa ht).aG λ_ _ _ h=>EJ h hl
theorem qQ(cl:L2.Cls X.K C)(hm:Meth X.K C m fa)(F:bu X.prog X.w X.K X.mg X.base CX0 k fa fd ps (spD X.K 1 sp))(hr:cP k X.A)(hb:Binds X.K fd ps [])(ho:PEd X o f)
  (ht:eval (.Call (.Attribute o m p) [] [] pos) X.env=(do
   let ov<-eval o X.env
   standAt p.atName
   let(f,first)<-holding [ov] (getMethod ov m pl)
   callWith pos f first (backTo pos (starEach [] X.env)) (backToKw pos (keywordEach [] X.env))):=by rfl):PEd X (.Call (.Attribute o m p) [] [] pos) (kC C m sp f ao):=
 (Bm (pl:=pl) (dvs:=[]) ho cl hm F hr hb .nil uE ht).aG λσ H Q h=>by
  obtain⟨H0,eh,env,x,EO,hx,k⟩:=EJ (np:=1) h λenv rs e=>by cases e;rfl
  exact⟨H0,eh,env,x,EO,hx,λv H1 s1 R=>by
   obtain⟨a,dx,fs,e1,e2,e3,WA,yM,eD,rs,WB,xA,k'⟩:=k v H1 s1 R;cases xA;exact⟨a,dx,fs,e1,e2,e3,k' [] H1 (λ_ _ q=>q) .nil⟩⟩
end
noncomputable def spM(K:av)(np:Nat)(m:MD):Sp:=λvs H Q E=>∃ds R Rx b C,ds.length=np/\aT K (λ_=>True) H ds vs/\(∃ns es r,ds= .obj b C ns es::r)/\m ds R Rx/\
 (∀d o v H',fZ (· =b) H H' ->Rep K (λ_=>True) H' o (.ref b)->iA K H H' d v->R d o->Q v H')/\
 (∀X n d o v dx H',fZ (· =b) H H' ->H dx=none->H' dx=some (.xd [(n,v)])->d.imm=true->Rep K (λ_=>False) H' d v->Rep K (λ_=>True) H' o (.ref b)->Rx X n d o->E (.ref X) (some dx) H')
noncomputable def Mr(H1:Hp)(E:XK):XK:=λc o H' =>∀a u,H1 a=none->Loose (H' a)->Loose (some u)->o≠some a->E c o (upd H' a u)
def XP(X:Cx)(E:XK):Prop:=∀(ee:List (Addr×Obj)) (σ:L2.St) (H1:Hp) (s1:Shared) (e:Value) (s' :Shared),Inv X ee σ H1 s1->CXE X.prog X.w X.K X.stack H1 s1 (Mr H1 E) e s' ->X.xe e s'
section
variable{P:Program}{w:World}{K:PySem.W.Frag}{mg:Str->Option Value}{base:Heap}{N:List Str}{qual:Str}{scope:Scope}{f:Addr}{cd:Value}{A:Around}{outer:List PySem.Env}{s:Shared}{H:Hp}{E:XK}
theorem La:XP (jn (CXE P w K) P w K mg base N qual scope f cd A outer s H E) E:=by
 rintro ee σ H1 s1 e s' I ⟨a,B,C,fI,dx,T,n,v,H',rfl,cl,cx,hE⟩;obtain⟨⟨t0,fx⟩,_,_⟩:=(show bx P w H' s'.heap a (.ext (X2 a C dx T)) from cx.hok a _ cx.obj)
 have lo:Loose (H' a):=by rw[cx.obj];trivial
 have nd:dx≠a:=oR cx.dct cx.obj (λz=>by cases z);have I2:Inv (jn (CXE P w K) P w K mg base N qual scope f cd A outer s H E) ee σ H' s' :=I.Bh (ch:=[]) cx.os cx.un cx.hok cx.bare (λ_ z=>nomatch z);have fl:s.heap.objs.size<=(jn (CXE P w K) P w K mg base N qual scope f cd A outer s H E).env.locals:=I2.ok.above;have big:∀b,b<s.heap.objs.size->b∉frs outer->b∉(jn (CXE P w K) P w K mg base N qual scope f cd A outer s H E).stack.filterMap (·.frame):=λb lt m z=>by
  rcases Gaw.mp (I2.uu b z) with e|z
  .exact absurd (Gak lt fl) (by rw[e];exact GaN _)
  .exact m z
 have ha:s.heap.objs.size<=a:=GaQ I.sz cx.new;have hT:s.heap.objs.size<=T:=GaQ I.sz cx.OM;obtain⟨ts,ft,q3⟩:=cx.trc;have nT:∀b,b<s.heap.objs.size->Value.ref T≠ .ref b:=λb lt z=>by cases z;exact absurd (Gak lt hT) (GaN _)
 refine A4 (uY (base:=base) I2.ok.frames I2.stack rfl fx (.inr ⟨T,_,_,ts,rfl,cx.ne,ft,q3⟩) λh' T' yP fe n1 le zj U9 k1 k2=> ?_);refine⟨a,B,C,fI,dx,T',n,v,upd H' a (.ext (X2 a C dx T')),rfl,cl,⟨I2.os,I2.bare,((show Un (frs outer) [] H H' s.heap s'.heap from I2.base).past (h2:=h') (λb ob lt q=>k1 b ob (Gau (Gak lt ha)) (nT b lt) q) λb ob lt m q=>k2 b ob (Gau (Gak lt ha)) (nT b lt) (big b lt m) q).qM lo,
  I2.hok.qM lo (λb u nb z q=>k2 b u nb (λe=>by cases e;exact z cx.trf) (λm=>z (I2.qm b m)) q) (Mn ⟨t0,fe⟩),ha,GaQ I2.sz le,n1,aC,by rw[ak nd];exact cx.dct,⟨yP,zj,U9⟩, ?_⟩,hE a _ (I.hok.fresh cx.new) lo trivial (λz=>nd (Option.some.inj z))⟩
 rw[ak n1];exact I2.hok.fresh le
end
section
variable{X:Cx}{CX:CXT}{k:Nat}{f:Addr}{fd:FuncData}{ps:List Str}{sp:Sp}{ee:List (Addr×Obj)}{σ:L2.St}{H:Hp}{s:Shared}{Q:VK}{us:List Value}{vs:List V}{E:XK}
theorem AV(F:bu X.prog X.w X.K X.mg X.base CX k f fd ps sp)(hr:cP k X.A)(hb:Binds X.K fd ps [])(I:Inv X ee σ H s)(r:Vals vs us)(h:sp vs H Q E){Z:Value->Shared->Prop}(hx:∀e s',CX X.stack H s E e s' ->Z e s'):wpAny (model X.prog X.w) X.A (call (.ref f) us) (EP X ee σ Q) Z s:=by
 have hl:us.length=ps.length:=by rw[<-r.length];exact F.len _ _ _ _ h
 have hb' :=hb s us I.kIn (by rw[GaV];exact hl);rw[GaV] at hb';refine GbX (Gch (F.run X.A X.stack s H ⟨us,[]⟩ us vs Q E hr I.JY hb' r h) λr s' hq=> ?_);cases r with
 |error e=>exact hx e s' hq
 |ok fl=>
  cases fl with
  |ret u=>exact I.after hq
  |next=>exact False.elim hq
  |brk=>exact False.elim hq
  |cont=>exact False.elim hq
end
section
variable{K:av}{H0 H1 H' :Hp}{M:Addr->Prop}{Pn:Nat->V->Prop}{L:List Nat}{env:Env}{σ:St}{b C:Addr}{ns:List Str}{es r:List D}{vs:List V}{o:D}{k:Env->Prop}
theorem oy(EM:cf K H0 M Pn L env σ H1)(nd:ndE env=true)(hb:b∈L){v0:V}(r0:Rep K (λ_=>True) H1 (.obj b C ns es) v0)(s:fZ (· =b) H1 H')(ro:Rep K (λ_=>True) H' o (.ref b))(h:qN L env b C k o){Hf:Hp}(hf:∀c q,H' c=some q->H1 c≠none\/¬Loose (some q)->Hf c=some q):
  ∃e',cf K H0 M Pn L e' σ Hf/\k e' :=by
 cases r0 with
 | @obj _ dx _ _ vs0 _ h1 ln l r1=>
  cases o with
  |obj b' C' yr yf =>
   obtain⟨rfl,rfl,hp,k⟩:=h;cases ro with
   | @obj _ SX _ _ yO _ h2 Vr l' r2=>
    have ed:SX =dx:=by
     rcases s _ _ h1 with q| ⟨_,_,kin,q⟩
     .have z:=h2.symm.trans q;injection z with z;injection z
     .have z:=h2.symm.trans q;injection z with z;subst z;exact kin.2.symm
    subst ed;have nl:∀{q:HO},isT q->¬Loose (some q):=λ{q} t=>by cases q<;>first|exactλz=>z|exact t.elim
    refine⟨_,EM.chg hb (ns:=yr) (vs:=yO) ⟨⟨_,h1⟩,hf _ _ h2 (.inr λz=>z),Vr,λc q nc e=> ?_⟩ (aT.pl (F:=λ_=>True) (λc q e t _=>hf c q e (.inr (nl t))) ⟨l',r2⟩ hp) nd,k⟩;exact hf c q ((s c q e).resolve_right λz=>nc z.1) (.inl (by rw[e];simp))
  |_=>exact h.elim
end
section
variable{K:av}{H0 H1:Hp}{M:Addr->Prop}{Pn:Nat->V->Prop}{L:List Nat}{env:Env}{σ:St}{b C:Addr}{ns:List Str}{es r:List D}{vs:List V}{m:MD}{np:Nat}{Q:VK}{E:XK}{R:D->List Nat->Env->Prop}{Rx:Nat->Str->D->Env->Prop}
theorem A6(EM:cf K H0 M Pn L env σ H1)(nd:ndE env=true)(hb:b∈L)(T7:aT K (λ_=>True) H1 (.obj b C ns es::r) vs)(hl:(D.obj b C ns es::r).length=np)
  (hm:m (.obj b C ns es::r) (λd o=>d.imm=true/\qN L env b C (R d L) o) (λX n d o=>qN L env b C (Rx X n d) o))
  (hQ:∀d L' eD v H',cf K H0 M Pn L' eD σ H' ->d.imm=true->Rep K (λ_=>False) H' d v->R d L' eD ->Q v H')
  (hE:∀C n d eD v dx H',fZ M H0 H' ->H0 dx=none->H' dx=some (.xd [(n,v)])->d.imm=true->Rep K (λ_=>False) H' d v->Objs K eD H' ->Rx C n d eD ->E (.ref C) (some dx) H'):spM K np m vs H1 Q (Mr H1 E):=by
 obtain⟨v0,us,rfl,r0,_⟩:=id T7.cons_inv;refine⟨_,_,_,b,C,hl,T7,⟨ns,es,r,rfl⟩,hm,λd o v H' s ro res h=> ?_,λX n d o v dx H' s z1 z2 im rd ro h a u z3 lo lu ne=> ?_⟩
 .obtain⟨e',hU,k⟩:=oy EM nd hb r0 s ro h.2 (Hf:=H') λ_ _ q _=>q;exact hQ d L e' v H' hU h.1 (res.imm h.1) k
 .obtain⟨e',hU,k⟩:=oy EM nd hb r0 s ro h (Hf:=upd H' a u) λc q e h=>by
   rw[ak ?_];exact e
   rintro rfl;rcases h with h|h
   .exact h z3
   .rw[e] at lo;exact h lo
  refine hE X n d e' v dx _ hU.same (EM.same.free z1) (by rw[ak λz=>ne (by rw[z])];exact z2) im (rd.told im λc q e t=> ?_) hU.objs k;rw[ak (jU lo e (by cases q<;>first|exactλz=>z|exact t.elim))];exact e
end
section
variable{X:Cx}{H0:Hp}{M:Addr->Prop}{Pn:Nat->V->Prop}{E:XK}{k np:Nat}{fa C:Addr}{fd:FuncData}{ps:List Str}{m:MD}{x:Str}{p pos:Pos}{e o:Expr}{es:List Expr}{f:DE}{a:DA}{pl:Sem Bool}
theorem EK(hP:XP X E)(F:bu X.prog X.w X.K X.mg X.base (CXE X.prog X.w X.K) k fa fd ps (spM X.K np m))(hr:cP k X.A)(hg:Gl X x)(hm:X.mg x=some (.ref fa))(hk:PySem.W.keepIn X.K (.ref fa)=true)(hb:Binds X.K fd ps [])(ha:PAd X.nox (e::es) a)(hl:∀env rs,a env=some rs->rs.length=np)
  (xu:autoParam ((x==("__debug__":Str))=false) Za2._auto_1)(he:autoParam (starEach (e::es) X.env=(false,eval e X.env)::starEach es X.env) Za1._auto_1)(xa:autoParam ((backTo pos (starEach es X.env)).any (·.1)=false) Za1._auto_1):
  PE X (.Call (.Name x p) (e::es) [] pos) (mX X H0 M Pn E (BP m a)):=by
 rintro ee s σ H Q I ⟨L,env,R,Rx,EM,⟨rs,xA,nd,h⟩,hQ,hE⟩;refine Gbl (kq I hg hm ?_ xu);obtain⟨eh,E0,E1⟩:=EM.max;have h0:tA X a σ H λvs H1=>bz H H1/\aT X.K (λ_=>True) H1 (rs.map (·.d)) vs:=⟨_,eh,env,rs,E1,xA,λvs H1 s1 R=> ⟨s1,gE R⟩⟩
 refine Gbu (h₀:=X.base) I.ok.mod.kin hk (thn ((PA.nox ha) pos ee s σ H _ I h0) λus s1 ⟨vs,H1,I1,rv,sm,R1⟩=> ⟨I1.kIn, ?_⟩) he xa;have zO :(rs.map λ(r:RV)=>r.d).length=np:=by rw[Gaq];exact hl env rs xA
 generalize (rs.map λ(r:RV)=>r.d)=ds at*
 match ds,h with
 | .obj b C ns es::r,h=>exact AV F hr hb I1 rv (A6 (EM.mono sm) nd h.1 R1 zO h.2 hQ hE) λe s' q=>hP ee σ H1 s1 e s' I1 q
theorem gw(hP:XP X E)(cl:L2.Cls X.K C)(hm:Meth X.K C x fa)(F:bu X.prog X.w X.K X.mg X.base (CXE X.prog X.w X.K) k fa fd ps (spM X.K np m))(hr:cP k X.A)(hb:Binds X.K fd ps [])(ho:PEd X.nox o f)(ha:PAd X.nox (e::es) a)(hl:∀env rs,a env=some rs->rs.length+1=np)
  (xR:autoParam (starEach (e::es) X.env=(false,eval e X.env)::starEach es X.env) Za1._auto_1)(xa:autoParam ((backTo pos (starEach es X.env)).any (·.1)=false) Za1._auto_1)
  (ht:eval (.Call (.Attribute o x p) (e::es) [] pos) X.env=(do
   let ov<-eval o X.env
   standAt p.atName
   let(f,first)<-holding [ov] (getMethod ov x pl)
   callWith pos f first (backTo pos (starEach (e::es) X.env)) (backToKw pos (keywordEach [] X.env))):=by rfl):PE X (.Call (.Attribute o x p) (e::es) [] pos) (mX X H0 M Pn E (lJ C x m f a)):=by
 rintro ee s σ H Q I ⟨L,env,R,Rx,EM,⟨y,rs,hy,xA,nd,hM,h⟩,hQ,hE⟩;obtain⟨eh,E0,E1⟩:=EM.max;have h0:tE X f σ H λv H1=>bz H H1/\je X.K (fu env σ H) eh env σ H H1 y v:=⟨_,eh,env,y,E1,hy,λv H1 s1 R=> ⟨s1,R⟩⟩
 refine Gci (pl:=pl) (thn ((PE.nox ho) ee s σ H _ I h0) λu s1 ⟨v,H1,I1,rx,sm,R1⟩=> ?_) ht;have ii:=R1.inn;obtain⟨yk,yd⟩:=y;cases ii with
 | @obj b dx C' ns vs ds h1 ln r1=>
  obtain rfl:u=Value.ref b:=rx;unfold dR at hM;rw[Gam] at hM;cases GaI hM.1;refine pL I1 h1 cl hm (ou r1.1 (Gcs.mp hM.2)) ?_;have h3:tA X a σ H1 λus H2=>bz H1 H2/\aT X.K (λ_=>True) H2 (rs.map (·.d)) us:=⟨_,eh,env,rs,E1.mono sm,xA,λvs H2 s2 R=> ⟨s2,gE R⟩⟩
  refine Gbu (first:=[.ref b]) (h₀:=X.base) I.ok.mod.kin hm.kp (thn ((PA.nox ha) pos ee s1 σ H1 _ I1 h3) λus s2 ⟨SY,H2,I2,rv,UR,R2⟩=> ⟨I2.kIn, ?_⟩) xR xa;exact AV (us:= .ref b::us) (vs:= .ref b::SY) F hr hb I2 (.cons rfl rv) (A6 (EM.mono (sm.trans UR)) nd h.1 (.cons ((R1.same UR).inn.any) R2) (by rw[Gaz,Gaq];exact hl env rs xA) h.2 hQ hE) λe s' q=>hP ee σ H2 s2 e s' I2 q
 |_=>exact h.elim
theorem jV{B fI:Addr}{n cn:Str}{p1 p2 p3:Pos}(cl:XCl X.K B C fI n)(F:bu X.prog X.w X.K X.mg X.base CX0 k fI fd ps (uZ X.K B C n))(hr:cP (k+1) X.A)(hb:Binds X.K fd ps [])
  (hL:XL X E)(hg:Gl X cn)(hm:X.mg cn=some (.ref C))(he:PEd X.nox e f)(xu:autoParam ((cn==("__debug__":Str))=false) Za2._auto_1)(hs:autoParam (starEach [e] X.env=(false,eval e X.env)::starEach [] X.env) Za1._auto_1):
  PS X (.Raise (some (.Call (.Name cn p1) [e] [] p2)) none p3) (mS X H0 M Pn E (nD C n f)):=by
 refine(IG (E:=λc o H' =>(bz (fu [] [] H') H' ->E c o H')) cl F hr hb (λee σ H s a B C f dx n v I cl ha ea ed hE=>hL ee σ H s a B C f dx n v I cl ha ea ed λT=>hE T λb o e=>oq e) hg hm he xu hs).aG ?_;rintro D σ H ⟨L,env,R,EM,⟨r,hf,im,h⟩,O⟩;obtain⟨eh,E0,E1⟩:=EM.max;refine⟨_,eh,env,.x C n r.d,E1,by simp[rzX,hf,im],λv dx H' s z1 z2 rd _=> ?_⟩;exact O.ex C n r.d env v dx H' (E0.then s) (E0.free z1) z2 im (rd.imm im) (E1.objs s) h
end
section
variable{P:Program}{w:World}{K:av}{mg:Str->Option Value}{base:Heap}{x qual:Str}{sd:Stmt}{fa:Addr}{fd:FuncData}{N ps:List Str}{k np:Nat}
theorem kZ{body:MS}(F:Fun K x qual sd fa fd)(S:aM N ps (ar sd))(zM:ps.length=np)
  (xl:∀(eR:Value) (A:Around) (outer:List PySem.Env) (s:Shared) (H:Hp) (E:XK) (M:Addr->Prop) (Pn:Nat->V->Prop),cP k (A.deeper (envOfC qual (ar sd) s.heap.objs.size fa eR))->XL (jn (CXE P w K) P w K mg base N qual (ar sd) fa eR A outer s H E) E->XP (jn (CXE P w K) P w K mg base N qual (ar sd) fa eR A outer s H E) E->
   PSs (jn (CXE P w K) P w K mg base N qual (ar sd) fa eR A outer s H E) (dJ sd) (mS (jn (CXE P w K) P w K mg base N qual (ar sd) fa eR A outer s H E) H M Pn E body)):bu P w K mg base (CXE P w K) (k+1) fa fd ps (spM K np (tV N.length np body)):=by
 obtain⟨oc,od,kV,doc,pm,an,eR,ct,yS,rfl,lk,xp⟩:=F.ex;refine DH lk xp S (λvs H Q E h=> ?_) λA outer s H vs Q E hr h=> ?_
 .obtain⟨ds,_,_,_,_,h1,h2,_⟩:=h;rw[<-h2.1,h1,zM]
 .obtain⟨ds,R,Rx,b,C,h1,h2,⟨ns,es,r,rfl⟩,h3,ok,ex⟩:=h;refine⟨_,xl eR A outer s H E (· =b) (λ_ _=>False) hr (λee σ H s a B C f dx n v I cl ha ea ed hE=>IF I cl ha ea ed hE) La, ?_⟩;have hl:(D.obj b C ns es::r).length<=N.length:=by
   have:=congrArg List.length S.pre;rw[GbD] at this;lia
  obtain⟨v0,us,rfl,r0,_⟩:=id h2.cons_inv;have ib:Ins [b] H:=λc hc=>by
   obtain rfl:c=b:=by simpa using hc
   cases r0 with
   |obj h ln l r=>exact⟨_,_,_,h⟩
  refine⟨[b],_,_,⟨H,λ_=>False,λ_ _ e=> .inl e,λc hc=> .inl (by simpa using hc),λ_ _ z=>z.elim,ib,aA.start hl h2⟩,h3.2, ?_⟩;exact{
   nx:=λL env σ H' EM ⟨yr,yf,e,hp,q⟩=>ok .non _ .non H' EM.same ((EM.objs 0 b C yr yf e hp).imp λ_ z=>z.elim) ⟨λt=>(by cases t),.non⟩ q
   bk:=λ_ _ _ _ _ z=>z.elim
   ct:=λ_ _ _ _ _ z=>z.elim
   rt:=λd env v H' s r o ⟨yr,yf,e,hp,q⟩=>ok d _ v H' s ((o 0 b C yr yf e hp).imp λ_ z=>z.elim) r q
   ex:=λC' n d env v dx H' s z1 z2 im rd o ⟨yr,yf,e,hp,q⟩=>ex C' n d _ v dx H' s z1 z2 im rd ((o 0 b C yr yf e hp).imp λ_ z=>z.elim) q
   rl:=λ_ _ _ _ _ _ _ _ z=>z.elim}
end
open PySem.W (Looks exmOne exm_one)
section
variable{K:av}{H0 H H' :Hp}{M:Addr->Prop}{Pn:Nat->V->Prop}{L:List Nat}{env:Env}{σ:St}
theorem cf.clear(E:cf K H0 M Pn L env σ H)(k:Nat):cf K H0 M Pn L (env.set k none) (σ.set k none) H:=by
 obtain⟨H₁,eh,s,l,p,n,E⟩:=E;refine⟨H₁,eh,s,l,λq v z h=> ?_,n,E.clear k⟩;obtain⟨w,_⟩:=iI h.top;rw[Gaa w] at h⊢;exact p q v z h
theorem ER{X:Cx}:XP X λ_ _ _=>False:=λ_ _ _ _ _ _ I ⟨a,_,_,_,dx,_,_,_,_,_,_,cx,h⟩=>
 (h a (.ext λ_=>True) (I.hok.fresh cx.new) (by rw[cx.obj];trivial) trivial λz=>oR cx.dct cx.obj (λz=>by cases z) (Option.some.inj z)).elim
end
section
variable{X:Cx}{H0:Hp}{M:Addr->Prop}{Pn:Nat->V->Prop}{E:XK}{kk np i j k:Nat}{fa Cn:Addr}{fd:FuncData}{ps:List Str}{m:MD}{xi xj en cn fn:Str}{p1 p2 p3 p4 p5 p6 p7 p8 p9 zW:Pos}{e:Expr}{es:List Expr}{a:DA}{cs:List Nat}
theorem G8{ee:List (Addr×Obj)}{σ:L2.St}{H:Hp}{s:Shared}{L:List Nat}{env:Env}{R:D->List Nat->Env->Prop}{Rx:Nat->Str->D->Env->Prop}{Q:Value->Shared->Prop}{Z:Value->Shared->Prop}
  (F:bu X.prog X.w X.K X.mg X.base (CXE X.prog X.w X.K) kk fa fd ps (spM X.K np m))(hr:cP kk X.A)(hg:Gl X fn)(hm:X.mg fn=some (.ref fa))(hk:PySem.W.keepIn X.K (.ref fa)=true)(hb:Binds X.K fd ps [])(ha:PAd X.nox (e::es) a)(hl:∀env rs,a env=some rs->rs.length=np)
  (I:Inv X ee σ H s)(EM:cf X.K H0 M Pn L env σ H)(h:BP m a L env R Rx)
  (hok:∀u s2 v H' d e',Inv X ee σ H' s2->RelV v u->cf X.K H0 M Pn L e' σ H' ->Rep X.K (λ_=>False) H' d v->R d L e' ->Q u s2)
  (hex:∀a' B C' f dx T n v s1 s2 H1 H' d,Inv X ee σ H1 s1->XCl X.K B C' f n->O4 X.prog X.w X.stack H1 s1 a' C' dx T n v H' s2->H1 dx=none->d.imm=true->Rep X.K (λ_=>False) H' d v->(∀Hf:Hp,(∀c q,H' c=some q->H1 c≠none\/¬Loose (some q)->Hf c=some q)->∃e',cf X.K H0 M Pn L e' σ Hf/\Rx C' n d e')->Z (.ref a') s2)
  (zf:(fn==("__debug__":Str))=false)(he:starEach (e::es) X.env=(false,eval e X.env)::starEach es X.env)(xa:(backTo p3 (starEach es X.env)).any (·.1)=false):
  wpAny (model X.prog X.w) X.A (eval (.Call (.Name fn p2) (e::es) [] p3) X.env) Q Z s:=by
 obtain⟨rs,xA,nd,h⟩:=h;refine Gbl (kq I hg hm ?_ zf);obtain⟨eh,E0,E1⟩:=EM.max;have h0:tA X a σ H λvs H1=>bz H H1/\aT X.K (λ_=>True) H1 (rs.map (·.d)) vs:=⟨_,eh,env,rs,E1,xA,λvs H1 s1 R=> ⟨s1,gE R⟩⟩
 refine Gbu (h₀:=X.base) I.ok.mod.kin hk (thn ((PA.nox (X:=X.oM Z) ha) p3 ee s σ H _ (I.oM Z) h0) λus s1 ⟨vs,H1,I1,rv,sm,R1⟩=> ⟨I1.kIn, ?_⟩) he xa;have I1:=I1.iC;have zO :(rs.map λ(r:RV)=>r.d).length=np:=by rw[Gaq];exact hl env rs xA
 generalize (rs.map λ(r:RV)=>r.d)=ds at*
 match ds,h with
 | .obj b C ns es::r,h=>
  have U0:=EM.mono sm;obtain⟨v0,Vh,rfl,r0,_⟩:=id R1.cons_inv;have yA:spM X.K np m (v0::Vh) H1 (λv H' =>∃d e',cf X.K H0 M Pn L e' σ H' /\Rep X.K (λ_=>False) H' d v/\R d L e')
    (λc o H' =>∃Z n d v dx,c= .ref Z/\o=some dx/\H1 dx=none/\H' dx=some (.xd [(n,v)])/\d.imm=true/\Rep X.K (λ_=>False) H' d v/\∀Hf:Hp,(∀c q,H' c=some q->H1 c≠none\/¬Loose (some q)->Hf c=some q)->∃e',cf X.K H0 M Pn L e' σ Hf/\Rx Z n d e'):=by
   refine⟨_,_,_,b,C,zO,R1,⟨ns,es,r,rfl⟩,h.2,λd o v H' s ro res q=> ?_,λZ n d o v dx H' s z1 z2 im rd ro q=> ⟨Z,n,d,v,dx,rfl,rfl,z1,z2,im,rd,λHf hf=> ?_⟩⟩
   .obtain⟨e',hU,k⟩:=oy U0 nd h.1 r0 s ro q.2 (Hf:=H') λ_ _ q _=>q;exact⟨d,e',hU,res.imm q.1,k⟩
   .exact oy U0 nd h.1 r0 s ro q hf
  refine thn (AV F hr hb I1 rv yA λe2 s2 q=> ?_) λu s2 ⟨v,H',I2,U7,d,e',hU,rd,k⟩=>hok u s2 v H' d e' I2 U7 hU rd k;obtain⟨a',B,C',f,dx,T,n,v,H',rfl,cl,cx,Z,n',d,v',SX,e1,e2,z,e4,im,rd,fin⟩:=q;cases e1;cases e2
  have e5:=cx.dct.symm.trans e4;cases e5;exact hex a' B C' f dx T n v s1 s2 H1 H' d I1 cl cx z im rd fin
theorem Oa(F:bu X.prog X.w X.K X.mg X.base (CXE X.prog X.w X.K) kk fa fd ps (spM X.K np m))(hr:cP kk X.A)(hg:Gl X fn)(hm:X.mg fn=some (.ref fa))(hk:PySem.W.keepIn X.K (.ref fa)=true)(hb:Binds X.K fd ps [])(ha:PAd X.nox (e::es) a)(hl:∀env rs,a env=some rs->rs.length=np)
  (yW:∀C∈cs,exmOne X.K (.ref C) (.ref Cn)=some true)(VP:Gl X cn)(VM:X.mg cn=some (.ref Cn))(xR:X.stack=X.env::X.outer)(yV:X.env.frame=some X.env.locals)(hN:X.N.Nodup)(hi:X.N[i]? =some xi)(hj:X.N[j]? =some xj)(zm :X.N[k]? =some en)(Uh:Loc X.env.scope xi)(Ug:Loc X.env.scope xj)(zl:X.env.scope.names.lookup en=some .local)(Uv:j≠k)
  (hs:autoParam (swapsWith (.Call (.Name fn p2) (e::es) [] p3) (some (.Name xi p1)) p4.line X.env=pure false) Za1._auto_1)(xE:autoParam (swapsWith (.Name en p7) (some (.Name xj p6)) p8.line X.env=pure false) Za1._auto_1)
  (Tc:autoParam (X.fn xi=true\/X.env.scope.names.lookup xi=some .local) Za3._auto_1)(VQ:autoParam (X.fn xj=true\/X.env.scope.names.lookup xj=some .local) Za3._auto_1)
  (zf:autoParam ((fn==("__debug__":Str))=false) Za2._auto_1)(xu:autoParam ((cn==("__debug__":Str))=false) Za2._auto_1)(UB:autoParam ((en==("__debug__":Str))=false) Za2._auto_1)(Tg:autoParam ((en==("__classdict__":Str))=false) Za2._auto_1)
  (he:autoParam (starEach (e::es) X.env=(false,eval e X.env)::starEach es X.env) Za1._auto_1)(xa:autoParam ((backTo p3 (starEach es X.env)).any (·.1)=false) Za1._auto_1):
  PS X (.Try [.Assign [.Name xi p1] (.Call (.Name fn p2) (e::es) [] p3) p4] [.ExceptHandler (some (.Name cn p5)) (some en) [.Assign [.Name xj p6] (.Name en p7) p8] p9] [] [] zW) (mS X H0 M Pn E (O6 m a i cs j k)):=by
 rintro ee s σ H D I ⟨L,env,R,EM,h,O⟩;refine wpAny_Try_except (wpAny_execs_cons (wpAny_Assign_Name (G8 F hr hg hm hk hb ha hl I EM h (λu s2 v H' d e' I2 U7 hU rd k=> ?_) (λa' B C' f dx T n v s1 s2 H1 H' d I1 cl cx z im rd fin=> ?_) zf he xa) hs))
 .exact mZ I2 hN hi Uh U7 (λs3 I3=>GbW (GbW ⟨_,H',I3,O.nx L _ _ H' (hU.gh rd i) k⟩)) Tc
 .have za:H1 a' =none:=I1.hok.fresh cx.new;have mine:∀Hf:Hp,(∀b,b≠a' ->b≠dx->Hf b=H' b)->∀c q,H' c=some q->H1 c≠none\/¬Loose (some q)->Hf c=some q:=λHf ho c q e h=>by
   rw[ho c ?_ ?_];exact e
   .rintro rfl;rcases h with h|h
    .exact h za
    .rw[cx.obj] at e;cases e;exact h trivial
   .rintro rfl;rcases h with h|h
    .exact h z
    .rw[cx.dct] at e;cases e;exact h trivial
  have hc:cs.contains C' =true:=let⟨_,_,q,_⟩:=fin H' λ_ _ q _=>q;q
  refine IH I1 cx cl xR yV (yW C' (by simpa using hc)) VP VM hN hj zm Ug zl Uv xE VQ xu UB Tg λHf s3 I3 hx ho=> ?_;obtain⟨e',hU,_,kk⟩:=fin Hf (mine Hf ho);obtain⟨fv,sl,od,h1,h2⟩:=hx;have r2:Rep X.K (λ_=>False) Hf d v:=rd.told im λc q e t=>mine Hf ho c q e (.inr (by cases q<;>first|exactλz=>z|exact t.elim));exact⟨_,Hf,I3,O.nx L _ _ Hf ((hU.gh (.exc ⟨dx,fv,sl,od,h1,h2⟩ r2) j).clear k) kk⟩
end
mutual
theorem IU:∀(d:D),d.pl=true->d.imm=true
 | .tup ds,h=>by unfold D.pl at h;unfold D.imm;exact ug ds h
 | .exc _ _ d,h=>by unfold D.pl at h;unfold D.imm;exact IU d h
 | .non,_=>rfl
 | .bl _,_=>rfl
 | .int _,_=>rfl
 | .str _,_=>rfl
 | .scr _,_=>rfl
 | .lst _,h=>by unfold D.pl at h;cases h
 | .obj _ _ _ _,h=>by unfold D.pl at h;cases h
 | .dK _,h=>by unfold D.pl at h;cases h
 | .dT _,h=>by unfold D.pl at h;cases h
theorem ug:∀(ds:List D),pls ds=true->aZ ds=true
 |[],_=>rfl
 |d::ds,h=>by
  unfold pls at h;rw[Gam] at h
  unfold aZ;rw[IU d h.1,ug ds h.2];rfl
end
def mXs(X:Cx)(H0:Hp)(M:Addr->Prop)(Pn:Nat->V->Prop)(f:MX):TE:=λσ H Q=>∃L env R,cf X.K H0 M Pn L env σ H/\f L env R (λ_ _ _ _=>False)/\
 (∀d L' eD v H',bz H H' ->cf X.K H0 M Pn L' eD σ H' ->d.imm=true->Rep X.K (λ_=>False) H' d v->R d L' eD ->Q v H')
section
variable{K:av}{H0 H H' :Hp}{M:Addr->Prop}{Pn:Nat->V->Prop}{L:List Nat}{env:Env}{σ:St}{b C dx:Addr}
theorem cf.more(E:cf K H0 M Pn L env σ H)(s:bz H H')(n:H b=none){fs:List (Str×V)}(h:H' b=some (.ins C dx fs)):cf K H0 M Pn (b::L) env σ H' :=by
 have z:=E.same.free n;obtain⟨H₁,eh,s1,l,p,i,E⟩:=E.mono s;exact⟨H₁,eh,s1,λc hc=>(Gaw.mp hc).elim (λe=> .inr (e▸z)) (l c),p,λc hc=>(Gaw.mp hc).elim (λe=> ⟨_,_,_,e▸h⟩) (i c),E⟩
theorem cf.fresh(E:cf K H0 M Pn L env σ H)(n:H b=none):b∉L:=λh=>by
 obtain⟨_,_,_,e⟩:=E.ins b h;rw[n] at e;cases e
theorem cf.sy{d:D}{a:Addr}{i:Nat}(E:cf K H0 M Pn L env σ H)(s:bz H H')(hi:i<env.length)(n:H a=none)(w:Wr H' a)(t:d.top=true)(Ux:Inn K (λ_=>False) H' d (.ref a)):cf K H0 M Pn L (env.set i (some (.own d))) (σ.set i (some (.ref a))) H' :=by
 obtain⟨H₁,eh,s1,l,p,ii,E⟩:=E;refine⟨H₁,eh,s1,l,λq v z h=> ?_,ii.same s,E.sy s hi n w t (Ux.imp λ_ z=>z.elim)⟩;by_cases w:i=q
 .subst w;rw[bA hi] at h;exact h.elim
 .rw[Gaa w] at h⊢;exact p q v z h
end
section
variable{X:Cx}{H0:Hp}{M:Addr->Prop}{Pn:Nat->V->Prop}{E:XK}{k np:Nat}{fa C:Addr}{fd:FuncData}{ps:List Str}{m:MD}{x:Str}{p pos:Pos}{e o b:Expr}{es:List Expr}{f:MX}{g:DE}{a a1 a2:DA}{pl:Sem Bool}{sp:List D->Option D}{t:MT}{u:DT}
theorem qR(mk:Mk X.K C fa)(F:bu X.prog X.w X.K X.mg X.base (CXE X.prog X.w X.K) k fa fd ps (spM X.K np m))(hr:cP (k+1) X.A)(hg:Gl X x)(hm:X.mg x=some (.ref C))(hb:Binds X.K fd ps [])(ha:PAd X.nox (e::es) a)(hl:∀env rs,a env=some rs->rs.length+1=np)
  (xu:autoParam ((x==("__debug__":Str))=false) Za2._auto_1)(he:autoParam (starEach (e::es) X.env=(false,eval e X.env)::starEach es X.env) Za1._auto_1)(xa:autoParam ((backTo pos (starEach es X.env)).any (·.1)=false) Za1._auto_1):
  PE X (.Call (.Name x p) (e::es) [] pos) (mXs X H0 M Pn (oX C m a)):=by
 refine(K0 (dvs:=[]) mk F hr hg hm hb .nil QJ (PA.nox ha) xu he xa).aG ?_;rintro σ H Q ⟨L,env,R,EM,⟨rs,xA,h⟩,hQ⟩;obtain⟨eh,E0,E1⟩:=EM.max;refine⟨_,eh,env,rs,E1,xA,λvs H1 s1 P y dx n1 n2 ne=> ?_⟩;rw[GaV];have sm:bz H1 (upd (upd H1 dx (.own y)) y (.ins C dx [])):=λc q z=>by rw[ak (bc z n1),ak (bc z n2)];exact z
 have hy:H y=none:=s1.free n1;refine⟨_,_,_,y,C, ?_,.cons (.obj (ns:=[]) (vs:=[]) aC rfl rfl λi d v e=>by simp at e) ((gE P).gen (.of_same sm) λ_ z _=>z),⟨[],[],_,rfl⟩,h y (EM.fresh hy),λd o v H' s ro res q=> ?_,λ_ _ _ _ _ _ _ _ _ _ _ _ _ z=>z.elim⟩
 .rw[Gaz,Gaq];exact hl env rs xA
 .obtain⟨rfl,q⟩:=q;have ev:v= .non:=by have:=res.2;cases this;rfl
  refine⟨ev, ?_⟩;have sH:bz H H' :=λc z w=>by
   have w1:=s1 c z w;exact(s c z (sm c z w1)).resolve_right λy' =>bc w1 n1 y'.1
  cases o with
  |obj b' C' ns es=>
   obtain⟨rfl,rfl,hp,q⟩:=q;cases ro with
   |obj h1 ln l r=>
    refine hQ _ _ env _ H' sH (EM.more sH hy h1) (by unfold D.imm;exact ug es hp) (.obj h1 ln l λi d v e1 e2=>(r i d v e1 e2).pl (λ_ _ q _ _=>q) (kF hp i d e1)) q
  |_=>exact q.elim
theorem mXs.mx(h:PE X e (mXs X H0 M Pn (oX C m a))):PE X e (mX X H0 M Pn E (oX C m a)):=h.aG λσ H Q ⟨L,env,R,Rx,EM,k,hQ,_⟩=> ⟨L,env,R,EM,k,λd L' eD v H' _=>hQ d L' eD v H'⟩
theorem Ob{i:Nat}{y:Str}{e1 e2:Expr}{q:Pos}{p2:Pos}(hN:X.N.Nodup)(hi:X.N[i]? =some y)(hx:Loc X.env.scope y)(h1:PE X e1 (mXs X H0 M Pn (oX C m a1)))(h2:PE X e2 (mXs X H0 M Pn (oX C m a2)))
  (xf:autoParam (starEach [e1,e2] X.env=(false,eval e1 X.env)::starEach [e2] X.env) Za1._auto_1)(xE:autoParam (starEach [e2] X.env=(false,eval e2 X.env)::starEach [] X.env) Za1._auto_1)
  (hs:autoParam (swapsWith (.List [e1,e2] p2) (some (.Name y q)) pos.line X.env=pure false) Za1._auto_1)(hf:autoParam (X.fn y=true\/X.env.scope.names.lookup y=some .local) Za3._auto_1):
  PS X (.Assign [.Name y q] (.List [e1,e2] p2) pos) (mS X H0 M Pn E (O7 i C m a1 a2)):=by
 intro ee s σ H D I h;refine(lR hN hi hx (Cu (dB h1 (dB h2 lU xE) xf)) hs hf) ee s σ H D I ?_;obtain⟨L,env,R,EM,k,O⟩:=h;refine⟨L,env,_,EM,k,λd1 L1 UJ v1 H1 s1 U0 Wo r1 k1=> ⟨L1,UJ,_,U0,k1,λd2 L2 UI v2 H2 s2 Tw Wn r2 k2=> ⟨by rw[Gbc];simp,λpp n=> ?_⟩⟩⟩;have hi' :i<UI.length:=by
  obtain⟨_,_,_,_,_,_,E⟩:=Tw;rw[E.len,I.len];exact(Gae.mp hi).1
 have sm:bz H2 (upd H2 pp (.lst [v1,v2])):=λc z w=>by rw[ak (bc w n)];exact w
 exact O.nx _ _ _ _ (Tw.sy sm hi' n ⟨_,aC,trivial⟩ rfl (.lst (.inl aC) (.cons ((r1.same s2).same sm) (.cons (r2.same sm) .nil)))) k2
theorem QU(cl:L2.Cls X.K C)(hm:Meth X.K C x fa)(F:bu X.prog X.w X.K X.mg X.base CX0 k fa fd ps (spD X.K 1 sp))(hr:cP k X.A)(hb:Binds X.K fd ps [])(ho:PE X o (mX X H0 M Pn E f))
  (ht:eval (.Call (.Attribute o x p) [] [] pos) X.env=(do
   let ov<-eval o X.env
   standAt p.atName
   let(f,first)<-holding [ov] (getMethod ov x pl)
   callWith pos f first (backTo pos (starEach [] X.env)) (backToKw pos (keywordEach [] X.env))):=by rfl):PE X (.Call (.Attribute o x p) [] [] pos) (mX X H0 M Pn E (rdW C x sp f)):=by
 refine(Bm (pl:=pl) (dvs:=[]) ho cl hm F hr hb .nil uE ht).aG ?_;rintro σ H Q ⟨L,env,R,Rx,EM,h,hQ,hE⟩;refine⟨L,env,_,Rx,EM,h,λd L' eD v H' hU im rd ⟨hM,r,yA,T8,k⟩=> ?_,hE⟩;cases rd with
 | @obj b dx C' ns vs ds h1 ln l r1=>
  unfold dR at hM;rw[Gam] at hM;cases GaI hM.1;exact⟨_,_,_,rfl,h1,ou l (Gcs.mp hM.2),[_],r,rfl,.cons (.obj h1 ln l λi d v e1 e2=>(r1 i d v e1 e2).imp λ_ z=>z.elim) .nil,yA,λv' H2 s2 res=>hQ r L' eD v' H2 (hU.mono s2) T8 (res.imm T8) k⟩
 |_=>cases hM
theorem IV(F:bu X.prog X.w X.K X.mg X.base CX0 k fa fd ps (spD X.K np sp))(hr:cP k X.A)(hg:Gl X x)(hm:X.mg x=some (.ref fa))(hk:PySem.W.keepIn X.K (.ref fa)=true)(hb:Binds X.K fd ps [])(ho:PE X e (mX X H0 M Pn E f))(ha:PAd X.nox es a)(hl:∀env rs,a env=some rs->rs.length+1=np)
  (xu:autoParam ((x==("__debug__":Str))=false) Za2._auto_1)(he:autoParam (starEach (e::es) X.env=(false,eval e X.env)::starEach es X.env) Za1._auto_1)(xa:autoParam ((backTo pos (starEach es X.env)).any (·.1)=false) Za1._auto_1):
  PE X (.Call (.Name x p) (e::es) [] pos) (mX X H0 M Pn E (IJ sp f a)):=by
 refine(As (dvs:=[]) F hr hg hm hk hb .nil uE (dB ho (PA.nox ha) he) xu he xa).aG ?_;rintro σ H Q ⟨L,env,R,Rx,EM,h,hQ,hE⟩;refine⟨L,env,_,Rx,EM,h,λd L' eD v H' hU im rd ⟨rs,xA,r,yA,T8,k⟩=> ?_,hE⟩;obtain⟨eh,E0,E1⟩:=hU.max;refine⟨_,eh,eD,rs,E1,xA,λvs H2 s2 P=> ⟨_,r, ?_, ?_,yA,λv' H3 s3 res=>hQ r L' eD v' H3 (hU.mono (s2.trans s3)) T8 (res.imm T8) k⟩⟩
 .rw[Gaz,Gaq];exact hl eD rs xA
 .rw[GaV];exact .cons ((rd.same s2).imp λ_ z=>z.elim) (gE P)
end
def mT(X:Cx)(H0:Hp)(M:Addr->Prop)(Pn:Nat->V->Prop)(E:XK)(f:MT):TT:=λσ H Q=>∃L env R Rx,cf X.K H0 M Pn L env σ H/\f L env R Rx/\
 (∀b L' eD H',cf X.K H0 M Pn L' eD σ H' ->R b L' eD ->Q b H')/\
 (∀C n d eD v dx H',fZ M H0 H' ->H0 dx=none->H' dx=some (.xd [(n,v)])->d.imm=true->Rep X.K (λ_=>False) H' d v->Objs X.K eD H' ->Rx C n d eD ->E (.ref C) (some dx) H')
section
variable{X:Cx}{H0:Hp}{M:Addr->Prop}{Pn:Nat->V->Prop}{E:XK}{p pos:Pos}{e c b:Expr}{rest:List Expr}{f:MX}{g:DE}{t:MT}{u:DT}
theorem Oc(h:PE X e (mX X H0 M Pn E f))(he:∀whole,isTrue e X.env whole=(do let v<-whole;standAt e.pos;holding [v] (truthy v)):=by intro _;rfl):PT X e (mT X H0 M Pn E (QL f)):=by
 refine(GD h he).aG ?_;rintro σ H Q ⟨L,env,R,Rx,EM,k,hQ,hE⟩;refine⟨L,env,_,Rx,EM,k,λd L' eD v H' hU im rd ⟨b,eb,k⟩=> ?_,hE⟩;subst eb;cases rd;exact⟨b,rfl,hQ b L' eD H' hU k⟩
theorem Od(h:PT X e (mT X H0 M Pn E t)):PT X (.UnaryOp .Not e pos) (mT X H0 M Pn E (QM t)):=by
 refine(GF h).aG ?_;rintro σ H Q ⟨L,env,R,Rx,EM,k,hQ,hE⟩;exact⟨L,env,_,Rx,EM,k,λb L' eD H' hU k=>hQ (!b) L' eD H' hU k,hE⟩
theorem Oe{op:CmpOp}{o:D->D->Option Bool}{r:R2}(ho:OpR X (compareOp op) r)(hd:OpB X o r)(ha:PE X e (mX X H0 M Pn E f))(hb:PEd X.nox b g)(hm:behindInMarks op b=false):PT X (.Compare e [op] [b] pos) (mT X H0 M Pn E (QN o f g)):=by
 refine(DD ho ha (PE.nox hb) hm).aG ?_;rintro σ H Q ⟨L,env,R,Rx,EM,k,hQ,hE⟩;refine⟨L,env,_,Rx,EM,k,λd L' eD v H' hU im rd ⟨y,hy,bb,eo,k⟩=> ?_,hE⟩;obtain⟨eh,E0,E1⟩:=hU.max;exact⟨_,eh,eD,y,E1,hy,λvy H2 s2 R2=>hd _ H2 d y.d v vy bb _ ((rd.same s2).imp λ_ z=>z.elim).inn R2.inn eo ⟨bb,rfl,hQ bb L' eD H2 (hU.mono s2) k⟩⟩
theorem QV(ha:PT X e (mT X H0 M Pn E t))(hb:PWd X.nox (.BoolOp .Or (b::rest) pos) u)(hw:PW X (.BoolOp .Or (b::rest) pos) (tT X u)):PT X (.BoolOp .Or (e::b::rest) pos) (mT X H0 M Pn E (orW t u)):=by
 refine((LR ha hw).pt).aG ?_;rintro σ H Q ⟨L,env,R,Rx,EM,k,hQ,hE⟩;refine⟨L,env,_,Rx,EM,k,λbb L' eD H' hU k=> ?_,hE⟩;dsimp only;split
 .rename_i q;rw[Gaf q] at k;exact hQ true L' eD H' hU k
 .rename_i q;rw[Gag q] at k
  obtain⟨c,hc,k⟩:=k;obtain⟨eh,E0,E1⟩:=hU.max;exact⟨_,eh,eD,c,E1,hc,λH2 s2=>hQ c L' eD H2 (hU.mono s2) k⟩
theorem IW{xs ys:List Stmt}{g1 g2:MS}(hc:PT X c (mT X H0 M Pn E t))(ha:PSs X xs (mS X H0 M Pn E g1))(hb:PSs X ys (mS X H0 M Pn E g2)):PS X (.If c xs ys pos) (mS X H0 M Pn E (O8 t g1 g2)):=by
 refine(Bj hc ha hb).aG ?_;rintro D σ H ⟨L,env,R,EM,k,O⟩;refine⟨L,env,_,R.ex,EM,k,λb L' eD H' hU k=> ?_,O.ex⟩;dsimp only;split
 .rename_i q;rw[Gaf q] at k;exact⟨L',eD,R,hU,k,O⟩
 .rename_i q;rw[Gag q] at k;exact⟨L',eD,R,hU,k,O⟩
theorem Of{i:Nat}{y:Str}{q p2 p3:Pos}{body:List Stmt}{f:DE}{g1:MS}(hp:PassesOwn (model X.prog X.w) X.A X.env X.xe)(hc:X.calm=true)(hg:Gl X "range")(hm:X.mg "range"=none)(he:PEd X.nox e f)(hN:X.N.Nodup)(hi:X.N[i]? =some y)(hx:Loc X.env.scope y)(hb:PSs X body (mS X H0 M Pn E g1))
  (xf:autoParam (starEach [e] X.env=[(false,eval e X.env)]) Za1._auto_1)(hf:autoParam (X.fn y=true\/X.env.scope.names.lookup y=some .local) Za3._auto_1)
  (hs:∀x,foldedSetIterable (.Call (.Name "range" p2) [e] [] p3) X.env x=pure x:=by intro _;rfl):PS X (.For (.Name y q) (.Call (.Name "range" p2) [e] [] p3) body [] pos) (mS X H0 M Pn E (QO i f g1)):=by
 refine(Cm hp hc (wF hg hm (a8 (PE.nox he) ah xf) xf) (Ar hN hi hx hf) hb hs).aG ?_;rintro D σ H ⟨L,env,R,EM,⟨r,j,hr,ej,sj,k⟩,O⟩;obtain⟨eh,E0,E1⟩:=EM.max;refine⟨_,eh,env,[r],E1,by unfold aa ao;rw[hr];rfl,λvs H1 s1 P=> ?_⟩;cases P with
 |cons R1 t=>
  cases t;have ii:=R1.inn;rw[ej] at ii;cases ii;unfold me at sj;refine⟨j,rfl, ?_, ?_,λn m σ' H' =>∃L' eD,m+n=j.toNat/\cf X.K H0 M Pn L' eD σ' H' /\t4 i g1 m n L' eD R,⟨j.toNat,L,env,rfl,EM.mono s1,k⟩, ?_⟩
  .simp at sj;lia
  .simp at sj;lia
  rintro n m σ' H' ⟨L',eD,em,hU,kk⟩;cases m with
  |zero=>exact .inl ⟨(by show j.toNat<=n;lia),O.nx L' eD σ' H' hU (by unfold t4 at kk;exact kk)⟩
  |succ m=>
   refine .inr ⟨(by show n<j.toNat;lia),λσ2 H2=>∃L' eD,m+(n+1)=j.toNat/\cf X.K H0 M Pn L' eD σ2 H2/\t4 i g1 m ((n:Int)+1) L' eD R,λσ2 H2 ⟨L2,e2,z1,z2,z3⟩=> ⟨m,GbO _,L2,e2,z1,z2,by rw[Int.natCast_succ];exact z3⟩, ?_⟩;rintro x H2 ⟨rfl,rfl⟩;unfold t4 at kk;have ex:(0:Int)+(n:Int)=n:=by lia
   rw[ex];refine⟨L',_,_,hU.gh (.int _) i,kk,⟨λL3 e3 σ3 H3 zk k3=> ⟨L3,e3,by lia,zk,k3⟩,λL3 e3 σ3 H3 zk k3=>O.nx L3 e3 σ3 H3 zk k3,λL3 e3 σ3 H3 zk k3=> ⟨L3,e3,by lia,zk,k3⟩,O.rt,O.ex,O.rl⟩⟩
end
theorem Objs.at{K:av}{env:Env}{H H' :Hp}(o:Objs K env H)(s:∀b q,H b=some q->isT q->H' b=some q):Objs K env H' :=λi b C ns ds e hp=>by
 cases o i b C ns ds e hp with
 |obj h ln z r=>exact .obj (s _ _ h trivial) ln z λi d v e1 e2=>(r i d v e1 e2).pl (λc q e t _=>s c q e t) (kF hp i d e1)
section
variable{X:Cx}{H0:Hp}{M:Addr->Prop}{Pn:Nat->V->Prop}{E:XK}
theorem Lb{i:Nat}{x:Str}{px pos' pos p2:Pos}{k value er:Expr}{fk fv:DE}{c:Bool}(hu:X.A.units+1<cLine)(hN:X.N[i]? =some x)(hv:Vis X.env.scope x)(hk:PEd X.nox k fk)(he:PEd X.nox value fv)(VT:PE X er (tC (.bl c)))(hP:∃a,Pn i (.ref a))(hd:autoParam ((x==("__debug__":Str))=false) Za2._auto_1)(xp:autoParam ((x==("__classdict__":Str))=false) Za2._auto_1)
  (hs:autoParam (swapsWith value (some (.Subscript (.Name x px) k pos')) pos.line X.env=pure false) Za1._auto_1):PSs X [.Assign [.Subscript (.Name x px) k pos'] value pos,.Return (some er) p2] (mS X H0 M Pn E (Mo i fk fv c)):=by
 refine(g7 (CL hu (g6 hN hv hd xp) (PE.nox hk) (PE.nox he) hs) (jm (Aq VT))).aG ?_;rintro D σ H ⟨L,env,R,EM,⟨ds,y,v,j,hb,Uz,Tb,ey,hj,pv,pd,kk⟩,O⟩;obtain⟨eh,E0,E1⟩:=EM.max;obtain⟨a,h1,⟨w,hw,iw⟩,_,h6⟩:=E1.bo i _ hb;have pa:Pn i (.ref a):=by
  obtain⟨a',z⟩:=hP;have:=EM.pn i _ z (by rw[hb];trivial);rw[h1] at this;cases this
  exact z
 refine⟨_,eh,env,v,E1,Uz,λvv H1 s1 Rv=> ⟨_,h1,_,eh,env,y,E1.mono s1,Tb,λvy H3 s3 Ry=> ?_⟩⟩;have iy:=Ry.inn;rw[ey] at iy;cases iy;have i6:=(h6.same s1).same s3;cases i6 with
 | @lst _ vs _ hr rp=>
  have hH:H3 a=some (.lst vs):=by
   have z:=s3 _ _ (s1 _ _ hw);rcases hr with hr| ⟨_,hr⟩
   .exact hr
   .rw[hr] at z;cases z;exact iw.elim
  have st:∀u b q,H3 b=some q->isT q->upd H3 a u b=some q:=λu b q e t=>by
   rw[ak λz=> ?_];exact e
   subst z;rw[hH] at e;cases e;exact t
  refine .inl ⟨a,vs,j,j.toNat,rfl,rfl,hH,by unfold ixN;rw[Gaf hj.1,Gaf (by rw[<-rp.1];exact hj.2)], ?_⟩;have zk:=EM.mono (s1.trans s3);refine O.rl i (.bl c) _ env (.bl c) a (vs.set j.toNat vv) _ pa (λb o e=> ?_) aC ?_ ⟨λt=>(by cases t),.bl c⟩ (zk.objs.at (st _)) kk
  .by_cases z:b=a
   .subst z;refine .inr ⟨.inr rfl,_, ?_,aC⟩;rcases zk.same b o e with q| ⟨_,u,kin,q⟩
    .rw[hH] at q;cases q;exact trivial
    .rw[hH] at q;cases q;cases o<;>first|exact kin|exact kin.elim
   .rw[ak z];exact(zk.same b o e).imp id λ⟨m,u,kin,q⟩=> ⟨.inl m,u,kin,q⟩
  .exact(aT.set (rp.pl (F' :=λ_=>False) (λb q e t _=>st _ b q e t) pd) (((Rv.inn.same s3).any).pl (λb q e t _=>st _ b q e t) pv) j.toNat)
end
noncomputable def Lc(K:av)(np:Nat)(m:MD2):Sp:=λvs H Q _=>∃ds R R2 b C c,ds.length=np/\aT K (λ_=>True) H ds vs/\(∃ns es l r,ds= .obj b C ns es:: .lst l::r)/\vs[1]? =some (.ref c)/\(∃xs,H c=some (.lst xs))/\m ds R R2/\
 (∀d o v H',fZ (· =b) H H' ->Rep K (λ_=>True) H' o (.ref b)->iA K H H' d v->R d o->Q v H')/\
 (∀d o l v vs H',fZ (λx=>x=b\/x=c) H H' ->Rep K (λ_=>True) H' o (.ref b)->H' c=some (.lst vs)->aT K (λ_=>False) H' l vs->iA K H H' d v->R2 d o l->Q v H')
section
variable{P:Program}{w:World}{K:av}{mg:Str->Option Value}{base:Heap}{x qual:Str}{sd:Stmt}{fa:Addr}{fd:FuncData}{N ps:List Str}{k np:Nat}
theorem Ld{body:MS}(F:Fun K x qual sd fa fd)(S:aM N ps (ar sd))(zM:ps.length=np)
  (xl:∀(eR:Value) (A:Around) (outer:List PySem.Env) (s:Shared) (H:Hp) (E:XK) (M:Addr->Prop) (Pn:Nat->V->Prop),(∃a,Pn 1 (.ref a))->cP k (A.deeper (envOfC qual (ar sd) s.heap.objs.size fa eR))->
   PSs (jn CX0 P w K mg base N qual (ar sd) fa eR A outer s H E) (dJ sd) (mS (jn CX0 P w K mg base N qual (ar sd) fa eR A outer s H E) H M Pn (λ_ _ _=>False) body)):bu P w K mg base CX0 (k+1) fa fd ps (Lc K np (Mq N.length np body)):=by
 obtain⟨oc,od,kV,doc,pm,an,eR,ct,yS,rfl,lk,xp⟩:=F.ex;refine DH lk xp S (λvs H Q E h=> ?_) λA outer s H vs Q E hr h=> ?_
 .obtain⟨ds,_,_,_,_,_,h1,h2,_⟩:=h;rw[<-h2.1,h1,zM]
 .obtain⟨ds,R,R2,b,C,c,h1,h2,⟨ns,es,l,r,rfl⟩,hc,⟨xs,hx⟩,⟨_,ir,pe,pl,h3⟩,ok,Ua⟩:=h;refine⟨_,xl eR A outer s H E (· =b) (λp v=>p=1/\v= .ref c) ⟨c,rfl,rfl⟩ hr, ?_⟩;have hl:(D.obj b C ns es:: .lst l::r).length<=N.length:=by
   have:=congrArg List.length S.pre;rw[GbD] at this;lia
  have ES:=aA.start hl h2;obtain⟨v0,us,rfl,r0,TR⟩:=id h2.cons_inv;obtain⟨v1,Tx,rfl,r1,W6⟩:=id TR.cons_inv;have ev:v1= .ref c:=by simpa using hc
  subst ev;have ib:Ins [b] H:=λc hc=>by
   obtain rfl:c=b:=by simpa using hc
   cases r0 with
   |obj h ln l r=>exact⟨_,_,_,h⟩
  have h8:1<(aE N.length (D.obj b C ns es:: .lst l::r)).length:=by simp[aE]
  have s1:(L2.start N (v0:: .ref c::Tx))[1]? =some (some (.ref c)):=by simp[L2.start]
  have EB:aA K H (λ_=>False) ((aE N.length (.obj b C ns es:: .lst l::r)).set 1 (some (.bor (.lst l)))) (L2.start N (v0:: .ref c::Tx)) H:=by
   have at' :∀{i:Nat} {s:Slot},((aE N.length (.obj b C ns es:: .lst l::r)).set 1 (some (.bor (.lst l))))[i]? =some (some s)->(i=1/\s= .bor (.lst l))\/(i≠1/\∃d,s= .sh d/\(aE N.length (.obj b C ns es:: .lst l::r))[i]? =some (some (.sh d))/\d.imm=true):=λ{i s} e=>by
    rcases eO e with⟨h,q⟩| ⟨h,q⟩
    .cases q;exact .inl ⟨h.symm,rfl⟩
    .refine .inr ⟨λz=>h z.symm, ?_⟩;unfold aE at q⊢;by_cases hi:i<(D.obj b C ns es:: .lst l::r).length
     .rw[GaJ (by simpa using hi),Gas] at q⊢;obtain⟨d,hd,z⟩:=Gac.mp q;cases z;refine⟨d,rfl,by rw[hd];rfl, ?_⟩
      match i,h,hd with
      |0,_,hd=>cases hd;unfold D.imm;exact ug es pe
      |n+2,_,hd=>exact mh ir n d (by simpa using hd)
     .rw[GaA (by simpa using hi),GbA] at q;split at q<;>cases q
   have notO:∀i:Nat,¬mV ((aE N.length (.obj b C ns es:: .lst l::r)).set 1 (some (.bor (.lst l))))[i]? :=λi h=>by
    match q:((aE N.length (.obj b C ns es:: .lst l::r)).set 1 (some (.bor (.lst l))))[i]?,h with
    |some (some (.own d)),_=>rcases at' q with⟨_,z⟩| ⟨_,_,z,_⟩<;>cases z
    |some (some (.lok d)),_=>rcases at' q with⟨_,z⟩| ⟨_,_,z,_⟩<;>cases z
   refine⟨λ_ _ e=>e,by simpa using ES.len,λ_ z=>z.elim,λi d e=> ?_,λi d e=> ?_,λi d e=> ?_,λi j a t _ _ _=>(notO i t).elim⟩
   .rcases at' e with⟨_,z⟩| ⟨_,d',z,q,im⟩
    .cases z
    .cases z;obtain⟨v,q1,q2⟩:=ES.sh i d q;exact⟨v,q1,q2.imm im⟩
   .rcases e with e|e
    .exact(notO i (by rw[e];trivial)).elim
    .exact(notO i (by rw[e];trivial)).elim
   .rcases at' e with⟨rfl,z⟩| ⟨_,_,z,_⟩
    .cases z;refine⟨c,s1,⟨_,hx,trivial⟩,rfl, ?_⟩;cases r1 with
     |lst f h l' r' =>exact .lst h (aT.pl (F:=λ_=>True) (λ_ _ q _ _=>q) ⟨l',r'⟩ pl)
    .cases z
  refine⟨[b],_,_,⟨H,λ_=>False,λ_ _ e=> .inl e,λc hc=> .inl (by simpa using hc),λp v z _=>by obtain⟨rfl,rfl⟩:=z;exact s1,ib,EB⟩,h3, ?_⟩;exact{
   nx:=λ_ _ _ _ _ z=>z.elim
   bk:=λ_ _ _ _ _ z=>z.elim
   ct:=λ_ _ _ _ _ z=>z.elim
   rt:=λd env v H' s r o ⟨yr,yf,e,hp,q⟩=>ok d _ v H' s ((o 0 b C yr yf e hp).imp λ_ z=>z.elim) r q
   ex:=λ_ _ _ _ _ _ _ _ _ _ _ _ _ z=>z.elim
   rl:=λp d l' env v c' vs H' pn s e1 e2 r o ⟨_,yr,yf,e,hp,q⟩=>by
    obtain⟨_,z⟩:=pn;cases z;exact Ua d _ l' v vs H' s ((o 0 b C yr yf e hp).imp λ_ z=>z.elim) e1 e2 r q}
end
section
variable{X:Cx}{H0:Hp}{M:Addr->Prop}{Pn:Nat->V->Prop}{E:XK}{k np i:Nat}{fa C:Addr}{fd:FuncData}{ps:List Str}{m:MD2}{x y:Str}{p pos py:Pos}{e:Expr}{es:List Expr}{f:DE}{a:DA}
theorem Le(F:bu X.prog X.w X.K X.mg X.base CX0 k fa fd ps (Lc X.K np m))(hr:cP k X.A)(hg:Gl X x)(hm:X.mg x=some (.ref fa))(hk:PySem.W.keepIn X.K (.ref fa)=true)(hb:Binds X.K fd ps [])(he:PEd X.nox e f)(hN:X.N[i]? =some y)(hv:Vis X.env.scope y)(ha:PAd X.nox es a)(hl:∀env rs,a env=some rs->rs.length+2=np)
  (xu:autoParam ((x==("__debug__":Str))=false) Za2._auto_1)(hd:autoParam ((y==("__debug__":Str))=false) Za2._auto_1)(xp:autoParam ((y==("__classdict__":Str))=false) Za2._auto_1)
  (xf:autoParam (starEach (e:: .Name y py::es) X.env=(false,eval e X.env)::starEach (.Name y py::es) X.env) Za1._auto_1)(xE:autoParam (starEach (.Name y py::es) X.env=(false,eval (.Name y py) X.env)::starEach es X.env) Za1._auto_1)(xa:autoParam ((backTo pos (starEach (.Name y py::es) X.env)).any (·.1)=false) Za1._auto_1):
  PE X (.Call (.Name x p) (e:: .Name y py::es) [] pos) (mX X H0 M Pn E (Mp m i f a)):=by
 refine(As (dvs:=[]) (E:=E0) F hr hg hm hk hb .nil uE (dB (PE.nox he) (dB (g6 hN hv hd xp) (PA.nox ha) xE) xf) xu xf xa).aG ?_;rintro σ H Q ⟨L,env,R,Rx,EM,⟨o,rs,l,ho,xA,nd,hi,h⟩,hQ,_⟩;obtain⟨eh,E0,E1⟩:=EM.max;refine⟨_,eh,env,o,E1,ho,λv0 H1 s1 R0=> ?_⟩;obtain⟨c,h1,h2,h3,h4,h5,h6⟩:=(E1.mono s1).ow i _ (.inl hi);refine⟨_,h1,_,eh,env,rs,E1.mono s1,xA,λvs H2 s2 P=> ?_⟩;show Lc X.K np m (v0:: .ref c::vs++[]) H2 Q L2.E0;rw[GaV];have Tw:=EM.mono (s1.trans s2);have ii:=(R0.same s2).inn;obtain⟨ok,od⟩:=o;obtain⟨xs,hx⟩:∃xs,H2 c=some (.lst xs):=by
  obtain⟨u,w1,w2⟩:=h4;cases h6 with
  |lst hh _=>
   rcases hh with hh| ⟨_,hh⟩
   .exact⟨_,s2 _ _ hh⟩
   .rw[hh] at w1;cases w1;exact w2.elim
 cases ii with
 | @obj b dx C' ns vs0 ds g1 ln r1=>
  have r0:Rep X.K (λ_=>True) H2 (.obj b C' ns ds) (.ref b):= .obj g1 ln r1.1 λi d v e1 e2=>(r1.2 i d v e1 e2).imp λ_ _=>trivial;have rl:Rep X.K (λ_=>True) H2 (.lst l) (.ref c):=(h6.same s2).any;have nbc:b≠c:=λz=>by subst z;rw[g1] at hx;cases hx
  refine⟨_,_,_,b,C',c, ?_,.cons r0 (.cons rl (gE P)),⟨ns,ds,l,_,rfl⟩,rfl,⟨xs,hx⟩,h.2,λd o v H' s ro res q=> ?_,λd o l' v yO H' s ro e1 e2 res q=> ?_⟩
  .rw[Gaz,Gaz,Gaq];exact hl env rs xA
  .obtain⟨e',hU,k⟩:=oy Tw nd h.1 r0 s ro q.2 (Hf:=H') λ_ _ q _=>q;exact hQ d L e' v H' hU q.1 (res.imm q.1) k
  ·
   have st:∀b q,H' b=some q->isT q->upd H' c (.lst xs) b=some q:=λb q e t=>by
    rw[ak λz=> ?_];exact e
    subst z;rw[e1] at e;cases e;exact t
   have s' :fZ (· =b) H2 (upd H' c (.lst xs)):=λz q e=>by
    by_cases w:z=c
    .subst w;rw[hx] at e;cases e;exact .inl aC
    .rw[ak w];rcases s z q e with g| ⟨g,u,kin,g2⟩
     .exact .inl g
     .exact .inr ⟨g.resolve_right w,u,kin,g2⟩
   have back:=q.2.2;cases o with
   |obj b' C'' yr yf =>
    obtain⟨rfl,rfl,hp,kk⟩:=back;have ro' :Rep X.K (λ_=>True) (upd H' c (.lst xs)) (.obj b' C'' yr yf) (.ref b'):=by
     cases ro with
     |obj g ln l r=>exact .obj (st _ _ g trivial) ln l λi d v e1 e2=>(r i d v e1 e2).pl (λz q e t _=>st z q e t) (kF hp i d e1)
    obtain⟨e',hU,rfl⟩:=oy (k:=λe=>e=cq b' yr yf env) Tw nd h.1 r0 s' ro' ⟨rfl,rfl,hp,rfl⟩ (Hf:=upd H' c (.lst xs)) λ_ _ q _=>q;obtain⟨H₁,yM,sm,ll,pn,ins,EE⟩:=hU;have hi' :(cq b' yr yf env)[i]? =some (some (.own ((D.lst l).sub b' yr yf))):=by rw[nE,hi];rfl
    have eH:upd (upd H' c (.lst xs)) c (.lst yO)=H' :=by
     rw[Dy];funext z;unfold upd;split
     .rename_i w;rw[w,e1]
     .rfl
    obtain⟨E3,p3⟩:=EE.change (d' := .lst l') (o:= .lst yO) hi' h1 trivial rfl (by rw[eH];exact .lst (.inl e1) ⟨e2.1,λi d v a b=>(e2.2 i d v a b).imp λ_ z=>z.elim⟩);rw[eH] at E3 p3;refine hQ d L _ v H' ⟨H₁,yM,sm,ll,pn.stp p3,λz hz=> ?_,E3⟩ q.1 (res.imm q.1) kk;obtain⟨_,_,_,g⟩:=ins z hz;have w:z≠c:=λw=>by subst w;rw[aC] at g;cases g
    rw[ak w] at g;exact⟨_,_,_,g⟩
   |_=>exact back.elim
 |_=>exact h.elim
end
noncomputable def spL(K:av)(np:Nat)(m:ML):Sp:=λvs H Q _=>∃ds R,ds.length=np/\aT K (λ_=>True) H ds vs/\m ds R/\∀d v H',bz H H' ->iA K H H' d v->R d->Q v H'
section
variable{P:Program}{w:World}{K:av}{mg:Str->Option Value}{base:Heap}{x qual:Str}{sd:Stmt}{fa:Addr}{fd:FuncData}{N ps:List Str}{k np:Nat}
theorem Og{body:MS}(F:Fun K x qual sd fa fd)(S:aM N ps (ar sd))(zM:ps.length=np)
  (xl:∀(eR:Value) (A:Around) (outer:List PySem.Env) (s:Shared) (H:Hp) (E:XK),cP k (A.deeper (envOfC qual (ar sd) s.heap.objs.size fa eR))->
   PSs (jn CX0 P w K mg base N qual (ar sd) fa eR A outer s H E).nox (dJ sd) (mS (jn CX0 P w K mg base N qual (ar sd) fa eR A outer s H E).nox H (λ_=>False) (λ_ _=>False) (λ_ _ _=>False) body)):bu P w K mg base CX0 (k+1) fa fd ps (spL K np (QS N.length np body)):=by
 obtain⟨oc,od,kV,doc,pm,an,eR,ct,yS,rfl,lk,xp⟩:=F.ex;refine DH lk xp S (λvs H Q E h=> ?_) λA outer s H vs Q E hr h=> ?_
 .obtain⟨ds,_,h1,h2,_⟩:=h;rw[<-h2.1,h1,zM]
 .obtain⟨ds,R,h1,h2,h3,ok⟩:=h;refine⟨_,PSs.nox (xl eR A outer s H E hr), ?_⟩;have hl:ds.length<=N.length:=by
   have:=congrArg List.length S.pre;rw[GbD] at this;lia
  have sm:∀{H'},fZ (λ_=>False) H H' ->bz H H' :=λs b o e=>(s b o e).resolve_right λz=>z.1;refine⟨[],_,_,⟨H,λ_=>False,λ_ _ e=> .inl e,λc hc=>(by cases hc),λ_ _ z=>z.elim,λc hc=>(by cases hc),aA.start hl h2⟩,h3.2, ?_⟩;exact{
   nx:=λL env σ H' EM q=>ok .non .non H' (sm EM.same) ⟨λt=>(by cases t),.non⟩ q
   bk:=λ_ _ _ _ _ z=>z.elim
   ct:=λ_ _ _ _ _ z=>z.elim
   rt:=λd env v H' s r o q=>ok d v H' (sm s) r q
   ex:=λ_ _ _ _ _ _ _ _ _ _ _ _ _ z=>z.elim
   rl:=λ_ _ _ _ _ _ _ _ z=>z.elim}
end
open PySem.W (findIn clsIn mroIn looks_findIn looks_clsIn looks_mroIn looks_find InstAt check_slot Looks findObj findObj_data specialIn takesIn KitX kitOne kia_one class_get handed_on)
structure XIs(K:av)(C:Addr):Prop where
 ga:findIn K (.ref C) "__getattribute__"=some (some (.builtin "BaseException.__getattribute__"))
 gt:findIn K (.ref C) "__getattr__"=some none
 be:mroIn K C (.type "BaseException")=some true
 ob:mroIn K C (.type "object")=some true
 cd:(clsIn K C).isSome=true
 c1:findIn K (.ref C) "__class__"=some (some (.builtin "object.__class__"))
 c2:specialIn K (.builtin "object.__class__") "__get__"=some (some (.builtin "getset_descriptor.__get__"))
 c3:takesIn K (.builtin "object.__class__")=some true
section
variable{prog:Program}{w:World}{A:Around}{E:Value->Shared->Prop}{z:Shared}{K:PySem.W.Frag}
variable{ox od:Obj}{C:Addr}
theorem G9{e:Addr}{Q:Option Value->Shared->Prop}(X:K.In z.heap)(I:InstAt z.heap e ox C (some od))(x:XIs K C)(hQ:Q (some (.ref C)) {z with toks:=z.toks+1}):wpAny (model prog w) A (getAttr? (.ref e) "__class__") Q E z:=by
 have tE:=I.type (M:=model prog w);have isB:Looks (model prog w) z.heap (isInstance (.ref e) (.type "BaseException")) true:=tE.andThen (looks_mroIn X x.be);have lg:=Gcx (M:=model prog w) X x.ga;have lh:=Gcx (M:=model prog w) X x.gt;have hf:findObj K C (some od) "__class__"=some (.bind (.builtin "getset_descriptor.__get__") (.builtin "object.__class__")):=findObj_data x.cd x.c1 x.c2 x.c3;have lf:=looks_find (M:=model prog w) X I hf;have no:(Value.builtin "BaseException.__getattribute__"==Value.builtin "object.__getattribute__")=false:=by decide+kernel
 unfold getAttr? getAttrBy?;refine Gab (wpAny_mkText (Gab (wpAny_attempt (Gbi (Gab (lk tE (Gab (lk lg ?_))))))));dsimp only;rw[no,Gck];refine GbJ rfl (Gab (GbN rfl (lk lh (Gab (wpAny_attempt (Gbi ?_))))));have G:=PySem.F.attrBase_ValueError.ga;have bd:=G.bind (.ref e);refine GbJ rfl (Gab (GcG bd (GbX (Gcp G.plain PySem.F.entry_bexc_ga (@check_slot (model prog w) _ _ {z with toks:=z.toks+1} "BaseException.__getattribute__" "BaseException" "__getattribute__" (.ref e) [.str "__class__" z.toks] [] _ (by decide+kernel) (by decide+kernel) isB (PySem.F.args_bexc_ga _ _) ?_)))));refine Gab (Gah (Gab (Gah (Gab (lk tE (Gab (lk lf ?_)))))));show wpAny _ _ (holding [_] (call _ [_,.ref e,.ref C])>>=ret) _ _ _;refine Gab (Gbi (GbX (class_get (s:={z with toks:=z.toks+1}) (ox:=ox) (od:=some od) X I x.ob (Gah ?_))));exact handed_on rfl (Gah hQ)
theorem ET(h:(clsIn K C).isSome=true):∃c d cd sl,K.lookup C=some ⟨c,d,.cls cd,sl⟩:=by
 unfold clsIn at h;split at h
 .exact⟨_,_,_,_,by assumption⟩
 .cases h
theorem BW{e:Addr}(x:XIs K C):KitX K (.ref e) (.ref C) (λh=>InstAt h e ox C (some od)) where
 ty:=λ_ _ _ I=>I.type
 it:=λ_ _ X _ _ _ _ _ k q=>let⟨_,_,_,_,l⟩:=ET x.cd;Gab (wpAny_loadPart (k _ _ (X _ _ l)) (Gah q))
 ne:=λ_ _ _ _ _ _ X at_=>Bool.eq_false_iff.mpr λq=>by
  obtain⟨_,_,_,_,l⟩:=ET x.cd;cases Gbj.mp q;cases(X _ _ l).symm.trans at_
 ca:=λX I k=>G9 X I x k
end
section
variable{X:Cx}{e:Expr}{f:DE}{pos:Pos}
variable{C:Nat}{cs:List (Nat×Bool)}
theorem BX{b:Bool}(h:cs.lookup C=some b):(C,b)∈cs:=by
 induction cs with
 |nil=>cases h
 |cons q r ih=>
  obtain⟨c,d⟩:=q;rw[GaG] at h;split at h
  .rename_i z;cases h;rw[Gbj.mp z];exact Gav
  .exact Gar _ (ih h)
variable{u:Value}{v:V}
theorem Dc(r:RelV v u):PySem.W.handedIn u=true:=by
 cases v<;>first|(obtain⟨t,q⟩:=r;cases q;rfl)|(cases(show u=_ from r);rfl)
theorem AW{ee:List (Addr×Obj)}{σ:L2.St}{H:Hp}{s:Shared}{a:Addr}{n:Str}(I:Inv X ee σ H s)(h:Xc H a C n v):∃dx vs sl od,s.heap.get? a=some {cls:= .ref C,dict:=some dx,data:= .fields vs,slots:=sl}/\InstAt s.heap a {cls:= .ref C,dict:=some dx,data:= .fields vs,slots:=sl} C (some od)/\H dx=some (.frz od (.xd [(n,v)])):=by
 obtain⟨dx,vs,sl,od,h1,h2⟩:=h;obtain⟨q1,_⟩:=(show bx X.prog X.w H s.heap a (.frz _ (.own a)) from I.hok a _ h1)
 obtain⟨q2,_⟩:=(show bx X.prog X.w H s.heap dx (.frz od _) from I.hok dx _ h2)
 exact⟨dx,vs,sl,od,q1,⟨q1,rfl,rfl,q2⟩,h2⟩
def QW(c:V)(u:Value):Prop:=(∃Cn,c= .ref Cn/\u= .ref Cn)\/∃T,c= .ty T/\u= .type T
def Sw(K:av):List V->Hp->VK->Prop:=λxs H Q=>∃a C n v c u b,xs=[.ref a,c]/\QW c u/\Xc H a C n v/\XIs K C/\kitOne K (.ref C) u=some b/\Q (.bl b) H
theorem IY:j0 X (.builtin "isinstance") (Sw X.K):=by
 intro ee s σ H xs us Q I r h;obtain⟨a,C,n,v,c,u,b,rfl,hc,hx,xi,hk,q⟩:=h;obtain⟨u1,u2,rfl,r1,r2⟩:=vals2 r;obtain rfl:u1=Value.ref a:=r1;have e2:u2=u:=by
  rcases hc with⟨Cn,rfl,rfl⟩| ⟨T,rfl,rfl⟩
  .exact r2
  .exact r2
 subst e2;obtain⟨dx,vs,sl,od,_,IA,_⟩:=AW I hx;exact kia_one (BW xi) I.kIn IA hk (λz=>nomatch z) λtk=> ⟨.bl b,H,I.tok _,rfl,q⟩
theorem AX{cn:Str}{c:V}{p p2:Pos}(yW:∀q∈cs,XIs X.K q.1/\kitOne X.K (.ref q.1) u=some q.2)(hc:QW c u)(he:PEd X e f)(hg:Gl X "isinstance")(hm:X.mg "isinstance"=none)(ht:PE X (.Name cn p2) (tC c))
  (xf:autoParam (starEach [e,.Name cn p2] X.env=(false,eval e X.env)::starEach [.Name cn p2] X.env) Za1._auto_1)(xE:autoParam (starEach [.Name cn p2] X.env=(false,eval (.Name cn p2) X.env)::starEach [] X.env) Za1._auto_1)(xa:autoParam ((backTo pos (starEach [.Name cn p2] X.env)).any (·.1)=false) Za1._auto_1):
  PEd X (.Call (.Name "isinstance" p) [e,.Name cn p2] [] pos) (bE (va cs f)):=by
 refine(qr IY hg hm (by decide+kernel) (dB he (dB ht lU xE) xf) (by decide) (by decide) xf xa).aG ?_;rintro σ H Q ⟨H0,eh,env,rv,E,e,k⟩;obtain⟨bb,e',rfl⟩:=Gac.mp e;obtain⟨r,hr,e2⟩:=ef e';refine⟨H0,eh,env,r,E,hr,λv H1 s1 R=> ?_⟩;obtain⟨kd,d⟩:=r;have i:=R.inn;cases d with
 |exc C n d=>
  cases i with
  |exc hx _=>
   obtain⟨h1,h2⟩:=yW (C,bb) (BX e2);exact⟨_,C,n,_,c,u,bb,rfl,hc,hx,h1,h2,k _ H1 s1 (.bl _)⟩
 |_=>cases e2
theorem AY{m:Str}{cs:List Nat}(yW:∀C∈cs,∃B fI,XCl X.K B C fI m)(he:PEd X e f)(hb:autoParam (attributeBase e m X.env (eval e X.env)=eval e X.env) Za1._auto_1):PEd X (.Attribute e m pos) (L0 cs m f):=by
 intro ee s σ H Q I hw;obtain⟨H0,eh,env,rv,EO,e0,k⟩:=hw;obtain⟨r,hr,eo⟩:=ef e0;clear e0;have h0:tE X f σ H λv H1=>bz H H1/\je X.K H0 eh env σ H H1 r v:=⟨H0,eh,env,r,EO,hr,λv H1 s1 R=> ⟨s1,R⟩⟩
 refine DF hb (thn (he ee s σ H _ I h0) λu s1 ⟨v,H1,I1,rl,sm,R⟩=> ?_);obtain⟨kd,d⟩:=r;cases kd with
 |c=>
  dsimp only at eo;cases d with
  |exc C n d=>
   replace eo:(if cs.contains C=true/\n=m then some ⟨.c,d⟩ else none)=some rv:=eo;by_cases q:cs.contains C=true/\n=m
   .rw[Gaf q] at eo;obtain⟨qc,rfl⟩:=q;have e9:=Option.some.inj eo;subst e9;have R:Rep X.K (Cln eh env σ) H1 (.exc C n d) v:=R;cases R with
    |exc hx rd=>
     obtain⟨B,fI,cl⟩:=yW C (by simpa using qc);obtain rfl:u=Value.ref _:=rl;obtain⟨dx,vs,sl,od,q1,IA,h2⟩:=AW I1 hx;obtain⟨_,mA,ns,VG⟩:=(show bx X.prog X.w H1 s1.heap dx (.frz od (.xd _)) from I1.hok dx _ h2)
     have hv:=VG n;simp only[GaG,beq_self_eq_true] at hv;cases em:mA n with
     |none=>rw[em] at hv;exact hv.elim
     |some u2=>
      rw[em] at hv;obtain⟨cd,c1,_,c3⟩:=cl.cd;refine ID I1.kIn cl.ga cl.gt cl.be c1 c3 cl.nf ⟨sl,q1⟩ ns em (Dc hv) ?_;exact⟨_,H1,I1.tok _,hv,k _ H1 sm rd⟩
   .rw[Gag q] at eo;cases eo
  |_=>cases eo
 |_=>cases eo
end
open PySem.W (findIn clsIn mroIn nsIn nsOkIn tailIn tail_of_in isNs_of_in keepIn readsIn findCls specialIn takesIn)
section
variable{K:av}{B C f N:Addr}{n nm q:Str}
theorem Lf{h:Heap}{mN:Str->Option Value}{v:Value}(X:K.In h)(G:h.Ns N mN)(e:nsIn K N n=some (some v)):mN n=some v:=by
 obtain⟨o,es,ep,at_,hd,_,names⟩:=G;cases l:K.lookup N with
 |none=>simp[nsIn,l] at e
 |some o' =>
  obtain rfl:o' =o:=Option.some.inj ((X _ _ l).symm.trans at_);obtain⟨c,d,dt,sl⟩:=o';obtain rfl:dt= .dict es ep:=hd;simp only[nsIn,l] at e;refine(names n).symm.trans ?_;show(es.find? _).map _=_;rw[<-Array.find?_toList];cases q:es.toList.find? (·.key.isStr n) with
  |some x=>rw[q] at e;exact Option.some.inj e
  |none=>rw[q] at e;dsimp only at e;split at e<;>cases e
theorem IZ{bs:List Value}{sn:List Str}{sub:List Value}{ab:Bool}{col:Option Bool}{dd:Option Addr}{k0 k1 k2 k3 k5:Option Value}{oI:Obj}
  (l:K.lookup C=some (excClassObj nm q C N bs (.ref B::bmV) true sn sub ab col dd k0 k1 k2 k3 k5 "ValueError.__new__"))(t:tailIn K bmV (.ref B::bmV)=true)(ok:nsOkIn K N=true)(i:nsIn K N "__init__"=some (some (.ref f)))(lf:K.lookup f=some oI)(fc:oI.cls= .type "function")
  (st:findIn K (.ref C) "__setattr__"=some (some (.builtin "object.__setattr__")))(nf:findIn K (.ref C) n=some none)(ga:findIn K (.ref C) "__getattribute__"=some (some (.builtin "BaseException.__getattribute__")))(gt:findIn K (.ref C) "__getattr__"=some none)(kp:keepIn K (.ref C)=true):XCl K B C f n:=by
 have hc:clsIn K C=some {name:=nm,bases:=bs,mro:= .ref C:: .ref B::bmV,ns:=N,qualname:=q,hasDict:=true,slotNames:=sn,subclasses:=sub,abstract:=ab,collection:=col,hasDel:=false}:=by
  unfold clsIn;rw[l]
 have inC:∀T:String,bmV.contains (.type T)=true->mroIn K C (.type T)=some true:=λT h=>by
  unfold mroIn;rw[hc];have e:(Value.ref C::Value.ref B::bmV).contains (.type T)=true:=by rw[List.contains_cons,List.contains_cons,h,Bool.or_true,Bool.or_true]
  exact congrArg some e
 refine⟨λh X=> ?_,st,inC "object" (by decide),⟨_,hc,rfl,rfl⟩,nf,ga,gt,inC "BaseException" (by decide),kp⟩;have G:h.Ns N (h.nsMap N):= .of_isNs (isNs_of_in X ok);exact⟨_,_,N,_,_,_,_,_,_,_,_,_,_,_,_,_,oI,X _ _ l,tail_of_in X t,G,Lf X G i,X _ _ lf,fc⟩
theorem J1{C:Addr}{fI:Addr}(c:XCl K B C fI n)(c1:findIn K (.ref C) "__class__"=some (some (.builtin "object.__class__")))(c2:specialIn K (.builtin "object.__class__") "__get__"=some (some (.builtin "getset_descriptor.__get__")))(c3:takesIn K (.builtin "object.__class__")=some true):XIs K C:=
 ⟨c.ga,c.gt,c.be,c.ob,let⟨_,h,_⟩:=c.cd;by rw[h];rfl,c1,c2,c3⟩
end
section
variable{P:Program}{w:World}{K:av}{mg:Str->Option Value}{base:Heap}{qual:Str}{sd:Stmt}{B C fa:Addr}{fd:FuncData}{b n x:Str}{p1 p2 p3 p4 p5 p6 p7 p8 p9 zW:Pos}
theorem EU(F:Fun K "__init__" qual sd fa fd)(S:aM ["self",x] ["self",x] (ar sd))(bs:XBs K B)(cl:XCl K B C fa n)
  (xl:dJ sd=[.Expr (.Call (.Attribute (.Name b p1) "__init__" p2) [.Name "self" p3,.Name x p4] [] p5) p6,.Assign [.Attribute (.Name "self" p7) n p8] (.Name x p9) zW])
  (hm:mg b=some (.ref B))(hg:(ar sd).names.lookup b=some .globalImplicit)(h1:(ar sd).names.lookup ("self":Str)=some .local)(h2:(ar sd).names.lookup x=some .local)
  (xu:(b==("__debug__":Str))=false)(VU:(x==("__debug__":Str))=false)(Tg:(x==("__classdict__":Str))=false)
  (ht:∀env:PySem.Env,∃pl,eval (.Call (.Attribute (.Name b p1) "__init__" p2) [.Name "self" p3,.Name x p4] [] p5) env=(do
   let ov<-eval (.Name b p1) env
   standAt p2.atName
   let(f,first)<-holding [ov] (getMethod ov "__init__" pl)
   callWith p5 f first (backTo p5 (starEach [.Name "self" p3,.Name x p4] env)) (backToKw p5 (keywordEach [] env))))
  (xf:∀env:PySem.Env,swapsWith (.Call (.Attribute (.Name b p1) "__init__" p2) [.Name "self" p3,.Name x p4] [] p5) none p6.line env=pure false)(xE:∀env:PySem.Env,swapsWith (.Name x p9) (some (.Attribute (.Name "self" p7) n p8)) zW.line env=pure false):
  bu P w K mg base CX0 1 fa fd ["self",x] (uZ K B C n):=by
 refine F.ok S (λvs H Q E ⟨a,v,e,_⟩=>by rw[e];rfl) λeR A outer s H vs Q E hr h=> ?_;rw[xl];generalize hX:(jn CX0 P w K mg base ["self",x] qual (ar sd) fa eR A outer s H E).nox=X;have eK:X.K=K:=by rw[<-hX];rfl
 have eN:X.N=[("self":Str),x]:=by rw[<-hX];rfl
 have eM:X.mg=mg:=by rw[<-hX];rfl
 have eS:X.env.scope=ar sd:=by rw[<-hX];rfl
 have v0:∀p,PE X (.Name "self" p) (Ap 0):=λp=>g6 (i:=0) (by rw[eN];rfl) (by rw[eS];exact .inl h1);have v1:∀p,PE X (.Name x p) (Ap 1):=λp=>g6 (i:=1) (by rw[eN];rfl) (by rw[eS];exact .inl h2) VU Tg;obtain⟨pl,ht⟩:=ht X.env;have s1:PS X (.Expr (.Call (.Attribute (.Name b p1) "__init__" p2) [.Name "self" p3,.Name x p4] [] p5) p6) (QH X.K B (Bl (Ap 0) (Bl (Ap 1) GS))):=O2 (eK▸bs) (show X.env.kindOf b=_ by show X.env.scope.names.lookup b=_;rw[eS];exact hg) (eM▸hm) (dB (v0 p3) (dB (v1 p4) lU)) ht xu (hs:=xf X.env);have s2:PS X (.Assign [.Attribute (.Name "self" p7) n p8] (.Name x p9) zW) (QI X.K B n (Ap 0) (Ap 1)):=O3 (v0 p7) (v1 p9) (xE X.env);refine⟨_,g7 s1 (jm s2), ?_⟩;obtain⟨a,v,rfl,ea,k⟩:=h;rw[eK];exact⟨.ref a,rfl,v,rfl,a,v,C,fa,n,rfl,cl,ea,v,rfl,.ref a,rfl,a,C,fa,rfl,cl,ea,λdx z ne=>k dx z ne⟩
end
open PySem.W (kitOne kitAny kia_tup)
section
variable{X:Cx}{e:Expr}{es:List Expr}{f:DE}{pos p p2:Pos}
def tK(cs:List Addr):TA:=λ_ H Q=>Q (cs.map V.ref) H
theorem QX:PA X [] (tK []):=lU.aG λ_ _ _ h=>h
theorem Lg{cn:Str}{C:Addr}{cs:List Addr}(h:PE X (.Name cn p) (tC (.ref C)))(hr:PA X es (tK cs))(hs:autoParam (starEach (.Name cn p::es) X.env=(false,eval (.Name cn p) X.env)::starEach es X.env) Za1._auto_1):PA X (.Name cn p::es) (tK (C::cs)):=(dB h hr hs).aG λ_ _ _ h=>h
theorem A7:∀{cs:List Addr} {us:List Value},Vals (cs.map V.ref) us->us=cs.map Value.ref
 |[],_,r=>by cases r;rfl
 |c::cs,_,r=>by
  cases r with
  |cons h t=>rw[A7 t,show _=Value.ref c from h];rfl
def QY(K:av):List V->Hp->VK->Prop:=λxs H Q=>∃a C n v tp,∃(cs:List Addr) (b:Bool),xs=[.ref a,.ref tp]/\H tp=some (.tup (cs.map V.ref))/\Xc H a C n v/\XIs K C/\kitAny K (.ref C) (cs.map Value.ref)=some b/\Q (.bl b) H
theorem Ga:j0 X (.builtin "isinstance") (QY X.K):=by
 intro ee s σ H xs us Q I r h;obtain⟨a,C,n,v,tp,cs,b,rfl,ht,hx,xi,hk,q⟩:=h;obtain⟨u1,u2,rfl,r1,r2⟩:=vals2 r;obtain rfl:u1=Value.ref a:=r1;obtain rfl:u2=Value.ref tp:=r2;obtain⟨dx,vs,sl,od,_,IA,_⟩:=AW I hx;obtain⟨_,eA,rv,⟨cls,dd,data,T5⟩,ho,hc,n2,hd⟩:=(show bx X.prog X.w H s.heap tp (.tup (cs.map V.ref)) from I.hok tp _ ht)
 simp only at hc hd;subst hc hd;rw[A7 rv] at ho;exact kia_tup (BW xi) I.kIn IA ho hk (λz=>nomatch z) λtk=> ⟨.bl b,H,I.tok _,rfl,q⟩
theorem Lh{x1:Nat}{cls:List Addr}{cs:List (Nat×Bool)}(yW:∀q∈cs,XIs X.K q.1/\kitAny X.K (.ref q.1) (cls.map Value.ref)=some q.2)(hl:cls.length<=100)(he:PEd X e f)(hg:Gl X "isinstance")(hm:X.mg "isinstance"=none)(ht:PA X es (tK cls))
  (xf:autoParam (starEach [e,.Tuple es x1 p2] X.env=(false,eval e X.env)::starEach [.Tuple es x1 p2] X.env) Za1._auto_1)(xE:autoParam (starEach [.Tuple es x1 p2] X.env=(false,eval (.Tuple es x1 p2) X.env)::starEach [] X.env) Za1._auto_1)(xa:autoParam ((backTo pos (starEach [.Tuple es x1 p2] X.env)).any (·.1)=false) Za1._auto_1):
  PEd X (.Call (.Name "isinstance" p) [e,.Tuple es x1 p2] [] pos) (bE (va cs f)):=by
 refine(qr Ga hg hm (by decide+kernel) (dB he (dB (GU ht) lU xE) xf) (by decide) (by decide) xf xa).aG ?_;rintro σ H Q ⟨H0,eh,env,rv,E,e,k⟩;obtain⟨bb,e',rfl⟩:=Gac.mp e;obtain⟨r,hr,e2⟩:=ef e';refine⟨H0,eh,env,r,E,hr,λv H1 s1 R=> ⟨by rw[Gaq,Gbc];lia,λtp n=> ?_⟩⟩;have sm:bz H1 (upd H1 tp (.tup (cls.map V.ref))):=λc z w=>by rw[ak (bc w n)];exact w
 obtain⟨kd,d⟩:=r;have i:=(R.same sm).inn;cases d with
 |exc C n d=>
  cases i with
  |exc hx _=>
   obtain⟨h1,h2⟩:=yW (C,bb) (BX e2);exact⟨_,C,_,_,tp,cls,bb,rfl,aC,hx,h1,h2,k _ _ (s1.trans sm) (.bl _)⟩
 |_=>cases e2
end
section
variable{X:Cx}{o:Expr}{f:DE}{apos eL p:Pos}{j:Nat}
theorem ve{K:av}{F:Addr->Prop}{H:Hp}:∀{ds:List D} {bs:List Bool} {vs:List V} {us:List Value},nj ds=some bs->aT K F H ds vs->Vals vs us->us=bs.map Value.bool
 |[],bs,vs,us,e,r,z=>by
  cases e;rw[r.cz] at z;cases z;rfl
 | .bl b::ds,bs,vs,us,e,r,z=>by
  obtain⟨UM,h,rfl⟩:=Gac.mp (show(nj ds).map (b:: ·)=some bs from e);obtain⟨v,yO,rfl,h1,h2⟩:=r.cons_inv;cases z with
  |cons z1 z2=>
   cases h1;rw[ve h h2 z2,show _=Value.bool b from z1];rfl
theorem count_map:∀bs:List Bool,(bs.map Value.bool).countP (isBoolOf true)=bs.countP id
 |[]=>rfl
 |b::bs=>by
  rw[Gap,List.countP_cons,List.countP_cons,count_map bs];cases b<;>rfl
theorem J3(ho:PEd X o f)(m:M1 X o "count" apos (.Constant (.bool true) j p) eL):PEd X (.Call (.Attribute o "count" apos) [.Constant (.bool true) j p] [] eL) (QP f):=by
 intro ee s σ H Q I hw;obtain⟨H0,eh,env,rv,EO,e0,k⟩:=hw;obtain⟨r,hr,eo⟩:=ef e0;have h0:tE X f σ H λv H1=>bz H H1/\je X.K H0 eh env σ H H1 r v:=⟨H0,eh,env,r,EO,hr,λv H1 s1 R=> ⟨s1,R⟩⟩
 refine GcC m.base m.few m.line GbT PySem.F.slot_list_count PySem.F.type_list_count (thn (ho ee s σ H _ I h0) λu s1 ⟨v,H1,I1,rx,sm,R⟩=> ?_);obtain⟨kd,d⟩:=r;have ii:=R.inn;cases ii with
 | @lst a vs ds hh rr=>
  obtain⟨bs,hb,rfl⟩:=Gac.mp (show(nj ds).map (λbs=>(⟨.c,.int (bs.countP id:Nat)⟩:RV))=some rv from eo);obtain rfl:u=Value.ref a:=rx;obtain⟨_,eA,n,Vj,ha⟩:=(show bx X.prog X.w H1 s1.heap a (.lst vs) from hh.ok I1.hok)
  have eu:=ve hb rr Vj;subst eu;refine⟨⟨_,ha,rfl⟩,λb z=>by cases z;exact⟨_,ha,rfl⟩, ?_⟩;rw[m.trees];refine Gbq rfl (GbL (Gbt (Constant_bool (Gce ?_))));refine call_meets PySem.F.slot_list_count ⟨_,ha,rfl⟩ PySem.F.entry_list_count (PySem.F.args_list_count_2 _ _) (PySem.SeqAt.list_countAt a _ n none #[] (.bool true) (isBoolOf true)) ⟨ha,λy hy=> ?_, ?_⟩
  .have hy' :y∈bs.map Value.bool:=Array.mem_toList_iff.mpr hy;obtain⟨b,_,rfl⟩:=GaY.mp hy';exact PySem.SeqAt.EqAt.bool_bool b true
  .rw[show((bs.map Value.bool).toArray.toList)=bs.map Value.bool from rfl,count_map];exact⟨.int (bs.countP id:Nat),H1,I1.tok _,⟨_,rfl⟩,k _ H1 sm (.int _)⟩
 |_=>cases eo
end
section
variable{X:Cx}{xQ:List Stmt}{t:TS}
theorem aD(i:Nat)(x:Str)(k:(∀pos,PEd X.nox (.Name x pos) (vE i))->PSs X xQ t)(hN:autoParam (X.N[i]? =some x) Za1._auto_1)(hv:Vis X.env.scope x:=by first|exact Or.inl rfl|exact Or.inr (Or.inl rfl)|exact Or.inr (Or.inr rfl))(hd:autoParam ((x==("__debug__":Str))=false) Za2._auto_1)
  (xp:autoParam ((x==("__classdict__":Str))=false) Za2._auto_1):PSs X xQ t:=k λ_=>bR i hN hv hd xp
theorem bB(i:Nat)(x:Str)(k:Loc X.env.scope x->PSs X xQ t)(hx:Loc X.env.scope x:=by first|exact Or.inl rfl|exact Or.inr rfl):PSs X xQ t:=k hx
theorem J4(i:Nat)(x:Str)(k:Vis X.env.scope x->PSs X xQ t)(hv:Vis X.env.scope x:=by first|exact Or.inl rfl|exact Or.inr (Or.inl rfl)|exact Or.inr (Or.inr rfl)):PSs X xQ t:=k hv
theorem aU(x:Str)(k:Gl X x->PSs X xQ t)(hg:autoParam (Gl X x) Za1._auto_1):PSs X xQ t:=k hg
end
theorem Li{K:av}{H:Hp}{a:Addr}{ns:List Int}{m:ML}{E:XK}(hO:Ka H)(hS:SqL K H a (ns.map V.int))(h:m [.scr ns] λd=>d= .bl true):spL K 1 m [.ref a] H (λv _=>v= .bl true) E:=by
 refine⟨[.scr ns],_,rfl,aT.cons (.scr ?_) .nil,h,λd v H' s r e=> ?_⟩
 .rcases hS with(z|z)|z
  .rcases hO a with q| ⟨o,xs,q⟩<;>rw[z] at q<;>cases q
  .exact .inl z
  .exact .inr z
 .subst e;have i:=r.2;cases i;rfl
theorem mB{α:Type}{P:α->Prop}{a b:α}(x:P a)(y:P b):∀q∈[a,b],P q:=λq h=>by
 rcases Gaw.mp h with rfl|h
 .exact x
 .rw[Gbw.mp h];exact y
variable{x:Option (Option Slot)}
theorem vf:ko x=true↔b6 x:=by
 match x with
 |none=>simp[ko,b6]
 |some none=>simp[ko,b6]
 |some (some (.sh _))=>simp[ko,b6]
 |some (some (.own _))=>simp[ko,b6]
 |some (some (.lok _))=>simp[ko,b6]
 |some (some (.bor _))=>simp[ko,b6]
theorem Lj:lbB x=true↔mW x:=by
 match x with
 |none=>simp[lbB,mW]
 |some none=>simp[lbB,mW]
 |some (some (.sh _))=>simp[lbB,mW]
 |some (some (.own _))=>simp[lbB,mW]
 |some (some (.lok _))=>simp[lbB,mW]
 |some (some (.bor _))=>simp[lbB,mW]
theorem AZ{l:List Nat}{env:Env}(h:kD l env=true){j:Nat}(t:b6 env[j]?):j∈l:=by
 have hj:j<env.length:=by
  cases e:env[j]? with
  |none=>rw[e] at t;exact t.elim
  |some _=>exact(Gae.mp e).1
 have:=Gan.mp h j (Gbs.mpr hj);rw[vf.mpr t] at this
 simpa using this
structure mY(K:av)(H0:Hp)(eh:Addr->Prop)(k p q:Nat)(env:Env)(σ:St)(H:Hp):Prop where
 ok:aA K H0 eh env σ H
 two:∃a b x y,a≠b/\H0 a=none/\H0 b=none/\σ[k]? =some (some (.ref a))/\σ[p]? =some (some (.ref a))/\σ[q]? =some (some (.ref b))/\env[k]? =some (some (.bor (.dT x)))/\env[p]? =some (some (.bor (.dT x)))/\env[q]? =some (some (.bor (.dT y)))
 ne:k≠p/\k≠q/\p≠q
 onl:kD [k,p,q] env=true
def QZ(X:Cx)(H0:Hp)(eh:Addr->Prop)(k p q:Nat)(D:Ends):Out->Prop
 | .nx e=>∀σ' H',mY X.K H0 eh k p q e σ' H' ->D.nx σ' H'
 | .ret d=>∀v H',bz H0 H' ->iA X.K H0 H' d v->D.rt v H'
 |_=>False
def tL(X:Cx)(k:Nat)(f:DA2):TS:=λD σ H=>∃H0 eh env o p q,mY X.K H0 eh k p q env σ H/\f p q env=some o/\QZ X H0 eh k p q D o
section
variable{K:av}{H0 H H' :Hp}{eh:Addr->Prop}{k p q:Nat}{env:Env}{σ:St}
theorem mY.mono(E:mY K H0 eh k p q env σ H)(s:bz H H'):mY K H0 eh k p q env σ H' :=⟨E.ok.mono s,E.two,E.ne,E.onl⟩
variable{et:List (List Key×D)}
theorem J5{j:Nat}(hk:k<env.length)(hp:p<env.length):(put2 k p et env)[j]? =if j=k\/j=p then some (some (.bor (.dT et))) else env[j]? :=by
 unfold put2;by_cases h1:p=j
 .subst h1;rw[bA (by simpa using hp),Gaf (.inr rfl)]
 .rw[Gaa h1];by_cases h2:k=j
  .subst h2;rw[bA hk,Gaf (.inl rfl)]
  .rw[Gaa h2,Gag λz=>z.elim (λz=>h2 z.symm) λz=>h1 z.symm]
theorem mY.change(E:mY K H0 eh k p q env σ H){a:Addr}(ha:σ[k]? =some (some (.ref a))){ws:List (List Key×V)}(r:b5 K (λ_=>False) (upd H a (.dT ws)) et ws):mY K H0 eh k p q (put2 k p et env) σ (upd H a (.dT ws)):=by
 obtain⟨E0,⟨a',b,x,y,zZ,za,zb,s1,s2,s3,e1,e2,e3⟩,⟨n1,n2,n3⟩,onl⟩:=E;rw[ha] at s1;cases s1
 have lk:k<env.length:=(Gae.mp e1).1;have lp:p<env.length:=(Gae.mp e2).1;have g:∀j:Nat,(put2 k p et env)[j]? =if j=k\/j=p then some (some (.bor (.dT et))) else env[j]? :=λj=>J5 lk lp
 have xr:∀j:Nat,b6 (put2 k p et env)[j]? ↔b6 env[j]? :=λj=>by
  rw[g];by_cases z:j=k\/j=p
  .rw[Gaf z];rcases z with rfl|rfl
   .rw[e1];exact .rfl
   .rw[e2];exact .rfl
  .rw[Gag z]
 have hV:∀c,Cln eh env σ c->Cln eh (put2 k p et env) σ c:=λc h=> ⟨h.1,λj t=>h.2 j ((xr j).mp t)⟩;have ca:∀c,Cln eh env σ c->c≠a:=λc h z=>by subst z;exact h.2 k (by rw[e1];trivial) ha
 obtain⟨a2,w1,⟨u,hu,wu⟩,_,_⟩:=E0.bo k _ e1;rw[ha] at w1;cases w1
 have dC:j5 (Cln eh env σ) H (upd H a (.dT ws)):=λc o hc h=>by
  rw[ak ?_];exact hc
  rintro rfl;rcases h with h|h
  .exact ca _ h rfl
  .rw[hu] at hc;cases hc;cases u<;>first|exact wu.elim|exact h.elim
 have noOL:∀j:Nat,¬mV env[j]? :=λj h=>by
  have:=AZ onl h.top;simp at this;rcases this with z|z|z<;>subst z<;>first|(rw[e1] at h;exact h)|(rw[e2] at h;exact h)|(rw[e3] at h;exact h)
 refine⟨⟨λc o h=> ?_,by simpa using E0.len,λc h z=> ?_,λi d e=> ?_,λi d e=> ?_,λi d e=> ?_,λi j c t1 t2 _ _=> ?_⟩,⟨a,b,et,y,zZ,za,zb,ha,s2,s3,by rw[g,Gaf (.inl rfl)],by rw[g,Gaf (.inr rfl)],by rw[g,Gag λz=>z.elim (λz=>n2 z.symm) λz=>n3 z.symm];exact e3⟩,⟨n1,n2,n3⟩, ?_⟩
 .rw[ak λz=>by subst z;rw[za] at h;cases h];exact E0.same c o h
 .by_cases w:c=a
  .rw[w,aC] at z;cases z
  .rw[ak w] at z;exact E0.bad c h z
 .rw[g] at e;split at e
  .cases e
  .obtain⟨v,h1,h2⟩:=E0.sh i d e;exact⟨v,h1,h2.gen dC λc h _=>hV c h⟩
 .have:mV (put2 k p et env)[i]? :=by rcases e with e|e<;>rw[e]<;>trivial
  rw[g] at this;split at this
  .exact this.elim
  .exact(noOL i this).elim
 .rw[g] at e;split at e
  .rename_i z;cases e;refine⟨a,by rcases z with rfl|rfl<;>assumption,⟨_,aC,trivial⟩,rfl,.dT aC ⟨r.1,λi p q a b=>(r.2 i p q a b).imp λ_ z=>z.elim⟩⟩
  .rename_i z;obtain⟨c,h1,⟨u',TH,Vf⟩,h3,h4⟩:=E0.bo i d e;have nc:c≠a:=by
    rintro rfl;have:=AZ onl (j:=i) (by rw[e];trivial);simp at this;rcases this with w|w|w
    .exact z (.inl w)
    .exact z (.inr w)
    .subst w;rw[s3] at h1;cases h1;exact zZ rfl
   exact⟨c,h1,⟨u',by rw[ak nc];exact TH,Vf⟩,h3,h4.gen dC (λc h _=>hV c h) λc' ec _ o ho=>by cases ec;rw[ak nc];exact ho⟩
 .rw[g] at t1;split at t1
  .exact t1.elim
  .exact(noOL i t1).elim
 .refine Gan.mpr λj hj=> ?_;have:=Gan.mp onl j (by simpa using hj);rw[GaR] at this⊢;refine this.imp id λz=> ?_;rw[Bool.not_eq_true',<-Bool.not_eq_true,vf] at z⊢
  exactλw=>z ((xr j).mp w)
theorem aA.blank(E:aA K H0 eh env σ H)(k:Nat)(x:Option V):aA K H0 eh (env.set k none) (σ.set k x) H:=by
 have hV:∀b,Cln eh env σ b->Cln eh (env.set k none) (σ.set k x) b:=λb ⟨h1,h2⟩=> ⟨h1,λj t e=>by
  obtain⟨q,t⟩:=iI t;rw[Gaa q] at e;exact h2 j t e⟩
 have at' :∀{i:Nat} {s:Slot},(env.set k none)[i]? =some (some s)->k≠i/\env[i]? =some (some s):=λe=>by
  rcases eO e with⟨_,z⟩|z
  .cases z
  .exact z
 refine⟨E.same,by simpa using E.len,E.bad,λi d e=> ?_,λi d e=> ?_,λi d e=> ?_,λi j a t1 t2 e1 e2=> ?_⟩
 .obtain⟨q,e⟩:=at' e;obtain⟨v,h1,h2⟩:=E.sh i d e;exact⟨v,by rw[Gaa q];exact h1,h2.imp hV⟩
 .obtain⟨q,e⟩:k≠i/\(env[i]? =some (some (.own d))\/env[i]? =some (some (.lok d))):=by
   rcases e with e|e
   .exact⟨(at' e).1,.inl (at' e).2⟩
   .exact⟨(at' e).1,.inr (at' e).2⟩
  obtain⟨a,h1,h2,h3,h4,h5,h6⟩:=E.ow i d e;exact⟨a,by rw[Gaa q];exact h1,h2,h3,h4,h5,h6.imp hV⟩
 .obtain⟨q,e⟩:=at' e;obtain⟨a,h1,h2,h3,h4⟩:=E.bo i d e;exact⟨a,by rw[Gaa q];exact h1,h2,h3,h4.imp hV⟩
 .obtain⟨q1,_⟩:=iI t1.top;obtain⟨q2,zx⟩:=iI t2;rw[Gaa q1] at t1 e1;rw[Gaa q2] at e2;exact E.dj i j a t1 zx e1 e2
theorem mY.start{g w:Nat}{dg dw:List (List Key×D)}{ag aw:Addr}(E:aA K H0 eh env σ H)(hg:env[g]? =some (some (.own (.dT dg))))(hw:env[w]? =some (some (.own (.dT dw))))(onl:kD [g,w] env=true)(TM:g≠w)(SQ:k≠g)(SO:k≠w)(hk:k<env.length)
  (sg:σ[g]? =some (some (.ref ag)))(sw:σ[w]? =some (some (.ref aw)))(b:Bool):mY K H0 eh k (if b=true then w else g) (if b=true then g else w) (((env.set g (some (.bor (.dT dg)))).set w (some (.bor (.dT dw)))).set k (some (.bor (.dT (if b=true then dw else dg))))) (σ.set k (some (.ref (if b=true then aw else ag)))) H:=by
 obtain⟨a1,x1,x2,x3,x4,x5,x6⟩:=E.ow g _ (.inl hg);obtain⟨a2,y1,y2,y3,y4,y5,y6⟩:=E.ow w _ (.inl hw);rw[sg] at x1;cases x1
 rw[sw] at y1;cases y1
 have UU:ag≠aw:=λz=>by subst z;exact TM (E.dj g w ag (by rw[hg];trivial) (by rw[hw];trivial) sg sw)
 have lg:g<env.length:=(Gae.mp hg).1;have lw:w<env.length:=(Gae.mp hw).1;have lσ:k<σ.length:=by rw[<-E.len];exact hk
 let eD :Env:=((env.set g (some (.bor (.dT dg)))).set w (some (.bor (.dT dw)))).set k (some (.bor (.dT (if b=true then dw else dg))))
 have gt:∀j:Nat,eD[j]? =if j=k then some (some (.bor (.dT (if b=true then dw else dg)))) else if j=w then some (some (.bor (.dT dw))) else if j=g then some (some (.bor (.dT dg))) else env[j]? :=λj=>by
  show(((env.set g _).set w _).set k _)[j]? =_;by_cases z1:j=k
  .subst z1;rw[bA (by simpa using hk),Gaf rfl]
  .rw[Gaa (Gay z1),Gag z1];by_cases z2:j=w
   .subst z2;rw[bA (by simpa using lw),Gaf rfl]
   .rw[Gaa (Gay z2),Gag z2];by_cases z3:j=g
    .subst z3;rw[bA lg,Gaf rfl]
    .rw[Gaa (Gay z3),Gag z3]
 have st:∀j:Nat,j≠k->(σ.set k (some (.ref (if b=true then aw else ag))))[j]? =σ[j]? :=λj z=>Gaa (Gay z);have sk:(σ.set k (some (.ref (if b=true then aw else ag))))[k]? =some (some (.ref (if b=true then aw else ag))):=bA lσ;have old:∀{j:Nat},b6 env[j]? ->j=g\/j=w:=λ{j} t=>by simpa using AZ onl t
 have top' :∀{j:Nat},b6 eD[j]? ->j=k\/j=w\/j=g:=λ{j} t=>by
  rw[gt] at t;by_cases z1:j=k
  .exact .inl z1
  .by_cases z2:j=w
   .exact .inr (.inl z2)
   .by_cases z3:j=g
    .exact .inr (.inr z3)
    .rw[Gag z1,Gag z2,Gag z3] at t;exact(old t).elim (λz=>(z3 z).elim) λz=>(z2 z).elim
 have hV:∀c,Cln eh env σ c->Cln eh eD (σ.set k (some (.ref (if b=true then aw else ag)))) c:=λc h=> ⟨h.1,λj t e=>by
  have cg:c≠ag:=λz=>by subst z;exact h.2 g (by rw[hg];trivial) sg
  have cw:c≠aw:=λz=>by subst z;exact h.2 w (by rw[hw];trivial) sw
  rcases top' t with rfl|rfl|rfl
  .rw[sk] at e;cases b
   .rw[Gag Gai] at e;cases e;exact cg rfl
   .rw[Gaf rfl] at e;cases e;exact cw rfl
  .rw[st _ (Gay SO),sw] at e;cases e;exact cw rfl
  .rw[st _ (Gay SQ),sg] at e;cases e;exact cg rfl⟩
 have noO:∀{j:Nat} {d:D},eD[j]? ≠some (some (.own d))/\eD[j]? ≠some (some (.lok d)):=λ{j d}=>by
  have no' :∀{j:Nat},j≠w->j≠g->¬mV env[j]? :=λz2 z3 t=>(old t.top).elim z3 z2;rw[gt];by_cases z1:j=k
  .rw[Gaf z1];exact⟨(λz=>by cases z),(λz=>by cases z)⟩
  .rw[Gag z1];by_cases z2:j=w
   .rw[Gaf z2];exact⟨(λz=>by cases z),(λz=>by cases z)⟩
   .rw[Gag z2];by_cases z3:j=g
    .rw[Gaf z3];exact⟨(λz=>by cases z),(λz=>by cases z)⟩
    .rw[Gag z3];exact⟨λz=>no' z2 z3 (by rw[z];trivial),λz=>no' z2 z3 (by rw[z];trivial)⟩
 refine⟨⟨E.same,by simpa using E.len,E.bad,λi d e=> ?_,λi d e=> ?_,λi d e=> ?_,λi j c t1 _ _ _=> ?_⟩, ?_, ?_, ?_⟩
 .change eD[i]? =_ at e;rw[gt] at e;split at e
  .cases e
  .rename_i z1;split at e
   .cases e
   .split at e
    .cases e
    .obtain⟨v,h1,h2⟩:=E.sh i d e;exact⟨v,by rw[st _ z1];exact h1,h2.imp hV⟩
 .exact(e.elim noO.1 noO.2).elim
 .change eD[i]? =_ at e;rw[gt] at e;split at e
  .rename_i z1;subst z1;cases e;cases b
   .exact⟨ag,sk,x4,rfl,x6.imp hV⟩
   .exact⟨aw,sk,y4,rfl,y6.imp hV⟩
  .rename_i z1;split at e
   .rename_i z2;subst z2;cases e
    exact⟨aw,by rw[st _ z1];exact sw,y4,rfl,y6.imp hV⟩
   .split at e
    .rename_i z3;subst z3;cases e
     exact⟨ag,by rw[st _ z1];exact sg,x4,rfl,x6.imp hV⟩
    .rename_i z2 z3;exact((old (j:=i) (by rw[e];trivial)).elim z3 z2).elim
 .exfalso
  match z:eD[i]?,t1 with
  |some (some (.own d)),_=>exact noO.1 z
  |some (some (.lok d)),_=>exact noO.2 z
 .have ek:eD[k]? =some (some (.bor (.dT (if b=true then dw else dg)))):=by rw[gt,Gaf rfl]
  have ew:eD[w]? =some (some (.bor (.dT dw))):=by rw[gt,Gag (Gay SO),Gaf rfl]
  have eg:eD[g]? =some (some (.bor (.dT dg))):=by rw[gt,Gag (Gay SQ),Gag TM,Gaf rfl]
  cases b
  .exact⟨ag,aw,dg,dw,UU,x2,y2,sk,(st g (Gay SQ)).trans sg,(st w (Gay SO)).trans sw,ek,eg,ew⟩
  .exact⟨aw,ag,dw,dg,Gay UU,y2,x2,sk,(st w (Gay SO)).trans sw,(st g (Gay SQ)).trans sg,ek,ew,eg⟩
 .cases b
  .exact⟨SQ,SO,TM⟩
  .exact⟨SO,SQ,Gay TM⟩
 .refine Gan.mpr λj hj=> ?_;rw[GaR];by_cases t:b6 eD[j]?
  .left
   rcases top' t with rfl|rfl|rfl<;>cases b<;>simp
  .right
   rw[Bool.not_eq_true',<-Bool.not_eq_true,vf];exact t
end
section
variable{X:Cx}{k:Nat}{st:Stmt}{xQ rest:List Stmt}{f:DS}{g g1 g2:DA2}{c:Expr}{t:DT}{pos:Pos}
variable{env:Env}{p q:Nat}{H0 H:Hp}{σ:St}
theorem J6{D:Ends}{eh:Addr->Prop}{o1 o:Out}(E:mY X.K H0 eh k p q env σ H)
  (e:(match o1 with
   | .nx e=>if(lbB e[k]? &&lbB e[p]? &&lbB e[q]? &&kD [k,p,q] e)=true then some (.nx e) else none
   | .ret d=>some (.ret d)
   |_=>none)=some o)
  (K:QZ X H0 eh k p q D o):Eb X H0 eh env σ H D o1:=by
 cases o1 with
 |nx e1=>
  dsimp only at e;split at e
  .rename_i h;cases e;simp only[Gam,Lj] at h;obtain⟨⟨⟨h1,h2⟩,h3⟩,h4⟩:=h;intro σ' H' E' s';obtain⟨a,b,x,y,zZ,za,zb,s1,s2,s3,e1,e2,e3⟩:=E.two;obtain⟨k1,k2⟩:=s'.lk k h1;obtain⟨p1,p2⟩:=s'.lk p h2;obtain⟨q1,q2⟩:=s'.lk q h3;exact K σ' H' ⟨E',⟨a,b,x,y,zZ,za,zb,k2.trans s1,p2.trans s2,q2.trans s3,k1.trans e1,p1.trans e2,q1.trans e3⟩,E.ne,h4⟩
  .cases e
 |ret d=>cases e;exact K
 |bk e1=>cases e
 |ct e1=>cases e
theorem uh(h:PSd X st f):PS X st (tL X k (qO k f)):=by
 refine h.aG ?_;rintro D σ H ⟨H0,eh,env,o,p,q,E,e,K⟩;obtain⟨o1,h1,e⟩:=ef e;exact⟨H0,eh,env,o1,E.ok,h1,J6 E e K⟩
theorem vh(h:kW X xQ f):PSs X xQ (tL X k (qO k f)):=by
 refine h.aG ?_;rintro D σ H ⟨H0,eh,env,o,p,q,E,e,K⟩;obtain⟨o1,h1,e⟩:=ef e;exact⟨H0,eh,env,o1,E.ok,h1,J6 E e K⟩
theorem B0(h:PS X st (tL X k g)):PSs X [st] (tL X k g):=jm h
theorem mC(h1:PS X st (tL X k g1))(h2:PSs X rest (tL X k g2)):PSs X (st::rest) (tL X k (BR g1 g2)):=by
 refine(g7 h1 h2).aG ?_;rintro D σ H ⟨H0,eh,env,o,p,q,E,e,K⟩;obtain⟨o1,h1,e⟩:=ef e;refine⟨H0,eh,env,o1,p,q,E,h1, ?_⟩;cases o1 with
 |nx e1=>exactλσ' H' E' => ⟨H0,eh,e1,o,p,q,E',e,K⟩
 |ret d=>cases e;exact K
 |bk e1=>cases e;exact K
 |ct e1=>cases e;exact K
theorem J7{xs ys:List Stmt}(hc:PTd X c t)(ha:PSs X xs (tL X k g1))(hb:PSs X ys (tL X k g2)):PS X (.If c xs ys pos) (tL X k (ifL t g1 g2)):=by
 refine(Bj hc ha hb).aG ?_;rintro D σ H ⟨H0,eh,env,o,p,q,E,e,K⟩;obtain⟨b,hb,e⟩:=ef e;refine⟨H0,eh,env,b,E.ok,hb,λH1 s1=> ?_⟩;dsimp only;split
 .rename_i z;rw[Gaf z] at e;exact⟨H0,eh,env,o,p,q,E.mono s1,e,K⟩
 .rename_i z;rw[Gag z] at e;exact⟨H0,eh,env,o,p,q,E.mono s1,e,K⟩
theorem mY.at{K:av}{eh:Addr->Prop}{et:List (List Key×D)}(E:mY K H0 eh k p q env σ H)(e:env[k]? =some (some (.bor (.dT et)))):∃a ws,σ[k]? =some (some (.ref a))/\H a=some (.dT ws)/\b5 K (Cln eh env σ) H et ws:=by
 obtain⟨a,h1,_,_,h4⟩:=E.ok.bo k _ e;obtain⟨ws,h5,h6⟩:=HQ h4;exact⟨a,ws,h1,h5,h6⟩
theorem qS{a:Addr}{u:HO}{ws:List (List Key×V)}(h:H a=some (.dT ws)):∀b q,H b=some q->isT q->(∀C dx fs,q≠ .ins C dx fs)->upd H a u b=some q:=λb q e t _=>by
 rw[ak λz=> ?_];exact e
 subst z;rw[h] at e;cases e;exact t
theorem b5.pl{K:av}{F F' :Addr->Prop}{H H' :Hp}{et:List (List Key×D)}{ws:List (List Key×V)}(s:∀b o,H b=some o->isT o->(∀C dx fs,o≠ .ins C dx fs)->H' b=some o)(r:b5 K F H et ws)(hd:pls (et.map (·.2))=true):b5 K F' H' et ws:=
 ⟨r.1,λi p q e1 e2=>(r.2 i p q e1 e2).pl s (kF hd i p.2 (by rw[Gas,e1];rfl))⟩
theorem mY.gh{K:av}{H0 H:Hp}{eh:Addr->Prop}{k p q i:Nat}{env:Env}{σ:St}{d:D}{v:V}(E:mY K H0 eh k p q env σ H)(r:Rep K (λ_=>False) H d v)(h:i≠k/\i≠p/\i≠q):mY K H0 eh k p q (env.set i (some (.sh d))) (σ.set i (some v)) H:=by
 obtain⟨E0,⟨a,b,x,y,zZ,za,zb,s1,s2,s3,e1,e2,e3⟩,ne,onl⟩:=E;obtain⟨h1,h2,h3⟩:=h;refine⟨E0.gh (r.imp λ_ z=>z.elim),⟨a,b,x,y,zZ,za,zb,by rw[Gaa h1];exact s1,by rw[Gaa h2];exact s2,by rw[Gaa h3];exact s3,by rw[Gaa h1];exact e1,by rw[Gaa h2];exact e2,by rw[Gaa h3];exact e3⟩,ne,Gan.mpr λj hj=> ?_⟩;have:=Gan.mp onl j (by simpa using hj);by_cases z:i=j
 .subst z;rw[bA (by simpa using hj)];simp[ko]
 .rw[Gaa z];exact this
end
section
variable{X:Cx}{k:Nat}{pos:Pos}
variable{fk:DE}{ke:Expr}{px:Pos}{x:Str}
theorem Dd{pos' :Pos}{value:Expr}{fv:DE}(hu:X.A.units+1<cLine)(hN:X.N[k]? =some x)(hv:Vis X.env.scope x)(hk:PEd X ke fk)(he:PEd X value fv)(hd:autoParam ((x==("__debug__":Str))=false) Za2._auto_1)(xp:autoParam ((x==("__classdict__":Str))=false) Za2._auto_1)
  (hs:autoParam (swapsWith value (some (.Subscript (.Name x px) ke pos')) pos.line X.env=pure false) Za1._auto_1):PS X (.Assign [.Subscript (.Name x px) ke pos'] value pos) (tL X k (putL k fk fv)):=by
 refine(CL hu (g6 hN hv hd xp) hk he hs).aG ?_;rintro D σ H ⟨H0,eh,env,o,p,q,E,e,K⟩;obtain⟨v,Uz,e⟩:=ef e;obtain⟨y,Tb,e⟩:=ef e;split at e
 .rename_i et ks hek hy;split at e
  .rename_i hc;obtain⟨key,hW,rfl⟩:=Gac.mp e;refine⟨H0,eh,env,v,E.ok,Uz,λvv H1 s1 Rv=> ?_⟩;obtain⟨a,UN,ha,_,_⟩:=E.at hek;refine⟨_,ha,H0,eh,env,y,(E.mono s1).ok,Tb,λvy H3 s3 Ry=> ?_⟩;have E3:=(E.mono s1).mono s3;obtain⟨a2,ws,Tn,hH,rp⟩:=E3.at hek;rw[ha] at Tn;cases Tn
   have iy:=Ry.inn;rw[hy] at iy;cases iy with
   |tup hb rb=>
    have:=gD rb hW;subst this;refine .inr ⟨a,_,rfl,Aw.t hH hb (by rw[<-rp.len,<-eU];exact hc.2.2),K σ _ (E3.change ha ?_)⟩;exact b5.put (rp.pl (F' :=λ_=>False) (qS hH) hc.2.1) (((Rv.inn.same s3).any).pl (qS hH) hc.1)
  .cases e
 .cases e
theorem Oh{i:Nat}{xi:Str}{pi apos eL:Pos}(hu:X.A.units+1<cLine)(hN:X.N[k]? =some x)(hv:Vis X.env.scope x)(hk:PEd X ke fk)(TQ:X.N.Nodup)(W3:X.N[i]? =some xi)(Uh:Loc X.env.scope xi)(hd:autoParam ((x==("__debug__":Str))=false) Za2._auto_1)(xp:autoParam ((x==("__classdict__":Str))=false) Za2._auto_1)
  (m:M1 X (.Name x px) "pop" apos ke eL:=by exact⟨rfl,rfl,rfl,rfl⟩)(hs:autoParam (swapsWith (.Call (.Attribute (.Name x px) "pop" apos) [ke] [] eL) (some (.Name xi pi)) pos.line X.env=pure false) Za1._auto_1)(hf:autoParam (X.fn xi=true\/X.env.scope.names.lookup xi=some .local) Za3._auto_1):
  PS X (.Assign [.Name xi pi] (.Call (.Attribute (.Name x px) "pop" apos) [ke] [] eL) pos) (tL X k (QQ k i fk)):=by
 refine(lR TQ W3 Uh (Iy hu (g6 hN hv hd xp) hk m) hs hf).aG ?_;rintro D σ H ⟨H0,eh,env,o,p,q,E,e,K⟩;obtain⟨y,Tb,e⟩:=ef e;split at e
 .rename_i et ks hek hy;obtain⟨key,hW,e⟩:=ef e;obtain⟨d,hl,e⟩:=ef e;split at e
  .rename_i hc;cases e;obtain⟨a,UN,ha,W4,_⟩:=E.at hek;refine⟨_,ha,a,rfl,.inr ⟨UN,.inl W4⟩,H0,eh,env,y,E.ok,Tb,λvy H3 s3 Ry=> ?_⟩;have E3:=E.mono s3;obtain⟨a2,ws,Tn,hH,rp⟩:=E3.at hek;rw[ha] at Tn;cases Tn
   have iy:=Ry.inn;rw[hy] at iy;cases iy with
   | @tup b _ _ hb rb=>
    have:=gD rb hW;subst this;obtain⟨v,VE,rv⟩:=jP rp hl;refine⟨ws,key,b,v,hH,rfl,hb,VE,K _ _ (mY.gh (E3.change ha (b5.drop key (rp.pl (F' :=λ_=>False) (qS hH) hc.2.1))) (rv.pl (qS hH) hc.1) hc.2.2)⟩
  .cases e
 .cases e
theorem Gb{g w:Nat}{xk xg xw:Str}{p1 p2 p3 p4 p5 p6:Pos}{c:Expr}{rest:List Stmt}{t:DT}{f:DA2}(TQ:X.N.Nodup)(hk:X.N[k]? =some xk)(hg:X.N[g]? =some xg)(hw:X.N[w]? =some xw)(lk:Loc X.env.scope xk)(vg:Vis X.env.scope xg)(vw:Vis X.env.scope xw)(hc:PTd X c t)(hr:PSs X rest (tL X k f))(hn:g≠w/\k≠g/\k≠w)
  (d1:autoParam ((xg==("__debug__":Str))=false) Za2._auto_1)(d2:autoParam ((xg==("__classdict__":Str))=false) Za2._auto_1)(d3:autoParam ((xw==("__debug__":Str))=false) Za2._auto_1)(d4:autoParam ((xw==("__classdict__":Str))=false) Za2._auto_1)
  (xf:autoParam (swapsWith (.Name xg p2) (some (.Name xk p1)) p3.line X.env=pure false) Za1._auto_1)(xE:autoParam (swapsWith (.Name xw p5) (some (.Name xk p4)) p6.line X.env=pure false) Za1._auto_1)(hf:autoParam (X.fn xk=true\/X.env.scope.names.lookup xk=some .local) Za3._auto_1):
  kW X (.Assign [.Name xk p1] (.Name xg p2) p3:: .If c [.Assign [.Name xk p4] (.Name xw p5) p6] [] pos::rest) (D6 k g w t f):=by
 intro ee s σ H D I h;refine(g7 (lR TQ hk lk (g6 hg vg d1 d2) xf hf) (g7 (Bj hc (jm (lR TQ hk lk (g6 hw vw d3 d4) xE hf)) DC) hr)) ee s σ H D I ?_;obtain⟨H0,eh,env,o,E,e,K⟩:=h;unfold D6 at e;split at e
 .rename_i dg dw eg ew;split at e
  .rename_i onl;obtain⟨b,hb,e⟩:=ef e;obtain⟨ag,x1,_⟩:=E.ow g _ (.inl eg);obtain⟨aw,y1,_⟩:=E.ow w _ (.inl ew);have hlk:k<env.length:=by rw[E.len,I.len];exact(Gae.mp hk).1
   refine⟨_,x1,H0,eh,env.set k none,b,E.blank k _,hb,λH1 s1=> ?_⟩;have fin:tL X k f D (σ.set k (some (.ref (if b=true then aw else ag)))) H1:=by
    unfold QR at e;split at e
    .rename_i d hf;cases e;exact⟨H0,eh,_,.ret d,_,_,mY.start (E.mono s1) eg ew onl hn.1 hn.2.1 hn.2.2 hlk x1 y1 b,hf,K⟩
    .cases e
   cases b with
   |true=>
    refine⟨.ref aw,by rw[Gaa hn.2.2];exact y1, ?_⟩;show tL X k f D ((σ.set k _).set k _) H1;rw[List.set_set];exact fin
   |false=>exact fin
  .cases e
 .cases e
end
end DL
namespace Den
open DL PySem
noncomputable def lK:DS:=
 (retS (j4 jL (aa (j4 sortedS (aa (opE gC (vE 0) (aQ (aa (vE 1) ao))) ao)) ao)))
noncomputable def jI:List D->Option D:=fj 2 2 lK
noncomputable def ja:DS:=
 (retS (j4 jL (aa (lA (some 0) 1 [1,2] (jd (vE 0)) (gN 0) (orT (bw neB (ixE (vE 0) (kE (.int 0))) (vE 1)) (bw neB (ixE (vE 0) (kE (.int 1))) (vE 2))) (vE 0)) ao)))
noncomputable def gI:List D->Option D:=fj 3 3 ja
noncomputable def dX:DS:=
 (retS (aQ (aa (ixE (vE 0) (kE (.int 0))) (aa (aV jI (aa (ixE (vE 0) (kE (.int 1))) (aa (aQ (aa (vE 1) (aa (vE 2) (aa (vE 3) ao)))) ao))) ao))))
noncomputable def cF:List D->Option D:=fj 4 4 dX
noncomputable def cI:DS:=
 (retS (aQ (aa (ixE (vE 0) (kE (.int 0))) (aa (aV gI (aa (ixE (vE 0) (kE (.int 1))) (aa (vE 1) (aa (vE 2) ao)))) ao))))
noncomputable def bP:List D->Option D:=fj 3 3 cI
noncomputable def iV:DS:=
 (retS (aQ (aa (aV jI (aa (ixE (vE 0) (kE (.int 0))) (aa (aQ (aa (vE 1) (aa (vE 2) (aa (vE 3) ao)))) ao))) (aa (ixE (vE 0) (kE (.int 1))) ao))))
noncomputable def iW:List D->Option D:=fj 4 4 iV
noncomputable def fL:DS:=
 (retS (aQ (aa (aV gI (aa (ixE (vE 0) (kE (.int 0))) (aa (vE 1) (aa (vE 2) ao)))) (aa (ixE (vE 0) (kE (.int 1))) ao))))
noncomputable def fM:List D->Option D:=fj 3 3 fL
noncomputable def jC:DS:=
 (retS (lA none 1 [1] (jd (ixE (vE 0) (kE (.int 1)))) (gN 0) (bw eqB (ixE (vE 0) (kE (.int 0))) (vE 1)) (aQ (aa (ixE (vE 0) (kE (.int 1))) (aa (ixE (vE 0) (kE (.int 2))) ao)))))
noncomputable def mD:List D->Option D:=fj 2 2 jC
noncomputable def B1:DS:=
 (b9 (ifS (bw eqB (ixE (vE 0) (kE (.int 0))) (kE (.str "ever")))
  (retS (ixE (vE 0) (kE (.int 1))))
  aX)
 (b9 (ifS (bw eqB (ixE (vE 0) (kE (.int 0))) (kE (.str "flat")))
  (retS (ixE (vE 0) (kE (.int 2))))
  aX)
 (b9 (ifS (bw gf (vE 1) (kE .non))
  (retS (kE .non))
  aX)
 (retS (opE uF (opE pP (vE 1) (ixE (vE 0) (kE (.int 2)))) (ixE (vE 0) (kE (.int 3))))))))
noncomputable def EV:List D->Option D:=fj 2 2 B1
noncomputable def nG:DS:=
 (b9 (bI 2 (ixE (vE 0) (kE (.int 4))))
 (b9 (ifS (bw eqB (ixE (vE 2) (kE (.int 0))) (kE (.str "asked")))
  (retS (kE .non))
  aX)
 (b9 (bI 3 (opE vW (vE 1) (opE vW (ixE (vE 2) (kE (.int 1))) (ixE (vE 2) (kE (.int 4))))))
 (b9 (bI 4 (opE uF (vE 3) (ixE (vE 2) (kE (.int 2)))))
 (b9 (ifS (orT (ng (Hn leB ltB (kE (.int 0)) (vE 4) (ixE (vE 2) (kE (.int 3))))) (bw gtB (opE vW (vE 3) (opE pP (vE 4) (ixE (vE 2) (kE (.int 2))))) (opE g9 (ixE (vE 2) (kE (.int 4))) (ixE (vE 2) (kE (.int 5))))))
  (retS (kE .non))
  aX)
 (retS (vE 4)))))))
noncomputable def qT:List D->Option D:=fj 5 2 nG
noncomputable def qU:DS:=
 (b9 (bI 2 (ixE (vE 0) (kE (.int 4))))
 (b9 (ifS (bw eqB (ixE (vE 2) (kE (.int 0))) (kE (.str "asked")))
  (retS (bE (bw ltB (vE 1) (ixE (vE 2) (kE (.int 1))))))
  aX)
 (retS (bE (bw gf (aV qT (aa (vE 0) (aa (vE 1) ao))) (kE .non))))))
noncomputable def vk:List D->Option D:=fj 3 2 qU
noncomputable def vm:DS:=
 (ifS (rX (bw eqB (ixE (vE 4) (kE (.int 0))) (vE 1)) (bw leB (ixE (vE 4) (kE (.int 1))) (vE 2)))
  (bI 3 (ixE (vE 4) (kE (.int 2))))
  aX)
noncomputable def kH:DS:=
 (b9 (bI 3 (kE .non))
 (b9 (iD (some 0) (jd (vE 0)) (gN 4)
  vm)
 (retS (vE 3))))
noncomputable def nH:List D->Option D:=fj 5 3 kH
noncomputable def Gd:DT:=
 (rX (bw fm (vE 1) (kE .non)) (bw leB (ixE (ixE (vE 2) (vE 5)) (kE (.int 0))) (opE vW (ixE (vE 7) (kE (.int 0))) (vE 1))))
noncomputable def Ge:DS:=
 (b9 (bI 4 (opE vW (vE 4) (ixE (ixE (vE 2) (vE 5)) (kE (.int 1)))))
 (bI 5 (opE g9 (vE 5) (kE (.int 1)))))
noncomputable def Gf:DS:=
 (b9 (bI 4 (opE g9 (vE 4) (ixE (vE 7) (kE (.int 1)))))
 (b9 (Hr Gd
  Ge)
 (ifS (orT (bw eqB (opE g9 (vE 6) (kE (.int 1))) (j4 ni (aa (vE 2) ao))) (bw gtB (ixE (ixE (vE 2) (opE g9 (vE 6) (kE (.int 1)))) (kE (.int 0))) (ixE (vE 7) (kE (.int 0)))))
  (vY 3 (aQ (aa (ixE (vE 7) (kE (.int 0))) (aa (vE 4) ao))))
  aX)))
noncomputable def De:DS:=
 (b9 (bI 2 (j4 sortedS (aa (vE 0) ao)))
 (b9 (bI 3 (uG ao))
 (b9 (bI 4 (kE (.int 0)))
 (b9 (bI 5 (kE (.int 0)))
 (b9 (iD (some 2) (E5 (vE 2)) (gT [6,7])
  Gf)
 (retS (vE 3)))))))
noncomputable def J8:List D->Option D:=fj 8 2 De
noncomputable def fP:DS:=
 (retS (j4 anyS (aa (lA none 1 [] (jd (ixE (vE 0) (kE (.int 2)))) (gN 0) gQ (bE (bw eqB (ixE (vE 0) (kE (.int 0))) (kE (.str "kilo"))))) ao)))
noncomputable def iJ:List D->Option D:=fj 1 1 fP
noncomputable def iX:DS:=
 (b9 (bI 3 (ixE (vE 2) (kE (.int 0))))
 (b9 (bI 4 (ixE (vE 2) (kE (.int 1))))
 (b9 (bI 5 (ixE (vE 2) (kE (.int 2))))
 (b9 (bI 6 (ixE (ixE (vE 0) (kE (.int 3))) (vE 3)))
 (b9 (bI 7 (ixE (ixE (vE 0) (kE (.int 1))) (ixE (vE 6) (kE (.int 2)))))
 (b9 (bI 8 (uG ao))
 (b9 (ifS (jK (aV vk (aa (vE 6) (aa (vE 4) ao))))
  (vY 8 (kE (.str "astray")))
  aX)
 (b9 (ifS (bw gtB (vE 5) (ixE (ixE (vE 6) (kE (.int 3))) (kE (.int 3))))
  (vY 8 (kE (.str "most")))
  aX)
 (b9 (ifS (orT (bw ltB (vE 5) (kE (.int 1))) (bw neB (opE vX (vE 5) (ixE (ixE (vE 7) (kE (.int 1))) (kE (.int 0)))) (kE (.int 0))))
  (vY 8 (kE (.str "part")))
  aX)
 (b9 (ifS (rX (jK (aV iJ (aa (vE 7) ao))) (bw gf (aV nH (aa (vE 1) (aa (ixE (vE 6) (kE (.int 1))) (aa (vE 4) ao)))) (kE .non)))
  (vY 8 (kE (.str "weight")))
  aX)
 (b9 (ifS (bw ltB (vE 4) (opE g9 (ixE (ixE (ixE (vE 0) (kE (.int 0))) (ixE (vE 6) (kE (.int 1)))) (kE (.int 1))) (ixE (vE 7) (kE (.int 3)))))
  (vY 8 (kE (.str "young")))
  aX)
 (retS (lA (some 8) 1 [3,4] (jd (vE 8)) (gN 0) gQ (aQ (aa (vE 0) (aa (vE 1) (aa (vE 2) ao)))))))))))))))))
noncomputable def l0:List D->Option D:=fj 9 3 iX
noncomputable def cj:DM:=
 (Qp (setM 4 (ixE (ixE (vE 0) (kE (.int 3))) (ixE (vE 3) (kE (.int 0)))))
 (Qq (aQ (aa (ixE (vE 4) (kE (.int 1))) (aa (ixE (vE 4) (kE (.int 2))) ao))) (aQ (aa (ixE (vE 3) (kE (.int 1))) (aa (ixE (vE 3) (kE (.int 2))) ao)))))
noncomputable def cX:DS:=
 (Hu 2 (Md 3 (vE 1) cj))
noncomputable def cY:List D->Option D:=fj 5 2 cX
noncomputable def tW:DS:=
 (b9 (bI 11 (aV EV (aa (vE 8) (aa (aV nH (aa (vE 1) (aa (vE 6) (aa (ixE (vE 10) (kE (.int 0))) ao)))) ao))))
 (ifS (rX (bw fm (vE 11) (kE .non)) (bw gtB (ixE (vE 10) (kE (.int 1))) (vE 11)))
  (vY 3 (aQ (aa (kE (.str "cap")) (aa (vE 6) (aa (ixE (vE 4) (kE (.int 1))) (aa (vE 7) (aa (ixE (vE 10) (kE (.int 0))) (aa (ixE (vE 10) (kE (.int 1))) (aa (vE 11) ao)))))))))
  aX))
noncomputable def tY:DS:=
 (b9 (bI 9 (ifE (bw eqB (ixE (vE 8) (kE (.int 0))) (kE (.str "ever"))) (kE .non) (ixE (vE 8) (kE (.int 1)))))
 (iD none (jd (aV J8 (aa (vE 5) (aa (vE 9) ao)))) (gN 10)
  tW))
noncomputable def dS:DS:=
 (b9 (bI 6 (ixE (vE 4) (kE (.int 0))))
 (iD none (E5 (ixE (ixE (ixE (vE 0) (kE (.int 1))) (ixE (vE 4) (kE (.int 1)))) (kE (.int 2)))) (gT [7,8])
  tY))
noncomputable def jD:DS:=
 (b9 (bI 3 (uG ao))
 (b9 (iD none (Hs cA (aV cY (aa (vE 0) (aa (vE 2) ao)))) (gT [4,5])
  dS)
 (retS (vE 3))))
noncomputable def gY:List D->Option D:=fj 12 3 jD
noncomputable def oP:DS:=
 (b9 (FE 1 (aQ (aa (ixE (vE 2) (kE (.int 0))) (aa (ixE (vE 2) (kE (.int 1))) ao))) (ixE (vE 2) (kE (.int 2))))
 (FE 1 (aQ (aa (ixE (vE 2) (kE (.int 1))) (aa (ixE (vE 2) (kE (.int 0))) ao))) (ixE (vE 2) (kE (.int 2)))))
noncomputable def fQ:DS:=
 (b9 (bI 1 (pQ))
 (b9 (iD (some 0) (jd (vE 0)) (gN 2)
  oP)
 (retS (vE 1))))
noncomputable def fR:List D->Option D:=fj 3 1 fQ
noncomputable def lj:DS:=
 (b9 (ifS (bw neB (ixE (vE 1) (kE (.int 1))) (ixE (vE 2) (kE (.int 1))))
  (retS (kE (.int 0)))
  aX)
 (retS (Ny (vE 0) (aQ (aa (ixE (vE 1) (kE (.int 2))) (aa (ixE (vE 2) (kE (.int 2))) ao))) (kE (.int 0)))))
noncomputable def oY:List D->Option D:=fj 3 3 lj
noncomputable def cT:DS:=
 (b9 (bI 9 (opE vW (ixE (vE 8) (kE (.int 0))) (ixE (vE 7) (kE (.int 0)))))
 (b9 (ifS (bw geB (vE 9) (vE 3))
  bkS
  aX)
 (ifS (bw ltB (vE 9) (aV oY (aa (vE 2) (aa (ixE (ixE (vE 0) (kE (.int 3))) (ixE (vE 7) (kE (.int 1)))) (aa (ixE (ixE (vE 0) (kE (.int 3))) (ixE (vE 8) (kE (.int 1)))) ao)))))
  (vY 5 (aQ (aa (kE (.str "gap")) (aa (ixE (vE 7) (kE (.int 1))) (aa (ixE (vE 7) (kE (.int 0))) (aa (ixE (vE 8) (kE (.int 1))) (aa (ixE (vE 8) (kE (.int 0))) ao)))))))
  aX)))
noncomputable def cU:DS:=
 (iD none (jd (slE (vE 4) (Mb (opE g9 (vE 6) (kE (.int 1)))) noO)) (gN 8)
  cT)
noncomputable def jE:DS:=
 (b9 (bI 2 (aV fR (aa (ixE (vE 0) (kE (.int 2))) ao)))
 (b9 (bI 3 (mmE Hq (.int 0) (lA none 1 [] (jd (ixE (vE 0) (kE (.int 2)))) (gN 0) gQ (ixE (vE 0) (kE (.int 2))))))
 (b9 (bI 4 (j4 sortedS (aa (lA (some 1) 1 [] (jd (vE 1)) (gN 0) gQ (aQ (aa (ixE (vE 0) (kE (.int 1))) (aa (ixE (vE 0) (kE (.int 0))) ao)))) ao)))
 (b9 (bI 5 (uG ao))
 (b9 (iD (some 4) (E5 (vE 4)) (gT [6,7])
  cU)
 (retS (vE 5)))))))
noncomputable def gZ:List D->Option D:=fj 10 2 jE
noncomputable def cZ:DS:=
 (b9 (bI 4 (aV qT (aa (ixE (ixE (vE 0) (kE (.int 3))) (ixE (vE 3) (kE (.int 0)))) (aa (ixE (vE 3) (kE (.int 1))) ao))))
 (ifS (bw fm (vE 4) (kE .non))
  (FE 2 (aQ (aa (ixE (vE 3) (kE (.int 0))) (aa (vE 4) ao))) (opE g9 (Ny (vE 2) (aQ (aa (ixE (vE 3) (kE (.int 0))) (aa (vE 4) ao))) (kE (.int 0))) (kE (.int 1))))
  aX))
noncomputable def i4:DS:=
 (b9 (bI 2 (pQ))
 (b9 (iD (some 1) (jd (vE 1)) (gN 3)
  cZ)
 (retS (pU cA 2 2 [] (gT [0,1]) (bw gtB (vE 1) (kE (.int 1))) (aQ (aa (kE (.str "twice")) (aa (ixE (vE 0) (kE (.int 0))) (aa (ixE (vE 0) (kE (.int 1))) ao))))))))
noncomputable def fz:List D->Option D:=fj 5 2 i4
noncomputable def jb:DS:=
 (PQ 4 (aV l0 (aa (vE 0) (aa (vE 2) (aa (vE 5) ao)))))
noncomputable def qV:DS:=
 (b9 (bI 2 (ixE (vE 1) (kE (.int 0))))
 (b9 (bI 3 (ixE (vE 1) (kE (.int 1))))
 (b9 (bI 4 (opE g9 (opE g9 (aV gY (aa (vE 0) (aa (vE 2) (aa (vE 3) ao)))) (aV gZ (aa (vE 0) (aa (vE 3) ao)))) (aV fz (aa (vE 0) (aa (vE 3) ao)))))
 (b9 (iD (some 3) (jd (vE 3)) (gN 5)
  jb)
 (retS (j4 sortedS (aa (vE 4) ao)))))))
noncomputable def dF:List D->Option D:=fj 6 2 qV
noncomputable def bQ:MS:=
 (cQ (L5 380 "world" (vE 0) (vE 1))
 (L5 380 "kept" (vE 0) (aQ (aa (aQ ao) (aa (aQ ao) ao)))))
noncomputable def c6:MD:=tV 2 2 bQ
noncomputable def da:DS:=
 (retS (vb 380 "kept" (vE 0)))
noncomputable def de:List D->Option D:=fj 1 1 da
noncomputable def cM:DS:=
 (retS (bE (bw inB (aQ (aa (vE 1) (aa (vE 2) ao))) (lA none 1 [] (jd (ixE (vb 380 "kept" (vE 0)) (kE (.int 0)))) (gN 0) gQ (aQ (aa (ixE (vE 0) (kE (.int 0))) (aa (ixE (vE 0) (kE (.int 1))) ao)))))))
noncomputable def bC:List D->Option D:=fj 3 3 cM
noncomputable def bD:DS:=
 (ifS (bw eqB (ixE (vE 3) (kE (.int 0))) (vE 2))
  (retS (ixE (vE 3) (kE (.int 1))))
  aX)
noncomputable def bJ:DS:=
 (b9 (iD none (jd (aV mD (aa (vb 380 "kept" (vE 0)) (aa (vE 1) ao)))) (gN 3)
  bD)
 (retS (kE .non)))
noncomputable def aH:List D->Option D:=fj 4 3 bJ
noncomputable def c9:MS:=
 (cQ (bH (bI 2 (aV dF (aa (vb 380 "world" (vE 0)) (aa (vE 1) ao)))))
 (cQ (ifW (bw gtB (j4 ni (aa (vE 2) ao)) (kE (.int 0)))
  II
  (bH aX))
 (L5 380 "kept" (vE 0) (vE 1))))
noncomputable def df:MD:=tV 3 2 c9
noncomputable def dm:MS:=
 (cQ (ifW (jK (kC 380 "is_weighed" bC (vE 0) (aa (vE 1) (aa (vE 2) ao))))
  (nD 127 "entry" (aQ (aa (vE 1) (aa (vE 2) ao))))
  (bH aX))
 (vc (lJ 380 "keep" df (vE 0) (aa (aV iW (aa (vb 380 "kept" (vE 0)) (aa (vE 1) (aa (vE 2) (aa (vE 3) ao))))) ao))))
noncomputable def gk:MD:=tV 4 4 dm
noncomputable def cv:MS:=
 (cQ (ifW (ng (jK (kC 380 "is_weighed" bC (vE 0) (aa (vE 1) (aa (vE 2) ao)))))
  (nD 146 "entry" (aQ (aa (vE 1) (aa (vE 2) ao))))
  (bH aX))
 (vc (lJ 380 "keep" df (vE 0) (aa (aV fM (aa (vb 380 "kept" (vE 0)) (aa (vE 1) (aa (vE 2) ao)))) ao))))
noncomputable def dU:MD:=tV 3 3 cv
noncomputable def dO:MS:=
 (cQ (ifW (bw fm (kC 380 "amount_at" aH (vE 0) (aa (vE 1) (aa (vE 2) ao))) (kE .non))
  (nD 127 "entry" (aQ (aa (vE 1) (aa (vE 2) ao))))
  (bH aX))
 (vc (lJ 380 "keep" df (vE 0) (aa (aV cF (aa (vb 380 "kept" (vE 0)) (aa (vE 1) (aa (vE 2) (aa (vE 3) ao))))) ao))))
noncomputable def i5:MD:=tV 4 4 dO
noncomputable def cN:MS:=
 (cQ (ifW (bw gf (kC 380 "amount_at" aH (vE 0) (aa (vE 1) (aa (vE 2) ao))) (kE .non))
  (nD 146 "entry" (aQ (aa (vE 1) (aa (vE 2) ao))))
  (bH aX))
 (vc (lJ 380 "keep" df (vE 0) (aa (aV bP (aa (vb 380 "kept" (vE 0)) (aa (vE 1) (aa (vE 2) ao)))) ao))))
noncomputable def fB:MD:=tV 3 3 cN
noncomputable def dq:MS:=
 (cQ (ifW (bw gf (kC 380 "amount_at" aH (vE 0) (aa (vE 1) (aa (vE 2) ao))) (kE .non))
  (nD 146 "entry" (aQ (aa (vE 1) (aa (vE 2) ao))))
  (bH aX))
 (vc (lJ 380 "keep" df (vE 0) (aa (aV cF (aa (aV bP (aa (vb 380 "kept" (vE 0)) (aa (vE 1) (aa (vE 2) ao)))) (aa (vE 1) (aa (vE 2) (aa (vE 3) ao))))) ao))))
noncomputable def gm:MD:=tV 4 4 dq
noncomputable def cC:MS:=
 (cQ (bH (bI 4 (kC 380 "amount_at" aH (vE 0) (aa (vE 1) (aa (vE 2) ao)))))
 (cQ (ifW (bw gf (vE 4) (kE .non))
  (nD 146 "entry" (aQ (aa (vE 1) (aa (vE 2) ao))))
  (bH aX))
 (cQ (ifW (rX (bw neB (vE 3) (vE 2)) (bw fm (kC 380 "amount_at" aH (vE 0) (aa (vE 1) (aa (vE 3) ao))) (kE .non)))
  (nD 127 "entry" (aQ (aa (vE 1) (aa (vE 3) ao))))
  (bH aX))
 (vc (lJ 380 "keep" df (vE 0) (aa (aV cF (aa (aV bP (aa (vb 380 "kept" (vE 0)) (aa (vE 1) (aa (vE 2) ao)))) (aa (vE 1) (aa (vE 3) (aa (vE 4) ao))))) ao))))))
noncomputable def fS:MD:=tV 5 4 cC
noncomputable def bF:DS:=
 (b9 (bI 3 (kE (.int 0)))
 (b9 (ifS (bw gtB (j4 ni (aa (vE 0) ao)) (kE (.int 0)))
  (bI 3 (opE vX (ixE (vE 0) (opE vX (vE 1) (j4 ni (aa (vE 0) ao)))) (kE (.int 1000003))))
  aX)
 (retS (opE vX (opE uF (opE vX (opE pP (opE vX (opE pP (opE g9 (vE 3) (kE (.int 1))) (opE g9 (opE g9 (opE pP (vE 1) (vE 1)) (vE 1)) (kE (.int 41)))) (kE (.int 999983))) (kE (.int 48271))) (kE (.int 2147483647))) (kE (.int 11))) (vE 2)))))
noncomputable def b4:List D->Option D:=fj 4 3 bF
noncomputable def dH:DS:=
 (retS (bE (rX (CC "int" (vE 0)) (ng (CC "bool" (vE 0))))))
noncomputable def dI:List D->Option D:=fj 1 1 dH
noncomputable def jW:MS:=
 (cQ (ifW (bw eqB (ixE (vE 1) (kE (.int 0))) (kE (.str "weigh")))
  (BQ (lJ 380 "weigh" gk (vE 0) (aa (ixE (vE 1) (kE (.int 1))) (aa (ixE (vE 1) (kE (.int 2))) (aa (ixE (vE 1) (kE (.int 3))) ao)))))
  (bH aX))
 (cQ (ifW (bw eqB (ixE (vE 1) (kE (.int 0))) (kE (.str "unweigh")))
  (BQ (lJ 380 "unweigh" dU (vE 0) (aa (ixE (vE 1) (kE (.int 1))) (aa (ixE (vE 1) (kE (.int 2))) ao))))
  (bH aX))
 (cQ (ifW (bw eqB (ixE (vE 1) (kE (.int 0))) (kE (.str "give")))
  (BQ (lJ 380 "give" i5 (vE 0) (aa (ixE (vE 1) (kE (.int 1))) (aa (ixE (vE 1) (kE (.int 2))) (aa (ixE (vE 1) (kE (.int 3))) ao)))))
  (bH aX))
 (cQ (ifW (bw eqB (ixE (vE 1) (kE (.int 0))) (kE (.str "strike")))
  (BQ (lJ 380 "strike" fB (vE 0) (aa (ixE (vE 1) (kE (.int 1))) (aa (ixE (vE 1) (kE (.int 2))) ao))))
  (bH aX))
 (cQ (ifW (bw eqB (ixE (vE 1) (kE (.int 0))) (kE (.str "amend")))
  (BQ (lJ 380 "amend" gm (vE 0) (aa (ixE (vE 1) (kE (.int 1))) (aa (ixE (vE 1) (kE (.int 2))) (aa (ixE (vE 1) (kE (.int 3))) ao)))))
  (bH aX))
 (BQ (lJ 380 "move" fS (vE 0) (aa (ixE (vE 1) (kE (.int 1))) (aa (ixE (vE 1) (kE (.int 2))) (aa (ixE (vE 1) (kE (.int 3))) ao))))))))))
noncomputable def mF:MD:=tV 2 2 jW
noncomputable def jX:MS:=
 (cQ (bH (bI 2 (kE .non)))
 (cQ (bH (bI 3 (kE .non)))
 (cQ (O6 mF (aa (vE 0) (aa (vE 1) ao)) 3 [127,146] 2 4)
 (bH (b9 (ifS (rX (bw gf (vE 2) (kE .non)) (bw gf (vE 3) (kE .non)))
  (retS (aQ (aa (kE (.str "done")) (aa (kE .non) ao))))
  aX)
 (b9 (ifS (bw gf (vE 2) (kE .non))
  (retS (aQ (aa (kE (.str "other")) (aa (kE .non) ao))))
  aX)
 (b9 (bI 5 (uG (aa (bE (va [(146,false),(127,true)] (vE 2))) (aa (bE (va [(146,true),(127,false)] (vE 2))) (aa (bE (va [(146,false),(127,false)] (vE 2))) ao)))))
 (b9 (bI 6 (bE (va [(146,false),(127,false)] (vE 2))))
 (b9 (ifS (orT (jK (vE 6)) (orT (ng (jK (bE (va [(146,true),(127,true)] (vE 2))))) (bw neB (QP (vE 5)) (kE (.int 1)))))
  (retS (aQ (aa (kE (.str "other")) (aa (kE .non) ao))))
  aX)
 (b9 (ifS (jK (ixE (vE 5) (kE (.int 0))))
  (retS (aQ (aa (kE (.str "twice")) (aa (L0 [146,127] "entry" (vE 2)) ao))))
  aX)
 (b9 (ifS (jK (ixE (vE 5) (kE (.int 1))))
  (retS (aQ (aa (kE (.str "noentry")) (aa (L0 [146,127] "entry" (vE 2)) ao))))
  aX)
 (retS (aQ (aa (kE (.str "unsafe")) (aa (L0 [] "faults" (vE 2)) ao)))))))))))))))
noncomputable def jY:MD:=tV 7 2 jX
noncomputable def jZ:DS:=
 (retS (j4 jL (aa (j4 sortedS (aa (AB cA 0 2 [] (gT [0,1]) gQ (aQ (aa (ixE (vE 0) (kE (.int 0))) (aa (ixE (vE 0) (kE (.int 1))) (aa (vE 1) ao))))) ao)) ao)))
noncomputable def k6:List D->Option D:=fj 1 1 jZ
noncomputable def gn:DS:=
 (FE 2 (aQ (aa (ixE (vE 4) (kE (.int 0))) (aa (ixE (vE 4) (kE (.int 1))) ao))) (ixE (vE 4) (kE (.int 2))))
noncomputable def gp:DS:=
 (FE 3 (aQ (aa (ixE (vE 4) (kE (.int 0))) (aa (ixE (vE 4) (kE (.int 1))) ao))) (ixE (vE 4) (kE (.int 2))))
noncomputable def dP:DS:=
 (b9 (bI 2 (pQ))
 (b9 (bI 3 (pQ))
 (b9 (iD none (jd (ixE (vE 0) (kE (.int 0)))) (gN 4)
  gn)
 (b9 (iD none (jd (ixE (vE 0) (kE (.int 1)))) (gN 4)
  gp)
 (D6 5 3 2 (orT (bw eqB (ixE (vE 1) (kE (.int 0))) (kE (.str "weigh"))) (bw eqB (ixE (vE 1) (kE (.int 0))) (kE (.str "unweigh"))))
 (BR (qO 5 (bI 6 (aQ (aa (ixE (vE 1) (kE (.int 1))) (aa (ixE (vE 1) (kE (.int 2))) ao)))))
 (BR (ifL (orT (bw eqB (ixE (vE 1) (kE (.int 0))) (kE (.str "weigh"))) (bw eqB (ixE (vE 1) (kE (.int 0))) (kE (.str "give"))))
  (BR (qO 5 (ifS (bw inB (vE 6) (vE 5))
  (retS (aQ (aa (kE (.str "twice")) (aa (vE 6) ao))))
  aX))
 (putL 5 (vE 6) (ixE (vE 1) (kE (.int 3)))))
  (BR (qO 5 (ifS (bw oN (vE 6) (vE 5))
  (retS (aQ (aa (kE (.str "noentry")) (aa (vE 6) ao))))
  aX))
 (BR (qO 5 (ifS (rX (bw eqB (ixE (vE 1) (kE (.int 0))) (kE (.str "move"))) (rX (bw neB (ixE (vE 1) (kE (.int 3))) (ixE (vE 1) (kE (.int 2)))) (bw inB (aQ (aa (ixE (vE 1) (kE (.int 1))) (aa (ixE (vE 1) (kE (.int 3))) ao))) (vE 5))))
  (retS (aQ (aa (kE (.str "twice")) (aa (aQ (aa (ixE (vE 1) (kE (.int 1))) (aa (ixE (vE 1) (kE (.int 3))) ao))) ao))))
  aX))
 (BR (QQ 5 7 (vE 6))
 (BR (ifL (bw eqB (ixE (vE 1) (kE (.int 0))) (kE (.str "amend")))
  (putL 5 (vE 6) (ixE (vE 1) (kE (.int 3))))
  (qO 5 aX))
 (ifL (bw eqB (ixE (vE 1) (kE (.int 0))) (kE (.str "move")))
  (putL 5 (aQ (aa (ixE (vE 1) (kE (.int 1))) (aa (ixE (vE 1) (kE (.int 3))) ao))) (vE 7))
  (qO 5 aX)))))))
 (qO 5 (retS (aQ (aa (kE (.str "done")) (aa (aQ (aa (aV k6 (aa (vE 2) ao)) (aa (aV k6 (aa (vE 3) ao)) ao))) ao))))))))))))
noncomputable def bM:List D->Option D:=fj 8 2 dP
noncomputable def fU:DS:=
 (b9 (ifS (orT (ng (jK (bE (CC "tuple" (vE 3))))) (bw neB (j4 ni (aa (vE 3) ao)) (kE (.int 3))))
  (retS (kE (.bl false)))
  aX)
 (ifS (orT (ng (jK (aV dI (aa (ixE (vE 3) (kE (.int 0))) ao)))) (orT (ng (jK (aV dI (aa (ixE (vE 3) (kE (.int 1))) ao)))) (ng (jK (aV dI (aa (ixE (vE 3) (kE (.int 2))) ao))))))
  (retS (kE (.bl false)))
  aX))
noncomputable def fV:DS:=
 (b9 (ifS (ng (jK (bE (CC "tuple" (vE 2)))))
  (retS (kE (.bl false)))
  aX)
 (iD (some 2) (jd (vE 2)) (gN 3)
  fU))
noncomputable def cG:DS:=
 (b9 (ifS (orT (ng (jK (bE (CC "tuple" (vE 0))))) (bw neB (j4 ni (aa (vE 0) ao)) (kE (.int 2))))
  (retS (kE (.bl false)))
  aX)
 (b9 (iD (some 0) (jd (vE 0)) (gN 2)
  fV)
 (retS (bE (bw eqB (vE 0) (vE 1))))))
noncomputable def cb:List D->Option D:=fj 4 2 cG
noncomputable def i7:DS:=
 (b9 (ifS (orT (ng (jK (bE (CC "tuple" (vE 0))))) (bw neB (j4 ni (aa (vE 0) ao)) (kE (.int 2))))
  (retS (kE (.bl false)))
  aX)
 (retS (bE (rX (jK (aV dI (aa (ixE (vE 0) (kE (.int 0))) ao))) (rX (jK (aV dI (aa (ixE (vE 0) (kE (.int 1))) ao))) (bw eqB (vE 0) (vE 1)))))))
noncomputable def k7:List D->Option D:=fj 2 2 i7
noncomputable def dz:DS:=
 (b9 (bI 3 (ixE (uG (aa (kE (.str "weigh")) (aa (kE (.str "unweigh")) (aa (kE (.str "give")) (aa (kE (.str "give")) (aa (kE (.str "give")) (aa (kE (.str "strike")) (aa (kE (.str "amend")) (aa (kE (.str "move")) ao))))))))) (aV b4 (aa (vE 0) (aa (opE g9 (kE (.int 100)) (vE 1)) (aa (kE (.int 8)) ao))))))
 (b9 (bI 4 (opE pP (vE 2) (aV b4 (aa (vE 0) (aa (opE g9 (kE (.int 300)) (vE 1)) (aa (kE (.int 5)) ao))))))
 (b9 (ifS (orT (bw eqB (vE 3) (kE (.str "weigh"))) (bw eqB (vE 3) (kE (.str "unweigh"))))
  (retS (aQ (aa (vE 3) (aa (aV b4 (aa (vE 0) (aa (opE g9 (kE (.int 200)) (vE 1)) (aa (kE (.int 3)) ao)))) (aa (vE 4) (aa (opE g9 (kE (.int 1)) (aV b4 (aa (vE 0) (aa (opE g9 (kE (.int 400)) (vE 1)) (aa (opE tQ (kE (.int 10)) (kE (.int 6))) ao))))) ao))))))
  aX)
 (b9 (ifS (bw eqB (vE 3) (kE (.str "move")))
  (retS (aQ (aa (vE 3) (aa (aV b4 (aa (vE 0) (aa (opE g9 (kE (.int 200)) (vE 1)) (aa (kE (.int 2)) ao)))) (aa (vE 4) (aa (opE pP (vE 2) (aV b4 (aa (vE 0) (aa (opE g9 (kE (.int 400)) (vE 1)) (aa (kE (.int 5)) ao))))) ao))))))
  aX)
 (retS (aQ (aa (vE 3) (aa (aV b4 (aa (vE 0) (aa (opE g9 (kE (.int 200)) (vE 1)) (aa (kE (.int 2)) ao)))) (aa (vE 4) (aa (opE g9 (kE (.int 1)) (aV b4 (aa (vE 0) (aa (opE g9 (kE (.int 400)) (vE 1)) (aa (kE (.int 9)) ao))))) ao))))))))))
noncomputable def k8:List D->Option D:=fj 5 3 dz
noncomputable def gB:MS:=
 (cQ (bH (bI 4 (aV bM (aa (ixE (vE 1) (vE 2)) (aa (vE 3) ao)))))
 (cQ (L6 5 (BP jY (aa (vE 0) (aa (vE 3) ao))))
 (cQ (bH (ifS (bw neB (ixE (vE 5) (kE (.int 0))) (ixE (vE 4) (kE (.int 0))))
  (retS (kE (.bl false)))
  aX))
 (cQ (ifW (bw eqB (ixE (vE 4) (kE (.int 0))) (kE (.str "done")))
  (Mo 1 (vE 2) (ixE (vE 4) (kE (.int 1))) true)
  (bH aX))
 (bH (retS (aV k7 (aa (ixE (vE 5) (kE (.int 1))) (aa (ixE (vE 4) (kE (.int 1))) ao)))))))))
noncomputable def q8:MD2:=Mq 6 4 gB
noncomputable def qW:DS:=
 (ifS (ng (jK (aV cb (aa (kC 380 "book" de (vE 10) ao) (aa (aQ (aa (aQ ao) (aa (aQ ao) ao))) ao)))))
  (retS (kE (.bl false)))
  aX)
noncomputable def k9:DS:=
 (b9 (bI 13 (kC 380 "book" de (ixE (vE 7) (vE 12)) ao))
 (b9 (ifS (ng (jK (aV cb (aa (vE 13) (aa (ixE (vE 8) (vE 12)) ao)))))
  (retS (kE (.bl false)))
  aX)
 (vY 9 (aQ (aa (vE 13) (aa (ixE (vE 8) (vE 12)) ao))))))
noncomputable def qX:MS:=
 (cQ (bH (bI 11 (aV b4 (aa (vE 0) (aa (opE gC (kE (.int 500)) (vE 3)) (aa (kE (.int 2)) ao))))))
 (cQ (O8 (QM (QL (Mp q8 8 (ixE (vE 7) (vE 11)) (aa (vE 11) (aa (aV k8 (aa (vE 0) (aa (vE 3) (aa (vE 1) ao)))) ao)))))
  (bH (retS (kE (.bl false))))
  (bH aX))
 (bH (iD none (iU (kE (.int 2))) (gN 12)
  k9))))
noncomputable def nI:DS:=
 (ifS (bw neB (ixE (vE 14) (kE (.int 0))) (ixE (vE 14) (kE (.int 1))))
  (retS (kE (.bl false)))
  aX)
noncomputable def J9:MS:=
 (cQ (bH (bI 1 (ixE (uG (aa (kE (.int 1)) (aa (opE pP (kE (.int 25)) (opE tQ (kE (.int 10)) (kE (.int 7)))) ao))) (aV b4 (aa (vE 0) (aa (kE (.int 2)) (aa (kE (.int 2)) ao)))))))
 (cQ (bH (bI 2 (j4 jL (aa (lA none 1 [] (iU (kE (.int 3))) (gN 0) gQ (aQ (aa (opE gC (kE (.str "guest")) (ixE (kE (.str "abc")) (vE 0))) (aa (kE (.int 0)) ao)))) ao))))
 (cQ (bH (bI 4 (aQ (aa (kE (.str "down")) (aa (kE (.int 1)) (aa (kE (.int 0)) (aa (kE (.int 9)) ao)))))))
 (cQ (bH (bI 5 (j4 jL (aa (lA none 1 [4] (iU (kE (.int 2))) (gN 0) gQ (aQ (aa (opE gC (kE (.str "order")) (ixE (kE (.str "ab")) (vE 0))) (aa (vE 0) (aa (kE (.int 0)) (aa (vE 1) (aa (aQ (aa (kE (.str "asked")) (aa (kE (.int 0)) ao))) (aa (aQ ao) ao)))))))) ao))))
 (cQ (bH (bI 6 (aQ (aa (vE 2) (aa (aQ (aa (aQ (aa (kE (.str "stuff")) (aa (aQ (aa (kE (.int 1)) (aa (kE (.int 5)) ao))) (aa (aQ ao) (aa (kE (.int 0)) ao))))) ao)) (aa (aQ ao) (aa (vE 5) ao)))))))
 (cQ (O7 7 380 c6 (aa (vE 6) ao) (aa (vE 6) ao))
 (cQ (bH (bI 8 (uG (aa (aQ (aa (aQ ao) (aa (aQ ao) ao))) (aa (aQ (aa (aQ ao) (aa (aQ ao) ao))) ao)))))
 (cQ (bH (bI 9 (uG ao)))
 (cQ (bH (iD (some 7) (jd (vE 7)) (gN 10)
  qW))
 (cQ (QO 3 (opE gC (j4 wN (aa (j4 ni (aa (vE 0) ao)) (aa (kE (.int 60)) ao))) (aV b4 (aa (vE 0) (aa (kE (.int 6)) (aa (kE (.int 4)) ao))))) qX)
 (cQ (bH (iD (some 9) (jd (vE 9)) (gN 14)
  nI))
 (cQ (L6 15 (oX 380 c6 (aa (aQ (aa (vE 2) (aa (aQ ao) (aa (aQ ao) (aa (aQ ao) ao))))) ao)))
 (cQ (bH (bI 16 (aQ (aa (aV b4 (aa (vE 0) (aa (kE (.int 7)) (aa (kE (.int 3)) ao)))) (aa (opE pP (vE 1) (aV b4 (aa (vE 0) (aa (kE (.int 8)) (aa (kE (.int 5)) ao))))) (aa (opE gC (kE (.int 1)) (aV b4 (aa (vE 0) (aa (kE (.int 9)) (aa (opE tQ (kE (.int 10)) (kE (.int 6))) ao))))) ao))))))
 (cQ (O8 (orW (QN neB (BP jY (aa (vE 15) (aa (opE gC (aQ (aa (kE (.str "weigh")) ao)) (vE 16)) ao))) (aQ (aa (kE (.str "done")) (aa (kE .non) ao)))) (ng (jK (aV cb (aa (kC 380 "book" de (vE 15) ao) (aa (aQ (aa (aQ (aa (vE 16) ao)) (aa (aQ ao) ao))) ao))))))
  (bH (retS (kE (.bl false))))
  (bH aX))
 (BQ (IJ cb (rdW 380 "book" de (oX 380 c6 (aa (aQ (aa (aQ ao) (aa (aQ ao) (aa (aQ ao) (aa (aQ ao) ao))))) ao))) (aa (aQ (aa (aQ ao) (aa (aQ ao) ao))) ao)))))))))))))))))
noncomputable def A8:ML:=QS 17 1 J9
end Den
namespace Maths
open DL Den PySem
abbrev Os:=Option Slot
noncomputable def cell(ns:List Int)(k:Int):Int:=if ns.length=0 then 0 else ns[(k%ns.length).toNat]?.getD 0%1000003
noncomputable def draw(ns:List Int)(k m:Int):Int:=(cell ns k+1)*(k*k+k+41)%999983*48271%2147483647/11%m
theorem Lk(ns:List Int)(k:Int):0<=cell ns k/\cell ns k<1000003:=by
 unfold cell;split
 .lia
 .exact⟨Int.emod_nonneg _ (by lia),Gda _ (by lia)⟩
theorem jF(ns:List Int)(k m:Int)(hm:0<m):0<=draw ns k m/\draw ns k m<m:=⟨Int.emod_nonneg _ (by lia),Gda _ hm⟩
variable{ns:List Int}
theorem Ll{k:Int}(h:0<ns.length):atD ns (k%ns.length)=some (ns[(k%ns.length).toNat]?.getD 0):=by
 unfold atD;have h1:0<=k%(ns.length:Int):=Int.emod_nonneg _ (by lia);have h2:k%(ns.length:Int)<ns.length:=Gda _ (by lia);rw[Gaf h1];have h3:(k%(ns.length:Int)).toNat<ns.length:=by lia
 simp[h3]
variable{i j:Int}
theorem ui(h: -18446744073709551616<i)(h2:i<18446744073709551616):ly i j=true:=by
 unfold ly;rw[GaR];exact .inl (GaC (by lia))
theorem Lm(h: -18446744073709551616<j)(h2:j<18446744073709551616):ly i j=true:=by
 unfold ly;rw[GaR];exact .inr (GaC (by lia))
theorem iK{k m:Int}(hk:0<=k)(SR:k<1000000)(hm:0<m):b4 [.scr ns,.int k,.int m]=some (.int (draw ns k m)):=by
 have c:=Lk ns k;have e1:ly k k=true:=ui (by lia) (by lia);have e2:∀j,ly (cell ns k+1) j=true:=λj=>ui (by lia) (by lia);have e3:∀i,ly i 48271=true:=λi=>Lm (by lia) (by lia);unfold b4 bF;by_cases h:0<ns.length
 .have hc:cell ns k=ns[(k%ns.length).toNat]?.getD 0%1000003:=by unfold cell;rw[Gag (by lia)]
  have h' :(0:Int)<ns.length:=by lia
  simp[h,h',Ll h,e1,e3,hm,<-hc];simp[e2,e3,hm,draw]
 .have hc:cell ns k=0:=by unfold cell;rw[Gaf (by lia)]
  have h' :¬(0:Int)<ns.length:=by lia
  simp[h,h',e1,e3,hm];have:=e2 (k*k+k+41);rw[hc] at this;simp at this;simp[this,e3,hm,draw,hc]
theorem Df(h1: -4611686018427387904<=i)(h2:i<4611686018427387904):me i=true:=by
 unfold me;rw[Gam];exact⟨GaC h1,GaC h2⟩
theorem oz{α:Type}{g:DG}{t:DT}{f:DE}(zU:α->D)(C:DL.Env->Prop)(p:α->Bool)(r:α->D):∀(xs:List α) (e:DL.Env),C e->
  (∀x∈xs,∀e,C e->∃e',g (zU x) e=some e' /\C e' /\t e' =some (p x)/\(p x=true->∃k,f e' =some ⟨k,r x⟩/\RV.free ⟨k,r x⟩=true))->dD g t f (xs.map zU) e=some ((xs.filter p).map r)
 |[],e,_,_=>rfl
 |d::ds,e,h,st=>by
  obtain⟨e',h1,h2,h3,h4⟩:=st d Gav e h;have ih:=oz zU C p r ds e' h2 λd' hd=>st d' (Gar _ hd);cases q:p d with
  |false=>simp[dD,h1,h3,q,ih]
  |true=>
   obtain⟨k,h5,h6⟩:=h4 q;simp[dD,h1,h3,q,h5,h6,ih]
theorem sJ{α:Type}{g:DG}{f:DE}(zU:α->D)(C:DL.Env->Prop)(r:α->D)(xs:List α)(e:DL.Env)(h:C e)
  (st:∀x∈xs,∀e,C e->∃e',g (zU x) e=some e' /\C e' /\∃k,f e' =some ⟨k,r x⟩/\RV.free ⟨k,r x⟩=true):dD g gQ f (xs.map zU) e=some (xs.map r):=by
 have:=oz (g:=g) (t:=gQ) (f:=f) zU C (λ_=>true) r xs e h (λx hx e he=>by
  obtain⟨e',h1,h2,h3⟩:=st x hx e he;exact⟨e',h1,h2,rfl,λ_=>h3⟩)
 rw[List.filter_eq_self.mpr λ_ _=>rfl] at this;exact this
theorem Gg(bs:List Bool):nj (bs.map D.bl)=some bs:=by
 induction bs with
 |nil=>rfl
 |cons b bs ih=>simp[ih]
@[simp] theorem R4(bs:List Bool):anyS [.lst (bs.map D.bl)]=some ⟨.c,.bl (bs.any id)⟩:=by
 simp[anyS,one,oT,Gg]
variable{env:DL.Env}{f:DS}
theorem bf{g:DS}{e:DL.Env}(h:f env=some (.nx e)):b9 f g env=g e:=by simp[b9,h]
theorem uj{g:DS}{d:D}(h:f env=some (.ret d)):b9 f g env=some (.ret d):=by simp[b9,h]
theorem bh{n np:Nat}{body:DS}{ds:List D}{d:D}(hl:ds.length=np)(h:body (aE n ds)=some (.ret d)):fj n np body ds=some d:=by
 unfold fj;rw[Gaf hl,h];rfl
theorem bU{d:D}(h:d.imm=true):c5 d=⟨.c,d⟩:=by
 unfold c5;have:d.top=false:=by cases d<;>simp[D.imm] at h<;>rfl
 rw[this];rfl
theorem qY{α:Type}{f:α->D}(h:∀a,(f a).imm=true):∀l:List α,aZ (l.map f)=true
 |[]=>rfl
 |a::l=>by
  have h1:=h a;have h2:=qY h l;rw[Gap];simp[h1,h2]
theorem at2{a b q:Int}(h:0<=q)(h2:q<2):∃v,(v=a\/v=b)/\atD [D.int a,.int b] q=some (.int v):=by
 have:q=0\/q=1:=by lia
 rcases this with rfl|rfl
 .exact⟨a,.inl rfl,rfl⟩
 .exact⟨b,.inr rfl,rfl⟩
noncomputable def trD(t:Int×Int×Int):D:= .tup [.int t.1,.int t.2.1,.int t.2.2]
theorem oA(t:Int×Int×Int):(trD t).imm=true:=by simp[trD]
abbrev Tr:=Int×Int×Int
noncomputable def kvT(ts:List Tr):List (List Key×D):=ts.map λt=>([Sum.inl t.1,Sum.inl t.2.1],D.int t.2.2)
theorem A9(ts:List Tr):cA (kvT ts)=ts.map λt=>D.tup [.tup [.int t.1,.int t.2.1],.int t.2.2]:=by
 unfold cA kvT;rw[Gbz]
 rfl
theorem Ja(ts:List Tr):dD (gT [0,1]) gQ (aQ (aa (ixE (vE 0) (kE (.int 0))) (aa (ixE (vE 0) (kE (.int 1))) (aa (vE 1) ao)))) (cA (kvT ts)) [none,none]=some (ts.map trD):=by
 rw[A9];refine sJ (g:=gT [0,1]) (λt:Tr=>D.tup [.tup [.int t.1,.int t.2.1],.int t.2.2]) (λenv=>∃y z,env=[y,z]) trD ts _ ⟨none,none,rfl⟩ ?_;rintro t ht env ⟨y,z,rfl⟩;refine⟨[some (.sh (.tup [.int t.1,.int t.2.1])),some (.sh (.int t.2.2))],by simp,⟨_,_,rfl⟩,.c, ?_,rfl⟩;simp[aq,trD]
theorem EW(ts:List Tr):keysOk (ts.map trD)=true:=by
 have h1:(ts.map trD).all (pS 1)=true:=by
  rw[GbG,Gan];intro p _;simp[trD,pS,tyD,pR]
 have h2:((ts.map trD).all λx=>(ts.map trD).all λy=>CD x y)=true:=by
  rw[GbG,Gan];intro p _;simp only[Function.comp_apply];rw[GbG,Gan];intro q _;simp[trD,CD,wO,tyD,bG]
 unfold keysOk;rw[h1,h2];simp
noncomputable def Ln:D->Tr
 | .tup [.int a,.int b,.int c]=>(a,b,c)
 |_=>(0,0,0)
theorem aP(ts:List Tr):aZ (ts.map trD)=true:=qY oA ts
noncomputable def atT(o h:Int)(t:Tr):Bool:=decide (t.1=o/\t.2.1=h)
noncomputable def Oi(ts:List Tr)(o h v:Int):List Tr:=if ts.any (atT o h) then ts.map (λt=>if atT o h t then(o,h,v) else t) else ts++[(o,h,v)]
theorem uk(o h:Int)(t:Tr):decide (([Sum.inl t.1,Sum.inl t.2.1]:List Key)=[Sum.inl o,Sum.inl h])=atT o h t:=by
 unfold atT;rw[decide_eq_decide];simp
theorem Dg(ts:List Tr)(o h v:Int):DL.put (kvT ts) [Sum.inl o,Sum.inl h] (.int v)=kvT (Oi ts o h v):=by
 unfold DL.put Oi kvT;have e:((ts.map λt=>(([Sum.inl t.1,Sum.inl t.2.1]:List Key),D.int t.2.2)).any λkv=>decide (kv.1=[Sum.inl o,Sum.inl h]))=ts.any (atT o h):=by
  rw[List.any_map];congr 1
  funext t
  exact uk o h t
 rw[e];cases ts.any (atT o h) with
 |true=>
  simp only[GaZ];rw[Gbz,Gbz];refine GbC λt _=> ?_;simp only[Function.comp];have k:=uk o h t;by_cases c:t.1=o/\t.2.1=h
  .have e1:([Sum.inl t.1,Sum.inl t.2.1]:List Key)=[Sum.inl o,Sum.inl h]:=by rw[c.1,c.2]
   have e2:atT o h t=true:=GaC c;rw[Gaf e1,Gaf e2,c.1,c.2]
  .have e1:¬([Sum.inl t.1,Sum.inl t.2.1]:List Key)=[Sum.inl o,Sum.inl h]:=λz=>by simp at z;exact c z
   have e2:¬atT o h t=true:=λz=>c (GaI z);rw[Gag e1,Gag e2]
 |false=>simp
theorem Jb(ts:List Tr)(o h:Int):look (kvT ts) [Sum.inl o,Sum.inl h]=(ts.find? (atT o h)).map λt=>D.int t.2.2:=by
 unfold look kvT;rw[List.find?_map];have e:((λkv:List Key×D=>decide (kv.1=[Sum.inl o,Sum.inl h]))∘λt:Tr=>(([Sum.inl t.1,Sum.inl t.2.1]:List Key),D.int t.2.2))=atT o h:=by
  funext t
  exact uk o h t
 rw[e];cases ts.find? (atT o h)<;>rfl
theorem Lo(ts:List Tr):aZ ((kvT ts).map λx=>x.snd)=true:=by
 unfold kvT;rw[Gbz];exact qY (λ_=>rfl) ts
theorem EX(t:Tr):DL.code (trD t)=[[1,t.1],[1,t.2.1],[1,t.2.2]]:=rfl
theorem BY{a b:Tr}(h:DL.code (trD a)=DL.code (trD b)):a=b:=by
 rw[EX,EX] at h;obtain⟨a1,a2,a3⟩:=a;obtain⟨b1,b2,b3⟩:=b;simp at h;simp[h]
noncomputable def b7(ts:List Tr):List Tr:=(jg (ts.map trD)).map Ln
theorem Jc(ts:List Tr):(ts.map trD).map Ln=ts:=by
 rw[Gbz]
 conv=>rhs;rw[<-List.map_id ts]
 exact GbC λp _=>rfl
theorem sL(ts:List Tr):jg (ts.map trD)=(b7 ts).map trD:=by
 unfold b7;rw[Gbz]
 conv=>lhs;rw[<-List.map_id (jg (ts.map trD))]
 refine GbC λx hx=> ?_;obtain⟨f,_,rfl⟩:=GaY.mp ((jN _).mem_iff.mp hx)
 rfl
theorem dh(ts:List Tr):(b7 ts).Perm ts:=by
 have:=(jN (ts.map trD)).map Ln;rw[Jc] at this;exact this
theorem iY(ts:List Tr):gR ((b7 ts).map trD):=by
 rw[<-sL];exact jx _
theorem Aa{a b:List Tr}(hp:a.Perm b)(h1:gR (a.map trD))(h2:gR (b.map trD)):a=b:=by
 have e:=kU (hp.map trD) h1 h2 (λx hx y hy hc=>by
  obtain⟨f,_,rfl⟩:=GaY.mp hx;obtain⟨g,_,rfl⟩:=GaY.mp hy;rw[BY hc])
 have:=congrArg (List.map Ln) e;rw[Jc,Jc] at this;exact this
theorem B2{a b:List Tr}(h:a.Perm b):b7 a=b7 b:=Aa ((dh a).trans (h.trans (dh b).symm)) (iY a) (iY b)
theorem w6(p:Tr->Bool)(ts:List Tr):(b7 ts).filter p=b7 (ts.filter p):=by
 refine Aa (((dh ts).filter p).trans (dh _).symm) ?_ (iY _);have h:=iY ts;unfold gR at h⊢;rw[List.pairwise_map] at h⊢;exact h.filter p
variable{ts:List Tr}
theorem vn(h:ts.length<64):sortedS [.lst (ts.map trD)]=some ⟨.tn,.lst ((b7 ts).map trD)⟩/\sortedS [.tup (ts.map trD)]=some ⟨.tn,.lst ((b7 ts).map trD)⟩:=by
 have z:(ts.map trD).length<64:=by rw[Gaq];exact h
 constructor
 .unfold sortedS one oT;simp only[Option.bind_some];rw[EW,GaC z,sL]
  rfl
 .unfold sortedS one oT;simp only[Option.bind_some];rw[EW,GaC z,sL]
  rfl
theorem Lp{X:List D}{d:D}(h:X.length<100000):gC (.tup X) (.tup [d])=some ⟨.c,.tup (X++[d])⟩:=by
 cases X with
 |nil=>rfl
 |cons x X=>
  have z:(x::X).length+1<=16777216:=by lia
  show g9 (.tup (x::X)) (.tup [d])=_;simp[aq];simp at z;lia
variable{rs:List Tr}
theorem B3{r:Tr}(h:rs.length<63):jI [.tup (rs.map trD),trD r]=some (.tup ((b7 (rs++[r])).map trD)):=by
 have ha:=Lp (X:=rs.map trD) (d:=trD r) (by rw[Gaq];lia);have hs:=(vn (ts:=rs++[r]) (by simp;lia)).2;rw[Gbf] at hs;have im:=aP rs;have ir:=oA r;have io:=aP (b7 (rs++[r]));have xI :sortedS [.tup (rs.map trD++[trD r])]=some ⟨.tn,.lst ((b7 (rs++[r])).map trD)⟩:=hs;generalize (b7 (rs++[r])).map trD=S at*;generalize rs.map trD=R at*;generalize trD r=rd at*;refine bh rfl ?_;unfold lK;simp[aE,im,ir,ha,xI,io,aq]
noncomputable def nk(n h:Int)(t:Tr):Bool:= !decide (t.1=n)|| !decide (t.2.1=h)
theorem Jd(rs:List Tr)(n h:Int):dD (gN 0) (orT (bw neB (ixE (vE 0) (kE (.int 0))) (vE 1)) (bw neB (ixE (vE 0) (kE (.int 1))) (vE 2))) (vE 0) (rs.map trD) [none,some (.sh (.int n)),some (.sh (.int h))]=some ((rs.filter (nk n h)).map trD):=by
 refine oz (g:=gN 0) trD (λenv=>∃y,env=[y,some (.sh (.int n)),some (.sh (.int h))]) (nk n h) trD rs _ ⟨none,rfl⟩ ?_;rintro t ht env ⟨y,rfl⟩;have im:=oA t;refine⟨[some (.sh (trD t)),some (.sh (.int n)),some (.sh (.int h))],rfl,⟨_,rfl⟩, ?_,λ_=> ⟨.c, ?_, ?_⟩⟩
 .unfold nk;by_cases c1:t.1=n<;>by_cases c2:t.2.1=h<;>simp[trD,neB,c1,c2]
 .generalize trD t=td at*;simp[im]
 .generalize trD t=td at*;simp[RV.free]
variable{n h:Int}
theorem EY(hl:rs.length<1000):gI [.tup (rs.map trD),.int n,.int h]=some (.tup ((rs.filter (nk n h)).map trD)):=by
 have hc:=Jd rs n h;have im:=aP rs;have io:=aP (rs.filter (nk n h));have z:(rs.map trD).length<=16777216:=by rw[Gaq];lia
 generalize (rs.filter (nk n h)).map trD=S at*;generalize rs.map trD=R at*;refine bh rfl ?_;unfold ja;simp[-dD,aE,aq,DL.compEnv,mf,z,hc,im,io]
variable{o:Int}{A R S:List D}
theorem Oj{a:Int}(ia:aZ A=true)(ir:aZ R=true)(is:aZ S=true)(hl:jI [.tup R,.tup [.int o,.int h,.int a]]=some (.tup S)):cF [.tup [.tup A,.tup R],.int o,.int h,.int a]=some (.tup [.tup A,.tup S]):=by
 have rs:=bU (d:= .tup S) (by simp[is]);refine bh rfl ?_;unfold dX;simp[aE,ia,ir,hl,rs,is,aq]
theorem Sx{a:Int}(ia:aZ A=true)(ir:aZ R=true)(is:aZ S=true)(hl:jI [.tup A,.tup [.int o,.int h,.int a]]=some (.tup S)):iW [.tup [.tup A,.tup R],.int o,.int h,.int a]=some (.tup [.tup S,.tup R]):=by
 have rs:=bU (d:= .tup S) (by simp[is]);refine bh rfl ?_;unfold iV;simp[aE,ia,ir,hl,rs,is,aq]
theorem Ol(ia:aZ A=true)(ir:aZ R=true)(is:aZ S=true)(hl:gI [.tup R,.int o,.int h]=some (.tup S)):bP [.tup [.tup A,.tup R],.int o,.int h]=some (.tup [.tup A,.tup S]):=by
 have rs:=bU (d:= .tup S) (by simp[is]);refine bh rfl ?_;unfold cI;simp[aE,ia,ir,hl,rs,is,aq]
theorem Sy(ia:aZ A=true)(ir:aZ R=true)(is:aZ S=true)(hl:gI [.tup A,.int o,.int h]=some (.tup S)):fM [.tup [.tup A,.tup R],.int o,.int h]=some (.tup [.tup S,.tup R]):=by
 have rs:=bU (d:= .tup S) (by simp[is]);refine bh rfl ?_;unfold fL;simp[aE,ia,ir,hl,rs,is,aq]
variable{kv:List (List Key×D)}
theorem Je(iv:aZ (kv.map λx=>x.snd)=true)(z:(cA kv).length<=16777216)(hc:dD (gT [0,1]) gQ (aQ (aa (ixE (vE 0) (kE (.int 0))) (aa (ixE (vE 0) (kE (.int 1))) (aa (vE 1) ao)))) (cA kv) [none,none]=some R)(hs:sortedS [.lst R]=some ⟨.tn,.lst S⟩)(is:aZ S=true):k6 [.dT kv]=some (.tup S):=by
 have lo:FJ 0 [some (.sh (.dT kv))]=true:=by simp[FJ]
 have hp:AB cA 0 2 [] (gT [0,1]) gQ (aQ (aa (ixE (vE 0) (kE (.int 0))) (aa (ixE (vE 0) (kE (.int 1))) (aa (vE 1) ao)))) [some (.sh (.dT kv))]=some ⟨.tn,.lst R⟩:=by
  show(if(FJ 0 [some (.sh (.dT kv))]&&aZ (kv.map λx=>x.snd))=true then _ else none)=_;rw[lo,iv];have so:Mc 0 [some (.bor (.dT kv))]=true:=by simp
  simp[-dD,aq,DL.compEnv,z,hc]
 refine bh rfl ?_;unfold jZ;simp[aE,hp,hs,is]
theorem jf(h:ts.length<64):k6 [.dT (kvT ts)]=some (.tup ((b7 ts).map trD)):=by
 have hz:(cA (kvT ts)).length<=16777216:=by rw[A9,Gaq];lia
 exact Je (Lo ts) hz (Ja ts) (vn h).1 (aP _)
theorem nJ(i:Int):dI [.int i]=some (.bl true):=by
 unfold dI dH;simp[kT]
theorem Jf(rs:List Tr):lz (rs.map trD) (rs.map trD)=true:=by
 induction rs with
 |nil=>rfl
 |cons t rs ih=>
  rw[Gap];show(eqD (trD t) (trD t)&&lz _ _)=true;rw[ih];simp[trD]
theorem Ab(n:Nat)(rs:List Tr):(rs.map trD).all (b0 (n+1))=true:=by
 rw[GbG,Gan];intro t _;simp[trD]
theorem BZ(a b:List Tr):eqB (.tup [.tup (a.map trD),.tup (b.map trD)]) (.tup [.tup (a.map trD),.tup (b.map trD)])=some true:=by
 have p1:=Ab 17 a;have p2:=Ab 17 b;have q1:=Jf a;have q2:=Jf b;generalize a.map trD=A at*;generalize b.map trD=B at*;have h1:D.plain (.tup [.tup A,.tup B])=true:=by
  show([D.tup A,.tup B].all (b0 19))=true;have e1:b0 19 (.tup A)=true:=p1;have e2:b0 19 (.tup B)=true:=p2;simp only[GaO,List.all_nil,e1,e2,Gdb]
 have h2:eqD (.tup [.tup A,.tup B]) (.tup [.tup A,.tup B])=true:=by
  show(lz A A&&(lz B B&&true))=true;rw[q1,q2];rfl
 unfold eqB;rw[h1,h2];rfl
noncomputable def bkD(ws gv:List Tr):D:= .tup [.tup (ws.map trD),.tup (gv.map trD)]
theorem mG(ws gv:List Tr):(bkD ws gv).imm=true:=by
 have h1:=aP ws;have h2:=aP gv;simp[bkD,h1,h2]
noncomputable abbrev fN:List Str:=["world","kept"]
noncomputable abbrev hsD (a:Nat) (wd bk:D):D:= .obj a 380 fN [wd,bk]
variable{wd:D}{a:Nat}
theorem i8{bk:D}:L4 380 "kept" (hsD a wd bk)=some ⟨.c,bk⟩:=rfl
theorem cR{bk:D}{m:Str}(h1:(m==("world":Str))=false)(h2:(m==("kept":Str))=false):dR 380 m (hsD a wd bk)=true:=by
 simp[dR,List.lookup,h1,h2]
theorem vo{bk:D}(ib:bk.imm=true):de [hsD a wd bk]=some bk:=by
 have f:=i8 (a:=a) (wd:=wd) (bk:=bk);generalize hsD a wd bk=o at*;refine bh rfl ?_;unfold da;simp[aE,f,ib]
noncomputable def spD(t:Tr):D:= .tup [.int t.1,.int t.2.1]
theorem Jg(ws:List Tr):dD (gN 0) gQ (aQ (aa (ixE (vE 0) (kE (.int 0))) (aa (ixE (vE 0) (kE (.int 1))) ao))) (ws.map trD) [none]=some (ws.map spD):=by
 refine sJ (g:=gN 0) trD (λenv=>∃y,env=[y]) spD ws _ ⟨none,rfl⟩ ?_;rintro t ht env ⟨y,rfl⟩;exact⟨_,rfl,⟨_,rfl⟩,.c,by simp[trD,spD,aq],rfl⟩
theorem Jh(n h:Int)(l:List Tr):inB (.tup [.int n,.int h]) (.lst (l.map spD))=some (l.any (atT n h)):=by
 show wQ _ _=_;unfold wQ;have p1:(l.map spD).all (b0 10)=true:=by
  rw[GbG,Gan];intro t _
  rfl
 have p2:b0 10 (.tup [.int n,.int h])=true:=rfl;rw[p1,p2];show some ((l.map spD).any λy=>eqD y (.tup [.int n,.int h]))=_;rw[List.any_map];congr 2
 funext t
 show(decide (t.1=n)&&(decide (t.2.1=h)&&true))=_;unfold atT;rw[Gdb,<-Bool.decide_and]
variable{g:Int}{ws gv:List Tr}
theorem Ac(hl:ws.length<64):bC [hsD a wd (bkD ws gv),.int g,.int h]=some (.bl (ws.any (atT g h))):=by
 have f:=i8 (a:=a) (wd:=wd) (bk:=bkD ws gv);have ix:ixD (bkD ws gv) (.int 0)=some (.tup (ws.map trD)):=rfl;have sp:=Jg ws;have i:=Jh g h ws;have im:=aP ws;have is:aZ (ws.map spD)=true:=qY (λt=>by simp[spD]) ws;have z:(ws.map trD).length<=16777216:=by rw[Gaq];lia
 generalize hsD a wd (bkD ws gv)=o at*;generalize bkD ws gv=bk at*;generalize ws.map trD=R at*;generalize ws.map spD=S at*;have c0:DL.compEnv 1 [] [some (.sh o),some (.sh (.int g)),some (.sh (.int h))]=[none]:=rfl;refine bh rfl ?_;unfold cM;simp[-dD,aE,f,ix,aq,c0,z,sp,is,i]
theorem Lq(gs:List Tr)(n:Int):dD (gN 0) (bw eqB (ixE (vE 0) (kE (.int 0))) (vE 1)) (aQ (aa (ixE (vE 0) (kE (.int 1))) (aa (ixE (vE 0) (kE (.int 2))) ao))) (gs.map trD) [none,some (.sh (.int n))]=some ((gs.filter λt=>decide (t.1=n)).map λt=>D.tup [.int t.2.1,.int t.2.2]):=by
 refine oz (g:=gN 0) trD (λenv=>∃y,env=[y,some (.sh (.int n))]) (λt:Tr=>decide (t.1=n)) (λt=>D.tup [.int t.2.1,.int t.2.2]) gs _ ⟨none,rfl⟩ ?_;rintro t ht env ⟨y,rfl⟩;refine⟨[some (.sh (trD t)),some (.sh (.int n))],rfl,⟨_,rfl⟩, ?_,λ_=> ⟨.c, ?_, ?_⟩⟩
 .by_cases c:t.1=n<;>simp[trD,eqB,c]
 .simp[trD,aq]
 .rfl
theorem Gh{gs:List Tr}(hl:gs.length<64):mD [bkD ws gs,.int n]=some (.lst ((gs.filter λt=>decide (t.1=n)).map λt=>D.tup [.int t.2.1,.int t.2.2])):=by
 have hc:=Lq gs n;have ix:ixD (bkD ws gs) (.int 1)=some (.tup (gs.map trD)):=rfl;have im:=aP gs;have io:aZ ((gs.filter λt=>decide (t.1=n)).map λt=>D.tup [.int t.2.1,.int t.2.2])=true:=qY (λt=>by simp) _;have z:(gs.map trD).length<=16777216:=by rw[Gaq];lia
 generalize ((gs.filter λt=>decide (t.1=n)).map λt=>D.tup [.int t.2.1,.int t.2.2])=S at*;generalize bkD ws gs=bk at*;generalize gs.map trD=R at*;have c0:DL.compEnv 1 [1] [some (.sh bk),some (.sh (.int n))]=[none,some (.sh (.int n))]:=rfl;refine bh rfl ?_;unfold jC;simp[-dD,aE,ix,aq,c0,z,hc,io,D.oS]
noncomputable def amt(gs:List Tr)(o h:Int):Option Int:=(gs.find? (atT o h)).map (·.2.2)
noncomputable def Om:Option Int->D
 |none=> .non
 |some i=> .int i
theorem EZ(o h:Int):∀gs:List Tr,((gs.filter λt=>decide (t.1=o)).find? λt=>decide (t.2.1=h))=gs.find? (atT o h)
 |[]=>rfl
 |t::gs=>by
  have ih:=EZ o h gs;by_cases c:t.1=o
  .rw[Gbn (by simpa using c)];by_cases c2:t.2.1=h
   .rw[GcH (by simpa using c2),GcH (by simp[atT,c,c2])]
   .rw[Gcb (by simpa using c2),Gcb (by simp[atT,c2])];exact ih
  .rw[Gbm (by simpa using c),Gcb (by simp[atT,c])];exact ih
theorem F4{e0 e1:Os}{h:Int}:∀(l:List Tr) (x:Os),(∃y,forL (gN 3) bD (l.map λt=>D.tup [.int t.2.1,.int t.2.2]) [e0,e1,some (.sh (.int h)),x]=some (.nx [e0,e1,some (.sh (.int h)),y])/\l.find? (λt=>decide (t.2.1=h))=none)\/
  ∃t,l.find? (λt=>decide (t.2.1=h))=some t/\forL (gN 3) bD (l.map λt=>D.tup [.int t.2.1,.int t.2.2]) [e0,e1,some (.sh (.int h)),x]=some (.ret (.int t.2.2))
 |[],x=> .inl ⟨x,by simp,rfl⟩
 |t::l,x=>by
  by_cases c:t.2.1=h
  .refine .inr ⟨t,by rw[GcH (by simpa using c)], ?_⟩;have ev:bD [e0,e1,some (.sh (.int h)),some (.sh (.tup [.int t.2.1,.int t.2.2]))]=some (.ret (.int t.2.2)):=by
    unfold bD;simp[eqB,c]
   rw[Gap];simp only[forL,gN,GaL,GaM,Option.bind_some,ev]
  .have ev:bD [e0,e1,some (.sh (.int h)),some (.sh (.tup [.int t.2.1,.int t.2.2]))]=some (.nx [e0,e1,some (.sh (.int h)),some (.sh (.tup [.int t.2.1,.int t.2.2]))]):=by
    unfold bD;simp[eqB,c]
   rw[Gap,Gcb (by simpa using c)];simp only[forL,gN,GaL,GaM,Option.bind_some,ev];exact F4 l _
theorem nK(hl:gv.length<64):aH [hsD a wd (bkD ws gv),.int o,.int h]=some (Om (amt gv o h)):=by
 have f:=i8 (a:=a) (wd:=wd) (bk:=bkD ws gv);have sg:=Gh (ws:=ws) (gs:=gv) (n:=o) hl;have ib:=mG ws gv;have L:=F4 (e0:=some (.sh (hsD a wd (bkD ws gv)))) (e1:=some (.sh (.int o))) (h:=h) (gv.filter λt=>decide (t.1=o)) none;have z:((gv.filter λt=>decide (t.1=o)).map λt=>D.tup [.int t.2.1,.int t.2.2]).length<=16777216:=by
  rw[Gaq];have:=GaK (λt:Tr=>decide (t.1=o)) gv;lia
 rw[EZ] at L;unfold amt;generalize ((gv.filter λt=>decide (t.1=o)).map λt=>D.tup [.int t.2.1,.int t.2.2])=S at*;generalize hsD a wd (bkD ws gv)=ob at*;generalize bkD ws gv=bk at*;refine bh rfl ?_;unfold bJ;rcases L with⟨y,e,n⟩| ⟨t,n,e⟩
 .rw[n];refine(bf (e:=[some (.sh ob),some (.sh (.int o)),some (.sh (.int h)),y]) (by simp[-forL,aE,f,sg,ib,c5,D.top,e,freed])).trans ?_;simp[Om]
 .rw[n];refine uj ?_;simp[-forL,aE,f,sg,ib,c5,D.top,e,freed,Om]
noncomputable def fW(x:Str)(k:Int):D:= .tup [.str x,.int k,.int 0,.tup [.str "down",.int 1,.int 0,.int 9],.tup [.str "asked",.int 0],.tup []]
noncomputable def mH:D:= .tup [.str "stuff",.tup [.int 1,.int 5],.tup [],.int 0]
noncomputable def dG:D:= .tup [.tup [.str "guesta",.int 0],.tup [.str "guestb",.int 0],.tup [.str "guestc",.int 0]]
noncomputable def wdD:D:= .tup [dG,.tup [mH],.tup [],.tup [fW "ordera" 0,fW "orderb" 1]]
def GOk(t:Tr):Prop:=(t.1=0\/t.1=1)/\0<=t.2.1/\1<=t.2.2/\t.2.2<=9
theorem wd3(h:n=0\/n=1):∃x,atD [fW "ordera" 0,fW "orderb" 1] n=some (fW x n):=by
 rcases h with rfl|rfl
 .exact⟨_,rfl⟩
 .exact⟨_,rfl⟩
theorem Ji(x:Str)(k h:Int):qT [fW x k,.int h]=some .non:=by
 refine bh rfl ?_;unfold nG fW;simp[aE,eqB]
theorem Gi{x:Str}{k:Int}(h0:0<=h):vk [fW x k,.int h]=some (.bl false):=by
 have c:¬h<0:=by lia
 refine bh rfl ?_;unfold qU fW;simp[aE,eqB,c]
theorem Lr:iJ [mH]=some (.bl false):=by
 refine bh rfl ?_;unfold fP mH;simp[aE,DL.compEnv,anyS,one,oT,aq]
theorem Ls{W:D}{t:Tr}(iw:W.imm=true)(ok:GOk t):l0 [wdD,W,trD t]=some (.lst []):=by
 obtain⟨hn,h0,a1,a9⟩:=ok;obtain⟨x,hx⟩:=wd3 hn;have as:=Gi (x:=x) (k:=t.1) (h:=t.2.1) h0;have go:=Lr;have q1:¬t.2.2>9:=by lia
 have q2:¬t.2.2<1:=by lia
 have q3:¬t.2.1<0:=by lia
 have w3:ixD wdD (.int 3)=some (.tup [fW "ordera" 0,fW "orderb" 1]):=rfl;have w1:ixD wdD (.int 1)=some (.tup [mH]):=rfl;have w0:ixD wdD (.int 0)=some dG:=rfl;have o2:ixD (fW x t.1) (.int 2)=some (.int 0):=rfl;have o1:ixD (fW x t.1) (.int 1)=some (.int t.1):=rfl;have o3:ixD (fW x t.1) (.int 3)=some (.tup [.str "down",.int 1,.int 0,.int 9]):=rfl;have s1:ixD mH (.int 1)=some (.tup [.int 1,.int 5]):=rfl;have s3:ixD mH (.int 3)=some (.int 0):=rfl;have io:(fW x t.1).imm=true:=by simp[fW]
 have is:mH.imm=true:=by simp[mH]
 have g1:∃y,ixD dG (.int t.1)=some (.tup [.str y,.int 0]):=by
  rcases hn with e|e<;>rw[e]
  .exact⟨_,rfl⟩
  .exact⟨_,rfl⟩
 obtain⟨y,g1⟩:=g1;have Ui :ixD (.tup [fW "ordera" 0,fW "orderb" 1]) (.int t.1)=some (fW x t.1):=hx;have xI :ixD (.tup [mH]) (.int 0)=some mH:=rfl;generalize fW x t.1=od at*;generalize mH=sd at*;generalize dG=gd at*;generalize hO:D.tup [fW "ordera" 0,fW "orderb" 1]=os at*;generalize hS:D.tup [sd]=ss at*;generalize wdD=wd at*;have t0:ixD (trD t) (.int 0)=some (.int t.1):=rfl;have t1:ixD (trD t) (.int 1)=some (.int t.2.1):=rfl;have t2:ixD (trD t) (.int 2)=some (.int t.2.2):=rfl;have it:=oA t;generalize trD t=td at*;generalize t.1=n at*;generalize t.2.1=h at*;generalize t.2.2=a at*;refine bh rfl ?_;unfold iX;refine(bf (e:=[some (.sh wd),some (.sh W),some (.sh td),some (.sh (.int n)),none,none,none,none,none]) (by simp[aE,t0])).trans ?_;refine(bf (e:=[some (.sh wd),some (.sh W),some (.sh td),some (.sh (.int n)),some (.sh (.int h)),none,none,none,none]) (by simp[t1])).trans ?_;refine(bf (e:=[some (.sh wd),some (.sh W),some (.sh td),some (.sh (.int n)),some (.sh (.int h)),some (.sh (.int a)),none,none,none]) (by simp[t2])).trans ?_;refine(bf (e:=[some (.sh wd),some (.sh W),some (.sh td),some (.sh (.int n)),some (.sh (.int h)),some (.sh (.int a)),some (.sh od),none,none]) (by simp[w3,Ui])).trans ?_;refine(bf (e:=[some (.sh wd),some (.sh W),some (.sh td),some (.sh (.int n)),some (.sh (.int h)),some (.sh (.int a)),some (.sh od),some (.sh sd),none]) (by simp[w1,o2,xI])).trans ?_;refine(bf (e:=[some (.sh wd),some (.sh W),some (.sh td),some (.sh (.int n)),some (.sh (.int h)),some (.sh (.int a)),some (.sh od),some (.sh sd),some (.own (.lst []))]) (by simp[aq])).trans ?_;refine(bf (e:=[some (.sh wd),some (.sh W),some (.sh td),some (.sh (.int n)),some (.sh (.int h)),some (.sh (.int a)),some (.sh od),some (.sh sd),some (.own (.lst []))]) (by simp[as,io])).trans ?_;refine(bf (e:=[some (.sh wd),some (.sh W),some (.sh td),some (.sh (.int n)),some (.sh (.int h)),some (.sh (.int a)),some (.sh od),some (.sh sd),some (.own (.lst []))]) (by simp[o3];lia)).trans ?_;refine(bf (e:=[some (.sh wd),some (.sh W),some (.sh td),some (.sh (.int n)),some (.sh (.int h)),some (.sh (.int a)),some (.sh od),some (.sh sd),some (.own (.lst []))]) (by simp[s1,q2,neB,eqB])).trans ?_;refine(bf (e:=[some (.sh wd),some (.sh W),some (.sh td),some (.sh (.int n)),some (.sh (.int h)),some (.sh (.int a)),some (.sh od),some (.sh sd),some (.own (.lst []))]) (by simp[go,is])).trans ?_;refine(bf (e:=[some (.sh wd),some (.sh W),some (.sh td),some (.sh (.int n)),some (.sh (.int h)),some (.sh (.int a)),some (.sh od),some (.sh sd),some (.own (.lst []))]) (by simp[w0,o1,g1,s3];lia)).trans ?_;simp[DL.compEnv,aq,D.oS]
noncomputable def mk2(p:Int×Int):D:= .tup [.int p.1,.int p.2]
noncomputable def un2:D->Int×Int
 | .tup [.int a,.int b]=>(a,b)
 |_=>(0,0)
theorem R5(p:Int×Int):un2 (mk2 p)=p:=rfl
theorem Jj(l:List (Int×Int)):keysOk (l.map mk2)=true:=by
 have h1:(l.map mk2).all (pS 1)=true:=by
  rw[GbG,Gan];intro p _;simp[mk2,pS,tyD,pR]
 have h2:((l.map mk2).all λx=>(l.map mk2).all λy=>CD x y)=true:=by
  rw[GbG,Gan];intro p _;simp only[Function.comp_apply];rw[GbG,Gan];intro q _;simp[mk2,CD,wO,tyD,bG]
 unfold keysOk;rw[h1,h2];simp
theorem Oo{p q:Int×Int}(h:p.1<q.1):ltC (DL.code (mk2 p)) (DL.code (mk2 q))=true:=by
 have e:¬p.1=q.1:=by lia
 simp[mk2,DL.code,bG,ltC,iu,ltI,e,h]
theorem Jk(ms:List (Int×Int)):∃eG:List (Int×Int),jg (ms.map mk2)=eG.map mk2/\eG.Perm ms/\eG.Pairwise λa b=>a.1<=b.1:=by
 have hp:=jN (ms.map mk2);have hs:=jx (ms.map mk2);have all:∀x∈jg (ms.map mk2),∃p,x=mk2 p:=λx hx=>by
  obtain⟨p,_,e⟩:=GaY.mp (hp.mem_iff.mp hx);exact⟨p,e.symm⟩
 have e:jg (ms.map mk2)=((jg (ms.map mk2)).map un2).map mk2:=by
  rw[Gbz]
  conv=>lhs;rw[<-List.map_id (jg (ms.map mk2))]
  apply GbC;intro x hx;obtain⟨p,rfl⟩:=all x hx
  rfl
 refine⟨(jg (ms.map mk2)).map un2,e, ?_, ?_⟩
 .have:=List.Perm.map un2 hp;rw[Gbz] at this;have e2:ms.map (un2∘mk2)=ms:=by
   conv=>rhs;rw[<-List.map_id ms]
   exact GbC λp _=>R5 p
  rw[e2] at this;exact this
 .rw[e] at hs;unfold gR at hs;rw[List.pairwise_map] at hs;refine hs.imp λ{a b} h=> ?_;by_cases c:b.1<a.1
  .rw[Oo c] at h;cases h
  .lia
theorem Dh{ms:List (Int×Int)}(hl:ms.length<64):sortedS [.lst (ms.map mk2)]=some ⟨.tn,.lst (jg (ms.map mk2))⟩:=by
 have h1:((ms.map mk2).length<64):=by simpa using hl
 unfold sortedS one oT;simp only[Option.bind_some];rw[Jj,GaC h1];rfl
variable{y3 y4:Os}{B C O G:List D}
theorem Gj{kv:Rws}(ig:aZ G=true)(h:qB 3 cj G [some (.sh (.tup [.tup A,.tup B,.tup C,.tup O])),some (.sh (.tup G)),none,none,none] []=some ([some (.sh (.tup [.tup A,.tup B,.tup C,.tup O])),some (.sh (.tup G)),none,y3,y4],kv)):cY [.tup [.tup A,.tup B,.tup C,.tup O],.tup G]=some (.dT kv):=by
 refine bh rfl ?_;unfold cX;simp[-qB,aE,ig,h]
variable{y5 y6 y7 y8 y9 y11:Os}{W F:List D}
theorem F5{kv:Rws}{zu:Os}(hm:cY [.tup [.tup A,.tup B,.tup C,.tup O],.tup G]=some (.dT kv))
  (h:forL (gT [4,5]) dS (cA kv) [some (.sh (.tup [.tup A,.tup B,.tup C,.tup O])),some (.sh (.tup W)),some (.sh (.tup G)),some (.own (.lst [])),none,none,none,none,none,none,none,none]=some (.nx [some (.sh (.tup [.tup A,.tup B,.tup C,.tup O])),some (.sh (.tup W)),some (.sh (.tup G)),some (.own (.lst F)),y4,y5,y6,y7,y8,y9,zu,y11]))(im:aZ F=true):
  gY [.tup [.tup A,.tup B,.tup C,.tup O],.tup W,.tup G]=some (.lst F):=by
 have rk:c5 (.dT kv)=⟨.tn,.dT kv⟩:=rfl;refine bh rfl ?_;unfold jD;refine(bf (e:=[some (.sh (.tup [.tup A,.tup B,.tup C,.tup O])),some (.sh (.tup W)),some (.sh (.tup G)),some (.own (.lst [])),none,none,none,none,none,none,none,none]) (by simp[aE,aq])).trans ?_;refine(bf (e:=[some (.sh (.tup [.tup A,.tup B,.tup C,.tup O])),some (.sh (.tup W)),some (.sh (.tup G)),some (.own (.lst F)),y4,y5,y6,y7,y8,y9,zu,y11]) (by simp[-forL,hm,rk,h,freed])).trans ?_;simp[im]
variable{L:List D}{e0 e1 e2 e3 e5 e7 x8 x9:Os}
theorem Lu{k:Int}{e' :DL.Env}(hs:slD (some (k+1)) none (.lst R)=some ⟨.tn,.lst L⟩)(h:forL (gN 8) cT L [e0,e1,e2,e3,some (.lok (.lst R)),e5,some (.sh (.int k)),e7,x8,x9]=some (.nx e')):
  cU [e0,e1,e2,e3,some (.lok (.lst R)),e5,some (.sh (.int k)),e7,x8,x9]=some (.nx e'):=by
 unfold cU;simp[-forL,hs,h,freed]
theorem Jl(R:List D)(j:Nat):slD (some ((j:Int)+1)) none (.lst R)=some ⟨.tn,.lst (R.drop (j+1))⟩:=by
 show some (⟨.tn,.lst (cutD R (some ((j:Int)+1)) none)⟩:RV)=_;have e:sIx R.length 0 (some ((j:Int)+1))=min (j+1) R.length:=by
  show(if(j:Int)+1<0 then((j:Int)+1+(R.length:Int)).toNat else min ((j:Int)+1).toNat R.length)=_;rw[Gag (by lia)];congr 1
 unfold cutD;have e2:sIx R.length R.length none=R.length:=rfl;rw[e,e2];congr 3;rw[List.take_of_length_le (by rw[GcK];lia)];by_cases c:j+1<=R.length
 .rw[Nat.min_eq_left c]
 .rw[Nat.min_eq_right (by lia),GcL,GcI (by lia)]
theorem Lv{B' R' :List D}{zw:Int}(hg:fR [.tup C]=some (.dT kv))(zc:C.length<1000)(hw:dD (gN 0) gQ (ixE (vE 0) (kE (.int 2))) C [none]=some B')(hm:mmD Hq (.int 0) (.lst B')=some ⟨.c,.int zw⟩)(zg:G.length<1000)(hc:dD (gN 0) gQ (aQ (aa (ixE (vE 0) (kE (.int 1))) (aa (ixE (vE 0) (kE (.int 0))) ao))) G [none]=some R)(hs:sortedS [.lst R]=some ⟨.tn,.lst R'⟩)
  (hl:forL (gT [6,7]) cU (qA 0 R') [some (.sh (.tup [.tup A,.tup B,.tup C,.tup O])),some (.sh (.tup G)),some (.own (.dT kv)),some (.sh (.int zw)),some (.lok (.lst R')),some (.own (.lst [])),none,none,none,none]=some (.nx [some (.sh (.tup [.tup A,.tup B,.tup C,.tup O])),some (.sh (.tup G)),some (.own (.dT kv)),some (.sh (.int zw)),some (.lok (.lst R')),some (.own (.lst F)),y6,y7,y8,y9]))(im:aZ F=true):
  gZ [.tup [.tup A,.tup B,.tup C,.tup O],.tup G]=some (.lst F):=by
 have z1:C.length<=16777216:=by lia
 have z2:G.length<=16777216:=by lia
 have rk:c5 (.dT kv)=⟨.tn,.dT kv⟩:=rfl;refine bh rfl ?_;unfold jE;refine(bf (e:=[some (.sh (.tup [.tup A,.tup B,.tup C,.tup O])),some (.sh (.tup G)),some (.own (.dT kv)),none,none,none,none,none,none,none]) (by simp[aE,hg,rk])).trans ?_;refine(bf (e:=[some (.sh (.tup [.tup A,.tup B,.tup C,.tup O])),some (.sh (.tup G)),some (.own (.dT kv)),some (.sh (.int zw)),none,none,none,none,none,none]) (by simp[-dD,aq,DL.compEnv,mf,hw,hm,z1])).trans ?_;refine(bf (e:=[some (.sh (.tup [.tup A,.tup B,.tup C,.tup O])),some (.sh (.tup G)),some (.own (.dT kv)),some (.sh (.int zw)),some (.own (.lst R')),none,none,none,none,none]) (by simp[-dD,aq,DL.compEnv,mf,hc,hs,z2])).trans ?_;refine(bf (e:=[some (.sh (.tup [.tup A,.tup B,.tup C,.tup O])),some (.sh (.tup G)),some (.own (.dT kv)),some (.sh (.int zw)),some (.own (.lst R')),some (.own (.lst [])),none,none,none,none]) (by simp[aq])).trans ?_;refine(bf (e:=[some (.sh (.tup [.tup A,.tup B,.tup C,.tup O])),some (.sh (.tup G)),some (.own (.dT kv)),some (.sh (.int zw)),some (.own (.lst R')),some (.own (.lst F)),y6,y7,y8,y9]) (by simp[-forL,hl,freed])).trans ?_;simp[im]
theorem Jm(h1:forL (gN 3) cZ G [some (.sh wd),some (.sh (.tup G)),some (.own (.dT [])),none,none]=some (.nx [some (.sh wd),some (.sh (.tup G)),some (.own (.dT kv)),y3,y4]))(hz:(cA kv).length<=16777216)
  (hc:dD (gT [0,1]) (bw gtB (vE 1) (kE (.int 1))) (aQ (aa (kE (.str "twice")) (aa (ixE (vE 0) (kE (.int 0))) (aa (ixE (vE 0) (kE (.int 1))) ao)))) (cA kv) [none,none]=some R)(im:aZ R=true):fz [wd,.tup G]=some (.lst R):=by
 refine bh rfl ?_;unfold i4;refine(bf (e:=[some (.sh wd),some (.sh (.tup G)),some (.own (.dT [])),none,none]) (by simp[aE])).trans ?_;refine(bf (e:=[some (.sh wd),some (.sh (.tup G)),some (.own (.dT kv)),y3,y4]) (by simp[-forL,h1])).trans ?_;simp[-dD,aq,DL.compEnv,mf,hz,hc,im]
theorem vp{F0 F1 F2 F3:List D}(h0:F1++F2++F3=F0)(h1:gY [wd,.tup W,.tup G]=some (.lst F1))(h2:gZ [wd,.tup G]=some (.lst F2))(h3:fz [wd,.tup G]=some (.lst F3))(z:F1.length+F2.length+F3.length<100000)
  (hl:forL (gN 5) jb G [some (.sh wd),some (.sh (.tup [.tup W,.tup G])),some (.sh (.tup W)),some (.sh (.tup G)),some (.own (.lst F0)),none]=some (.nx [some (.sh wd),some (.sh (.tup [.tup W,.tup G])),some (.sh (.tup W)),some (.sh (.tup G)),some (.own (.lst F)),y5]))(hs:sortedS [.lst F]=some ⟨.tn,.lst R⟩)(iw:aZ W=true)(ig:aZ G=true)(ir:aZ R=true):
  dF [wd,.tup [.tup W,.tup G]]=some (.lst R):=by
 have r1:∀L:List D,c5 (.lst L)=⟨.tn,.lst L⟩:=λ_=>rfl;have z1:F1.length+F2.length<=16777216:=by lia
 have z2:F1.length+F2.length+F3.length<=16777216:=by lia
 refine bh rfl ?_;unfold qV;refine(bf (e:=[some (.sh wd),some (.sh (.tup [.tup W,.tup G])),some (.sh (.tup W)),none,none,none]) (by simp[aE,iw])).trans ?_;refine(bf (e:=[some (.sh wd),some (.sh (.tup [.tup W,.tup G])),some (.sh (.tup W)),some (.sh (.tup G)),none,none]) (by simp[ig])).trans ?_;refine(bf (e:=[some (.sh wd),some (.sh (.tup [.tup W,.tup G])),some (.sh (.tup W)),some (.sh (.tup G)),some (.own (.lst F0)),none]) (by rw[<-h0];simp[h1,h2,h3,r1,z1,z2,aq])).trans ?_;refine(bf (e:=[some (.sh wd),some (.sh (.tup [.tup W,.tup G])),some (.sh (.tup W)),some (.sh (.tup G)),some (.own (.lst F)),y5]) (by simp[-forL,hl,freed])).trans ?_;simp[hs,ir]
def MR(m:Nat)(eG:Rws):Prop:=eG.length<=m/\∀p∈eG,(∃n:Int,p.1=[Sum.inl n,Sum.inl 0])/\∃ds,p.2= .lst ds/\ds.length<=m
variable{eG:Rws}{m:Nat}
theorem Oq{d:D}(hm:m<64)(h:MR m eG):∃xB,Ht eG [Sum.inl n,Sum.inl 0] d=some xB /\MR (m+1) xB :=by
 obtain⟨hl,ha⟩:=h;have z:eG.length<16777216:=by lia
 unfold Ht;rw[Gaf (show eG.length<aq from z)];cases hf:eG.findIdx? (λp=>decide (p.1=([Sum.inl n,Sum.inl 0]:List Key))) with
 |none=>
  refine⟨_,rfl,by simp;lia,λp hp=> ?_⟩;rcases Gby.mp hp with q|q
  .obtain⟨a,ds,b,c⟩:=ha p q;exact⟨a,ds,b,by lia⟩
  .have:p=([Sum.inl n,Sum.inl 0],D.lst [d]):=by simpa using q
   rw[this];exact⟨⟨n,rfl⟩,[d],rfl,by simp⟩
 |some j=>
  have hj:j<eG.length:=(List.findIdx?_eq_some_iff_findIdx_eq.mp hf).1;obtain⟨a,ds,b,c⟩:=ha eG[j] (Gbd hj);have e:eG[j]? =some (eG[j].1,.lst ds):=by rw[GaF hj,<-b]
  have z2:ds.length<16777216:=by lia
  have z2:ds.length<aq:=z2;simp only[e,Gaf z2];refine⟨_,rfl,by simp;lia,λp hp=> ?_⟩;rcases List.mem_or_eq_of_mem_set hp with q|q
  .obtain⟨a,ds,b,c⟩:=ha p q;exact⟨a,ds,b,by lia⟩
  .rw[q];exact⟨⟨n,rfl⟩,_,rfl,by simp;lia⟩
theorem Lw{xB :Rws}{OD:D}{a s:Int}{x4:Os}(hO:atD O n=some OD)(im:OD.imm=true)(h1:ixD OD (.int 1)=some (.int g))(h2:ixD OD (.int 2)=some (.int s))(hs:Ht eG [Sum.inl g,Sum.inl s] (.tup [.int h,.int a])=some xB):
  cj [some (.sh (.tup [.tup A,.tup B,.tup C,.tup O])),some (.sh (.tup G)),none,some (.sh (.tup [.int n,.int h,.int a])),x4] eG=some ([some (.sh (.tup [.tup A,.tup B,.tup C,.tup O])),some (.sh (.tup G)),none,some (.sh (.tup [.int n,.int h,.int a])),some (.sh OD)],xB):=by
 unfold cj;simp[hO,im,h1,h2,hs,aq,keysOf,keyOf,E9]
noncomputable abbrev oD2:List D:=[fW "ordera" 0,fW "orderb" 1]
theorem Ad{A B C G:List D}:∀(gv:List Tr) (m:Nat) (eG:Rws) (x3 x4:Os),(∀t∈gv,GOk t)->MR m eG->m+gv.length<=64->∃y3 y4 xB,MR (m+gv.length) xB /\
  qB 3 cj (gv.map trD) [some (.sh (.tup [.tup A,.tup B,.tup C,.tup oD2])),some (.sh (.tup G)),none,x3,x4] eG=some ([some (.sh (.tup [.tup A,.tup B,.tup C,.tup oD2])),some (.sh (.tup G)),none,y3,y4],xB)
 |[],m,eG,x3,x4,_,I,_=> ⟨x3,x4,eG,I,by simp⟩
 |t::gv,m,eG,x3,x4,hg,I,hl=>by
  rw[Gaz] at hl;obtain⟨x,hx⟩:=wd3 (hg t Gav).1;obtain⟨r1,e1,I1⟩:=Oq (n:=t.1) (d:= .tup [.int t.2.1,.int t.2.2]) (by lia) I;have ev:=Lw (A:=A) (B:=B) (C:=C) (G:=G) (O:=oD2) (n:=t.1) (h:=t.2.1) (a:=t.2.2) (g:=t.1) (s:=0) (x4:=x4) hx (by simp[fW]) rfl rfl e1;obtain⟨y3,y4,r2,I2,e⟩:=Ad (A:=A) (B:=B) (C:=C) (G:=G) gv (m+1) r1 (some (.sh (trD t))) (some (.sh (fW x t.1))) (λx hx=>hg x (Gar _ hx)) I1 (by lia);refine⟨y3,y4,r2,by rw[Gaz,<-Nat.add_assoc,Nat.add_right_comm];exact I2, ?_⟩;rw[Gap];have td:D.tup [.int t.1,.int t.2.1,.int t.2.2]=trD t:=rfl;rw[td] at ev;generalize trD t=d at*;simp only[qB,GaL,GaM,ev,Option.bind_some];exact e
variable{e6 e8 e9 e11:Os}
theorem Ot{A' C' O' :D}{e10:Os}:dS [some (.sh (.tup [A',.tup [mH],C',O'])),e1,e2,e3,some (.sh (.tup [.int n,.int 0])),e5,e6,e7,e8,e9,e10,e11]=some (.nx [some (.sh (.tup [A',.tup [mH],C',O'])),e1,e2,e3,some (.sh (.tup [.int n,.int 0])),e5,some (.sh (.int n)),e7,e8,e9,e10,e11]):=by
 unfold dS mH;simp[freed]
theorem C0{A' C' O' :D}{e1 e2 e3:Os}{m:Nat}:∀(eG:Rws) (x4 x5 x6 x7 x8 x9 zV hJ:Os),MR m eG->∃y4 y5 y6 y7 y8 y9 zu y11,forL (gT [4,5]) dS (cA eG) [some (.sh (.tup [A',.tup [mH],C',O'])),e1,e2,e3,x4,x5,x6,x7,x8,x9,zV,hJ]=some (.nx [some (.sh (.tup [A',.tup [mH],C',O'])),e1,e2,e3,y4,y5,y6,y7,y8,y9,zu,y11])
 |[],x4,x5,x6,x7,x8,x9,zV,hJ,_=> ⟨x4,x5,x6,x7,x8,x9,zV,hJ,rfl⟩
 |p::eG,x4,x5,x6,x7,x8,x9,zV,hJ,h=>by
  obtain⟨⟨n,hn⟩,ds,hd,_⟩:=h.2 p Gav;have ev:=Ot (A' :=A') (C' :=C') (O' :=O') (e1:=e1) (e2:=e2) (e3:=e3) (e5:=some (.sh p.2)) (e6:=x6) (e7:=x7) (e8:=x8) (e9:=x9) (e10:=zV) (e11:=hJ) (n:=n);obtain⟨y4,y5,y6,y7,y8,y9,zu,y11,e⟩:=C0 (A' :=A') (C' :=C') (O' :=O') (e1:=e1) (e2:=e2) (e3:=e3) (m:=m) eG (some (.sh (.tup [.int n,.int 0]))) (some (.sh p.2)) (some (.sh (.int n))) x7 x8 x9 zV hJ ⟨by have:=h.1;rw[Gaz] at this;lia,λq hq=>h.2 q (Gar _ hq)⟩;refine⟨y4,y5,y6,y7,y8,y9,zu,y11, ?_⟩;have ei:cA (p::eG)=D.tup [.tup [.int n,.int 0],p.2]::cA eG:=by
   show D.tup [.tup (p.1.map Kg),p.2]::_=_;rw[hn];rfl
  rw[ei];generalize p.2=M at*;simp only[forL,gT,gNs,GaL,GaM,Option.bind_some,ev];exact e
theorem Ou(hg:∀t∈gv,GOk t)(hl:gv.length<64):gY [wdD,.tup W,.tup (gv.map trD)]=some (.lst []):=by
 obtain⟨y3,y4,eG,I,e⟩:=Ad (A:=[.tup [.str "guesta",.int 0],.tup [.str "guestb",.int 0],.tup [.str "guestc",.int 0]]) (B:=[mH]) (C:=[]) (G:=gv.map trD) gv 0 [] none none hg ⟨by simp,by simp⟩ (by lia);have hm:=Gj (aP gv) e;obtain⟨z4,z5,z6,z7,z8,z9,Wl,Wk,e2⟩:=C0 (A' :=dG) (C' := .tup []) (O' := .tup oD2) (e1:=some (.sh (.tup W))) (e2:=some (.sh (.tup (gv.map trD)))) (e3:=some (.own (.lst []))) eG none none none none none none none none I;exact F5 hm e2 rfl
variable{e4:Os}
theorem Lx{r l:Int×Int}(h:r.1<=l.1):forL (gN 8) cT (mk2 l::L) [e0,e1,e2,some (.sh (.int 0)),e4,e5,e6,some (.sh (mk2 r)),x8,x9]=some (.nx [e0,e1,e2,some (.sh (.int 0)),e4,e5,e6,some (.sh (mk2 r)),some (.sh (mk2 l)),some (.sh (.int (l.1 -r.1)))]):=by
 have q:l.1 -r.1>=0:=by lia
 have ev:cT [e0,e1,e2,some (.sh (.int 0)),e4,e5,e6,some (.sh (mk2 r)),some (.sh (mk2 l)),x9]=some (.bk [e0,e1,e2,some (.sh (.int 0)),e4,e5,e6,some (.sh (mk2 r)),some (.sh (mk2 l)),some (.sh (.int (l.1 -r.1)))]):=by
  unfold cT mk2;generalize hd:l.1 -r.1=d at*;simp[hd,q]
 simp only[forL,gN,GaL,GaM,Option.bind_some,ev]
theorem C1{e0 e1 e2 e5:Os}{eG:List (Int×Int)}(ho:eG.Pairwise λa b=>a.1<=b.1):∀(m j:Nat) (x6 x7 x8 x9:Os),eG.length -j=m->∃y6 y7 y8 y9,
  forL (gT [6,7]) cU (qA j ((eG.drop j).map mk2)) [e0,e1,e2,some (.sh (.int 0)),some (.lok (.lst (eG.map mk2))),e5,x6,x7,x8,x9]=some (.nx [e0,e1,e2,some (.sh (.int 0)),some (.lok (.lst (eG.map mk2))),e5,y6,y7,y8,y9])
 |0,j,x6,x7,x8,x9,hm=>by
  rw[GcI (by lia)];exact⟨x6,x7,x8,x9,by simp⟩
 |m+1,j,x6,x7,x8,x9,hm=>by
  have hj:j<eG.length:=by lia
  have ed:eG.drop j=eG[j]::eG.drop (j+1):=Gbx hj;have inn:∃y8 y9,forL (gN 8) cT ((eG.map mk2).drop (j+1)) [e0,e1,e2,some (.sh (.int 0)),some (.lok (.lst (eG.map mk2))),e5,some (.sh (.int (j:Int))),some (.sh (mk2 eG[j])),x8,x9]=some (.nx [e0,e1,e2,some (.sh (.int 0)),some (.lok (.lst (eG.map mk2))),e5,some (.sh (.int (j:Int))),some (.sh (mk2 eG[j])),y8,y9]):=by
   rw[<-List.map_drop];by_cases c:j+1<eG.length
   .rw[Gbx c,Gap];exact⟨_,_,Lx (List.pairwise_iff_getElem.mp ho j (j+1) hj c (by lia))⟩
   .rw[GcI (by lia)];exact⟨x8,x9,rfl⟩
  obtain⟨y8,y9,e⟩:=inn;have ev:=Lu (Jl (eG.map mk2) j) e;obtain⟨z6,z7,z8,z9,e2⟩:=C1 (e0:=e0) (e1:=e1) (e2:=e2) (e5:=e5) ho m (j+1) (some (.sh (.int (j:Int)))) (some (.sh (mk2 eG[j]))) y8 y9 (by lia);refine⟨z6,z7,z8,z9, ?_⟩;rw[ed,Gap];show forL (gT [6,7]) cU (D.tup [.int (j:Int),mk2 eG[j]]::qA (j+1) ((eG.drop (j+1)).map mk2)) _=_;generalize eG[j]=rj at*;generalize (j:Int)=ji at*;generalize mk2 rj=rd at*;simp only[forL,gT,gNs,GaL,GaM,Option.bind_some,ev];exact e2
theorem Jn:fR [.tup []]=some (.dT []):=by
 refine bh rfl ?_;unfold fQ;simp[aE]
theorem Jo(hl:gv.length<64):gZ [.tup [.tup A,.tup B,.tup [],.tup O],.tup (gv.map trD)]=some (.lst []):=by
 obtain⟨eG,r1,r2,r3⟩:=Jk (gv.map λt=>(t.2.1,t.1));have hc:=sJ (g:=gN 0) (f:=aQ (aa (ixE (vE 0) (kE (.int 1))) (aa (ixE (vE 0) (kE (.int 0))) ao))) trD (λenv=>∃y,env=[y]) (λt=>mk2 (t.2.1,t.1)) gv [none] ⟨none,rfl⟩ (by
  rintro t ht env ⟨y,rfl⟩;exact⟨_,rfl,⟨_,rfl⟩,.c,by simp[trD,mk2,aq],rfl⟩)
 have e1:gv.map (λt=>mk2 (t.2.1,t.1))=(gv.map λt=>(t.2.1,t.1)).map mk2:=by rw[Gbz];rfl
 rw[e1] at hc;have hs:=Dh (ms:=gv.map λt=>(t.2.1,t.1)) (by simp;exact hl);rw[r1] at hs;obtain⟨y6,y7,y8,y9,e⟩:=C1 (e0:=some (.sh (.tup [.tup A,.tup B,.tup [],.tup O]))) (e1:=some (.sh (.tup (gv.map trD)))) (e2:=some (.own (.dT []))) (e5:=some (.own (.lst []))) r3 _ 0 none none none none rfl;rw[List.drop_zero] at e;exact Lv Jn (by simp) (B' :=[]) (by simp) (by rfl) (by rw[Gaq];lia) hc hs e rfl
theorem F6{G:List D}:∀(gv:List Tr) (x3 x4:Os),(∀t∈gv,GOk t)->∃y3 y4,forL (gN 3) cZ (gv.map trD) [some (.sh wdD),some (.sh (.tup G)),some (.own (.dT [])),x3,x4]=some (.nx [some (.sh wdD),some (.sh (.tup G)),some (.own (.dT [])),y3,y4])
 |[],x3,x4,_=> ⟨x3,x4,rfl⟩
 |t::gv,x3,x4,h=>by
  obtain⟨x,hx⟩:=wd3 (h t Gav).1;have du:=Ji x t.1 t.2.1;have io:(fW x t.1).imm=true:=by simp[fW]
  have w3:ixD wdD (.int 3)=some (.tup oD2):=rfl;have Ui :ixD (.tup oD2) (.int t.1)=some (fW x t.1):=hx;have ev:cZ [some (.sh wdD),some (.sh (.tup G)),some (.own (.dT [])),some (.sh (trD t)),x4]=some (.nx [some (.sh wdD),some (.sh (.tup G)),some (.own (.dT [])),some (.sh (trD t)),some (.sh .non)]):=by
   have t0:ixD (trD t) (.int 0)=some (.int t.1):=rfl;have t1:ixD (trD t) (.int 1)=some (.int t.2.1):=rfl;generalize fW x t.1=od at*;generalize D.tup oD2=os at*;generalize wdD=wd at*;generalize trD t=td at*;unfold cZ;simp[w3,Ui,t0,t1,du,c5,D.top]
  obtain⟨y3,y4,e⟩:=F6 (G:=G) gv (some (.sh (trD t))) (some (.sh .non)) λx hx=>h x (Gar _ hx);refine⟨y3,y4, ?_⟩;rw[Gap];generalize trD t=td at*;simp only[forL,gN,GaL,GaM,Option.bind_some,ev];exact e
theorem Jp(hg:∀t∈gv,GOk t):fz [wdD,.tup (gv.map trD)]=some (.lst []):=by
 obtain⟨y3,y4,e⟩:=F6 (G:=gv.map trD) gv none none hg;exact Jm e (by simp[cA]) (by simp[cA]) rfl
theorem F7{W:List D}{e1 e3:Os}(iw:aZ W=true):∀(gv:List Tr) (x5:Os),(∀t∈gv,GOk t)->∃y5,forL (gN 5) jb (gv.map trD) [some (.sh wdD),e1,some (.sh (.tup W)),e3,some (.own (.lst [])),x5]=some (.nx [some (.sh wdD),e1,some (.sh (.tup W)),e3,some (.own (.lst [])),y5])
 |[],x5,_=> ⟨x5,rfl⟩
 |t::gv,x5,h=>by
  have lo:=Ls (W:= .tup W) (by simpa using iw) (h t Gav);have ev:jb [some (.sh wdD),e1,some (.sh (.tup W)),e3,some (.own (.lst [])),some (.sh (trD t))]=some (.nx [some (.sh wdD),e1,some (.sh (.tup W)),e3,some (.own (.lst [])),some (.sh (trD t))]):=by
   have it:=oA t;have r1:∀L:List D,c5 (.lst L)=⟨.tn,.lst L⟩:=λ_=>rfl;generalize trD t=td at*;generalize wdD=wd at*;unfold jb;simp[lo,r1]
  obtain⟨y5,e⟩:=F7 (e1:=e1) (e3:=e3) iw gv (some (.sh (trD t))) λx hx=>h x (Gar _ hx);refine⟨y5, ?_⟩;rw[Gap];generalize trD t=td at*;simp only[forL,gN,GaL,GaM,Option.bind_some,ev];exact e
theorem Gk(hg:∀t∈gv,GOk t)(hl:gv.length<64):dF [wdD,bkD ws gv]=some (.lst []):=by
 obtain⟨y5,e⟩:=F7 (e1:=some (.sh (bkD ws gv))) (e3:=some (.sh (.tup (gv.map trD)))) (aP ws) gv none hg;exact vp (F0:=[]) rfl (Ou hg hl) (Jo hl) (Jp hg) (by simp) e (by rfl) (aP ws) (aP gv) rfl
noncomputable abbrev wdB:D:= .tup [dG,.tup [],.tup [],.tup []]
theorem C2:dF [wdB,bkD ws []]=some (.lst []):=by
 have m:∀A:List D,cY [.tup [.tup A,.tup [],.tup [],.tup []],.tup []]=some (.dT []):=λA=>by
  refine bh rfl ?_;unfold cX;simp[aE]
 have h1:=F5 (W:=ws.map trD) (F:=[]) (y4:=none) (y5:=none) (y6:=none) (y7:=none) (y8:=none) (y9:=none) (zu:=none) (y11:=none) (m [.tup [.str "guesta",.int 0],.tup [.str "guestb",.int 0],.tup [.str "guestc",.int 0]]) rfl rfl;have h3:=Jm (wd:=wdB) (G:=[]) (R:=[]) (kv:=[]) (y3:=none) (y4:=none) rfl (by simp[cA]) rfl rfl;exact vp (F0:=[]) (F:=[]) (R:=[]) (y5:=none) rfl h1 (Jo (gv:=[]) (by simp)) h3 (by simp) rfl rfl (aP ws) rfl rfl
theorem Ly(ts:List Tr):pls (ts.map trD)=true:=by
 induction ts with
 |nil=>rfl
 |cons t ts ih=>rw[Gap];simp[pls,ih,D.pl,trD]
theorem Lz(ts:List Tr):nds (ts.map trD)=true:=by
 induction ts with
 |nil=>rfl
 |cons t ts ih=>rw[Gap];simp[nds,ih,D.nd,trD]
theorem Jq(a:Nat)(ns:List Str)(es:List D)(ts:List Tr):subs a ns es (ts.map trD)=ts.map trD:=by
 induction ts with
 |nil=>rfl
 |cons t ts ih=>rw[Gap];simp[subs,ih,D.sub,trD]
structure Rest(d:D):Prop where
 im:d.imm=true
 pl:d.pl=true
 nd:d.nd=true
 sb:∀a ns es,d.sub a ns es=d
theorem aF(ws gv:List Tr):Rest (bkD ws gv) where
 im:=mG ws gv
 pl:=by simp[bkD,D.pl,pls,Ly]
 nd:=by simp[bkD,D.nd,nds,Lz]
 sb a ns es:=by simp[bkD,D.sub,subs,Jq]
theorem gx:Rest wdD:=⟨by simp[wdD,dG,mH,fW],rfl,rfl,λa ns es=>by simp[wdD,dG,mH,fW,D.sub,subs]⟩
theorem B4:Rest wdB:=⟨by simp[dG],rfl,rfl,λa ns es=>by simp[dG,D.sub,subs]⟩
theorem nL(i:Int):Rest (.int i):=⟨rfl,rfl,rfl,λ_ _ _=>rfl⟩
theorem Jr:Rest .non:=⟨rfl,rfl,rfl,λ_ _ _=>rfl⟩
variable{xC :D}
theorem q9{bk:D}{R:D->D->Prop}{E:Nat->Str->D->D->Prop}(ro:Rest wd)(rb:Rest bk)(rc:Rest xC)(hf:dF [wd,xC]=some (.lst []))(h:R .non (hsD a wd xC)):df [hsD a wd bk,xC] R E:=by
 have r1:∀L:List D,c5 (.lst L)=⟨.tn,.lst L⟩:=λ_=>rfl;refine⟨rfl, ?_⟩;show c9 [a] (aE 3 [hsD a wd bk,xC]) _;unfold c9;simp[aE,L4,List.lookup,hf,r1,ndE,Slot.d,D.nd,nds,ro.nd,rb.nd,rc.nd,ro.pl,rb.pl,rc.pl,pls,kn,cq,Slot.sub,D.sub,subs,rc.sb,ni,gtB];exact⟨_,_,⟨rfl,rfl⟩,by simp[pls,ro.pl,rc.pl],h⟩
theorem ck{bk:D}{k:D->Prop}(ro:Rest wd)(rb:Rest bk)(h:k (hsD a wd bk)):∃ns es,(fN=ns/\[wd,bk]=es)/\pls es=true/\k (.obj a 380 ns es):=⟨_,_,⟨rfl,rfl⟩,by simp[pls,ro.pl,rb.pl],h⟩
variable{w:Int}
theorem Gm{bk:D}{R:D->D->Prop}{E:Nat->Str->D->D->Prop}(ro:Rest wd)(rb:Rest bk)(hi:bC [hsD a wd bk,.int g,.int h]=some (.bl true))(hE:E 127 "entry" (.tup [.int g,.int h]) (hsD a wd bk)):gk [hsD a wd bk,.int g,.int h,.int w] R E:=by
 refine⟨rfl, ?_⟩;show dm [a] (aE 4 [hsD a wd bk,.int g,.int h,.int w]) _;have hm:dR 380 "is_weighed" (hsD a wd bk)=true:=cR rfl rfl;unfold dm;simp[aE,hm,hi,c5,D.top,aq,gf,fm];exact ck ro rb hE
theorem Gn{bk:D}{R:D->D->Prop}{E:Nat->Str->D->D->Prop}(ro:Rest wd)(rb:Rest bk)(rc:Rest xC)(hw:iW [bk,.int g,.int h,.int w]=some xC)(hf:dF [wd,xC]=some (.lst []))(hi:bC [hsD a wd bk,.int g,.int h]=some (.bl false))(hR:R .non (hsD a wd xC)):gk [hsD a wd bk,.int g,.int h,.int w] R E:=by
 refine⟨rfl, ?_⟩;show dm [a] (aE 4 [hsD a wd bk,.int g,.int h,.int w]) _;have hm:dR 380 "is_weighed" (hsD a wd bk)=true:=cR rfl rfl;have hk:dR 380 "keep" (hsD a wd bk)=true:=cR rfl rfl;have fk:=i8 (a:=a) (wd:=wd) (bk:=bk);have rv:=bU rc.im;unfold dm;simp[aE,hm,hi,hk,fk,c5,D.top,aq,gf,fm,ndE,Slot.d,D.nd,nds,ro.nd,rb.nd,hw];refine q9 ro rb rc hf ?_;simp[pls,ro.pl,rc.pl,cq,Slot.sub,D.sub];exact ck ro rc hR
theorem C3{bk:D}{R:D->D->Prop}{E:Nat->Str->D->D->Prop}(ro:Rest wd)(rb:Rest bk)(hi:bC [hsD a wd bk,.int g,.int h]=some (.bl false))(hE:E 146 "entry" (.tup [.int g,.int h]) (hsD a wd bk)):dU [hsD a wd bk,.int g,.int h] R E:=by
 refine⟨rfl, ?_⟩;show cv [a] (aE 3 [hsD a wd bk,.int g,.int h]) _;have hm:dR 380 "is_weighed" (hsD a wd bk)=true:=cR rfl rfl;unfold cv;simp[aE,hm,hi,c5,D.top,aq,gf,fm];exact ck ro rb hE
theorem C4{bk:D}{R:D->D->Prop}{E:Nat->Str->D->D->Prop}(ro:Rest wd)(rb:Rest bk)(rc:Rest xC)(hw:fM [bk,.int g,.int h]=some xC)(hf:dF [wd,xC]=some (.lst []))(hi:bC [hsD a wd bk,.int g,.int h]=some (.bl true))(hR:R .non (hsD a wd xC)):dU [hsD a wd bk,.int g,.int h] R E:=by
 refine⟨rfl, ?_⟩;show cv [a] (aE 3 [hsD a wd bk,.int g,.int h]) _;have hm:dR 380 "is_weighed" (hsD a wd bk)=true:=cR rfl rfl;have hk:dR 380 "keep" (hsD a wd bk)=true:=cR rfl rfl;have fk:=i8 (a:=a) (wd:=wd) (bk:=bk);have rv:=bU rc.im;unfold cv;simp[aE,hm,hi,hk,fk,c5,D.top,aq,gf,fm,ndE,Slot.d,D.nd,nds,ro.nd,rb.nd,hw];refine q9 ro rb rc hf ?_;simp[pls,ro.pl,rc.pl,cq,Slot.sub,D.sub];exact ck ro rc hR
variable{v:Int}
theorem Js{bk:D}{R:D->D->Prop}{E:Nat->Str->D->D->Prop}(ro:Rest wd)(rb:Rest bk)(hi:aH [hsD a wd bk,.int g,.int h]=some (.int v))(hE:E 127 "entry" (.tup [.int g,.int h]) (hsD a wd bk)):i5 [hsD a wd bk,.int g,.int h,.int w] R E:=by
 refine⟨rfl, ?_⟩;show dO [a] (aE 4 [hsD a wd bk,.int g,.int h,.int w]) _;have hm:dR 380 "amount_at" (hsD a wd bk)=true:=cR rfl rfl;unfold dO;simp[aE,hm,hi,c5,D.top,aq,gf,fm];exact ck ro rb hE
theorem Jt{bk:D}{R:D->D->Prop}{E:Nat->Str->D->D->Prop}(ro:Rest wd)(rb:Rest bk)(rc:Rest xC)(hw:cF [bk,.int g,.int h,.int w]=some xC)(hf:dF [wd,xC]=some (.lst []))(hi:aH [hsD a wd bk,.int g,.int h]=some (.non))(hR:R .non (hsD a wd xC)):i5 [hsD a wd bk,.int g,.int h,.int w] R E:=by
 refine⟨rfl, ?_⟩;show dO [a] (aE 4 [hsD a wd bk,.int g,.int h,.int w]) _;have hm:dR 380 "amount_at" (hsD a wd bk)=true:=cR rfl rfl;have hk:dR 380 "keep" (hsD a wd bk)=true:=cR rfl rfl;have fk:=i8 (a:=a) (wd:=wd) (bk:=bk);have rv:=bU rc.im;unfold dO;simp[aE,hm,hi,hk,fk,c5,D.top,aq,gf,fm,ndE,Slot.d,D.nd,nds,ro.nd,rb.nd,hw];refine q9 ro rb rc hf ?_;simp[pls,ro.pl,rc.pl,cq,Slot.sub,D.sub];exact ck ro rc hR
theorem Di{bk:D}{R:D->D->Prop}{E:Nat->Str->D->D->Prop}(ro:Rest wd)(rb:Rest bk)(hi:aH [hsD a wd bk,.int g,.int h]=some (.non))(hE:E 146 "entry" (.tup [.int g,.int h]) (hsD a wd bk)):fB [hsD a wd bk,.int g,.int h] R E:=by
 refine⟨rfl, ?_⟩;show cN [a] (aE 3 [hsD a wd bk,.int g,.int h]) _;have hm:dR 380 "amount_at" (hsD a wd bk)=true:=cR rfl rfl;unfold cN;simp[aE,hm,hi,c5,D.top,aq,gf,fm];exact ck ro rb hE
theorem Dj{bk:D}{R:D->D->Prop}{E:Nat->Str->D->D->Prop}(ro:Rest wd)(rb:Rest bk)(rc:Rest xC)(hw:bP [bk,.int g,.int h]=some xC)(hf:dF [wd,xC]=some (.lst []))(hi:aH [hsD a wd bk,.int g,.int h]=some (.int v))(hR:R .non (hsD a wd xC)):fB [hsD a wd bk,.int g,.int h] R E:=by
 refine⟨rfl, ?_⟩;show cN [a] (aE 3 [hsD a wd bk,.int g,.int h]) _;have hm:dR 380 "amount_at" (hsD a wd bk)=true:=cR rfl rfl;have hk:dR 380 "keep" (hsD a wd bk)=true:=cR rfl rfl;have fk:=i8 (a:=a) (wd:=wd) (bk:=bk);have rv:=bU rc.im;unfold cN;simp[aE,hm,hi,hk,fk,c5,D.top,aq,gf,fm,ndE,Slot.d,D.nd,nds,ro.nd,rb.nd,hw];refine q9 ro rb rc hf ?_;simp[pls,ro.pl,rc.pl,cq,Slot.sub,D.sub];exact ck ro rc hR
theorem Gp{bk:D}{R:D->D->Prop}{E:Nat->Str->D->D->Prop}(ro:Rest wd)(rb:Rest bk)(hi:aH [hsD a wd bk,.int g,.int h]=some (.non))(hE:E 146 "entry" (.tup [.int g,.int h]) (hsD a wd bk)):gm [hsD a wd bk,.int g,.int h,.int w] R E:=by
 refine⟨rfl, ?_⟩;show dq [a] (aE 4 [hsD a wd bk,.int g,.int h,.int w]) _;have hm:dR 380 "amount_at" (hsD a wd bk)=true:=cR rfl rfl;unfold dq;simp[aE,hm,hi,c5,D.top,aq,gf,fm];exact ck ro rb hE
variable{bm:D}
theorem Gq{bk:D}{R:D->D->Prop}{E:Nat->Str->D->D->Prop}(ro:Rest wd)(rb:Rest bk)(rc:Rest xC)(hq:bP [bk,.int g,.int h]=some bm)(hw:cF [bm,.int g,.int h,.int w]=some xC)(hf:dF [wd,xC]=some (.lst []))(hi:aH [hsD a wd bk,.int g,.int h]=some (.int v))(hR:R .non (hsD a wd xC)):gm [hsD a wd bk,.int g,.int h,.int w] R E:=by
 refine⟨rfl, ?_⟩;show dq [a] (aE 4 [hsD a wd bk,.int g,.int h,.int w]) _;have hm:dR 380 "amount_at" (hsD a wd bk)=true:=cR rfl rfl;have hk:dR 380 "keep" (hsD a wd bk)=true:=cR rfl rfl;have fk:=i8 (a:=a) (wd:=wd) (bk:=bk);have rv:=bU rc.im;unfold dq;simp[aE,hm,hi,hk,fk,c5,D.top,aq,gf,fm,ndE,Slot.d,D.nd,nds,ro.nd,rb.nd,hq,hw];refine q9 ro rb rc hf ?_;simp[pls,ro.pl,rc.pl,cq,Slot.sub,D.sub];exact ck ro rc hR
theorem Ju{bk:D}{R:D->D->Prop}{E:Nat->Str->D->D->Prop}(ro:Rest wd)(rb:Rest bk)(hi:aH [hsD a wd bk,.int g,.int h]=some .non)(hE:E 146 "entry" (.tup [.int g,.int h]) (hsD a wd bk)):fS [hsD a wd bk,.int g,.int h,.int w] R E:=by
 refine⟨rfl, ?_⟩;show cC [a] (aE 5 [hsD a wd bk,.int g,.int h,.int w]) _;have hm:dR 380 "amount_at" (hsD a wd bk)=true:=cR rfl rfl;unfold cC;simp[aE,hm,hi,c5,D.top,aq,gf,fm];exact ck ro rb hE
theorem Jv{bk:D}{u:Int}{R:D->D->Prop}{E:Nat->Str->D->D->Prop}(ro:Rest wd)(rb:Rest bk)(hi:aH [hsD a wd bk,.int g,.int h]=some (.int v))(hn:¬w=h)(hj:aH [hsD a wd bk,.int g,.int w]=some (.int u))(hE:E 127 "entry" (.tup [.int g,.int w]) (hsD a wd bk)):fS [hsD a wd bk,.int g,.int h,.int w] R E:=by
 refine⟨rfl, ?_⟩;show cC [a] (aE 5 [hsD a wd bk,.int g,.int h,.int w]) _;have hm:dR 380 "amount_at" (hsD a wd bk)=true:=cR rfl rfl;unfold cC;simp[aE,hm,hi,hj,hn,c5,D.top,aq,gf,fm,neB];exact ck ro rb hE
theorem Jw{bk:D}{R:D->D->Prop}{E:Nat->Str->D->D->Prop}(ro:Rest wd)(rb:Rest bk)(rc:Rest xC)(hq:bP [bk,.int g,.int h]=some bm)(hw:cF [bm,.int g,.int w,.int v]=some xC)(hf:dF [wd,xC]=some (.lst []))(hi:aH [hsD a wd bk,.int g,.int h]=some (.int v))(hj:w=h\/aH [hsD a wd bk,.int g,.int w]=some .non)(hR:R .non (hsD a wd xC)):fS [hsD a wd bk,.int g,.int h,.int w] R E:=by
 refine⟨rfl, ?_⟩;show cC [a] (aE 5 [hsD a wd bk,.int g,.int h,.int w]) _;have hm:dR 380 "amount_at" (hsD a wd bk)=true:=cR rfl rfl;have hk:dR 380 "keep" (hsD a wd bk)=true:=cR rfl rfl;have fk:=i8 (a:=a) (wd:=wd) (bk:=bk);unfold cC;rcases hj with hj|hj
 .subst hj;simp[aE,hm,hi,hk,fk,c5,D.top,aq,gf,fm,neB,ndE,Slot.d,D.nd,nds,ro.nd,rb.nd,hq,hw];refine q9 ro rb rc hf ?_;simp[pls,ro.pl,rc.pl,cq,Slot.sub,D.sub];exact ck ro rc hR
 .by_cases hn:w=h
  .subst hn;rw[hi] at hj;cases hj
  simp[aE,hm,hi,hj,hn,hk,fk,c5,D.top,aq,gf,fm,neB,ndE,Slot.d,D.nd,nds,ro.nd,rb.nd,hq,hw];refine q9 ro rb rc hf ?_;simp[pls,ro.pl,rc.pl,cq,Slot.sub,D.sub];exact ck ro rc hR
inductive Wd where
 |weigh|unweigh|give|strike|amend|move
inductive Res where
 |done (ws gv:List Tr)
 |twice (x y:Int)
 |noent (x y:Int)
noncomputable def nxt(ws gv:List Tr)(x y z:Int):Wd->Res
 | .weigh=>if ws.any (atT x y)=true then .twice x y else .done (b7 (ws++[(x,y,z)])) gv
 | .unweigh=>if ws.any (atT x y)=true then .done (ws.filter (nk x y)) gv else .noent x y
 | .give=>if gv.any (atT x y)=true then .twice x y else .done ws (b7 (gv++[(x,y,z)]))
 | .strike=>if gv.any (atT x y)=true then .done ws (gv.filter (nk x y)) else .noent x y
 | .amend=>if gv.any (atT x y)=true then .done ws (b7 (gv.filter (nk x y)++[(x,y,z)])) else .noent x y
 | .move=>if gv.any (atT x y)=true then if¬z=y/\gv.any (atT x z)=true then .twice x z else .done ws (b7 (gv.filter (nk x y)++[(x,z,(amt gv x y).getD 0)])) else .noent x y
def mI(a:Nat)(wd:D)(ws gv:List Tr)(R:D->D->Prop)(E:Nat->Str->D->D->Prop):Res->Prop
 | .done xo xF =>R .non (hsD a wd (bkD xo xF))
 | .twice x y=>E 127 "entry" (.tup [.int x,.int y]) (hsD a wd (bkD ws gv))
 | .noent x y=>E 146 "entry" (.tup [.int x,.int y]) (hsD a wd (bkD ws gv))
theorem mI.mono{R R' :D->D->Prop}{E E' :Nat->Str->D->D->Prop}(hR:∀ws gv,R .non (hsD a wd (bkD ws gv))->R' .non (hsD a wd (bkD ws gv)))(hE:∀X x y,E X "entry" (.tup [.int x,.int y]) (hsD a wd (bkD ws gv))->E' X "entry" (.tup [.int x,.int y]) (hsD a wd (bkD ws gv))):∀{r:Res},mI a wd ws gv R E r->mI a wd ws gv R' E' r
 | .done _ _,h=>hR _ _ h
 | .twice _ _,h=>hE _ _ _ h
 | .noent _ _,h=>hE _ _ _ h
theorem fh(gv:List Tr)(x y:Int):(gv.any (atT x y)=true/\∃v,amt gv x y=some v)\/(gv.any (atT x y)=false/\amt gv x y=none):=by
 unfold amt;cases h:gv.find? (atT x y) with
 |none=>
  refine .inr ⟨?_,rfl⟩;rw[GbK];exact List.find?_eq_none.mp h
 |some t=>
  refine .inl ⟨?_,_,rfl⟩;rw[GcM];exact⟨t,List.mem_of_find?_eq_some h,List.find?_some h⟩
structure HOk(wd:D)(ws gv:List Tr)(r:Res):Prop where
 ro:Rest wd
 lw:ws.length<63
 lg:gv.length<63
 nf:∀xo xF,r= .done xo xF ->dF [wd,bkD xo xF]=some (.lst [])
section
variable{a:Nat}{wd:D}{ws gv:List Tr}{x y z:Int}{R:D->D->Prop}{E:Nat->Str->D->D->Prop}
theorem LA(H:HOk wd ws gv (nxt ws gv x y z .weigh))(h:mI a wd ws gv R E (nxt ws gv x y z .weigh)):gk [hsD a wd (bkD ws gv),.int x,.int y,.int z] R E:=by
 have hi:=Ac (a:=a) (wd:=wd) (ws:=ws) (gv:=gv) (g:=x) (h:=y) (by have:=H.lw;lia);obtain⟨ro,lw,lg,nf⟩:=H;cases c:ws.any (atT x y)<;>simp only[nxt,c,GaZ,GaW,Gax] at h nf<;>rw[c] at hi
 .exact Gn ro (aF _ _) (aF _ _) (Sx (aP _) (aP _) (aP _) (B3 (r:=(x,y,z)) lw)) (nf _ _ rfl) hi h
 .exact Gm ro (aF _ _) hi h
theorem Gr(H:HOk wd ws gv (nxt ws gv x y z .unweigh))(h:mI a wd ws gv R E (nxt ws gv x y z .unweigh)):dU [hsD a wd (bkD ws gv),.int x,.int y] R E:=by
 have hi:=Ac (a:=a) (wd:=wd) (ws:=ws) (gv:=gv) (g:=x) (h:=y) (by have:=H.lw;lia);obtain⟨ro,lw,lg,nf⟩:=H;cases c:ws.any (atT x y)<;>simp only[nxt,c,GaZ,GaW,Gax] at h nf<;>rw[c] at hi
 .exact C3 ro (aF _ _) hi h
 .exact C4 ro (aF _ _) (aF _ _) (Sy (aP _) (aP _) (aP _) (EY (by lia))) (nf _ _ rfl) hi h
theorem Ov(H:HOk wd ws gv (nxt ws gv x y z .give))(h:mI a wd ws gv R E (nxt ws gv x y z .give)):i5 [hsD a wd (bkD ws gv),.int x,.int y,.int z] R E:=by
 have hi:=nK (a:=a) (wd:=wd) (ws:=ws) (gv:=gv) (o:=x) (h:=y) (by have:=H.lg;lia);obtain⟨ro,lw,lg,nf⟩:=H;rcases fh gv x y with⟨c,v,e⟩| ⟨c,e⟩<;>simp only[nxt,c,GaZ,GaW,Gax] at h nf<;>rw[e] at hi
 .exact Js ro (aF _ _) hi h
 .exact Jt ro (aF _ _) (aF _ _) (Oj (aP _) (aP _) (aP _) (B3 (r:=(x,y,z)) lg)) (nf _ _ rfl) hi h
theorem Jx(H:HOk wd ws gv (nxt ws gv x y z .strike))(h:mI a wd ws gv R E (nxt ws gv x y z .strike)):fB [hsD a wd (bkD ws gv),.int x,.int y] R E:=by
 have hi:=nK (a:=a) (wd:=wd) (ws:=ws) (gv:=gv) (o:=x) (h:=y) (by have:=H.lg;lia);obtain⟨ro,lw,lg,nf⟩:=H;rcases fh gv x y with⟨c,v,e⟩| ⟨c,e⟩<;>simp only[nxt,c,GaZ,GaW,Gax] at h nf<;>rw[e] at hi
 .exact Dj ro (aF _ _) (aF _ _) (Ol (aP _) (aP _) (aP _) (EY (by lia))) (nf _ _ rfl) hi h
 .exact Di ro (aF _ _) hi h
theorem LB(H:HOk wd ws gv (nxt ws gv x y z .amend))(h:mI a wd ws gv R E (nxt ws gv x y z .amend)):gm [hsD a wd (bkD ws gv),.int x,.int y,.int z] R E:=by
 have hi:=nK (a:=a) (wd:=wd) (ws:=ws) (gv:=gv) (o:=x) (h:=y) (by have:=H.lg;lia);obtain⟨ro,lw,lg,nf⟩:=H;have lf:=GaK (nk x y) gv;rcases fh gv x y with⟨c,v,e⟩| ⟨c,e⟩<;>simp only[nxt,c,GaZ,GaW,Gax] at h nf<;>rw[e] at hi
 .exact Gq ro (aF _ _) (aF _ _) (Ol (aP _) (aP _) (aP _) (EY (by lia))) (Oj (aP _) (aP _) (aP _) (B3 (r:=(x,y,z)) (by lia))) (nf _ _ rfl) hi h
 .exact Gp ro (aF _ _) hi h
theorem Ox(H:HOk wd ws gv (nxt ws gv x y z .move))(h:mI a wd ws gv R E (nxt ws gv x y z .move)):fS [hsD a wd (bkD ws gv),.int x,.int y,.int z] R E:=by
 have hi:=nK (a:=a) (wd:=wd) (ws:=ws) (gv:=gv) (o:=x) (h:=y) (by have:=H.lg;lia);have hj:=nK (a:=a) (wd:=wd) (ws:=ws) (gv:=gv) (o:=x) (h:=z) (by have:=H.lg;lia);obtain⟨ro,lw,lg,nf⟩:=H;have lf:=GaK (nk x y) gv;rcases fh gv x y with⟨c,v,e⟩| ⟨c,e⟩<;>simp only[nxt,c,GaZ,GaW,Gax] at h nf<;>rw[e] at hi
 .rw[e] at h nf;by_cases d:¬z=y/\gv.any (atT x z)=true
  .rw[Gaf d] at h;rcases fh gv x z with⟨c2,u,e2⟩| ⟨c2,e2⟩
   .rw[e2] at hj;exact Jv ro (aF _ _) hi d.1 hj h
   .rw[c2] at d;cases d.2
  .rw[Gag d] at h nf;refine Jw ro (aF _ _) (aF _ _) (Ol (aP _) (aP _) (aP _) (EY (by lia))) (Oj (aP _) (aP _) (aP _) (B3 (r:=(x,z,v)) (by lia))) (nf _ _ rfl) hi ?_ h;by_cases q:z=y
   .exact .inl q
   .rcases fh gv x z with⟨c2,u,e2⟩| ⟨c2,e2⟩
    .exact absurd ⟨q,c2⟩ d
    .rw[e2] at hj;exact .inr hj
 .exact Ju ro (aF _ _) hi h
end
noncomputable def wdS:Wd->Str
 | .weigh=>"weigh"
 | .unweigh=>"unweigh"
 | .give=>"give"
 | .strike=>"strike"
 | .amend=>"amend"
 | .move=>"move"
noncomputable def bg(k:Wd)(x y z:Int):D:= .tup [.str (wdS k),.int x,.int y,.int z]
section
variable{a:Nat}{wd:D}{ws gv:List Tr}{x y z:Int}{R:D->D->Prop}{E:Nat->Str->D->D->Prop}
theorem Oy{k:Wd}(H:HOk wd ws gv (nxt ws gv x y z k))(h:mI a wd ws gv R E (nxt ws gv x y z k)):mF [hsD a wd (bkD ws gv),bg k x y z] R E:=by
 have ro:=H.ro;have rb:=aF ws gv;refine⟨rfl, ?_⟩;show jW [a] (aE 2 [hsD a wd (bkD ws gv),bg k x y z]) _;have m1:dR 380 "weigh" (hsD a wd (bkD ws gv))=true:=cR rfl rfl;have m2:dR 380 "unweigh" (hsD a wd (bkD ws gv))=true:=cR rfl rfl;have m3:dR 380 "give" (hsD a wd (bkD ws gv))=true:=cR rfl rfl;have m4:dR 380 "strike" (hsD a wd (bkD ws gv))=true:=cR rfl rfl;have m5:dR 380 "amend" (hsD a wd (bkD ws gv))=true:=cR rfl rfl;have m6:dR 380 "move" (hsD a wd (bkD ws gv))=true:=cR rfl rfl;have d0:ixD (bg k x y z) (.int 0)=some (.str (wdS k)):=rfl;have d1:ixD (bg k x y z) (.int 1)=some (.int x):=rfl;have d2:ixD (bg k x y z) (.int 2)=some (.int y):=rfl;have d3:ixD (bg k x y z) (.int 3)=some (.int z):=rfl;have dn:(bg k x y z).nd=true:=by simp[bg,D.nd,nds]
 generalize bg k x y z=dd at*;unfold jW;cases k
 .simp[aE,d0,d1,d2,d3,wdS,eqB,m1,ndE,Slot.d,D.nd,nds,ro.nd,rb.nd,dn];refine LA H (mI.mono (λxo xF q=> ?_) (λX u v q=> ?_) h)
  all_goals simp[pls,ro.pl,rb.pl,(aF _ _).pl,cq,Slot.sub,D.sub];exact ck ro (aF _ _) q
 .simp[aE,d0,d1,d2,d3,wdS,eqB,m2,ndE,Slot.d,D.nd,nds,ro.nd,rb.nd,dn];refine Gr H (mI.mono (λxo xF q=> ?_) (λX u v q=> ?_) h)
  all_goals simp[pls,ro.pl,rb.pl,(aF _ _).pl,cq,Slot.sub,D.sub];exact ck ro (aF _ _) q
 .simp[aE,d0,d1,d2,d3,wdS,eqB,m3,ndE,Slot.d,D.nd,nds,ro.nd,rb.nd,dn];refine Ov H (mI.mono (λxo xF q=> ?_) (λX u v q=> ?_) h)
  all_goals simp[pls,ro.pl,rb.pl,(aF _ _).pl,cq,Slot.sub,D.sub];exact ck ro (aF _ _) q
 .simp[aE,d0,d1,d2,d3,wdS,eqB,m4,ndE,Slot.d,D.nd,nds,ro.nd,rb.nd,dn];refine Jx H (mI.mono (λxo xF q=> ?_) (λX u v q=> ?_) h)
  all_goals simp[pls,ro.pl,rb.pl,(aF _ _).pl,cq,Slot.sub,D.sub];exact ck ro (aF _ _) q
 .simp[aE,d0,d1,d2,d3,wdS,eqB,m5,ndE,Slot.d,D.nd,nds,ro.nd,rb.nd,dn];refine LB H (mI.mono (λxo xF q=> ?_) (λX u v q=> ?_) h)
  all_goals simp[pls,ro.pl,rb.pl,(aF _ _).pl,cq,Slot.sub,D.sub];exact ck ro (aF _ _) q
 .simp[aE,d0,d1,d2,d3,wdS,eqB,m6,ndE,Slot.d,D.nd,nds,ro.nd,rb.nd,dn];refine Ox H (mI.mono (λxo xF q=> ?_) (λX u v q=> ?_) h)
  all_goals simp[pls,ro.pl,rb.pl,(aF _ _).pl,cq,Slot.sub,D.sub];exact ck ro (aF _ _) q
end
noncomputable def oZ:Res->D
 | .done _ _=> .tup [.str "done",.non]
 | .twice x y=> .tup [.str "twice",.tup [.int x,.int y]]
 | .noent x y=> .tup [.str "noentry",.tup [.int x,.int y]]
noncomputable def C5(ws:List Tr):Res->List Tr
 | .done xo _=>xo
 |_=>ws
noncomputable def vq(gv:List Tr):Res->List Tr
 | .done _ xF =>xF
 |_=>gv
section
variable{a:Nat}{wd:D}{ws gv:List Tr}{x y z:Int}{R:D->D->Prop}{E:Nat->Str->D->D->Prop}
noncomputable def Dk:Res->D
 | .done _ _=> .non
 | .twice x y=> .exc 127 "entry" (.tup [.int x,.int y])
 | .noent x y=> .exc 146 "entry" (.tup [.int x,.int y])
theorem Dl{k:Wd}{T:DS}(H:HOk wd ws gv (nxt ws gv x y z k))(hT:∀s dd:Os,T [s,dd,some (.sh (Dk (nxt ws gv x y z k))),some (.sh .non),none,none,none]=some (.ret (oZ (nxt ws gv x y z k))))
  (h:R (oZ (nxt ws gv x y z k)) (hsD a wd (bkD (C5 ws (nxt ws gv x y z k)) (vq gv (nxt ws gv x y z k))))):tV 7 2 (cQ (bH (bI 2 (kE .non))) (cQ (bH (bI 3 (kE .non))) (cQ (O6 mF (aa (vE 0) (aa (vE 1) ao)) 3 [127,146] 2 4) (bH T)))) [hsD a wd (bkD ws gv),bg k x y z] R E:=by
 have ro:=H.ro;have rb:=aF ws gv;have dn:(bg k x y z).nd=true:=by simp[bg,D.nd,nds]
 have ds:∀a ns es,(bg k x y z).sub a ns es=bg k x y z:=λa ns es=>by simp[bg,D.sub,subs]
 have C:=λR E=>Oy (a:=a) (R:=R) (E:=E) H;generalize bg k x y z=dd at*;simp[aE,ndE,Slot.d,D.nd,nds,ro.nd,rb.nd,dn];refine C _ _ ?_;generalize nxt ws gv x y z k=r at*;cases r with
 |done xo xF =>
  simp only[Dk] at hT;simp[mI,pls,ro.pl,(aF _ _).pl,cq,Slot.sub,D.sub,ds,hT];exact ck ro (aF _ _) h
 |twice u v=>
  simp only[Dk] at hT;simp[mI,pls,ro.pl,(aF _ _).pl,cq,Slot.sub,D.sub,ds,hT];exact ck ro (aF _ _) h
 |noent u v=>
  simp only[Dk] at hT;simp[mI,pls,ro.pl,(aF _ _).pl,cq,Slot.sub,D.sub,ds,hT];exact ck ro (aF _ _) h
theorem Jy{k:Wd}(H:HOk wd ws gv (nxt ws gv x y z k))(h:R (oZ (nxt ws gv x y z k)) (hsD a wd (bkD (C5 ws (nxt ws gv x y z k)) (vq gv (nxt ws gv x y z k))))):jY [hsD a wd (bkD ws gv),bg k x y z] R E:=by
 unfold jY jX;refine Dl H (λs dd=> ?_) h;generalize nxt ws gv x y z k=r at*;cases r with
 |done xo xF =>exact uj (by simp[Dk,gf,gc,aq,oZ])
 |twice u v=>
  simp only[Dk];refine(bf (e:=[s,dd,some (.sh (.exc 127 "entry" (.tup [.int u,.int v]))),some (.sh .non),none,none,none]) (by simp[gf,gc])).trans ?_;refine(bf (e:=[s,dd,some (.sh (.exc 127 "entry" (.tup [.int u,.int v]))),some (.sh .non),none,none,none]) (by simp[gf,gc])).trans ?_;refine(bf (e:=[s,dd,some (.sh (.exc 127 "entry" (.tup [.int u,.int v]))),some (.sh .non),none,some (.own (.lst [.bl true,.bl false,.bl false])),none]) (by simp[D5,List.lookup,aq])).trans ?_;refine(bf (e:=[s,dd,some (.sh (.exc 127 "entry" (.tup [.int u,.int v]))),some (.sh .non),none,some (.own (.lst [.bl true,.bl false,.bl false])),some (.sh (.bl false))]) (by simp[D5,List.lookup])).trans ?_;refine(bf (e:=[s,dd,some (.sh (.exc 127 "entry" (.tup [.int u,.int v]))),some (.sh .non),none,some (.own (.lst [.bl true,.bl false,.bl false])),some (.sh (.bl false))]) (by simp[D5,List.lookup,O9,neB])).trans ?_;exact uj (by simp[O5,aq,oZ])
 |noent u v=>
  simp only[Dk];refine(bf (e:=[s,dd,some (.sh (.exc 146 "entry" (.tup [.int u,.int v]))),some (.sh .non),none,none,none]) (by simp[gf,gc])).trans ?_;refine(bf (e:=[s,dd,some (.sh (.exc 146 "entry" (.tup [.int u,.int v]))),some (.sh .non),none,none,none]) (by simp[gf,gc])).trans ?_;refine(bf (e:=[s,dd,some (.sh (.exc 146 "entry" (.tup [.int u,.int v]))),some (.sh .non),none,some (.own (.lst [.bl false,.bl true,.bl false])),none]) (by simp[D5,List.lookup,aq])).trans ?_;refine(bf (e:=[s,dd,some (.sh (.exc 146 "entry" (.tup [.int u,.int v]))),some (.sh .non),none,some (.own (.lst [.bl false,.bl true,.bl false])),some (.sh (.bl false))]) (by simp[D5,List.lookup])).trans ?_;refine(bf (e:=[s,dd,some (.sh (.exc 146 "entry" (.tup [.int u,.int v]))),some (.sh .non),none,some (.own (.lst [.bl false,.bl true,.bl false])),some (.sh (.bl false))]) (by simp[D5,List.lookup,O9,neB])).trans ?_;refine(bf (e:=[s,dd,some (.sh (.exc 146 "entry" (.tup [.int u,.int v]))),some (.sh .non),none,some (.own (.lst [.bl false,.bl true,.bl false])),some (.sh (.bl false))]) (by simp)).trans ?_;exact uj (by simp[O5,aq,oZ])
end
def Dst(ts:List Tr):Prop:=(ts.map λt=>(t.1,t.2.1)).Nodup
theorem Dst.F8{pre:List Tr}{t:Tr}{l:List Tr}(h:Dst (pre++t::l)):pre.any (atT t.1 t.2.1)=false:=by
 rw[GbK];intro s hs c;unfold Dst at h;rw[Gbf,List.nodup_append] at h;have c' :=GaI c;exact h.2.2 _ (GaY.mpr ⟨s,hs,rfl⟩) _ (GaY.mpr ⟨t,Gav,rfl⟩) (by rw[c'.1,c'.2])
theorem oB{ts:List Tr}{x y z:Int}(h:ts.any (atT x y)=false):DL.put (kvT ts) [Sum.inl x,Sum.inl y] (.int z)=kvT (ts++[(x,y,z)]):=by
 rw[Dg];unfold Oi;rw[h];rfl
theorem Ms{e0 e1 e3 e5 e6 e7:Os}:∀(ws pre:List Tr) (x4:Os),ko (some x4)=false->Dst (pre++ws)->pre.length+ws.length<1000->∃y4,ko (some y4)=false/\forL (gN 4) gn (ws.map trD) [e0,e1,some (.own (.dT (kvT pre))),e3,x4,e5,e6,e7]=some (.nx [e0,e1,some (.own (.dT (kvT (pre++ws)))),e3,y4,e5,e6,e7])
 |[],pre,x4,h4,_,_=> ⟨x4,h4,by rw[GaV];rfl⟩
 |t::ws,pre,x4,h4,hd,hl=>by
  rw[Gaz] at hl;have pn:=oB (z:=t.2.2) hd.F8;have z:(kvT pre).length<16777216:=by unfold kvT;rw[Gaq];lia
  have ev:gn [e0,e1,some (.own (.dT (kvT pre))),e3,some (.sh (trD t)),e5,e6,e7]=some (.nx [e0,e1,some (.own (.dT (kvT (pre++[t])))),e3,some (.sh (trD t)),e5,e6,e7]):=by
   have t0:ixD (trD t) (.int 0)=some (.int t.1):=rfl;have t1:ixD (trD t) (.int 1)=some (.int t.2.1):=rfl;have t2:ixD (trD t) (.int 2)=some (.int t.2.2):=rfl;generalize kvT pre=A at*;generalize trD t=td at*;unfold gn;simp[t0,t1,t2,aq,putD,z,pn,RV.free]
  obtain⟨y4,h,e⟩:=Ms (e0:=e0) (e1:=e1) (e3:=e3) (e5:=e5) (e6:=e6) (e7:=e7) ws (pre++[t]) (some (.sh (trD t))) rfl (by rw[Gcf];exact hd) (by simp;lia);refine⟨y4,h, ?_⟩;rw[Gcf] at e;rw[Gap];generalize trD t=td at*;simp only[forL,gN,GaL,GaM,Option.bind_some,ev];exact e
theorem Mt{e0 e1 e3 e5 e6 e7:Os}:∀(ws pre:List Tr) (x4:Os),ko (some x4)=false->Dst (pre++ws)->pre.length+ws.length<1000->∃y4,ko (some y4)=false/\forL (gN 4) gp (ws.map trD) [e0,e1,e3,some (.own (.dT (kvT pre))),x4,e5,e6,e7]=some (.nx [e0,e1,e3,some (.own (.dT (kvT (pre++ws)))),y4,e5,e6,e7])
 |[],pre,x4,h4,_,_=> ⟨x4,h4,by rw[GaV];rfl⟩
 |t::ws,pre,x4,h4,hd,hl=>by
  rw[Gaz] at hl;have pn:=oB (z:=t.2.2) hd.F8;have z:(kvT pre).length<16777216:=by unfold kvT;rw[Gaq];lia
  have ev:gp [e0,e1,e3,some (.own (.dT (kvT pre))),some (.sh (trD t)),e5,e6,e7]=some (.nx [e0,e1,e3,some (.own (.dT (kvT (pre++[t])))),some (.sh (trD t)),e5,e6,e7]):=by
   have t0:ixD (trD t) (.int 0)=some (.int t.1):=rfl;have t1:ixD (trD t) (.int 1)=some (.int t.2.1):=rfl;have t2:ixD (trD t) (.int 2)=some (.int t.2.2):=rfl;generalize kvT pre=A at*;generalize trD t=td at*;unfold gp;simp[t0,t1,t2,aq,putD,z,pn,RV.free]
  obtain⟨y4,h,e⟩:=Mt (e0:=e0) (e1:=e1) (e3:=e3) (e5:=e5) (e6:=e6) (e7:=e7) ws (pre++[t]) (some (.sh (trD t))) rfl (by rw[Gcf];exact hd) (by simp;lia);refine⟨y4,h, ?_⟩;rw[Gcf] at e;rw[Gap];generalize trD t=td at*;simp only[forL,gN,GaL,GaM,Option.bind_some,ev];exact e
theorem iL{T:DS}{dd d:D}(dw:Dst ws)(dg:Dst gv)(lw:ws.length<64)(lg:gv.length<64)(hT:∀y4,ko (some y4)=false->T [some (.sh (bkD ws gv)),some (.sh dd),some (.own (.dT (kvT ws))),some (.own (.dT (kvT gv))),y4,none,none,none]=some (.ret d)):
  fj 8 2 (b9 (bI 2 (pQ)) (b9 (bI 3 (pQ)) (b9 (iD none (jd (ixE (vE 0) (kE (.int 0)))) (gN 4) gn) (b9 (iD none (jd (ixE (vE 0) (kE (.int 1)))) (gN 4) gp) T)))) [bkD ws gv,dd]=some d:=by
 obtain⟨y4,h4,e1⟩:=Ms (e0:=some (.sh (bkD ws gv))) (e1:=some (.sh dd)) (e3:=some (.own (.dT []))) (e5:=none) (e6:=none) (e7:=none) ws [] none rfl (by simpa using dw) (by simp;lia);obtain⟨z4,k4,e2⟩:=Mt (e0:=some (.sh (bkD ws gv))) (e1:=some (.sh dd)) (e3:=some (.own (.dT (kvT ws)))) (e5:=none) (e6:=none) (e7:=none) gv [] y4 h4 (by simpa using dg) (by simp;lia);have x0:ixD (bkD ws gv) (.int 0)=some (.tup (ws.map trD)):=rfl;have x1:ixD (bkD ws gv) (.int 1)=some (.tup (gv.map trD)):=rfl;have k0:kvT []=[]:=rfl;rw[List.nil_append,k0] at e1 e2;have h:=hT z4 k4;generalize bkD ws gv=bk at*;refine bh rfl ?_;refine(bf (e:=[some (.sh bk),some (.sh dd),some (.own (.dT [])),none,none,none,none,none]) (by simp[aE])).trans ?_;refine(bf (e:=[some (.sh bk),some (.sh dd),some (.own (.dT [])),some (.own (.dT [])),none,none,none,none]) (by simp)).trans ?_;refine(bf (e:=[some (.sh bk),some (.sh dd),some (.own (.dT (kvT ws))),some (.own (.dT [])),y4,none,none,none]) (by simp[-forL,x0,e1,freed])).trans ?_;refine(bf (e:=[some (.sh bk),some (.sh dd),some (.own (.dT (kvT ws))),some (.own (.dT (kvT gv))),z4,none,none,none]) (by simp[-forL,x1,e2,freed])).trans h
theorem ka(ts:List Tr)(x y:Int):look (kvT ts) [Sum.inl x,Sum.inl y]=(amt ts x y).map D.int:=by
 rw[Jb];unfold amt;rw[Option.map_map]
 rfl
theorem Mu(x y:Int)(t:Tr):nk x y t= !atT x y t:=by
 unfold nk atT;by_cases c1:t.1=x<;>by_cases c2:t.2.1=y<;>simp[c1,c2]
theorem qZ(ts:List Tr)(x y:Int):((kvT ts).filter λkv=> !decide (kv.1=([Sum.inl x,Sum.inl y]:List Key)))=kvT (ts.filter (nk x y)):=by
 unfold kvT;rw[List.filter_map];congr 2
 funext t
 show(!decide (([Sum.inl t.1,Sum.inl t.2.1]:List Key)=[Sum.inl x,Sum.inl y]))=_;rw[uk,Mu]
theorem um(ts:List Tr)(x y:Int):(ts.filter (nk x y)).any (atT x y)=false:=by
 rw[GbK];intro t ht c;have h:=(GbV.mp ht).2;rw[Mu,c] at h;cases h
variable{x y z:Int}
theorem C6(h:z=y\/ts.any (atT x z)=false):(ts.filter (nk x y)).any (atT x z)=false:=by
 rcases h with rfl|h
 .exact um ts x z
 .rw[GbK] at h⊢
  exactλt ht=>h t (GbV.mp ht).1
theorem mJ(ts:List Tr):pls ((kvT ts).map λx=>x.snd)=true:=by
 unfold kvT;rw[Gbz];induction ts with
 |nil=>rfl
 |cons t ts ih=>rw[Gap];simp only[pls,ih];rfl
theorem oC(h:b7 ts=ts)(p:Tr->Bool):b7 (ts.filter p)=ts.filter p:=by
 rw[<-w6,h]
variable{x2 x3 x5:Os}{c:D}
theorem dA{a b:D}(h4:ko (some y4)=false):kD [5,2,3] [some (.sh a),some (.sh b),x2,x3,y4,x5,some (.sh c),none]=true/\kD [5,3,2] [some (.sh a),some (.sh b),x2,x3,y4,x5,some (.sh c),none]=true:=by
 have e:List.range 8=[0,1,2,3,4,5,6,7]:=rfl;have t:∀a,ko (some (some (.sh a)))=false:=λ_=>rfl;have n:ko (some none)=false:=rfl;simp[kD,e,h4,t,n]
theorem kI{a b:D}(h4:ko (some y4)=false):kD [3,2] [some (.sh a),some (.sh b),x2,x3,y4,none,none,none]=true:=by
 have e:List.range 8=[0,1,2,3,4,5,6,7]:=rfl;have t:∀a,ko (some (some (.sh a)))=false:=λ_=>rfl;have n:ko (some none)=false:=rfl;simp[kD,e,h4,t,n]
theorem kJ{a b d:D}(h4:ko (some y4)=false):kD [5,2,3] [some (.sh a),some (.sh b),x2,x3,y4,x5,some (.sh c),some (.sh d)]=true/\kD [5,3,2] [some (.sh a),some (.sh b),x2,x3,y4,x5,some (.sh c),some (.sh d)]=true:=by
 have e:List.range 8=[0,1,2,3,4,5,6,7]:=rfl;have t:∀a,ko (some (some (.sh a)))=false:=λ_=>rfl;simp[kD,e,h4,t]
theorem qa(ts:List Tr):c5 (.tup (ts.map trD))=⟨.c,.tup (ts.map trD)⟩:=bU (aP ts)
theorem r6(h:ts.length<63):(kvT ts).length<16777216:=by unfold kvT;rw[Gaq];lia
noncomputable def dW:Res->D
 | .done ws gv=> .tup [.str "done",bkD ws gv]
 | .twice x y=> .tup [.str "twice",.tup [.int x,.int y]]
 | .noent x y=> .tup [.str "noentry",.tup [.int x,.int y]]
section
variable{ws gv:List Tr}{x y z:Int}
theorem LC(dw:Dst ws)(dg:Dst gv)(lw:ws.length<63)(lg:gv.length<63)(sw:b7 ws=ws)(sg:b7 gv=gv):bM [bkD ws gv,bg .weigh x y z]=some (dW (nxt ws gv x y z .weigh)):=by
 unfold bM dP;refine iL dw dg (by lia) (by lia) λy4 h4=> ?_;have la:=ka ws x y;have pb:=jf (ts:=gv) (by lia);have lf:=GaK (nk x y) ws;rw[sg] at pb;rcases fh ws x y with⟨c,v,e⟩| ⟨c,e⟩<;>rw[e] at la<;>simp only[nxt,c,GaZ,GaW,Gax]
 .simp[(dA h4).1,(dA h4).2,kI h4,bg,wdS,eqB,neB,oN,lbB,aq,la,dW]
 .have pp:=jf (ts:=ws++[(x,y,z)]) (by simp;lia);simp[(dA h4).1,(dA h4).2,kI h4,bg,wdS,eqB,neB,oN,lbB,aq,la,dW,(kJ h4).1,(kJ h4).2,bkD,mJ,D.pl,pb,pp,qa,aP,r6 lw,oB c]
theorem Gs(dw:Dst ws)(dg:Dst gv)(lw:ws.length<63)(lg:gv.length<63)(sw:b7 ws=ws)(sg:b7 gv=gv):bM [bkD ws gv,bg .unweigh x y z]=some (dW (nxt ws gv x y z .unweigh)):=by
 unfold bM dP;refine iL dw dg (by lia) (by lia) λy4 h4=> ?_;have la:=ka ws x y;have pb:=jf (ts:=gv) (by lia);have lf:=GaK (nk x y) ws;rw[sg] at pb;rcases fh ws x y with⟨c,v,e⟩| ⟨c,e⟩<;>rw[e] at la<;>simp only[nxt,c,GaZ,GaW,Gax]
 .have pp:=jf (ts:=ws.filter (nk x y)) (by lia);rw[oC sw] at pp;simp[(dA h4).1,(dA h4).2,kI h4,bg,wdS,eqB,neB,oN,lbB,aq,la,dW,(kJ h4).1,(kJ h4).2,bkD,mJ,D.pl,pb,pp,qa,aP,qZ]
 .simp[(dA h4).1,(dA h4).2,kI h4,bg,wdS,eqB,neB,oN,lbB,aq,la,dW]
theorem Oz(dw:Dst ws)(dg:Dst gv)(lw:ws.length<63)(lg:gv.length<63)(sw:b7 ws=ws)(sg:b7 gv=gv):bM [bkD ws gv,bg .give x y z]=some (dW (nxt ws gv x y z .give)):=by
 unfold bM dP;refine iL dw dg (by lia) (by lia) λy4 h4=> ?_;have la:=ka gv x y;have pb:=jf (ts:=ws) (by lia);have lf:=GaK (nk x y) gv;rw[sw] at pb;rcases fh gv x y with⟨c,v,e⟩| ⟨c,e⟩<;>rw[e] at la<;>simp only[nxt,c,GaZ,GaW,Gax]
 .simp[(dA h4).1,(dA h4).2,kI h4,bg,wdS,eqB,neB,oN,lbB,aq,la,dW]
 .have pp:=jf (ts:=gv++[(x,y,z)]) (by simp;lia);simp[(dA h4).1,(dA h4).2,kI h4,bg,wdS,eqB,neB,oN,lbB,aq,la,dW,(kJ h4).1,(kJ h4).2,bkD,mJ,D.pl,pb,pp,qa,aP,r6 lg,oB c]
theorem Jz(dw:Dst ws)(dg:Dst gv)(lw:ws.length<63)(lg:gv.length<63)(sw:b7 ws=ws)(sg:b7 gv=gv):bM [bkD ws gv,bg .strike x y z]=some (dW (nxt ws gv x y z .strike)):=by
 unfold bM dP;refine iL dw dg (by lia) (by lia) λy4 h4=> ?_;have la:=ka gv x y;have pb:=jf (ts:=ws) (by lia);have lf:=GaK (nk x y) gv;rw[sw] at pb;rcases fh gv x y with⟨c,v,e⟩| ⟨c,e⟩<;>rw[e] at la<;>simp only[nxt,c,GaZ,GaW,Gax]
 .have pp:=jf (ts:=gv.filter (nk x y)) (by lia);rw[oC sg] at pp;simp[(dA h4).1,(dA h4).2,kI h4,bg,wdS,eqB,neB,oN,lbB,aq,la,dW,(kJ h4).1,(kJ h4).2,bkD,mJ,D.pl,pb,pp,qa,aP,qZ]
 .simp[(dA h4).1,(dA h4).2,kI h4,bg,wdS,eqB,neB,oN,lbB,aq,la,dW]
theorem LD(dw:Dst ws)(dg:Dst gv)(lw:ws.length<63)(lg:gv.length<63)(sw:b7 ws=ws)(sg:b7 gv=gv):bM [bkD ws gv,bg .amend x y z]=some (dW (nxt ws gv x y z .amend)):=by
 unfold bM dP;refine iL dw dg (by lia) (by lia) λy4 h4=> ?_;have la:=ka gv x y;have pb:=jf (ts:=ws) (by lia);have lf:=GaK (nk x y) gv;rw[sw] at pb;rcases fh gv x y with⟨c,v,e⟩| ⟨c,e⟩<;>rw[e] at la<;>simp only[nxt,c,GaZ,GaW,Gax]
 .have pp:=jf (ts:=gv.filter (nk x y)++[(x,y,z)]) (by rw[Gbb,Gcj];lia);have l2:(gv.filter (nk x y)).length<63:=by lia
  simp[(dA h4).1,(dA h4).2,kI h4,bg,wdS,eqB,neB,oN,lbB,aq,la,dW,(kJ h4).1,(kJ h4).2,bkD,mJ,D.pl,pb,pp,qa,aP,qZ,r6 l2,oB (um gv x y)]
 .simp[(dA h4).1,(dA h4).2,kI h4,bg,wdS,eqB,neB,oN,lbB,aq,la,dW]
theorem OA(dw:Dst ws)(dg:Dst gv)(lw:ws.length<63)(lg:gv.length<63)(sw:b7 ws=ws)(sg:b7 gv=gv):bM [bkD ws gv,bg .move x y z]=some (dW (nxt ws gv x y z .move)):=by
 unfold bM dP;refine iL dw dg (by lia) (by lia) λy4 h4=> ?_;have la:=ka gv x y;have pb:=jf (ts:=ws) (by lia);have lf:=GaK (nk x y) gv;rw[sw] at pb;rcases fh gv x y with⟨c,v,e⟩| ⟨c,e⟩<;>rw[e] at la<;>simp only[nxt,c,GaZ,GaW,Gax]
 .rw[e];have lb:=ka gv x z;have l2:(gv.filter (nk x y)).length<63:=by lia
  have pp:=jf (ts:=gv.filter (nk x y)++[(x,z,v)]) (by rw[Gbb,Gcj];lia);have pn:= @oB (gv.filter (nk x y)) x z v;by_cases q:z=y
  .rw[Gag λd=>d.1 q];subst q;simp[(dA h4).1,(dA h4).2,kI h4,bg,wdS,eqB,neB,oN,lbB,aq,la,dW,(kJ h4).1,(kJ h4).2,bkD,mJ,D.pl,pb,pp,qa,aP,qZ,r6 l2,pn (um _ _ _)]
  .rcases fh gv x z with⟨c2,u,e2⟩| ⟨c2,e2⟩<;>rw[e2] at lb
   .rw[Gaf ⟨q,c2⟩];simp[(dA h4).1,(dA h4).2,kI h4,bg,wdS,eqB,neB,oN,lbB,aq,la,dW,lb,q]
   .rw[Gag λd=>by rw[c2] at d;cases d.2];simp[(dA h4).1,(dA h4).2,kI h4,bg,wdS,eqB,neB,oN,lbB,aq,la,dW,(kJ h4).1,(kJ h4).2,bkD,mJ,D.pl,pb,pp,qa,aP,qZ,r6 l2,pn (C6 (.inr c2)),lb,q]
 .simp[(dA h4).1,(dA h4).2,kI h4,bg,wdS,eqB,neB,oN,lbB,aq,la,dW]
theorem OB{k:Wd}(dw:Dst ws)(dg:Dst gv)(lw:ws.length<63)(lg:gv.length<63)(sw:b7 ws=ws)(sg:b7 gv=gv):bM [bkD ws gv,bg k x y z]=some (dW (nxt ws gv x y z k)):=by
 cases k
 .exact LC dw dg lw lg sw sg
 .exact Gs dw dg lw lg sw sg
 .exact Oz dw dg lw lg sw sg
 .exact Jz dw dg lw lg sw sg
 .exact LD dw dg lw lg sw sg
 .exact OA dw dg lw lg sw sg
end
structure BOk(m:Nat)(ws gv:List Tr):Prop where
 dw:Dst ws
 dg:Dst gv
 lw:ws.length<=m
 lg:gv.length<=m
 sw:b7 ws=ws
 sg:b7 gv=gv
 ok:∀t∈gv,GOk t
def DOk(x y z:Int):Wd->Prop
 | .weigh=>True
 | .unweigh=>True
 | .strike=>True
 | .give=>(x=0\/x=1)/\0<=y/\1<=z/\z<=9
 | .amend=>(x=0\/x=1)/\0<=y/\1<=z/\z<=9
 | .move=>(x=0\/x=1)/\0<=z
theorem oE(ts:List Tr):b7 (b7 ts)=b7 ts:=B2 (dh ts)
theorem Dst.filter{ts:List Tr}(h:Dst ts)(p:Tr->Bool):Dst (ts.filter p):=List.Nodup.sublist ((List.filter_sublist).map _) h
theorem Dst.add(h:Dst ts)(n:ts.any (atT x y)=false):Dst (b7 (ts++[(x,y,z)])):=by
 have p:(b7 (ts++[(x,y,z)])).Perm ((x,y,z)::ts):=(dh _).trans List.perm_append_comm;refine(p.map λt=>(t.1,t.2.1)).nodup_iff.mpr ?_;rw[Gap,GbI];refine⟨λq=> ?_,h⟩;obtain⟨t,ht,e⟩:=GaY.mp q;rw[GbK] at n;refine n t ht (GaC ?_)
 simpa using e
theorem uo:(b7 (ts++[(x,y,z)])).length=ts.length+1:=by
 rw[(dh _).length_eq,Gbb];rfl
theorem Dm(h:∀t∈ts,GOk t)(g:GOk (x,y,z)):∀t∈b7 (ts++[(x,y,z)]),GOk t:=λt ht=>by
 rcases Gby.mp ((dh _).mem_iff.mp ht) with q|q
 .exact h t q
 .rw[Gbw.mp q];exact g
theorem LF(h:amt gv x y=some v):(x,y,v)∈gv:=by
 unfold amt at h;cases e:gv.find? (atT x y) with
 |none=>rw[e] at h;cases h
 |some t=>
  rw[e] at h;have c0:atT x y t=true:=List.find?_some e;have c:=GaI c0;have m:=List.mem_of_find?_eq_some e;injection h with h
  rw[<-c.1,<-c.2,<-h];exact m
theorem BOk.more(h:BOk m ws gv):BOk (m+1) ws gv:=⟨h.dw,h.dg,by have:=h.lw;lia,by have:=h.lg;lia,h.sw,h.sg,h.ok⟩
theorem BOk.step{k:Wd}(h:BOk m ws gv)(hd:DOk x y z k):BOk (m+1) (C5 ws (nxt ws gv x y z k)) (vq gv (nxt ws gv x y z k)):=by
 have H:=h.more;obtain⟨dw,dg,lw,lg,sw,sg,ok⟩:=h;have fw:=GaK (nk x y) ws;have fg:=GaK (nk x y) gv;have of:∀t∈gv.filter (nk x y),GOk t:=λt ht=>ok t (GbV.mp ht).1;cases k
 .cases c:ws.any (atT x y)<;>simp only[nxt,c,GaZ,GaW,Gax]
  .exact⟨dw.add c,dg,by simp only[C5];rw[uo];lia,H.lg,oE _,sg,ok⟩
  .exact H
 .cases c:ws.any (atT x y)<;>simp only[nxt,c,GaZ,GaW,Gax]
  .exact H
  .exact⟨dw.filter _,dg,by simp only[C5];lia,H.lg,oC sw _,sg,ok⟩
 .cases c:gv.any (atT x y)<;>simp only[nxt,c,GaZ,GaW,Gax]
  .exact⟨dw,dg.add c,H.lw,by simp only[vq];rw[uo];lia,sw,oE _,Dm ok hd⟩
  .exact H
 .cases c:gv.any (atT x y)<;>simp only[nxt,c,GaZ,GaW,Gax]
  .exact H
  .exact⟨dw,dg.filter _,H.lw,by simp only[vq];lia,sw,oC sg _,of⟩
 .cases c:gv.any (atT x y)<;>simp only[nxt,c,GaZ,GaW,Gax]
  .exact H
  .exact⟨dw,(dg.filter _).add (um _ _ _),H.lw,by simp only[vq];rw[uo];lia,sw,oE _,Dm of hd⟩
 .rcases fh gv x y with⟨c,v,e⟩| ⟨c,e⟩<;>simp only[nxt,c,GaZ,GaW,Gax]
  .by_cases d:¬z=y/\gv.any (atT x z)=true
   .rw[Gaf d];exact H
   .rw[Gag d,e];have hz:z=y\/gv.any (atT x z)=false:=by
     by_cases q:z=y
     .exact .inl q
     .exact .inr (by cases c2:gv.any (atT x z);rfl;exact absurd ⟨q,c2⟩ d)
    have g:=ok _ (LF e);exact⟨dw,(dg.filter _).add (C6 hz),H.lw,by simp only[vq];rw[uo];lia,sw,oE _,Dm of ⟨hd.1,hd.2,g.2.2⟩⟩
  .exact H
theorem OC{k:Wd}(h:BOk m ws gv)(hm:m<63)(hd:DOk x y z k):HOk wdD ws gv (nxt ws gv x y z k):=by
 have s:=h.step hd;refine⟨gx,by have:=h.lw;lia,by have:=h.lg;lia,λxo xF e=> ?_⟩;rw[e] at s;exact Gk s.ok (by have:=s.lg;simp only[vq] at this;lia)
theorem Mv{e0 e1 e2:Os}:∀(ts:List Tr) (x3:Os),∃y3,forL (gN 3) fU (ts.map trD) [e0,e1,e2,x3]=some (.nx [e0,e1,e2,y3])
 |[],x3=> ⟨x3,rfl⟩
 |t::ts,x3=>by
  have ev:fU [e0,e1,e2,some (.sh (trD t))]=some (.nx [e0,e1,e2,some (.sh (trD t))]):=by
   have w1:=nJ t.1;have w2:=nJ t.2.1;have w3:=nJ t.2.2;unfold fU trD;simp[kT,w1,w2,w3,neB,c5,D.top]
  obtain⟨y3,e⟩:=Mv (e0:=e0) (e1:=e1) (e2:=e2) ts (some (.sh (trD t)));refine⟨y3, ?_⟩;rw[Gap];generalize trD t=td at*;simp only[forL,gN,GaL,GaM,Option.bind_some,ev];exact e
theorem Mw(ts:List Tr):∃y3,fV [e0,e1,some (.sh (.tup (ts.map trD))),x3]=some (.nx [e0,e1,some (.sh (.tup (ts.map trD))),y3]):=by
 obtain⟨y3,e⟩:=Mv (e0:=e0) (e1:=e1) (e2:=some (.sh (.tup (ts.map trD)))) ts x3;refine⟨y3, ?_⟩;generalize ts.map trD=L at*;unfold fV;simp[-forL,kT,e,freed]
theorem nM(ws gv:List Tr):cb [bkD ws gv,bkD ws gv]=some (.bl true):=by
 obtain⟨y3,e1⟩:=Mw (e0:=some (.sh (bkD ws gv))) (e1:=some (.sh (bkD ws gv))) (x3:=none) ws;obtain⟨z3,e2⟩:=Mw (e0:=some (.sh (bkD ws gv))) (e1:=some (.sh (bkD ws gv))) (x3:=y3) gv;have q:eqB (bkD ws gv) (bkD ws gv)=some true:=BZ ws gv;have L:forL (gN 2) fV [.tup (ws.map trD),.tup (gv.map trD)] [some (.sh (bkD ws gv)),some (.sh (bkD ws gv)),none,none]=some (.nx [some (.sh (bkD ws gv)),some (.sh (bkD ws gv)),some (.sh (.tup (gv.map trD))),z3]):=by
  generalize ws.map trD=A at*;generalize gv.map trD=B at*;generalize bkD ws gv=bk at*;simp only[forL,gN,GaL,GaM,Option.bind_some,e1,e2]
 refine bh rfl ?_;unfold cG;unfold bkD at*;generalize ws.map trD=A at*;generalize gv.map trD=B at*;refine(bf (e:=[some (.sh (.tup [.tup A,.tup B])),some (.sh (.tup [.tup A,.tup B])),none,none]) (by simp[aE,kT,neB])).trans ?_;refine(bf (e:=[some (.sh (.tup [.tup A,.tup B])),some (.sh (.tup [.tup A,.tup B])),some (.sh (.tup B)),z3]) (by simp[-forL,L,freed])).trans ?_;simp[q]
theorem Ae(x y:Int):k7 [.tup [.int x,.int y],.tup [.int x,.int y]]=some (.bl true):=by
 have w1:=nJ x;have w2:=nJ y;refine bh rfl ?_;unfold i7;simp[aE,kT,neB,eqB,w1,w2,c5,D.top]
theorem Af(k:Wd)(x y z:Int):Rest (bg k x y z):=⟨by simp[bg],by simp[bg,D.pl,pls],by simp[bg,D.nd,nds],λa ns es=>by simp[bg,D.sub,subs]⟩
theorem lL(s:Str)(d:D)(h:Rest d):Rest (.tup [.str s,d]):=⟨by simp[h.im],by simp[D.pl,pls,h.pl],by simp[D.nd,nds,h.nd],λa ns es=>by simp[D.sub,subs,h.sb]⟩
theorem oF(x y:Int):Rest (.tup [.int x,.int y]):=⟨by simp,by simp[D.pl,pls],by simp[D.nd,nds],λa ns es=>by simp[D.sub,subs]⟩
theorem Gu:∀r:Res,Rest (dW r)
 | .done _ _=>lL _ _ (aF _ _)
 | .twice _ _=>lL _ _ (oF _ _)
 | .noent _ _=>lL _ _ (oF _ _)
theorem Gv:∀r:Res,Rest (oZ r)
 | .done _ _=>lL _ _ Jr
 | .twice _ _=>lL _ _ (oF _ _)
 | .noent _ _=>lL _ _ (oF _ _)
def F9(a:Nat)(wd:D)(ws gv:List Tr)(l:List D)(j:Int)(R:D->D->Prop)(R2:D->D->List D->Prop):Res->Prop
 | .done xo xF =>R2 (.bl true) (hsD a wd (bkD xo xF)) (l.set j.toNat (bkD xo xF))
 | .twice _ _=>R (.bl true) (hsD a wd (bkD ws gv))
 | .noent _ _=>R (.bl true) (hsD a wd (bkD ws gv))
theorem JA{k:Wd}{l:List D}{R:D->D->Prop}{R2:D->D->List D->Prop}(hb:BOk m ws gv)(hm:m<63)(hd:DOk x y z k)(pl:pls l=true)(nl:nds l=true)(sl:∀a ns es,subs a ns es l=l)(hl:ixD (.lst l) (.int j)=some (bkD ws gv))(hj:0<=j/\j<l.length)(h:F9 a wdD ws gv l j R R2 (nxt ws gv x y z k)):q8 [hsD a wdD (bkD ws gv),.lst l,.int j,bg k x y z] R R2:=by
 have H:=OC hb hm hd;have T:=λR E=>Jy (a:=a) (R:=R) (E:=E) H;have N:=OB (x:=x) (y:=y) (z:=z) (k:=k) hb.dw hb.dg (by have:=hb.lw;lia) (by have:=hb.lg;lia) hb.sw hb.sg;have ro:=gx;have rb:=aF ws gv;have rd:=Af k x y z;have rn:=Gu (nxt ws gv x y z k);have rt:=Gv (nxt ws gv x y z k);have rv:=bU rn.im;generalize bg k x y z=dd at*;have body:gB [a] [some (.sh (hsD a wdD (bkD ws gv))),some (.bor (.lst l)),some (.sh (.int j)),some (.sh dd),none,none] {nx:=λ_ _=>False,bk:=λ_ _=>False,ct:=λ_ _=>False,rt:=λd e=>D7 a 380 (R d) e,ex:=λ_ _ _ _=>False,rl:=λp d l' e=>p=1/\D7 a 380 (λo=>R2 d o l') e}:=by
  generalize wdD=wd at*;generalize nxt ws gv x y z k=r at*;cases r with
  |done xo xF =>
   have rc:=aF xo xF;simp only[dW,oZ,C5,vq,F9] at*;generalize bkD ws gv=bk at*;generalize bkD xo xF =xC at*;unfold gB;simp[hl,rb.im,N,rv,ndE,Slot.d,D.nd,nds,ro.nd,rb.nd,rd.nd,rc.nd,nl];refine T _ _ ?_;simp[pls,ro.pl,rc.pl,rc.im,cq,Slot.sub,D.sub,subs,rd.sb,rc.sb,sl,neB,eqB,hj,pl];exact ck (k:=λo=>R2 (.bl true) o (l.set j.toNat xC)) ro rc h
  |twice u v=>
   have ie:=Ae u v;simp only[dW,oZ,C5,vq,F9] at*;generalize bkD ws gv=bk at*;unfold gB;simp[hl,rb.im,N,rv,ndE,Slot.d,D.nd,nds,ro.nd,rb.nd,rd.nd,nl];refine T _ _ ?_;simp[pls,ro.pl,rb.pl,cq,Slot.sub,D.sub,subs,rd.sb,sl,neB,eqB,ie,c5,D.top];exact ck ro rb h
  |noent u v=>
   have ie:=Ae u v;simp only[dW,oZ,C5,vq,F9] at*;generalize bkD ws gv=bk at*;unfold gB;simp[hl,rb.im,N,rv,ndE,Slot.d,D.nd,nds,ro.nd,rb.nd,rd.nd,nl];refine T _ _ ?_;simp[pls,ro.pl,rb.pl,cq,Slot.sub,D.sub,subs,rd.sb,sl,neB,eqB,ie,c5,D.top];exact ck ro rb h
 refine⟨rfl, ?_, ?_,pl,body⟩
 .simp[rd.im]
 .simp[pls,ro.pl,rb.pl]
theorem LG{q:Int}(h:0<=q)(h2:q<8):∃w,atD [D.str "weigh",.str "unweigh",.str "give",.str "give",.str "give",.str "strike",.str "amend",.str "move"] q=some (.str (wdS w)):=by
 have:q=0\/q=1\/q=2\/q=3\/q=4\/q=5\/q=6\/q=7:=by lia
 rcases this with rfl|rfl|rfl|rfl|rfl|rfl|rfl|rfl
 .exact⟨.weigh,rfl⟩
 .exact⟨.unweigh,rfl⟩
 .exact⟨.give,rfl⟩
 .exact⟨.give,rfl⟩
 .exact⟨.give,rfl⟩
 .exact⟨.strike,rfl⟩
 .exact⟨.amend,rfl⟩
 .exact⟨.move,rfl⟩
variable{far:Int}
theorem OE{k:Int}(hk:0<=k)(SR:k<1000)(hf:0<=far)(Td:far<1000000000):∃w x y z,DOk x y z w/\k8 [.scr ns,.int k,.int far]=some (bg w x y z):=by
 have q1:=jF ns (100+k) 8 (by lia);have q2:=jF ns (300+k) 5 (by lia);have q3:=jF ns (200+k) 3 (by lia);have q4:=jF ns (200+k) 2 (by lia);have q6:=jF ns (400+k) 5 (by lia);have q7:=jF ns (400+k) 9 (by lia);have d1:=iK (ns:=ns) (k:=100+k) (m:=8) (by lia) (by lia) (by lia);have d2:=iK (ns:=ns) (k:=300+k) (m:=5) (by lia) (by lia) (by lia);have d3:=iK (ns:=ns) (k:=200+k) (m:=3) (by lia) (by lia) (by lia);have d4:=iK (ns:=ns) (k:=200+k) (m:=2) (by lia) (by lia) (by lia);have d5:=iK (ns:=ns) (k:=400+k) (m:=1000000) (by lia) (by lia) (by lia);have d6:=iK (ns:=ns) (k:=400+k) (m:=5) (by lia) (by lia) (by lia);have d7:=iK (ns:=ns) (k:=400+k) (m:=9) (by lia) (by lia) (by lia);obtain⟨w,hw⟩:=LG q1.1 q1.2;have m1:∀j,ly far j=true:=λj=>ui (by lia) (by lia);generalize draw ns (100+k) 8=a1 at*;generalize draw ns (300+k) 5=a2 at*;generalize draw ns (200+k) 3=a3 at*;generalize draw ns (200+k) 2=a4 at*;generalize draw ns (400+k) 1000000=a5 at*;generalize draw ns (400+k) 5=a6 at*;generalize draw ns (400+k) 9=a7 at*;have y2:0<=far*a2:=Int.mul_nonneg hf q2.1;have y6:0<=far*a6:=Int.mul_nonneg hf q6.1;have pw:tQ (.int 10) (.int 6)=some ⟨.c,.int 1000000⟩:=rfl;have h4:a4=0\/a4=1:=by lia
 have ev:∀d,dz [some (.sh (.scr ns)),some (.sh (.int k)),some (.sh (.int far)),none,none]=some (.ret d)->k8 [.scr ns,.int k,.int far]=some d:=λd e=>bh rfl e;cases w
 .exact⟨.weigh,a3,far*a2,1+a5,trivial,ev _ (by unfold dz;simp[d1,d2,d3,d5,hw,wdS,m1,eqB,pw,aq,c5,D.top,bg])⟩
 .exact⟨.unweigh,a3,far*a2,1+a5,trivial,ev _ (by unfold dz;simp[d1,d2,d3,d5,hw,wdS,m1,eqB,pw,aq,c5,D.top,bg])⟩
 .exact⟨.give,a4,far*a2,1+a7,⟨h4,y2,by lia,by lia⟩,ev _ (by unfold dz;simp[d1,d2,d4,d7,hw,wdS,m1,eqB,pw,aq,c5,D.top,bg])⟩
 .exact⟨.strike,a4,far*a2,1+a7,trivial,ev _ (by unfold dz;simp[d1,d2,d4,d7,hw,wdS,m1,eqB,pw,aq,c5,D.top,bg])⟩
 .exact⟨.amend,a4,far*a2,1+a7,⟨h4,y2,by lia,by lia⟩,ev _ (by unfold dz;simp[d1,d2,d4,d7,hw,wdS,m1,eqB,pw,aq,c5,D.top,bg])⟩
 .exact⟨.move,a4,far*a2,far*a6,⟨h4,y6⟩,ev _ (by unfold dz;simp[d1,d2,d4,d6,hw,wdS,m1,eqB,pw,aq,c5,D.top,bg])⟩
noncomputable def prD(p:List Tr×List Tr):D:= .tup [bkD p.1 p.2,bkD p.1 p.2]
noncomputable def iB:D:= .tup [.str "down",.int 1,.int 0,.int 9]
noncomputable def lE(ns:List Int)(far:Int)(a b:Nat)(p q:List Tr×List Tr)(hs:List (List Tr×List Tr))(x3 hJ x12 x13:Os):DL.Env:=[some (.sh (.scr ns)),some (.sh (.int far)),some (.sh dG),x3,some (.sh iB),some (.sh (.tup oD2)),some (.sh wdD),some (.own (.lst [hsD a wdD (bkD p.1 p.2),hsD b wdD (bkD q.1 q.2)])),some (.own (.lst [bkD p.1 p.2,bkD q.1 q.2])),some (.own (.lst (hs.map prD))),some (.sh (hsD b wdD (bkD q.1 q.2))),hJ,x12,x13,none,none,none]
variable{hJ x13:Os}{hs:List (List Tr×List Tr)}{p q:List Tr×List Tr}{b:Nat}
theorem Mx{t:Int}(ht:t=0\/t=1)(hl:hs.length<1000):∃r y13,k9 (lE ns far a b p q hs x3 hJ (some (.sh (.int t))) x13)=some (.nx (lE ns far a b p q (hs++[r]) x3 hJ (some (.sh (.int t))) (some (.sh y13))))/\Rest y13:=by
 have z:(hs.map prD).length<16777216:=by rw[Gaq];lia
 have iw:=gx.im;have ip:=mG p.1 p.2;have iq:=mG q.1 q.2;have sp:=vo (a:=a) (wd:=wdD) ip;have sq:=vo (a:=b) (wd:=wdD) iq;have bp:=nM p.1 p.2;have bq:=nM q.1 q.2;have mp:dR 380 "book" (hsD a wdD (bkD p.1 p.2))=true:=cR rfl rfl;have mq:dR 380 "book" (hsD b wdD (bkD q.1 q.2))=true:=cR rfl rfl;have rp:=bU ip;have rq:=bU iq;have ep:prD p= .tup [bkD p.1 p.2,bkD p.1 p.2]:=rfl;have eq:prD q= .tup [bkD q.1 q.2,bkD q.1 q.2]:=rfl;have rv:c5 (.bl true)=⟨.c,.bl true⟩:=rfl;rcases ht with rfl|rfl
 .refine⟨p,bkD p.1 p.2, ?_,aF _ _⟩;unfold lE;rw[Gbf,Gap,ep];generalize bkD p.1 p.2=P at*;generalize bkD q.1 q.2=Q at*;generalize hs.map prD=H at*;generalize wdD=wd at*;unfold k9;simp[sp,mp,bp,rp,ip,iw,z,aq,rv,RV.free]
 .refine⟨q,bkD q.1 q.2, ?_,aF _ _⟩;unfold lE;rw[Gbf,Gap,eq];generalize bkD p.1 p.2=P at*;generalize bkD q.1 q.2=Q at*;generalize hs.map prD=H at*;generalize wdD=wd at*;unfold k9;simp[sq,mq,bq,rq,iq,iw,z,aq,rv,RV.free]
theorem OF{x12:Os}(hl:hs.length<900):∃xI y12 y13,xI.length=hs.length+2/\Rest y12/\Rest y13/\iD none (iU (kE (.int 2))) (gN 12) k9 (lE ns far a b p q hs x3 hJ x12 x13)=some (.nx (lE ns far a b p q xI x3 hJ (some (.sh y12)) (some (.sh y13)))):=by
 obtain⟨r,y,e1,_⟩:=Mx (ns:=ns) (far:=far) (a:=a) (b:=b) (p:=p) (q:=q) (hs:=hs) (x3:=x3) (hJ:=hJ) (x13:=x13) (t:=0) (.inl rfl) (by lia);obtain⟨r2,y2,e2,h2⟩:=Mx (ns:=ns) (far:=far) (a:=a) (b:=b) (p:=p) (q:=q) (hs:=hs++[r]) (x3:=x3) (hJ:=hJ) (x13:=some (.sh y)) (t:=1) (.inr rfl) (by simp;lia);refine⟨hs++[r]++[r2],.int 1,y2,by simp,nL 1,h2, ?_⟩;have g1:gN 12 (.int 0) (lE ns far a b p q hs x3 hJ x12 x13)=some (lE ns far a b p q hs x3 hJ (some (.sh (.int 0))) x13):=rfl;have g2:gN 12 (.int 1) (lE ns far a b p q (hs++[r]) x3 hJ (some (.sh (.int 0))) (some (.sh y)))=some (lE ns far a b p q (hs++[r]) x3 hJ (some (.sh (.int 1))) (some (.sh y))):=rfl;have rg:iU (kE (.int 2)) (bV none (lE ns far a b p q hs x3 hJ x12 x13))=some [.int 0,.int 1]:=rfl;have lk:bV none (lE ns far a b p q hs x3 hJ x12 x13)=lE ns far a b p q hs x3 hJ x12 x13:=rfl;have io:sW none (lE ns far a b p q hs x3 hJ x12 x13)=false:=rfl;unfold iD;rw[rg,lk,io];simp only[Option.bind_some,forL,g1,g2,e1,e2]
 rfl
def OkS(s:Os):Prop:=s=none\/∃d,s=some (.sh d)/\Rest d
theorem OkS.sb{s:Os}(h:OkS s)(a:Nat)(ns:List Str)(es:List D):s.map (Slot.sub a ns es)=s:=by
 rcases h with rfl| ⟨d,rfl,r⟩
 .rfl
 .simp[Slot.sub,r.sb]
theorem OkS.nd{s:Os}(h:OkS s):ndE [s]=true:=by
 rcases h with rfl| ⟨d,rfl,r⟩
 .rfl
 .simp[ndE,Slot.d,r.nd]
theorem r9{s:Os}{l:DL.Env}(h1:ndE [s]=true)(h2:ndE l=true):ndE (s::l)=true:=by
 unfold ndE at*;rw[GaO,h2];rw[GaO,List.all_nil,Gdb] at h1;rw[h1];rfl
theorem B5(p:List Tr×List Tr):Rest (prD p):=⟨by simp[prD,(aF _ _).im],by simp[prD,D.pl,pls,(aF _ _).pl],by simp[prD,D.nd,nds,(aF _ _).nd],λa ns es=>by simp[prD,D.sub,subs,(aF _ _).sb]⟩
theorem rf(a:Nat)(ns:List Str)(es:List D)(hs:List (List Tr×List Tr)):subs a ns es (hs.map prD)=hs.map prD:=by
 induction hs with
 |nil=>rfl
 |cons t ts ih=>rw[Gap];simp only[subs,ih,(B5 t).sb]
theorem LH(hs:List (List Tr×List Tr)):nds (hs.map prD)=true:=by
 induction hs with
 |nil=>rfl
 |cons t ts ih=>rw[Gap];simp only[nds,ih,(B5 t).nd];rfl
theorem oG:Rest dG:=⟨by simp[dG],rfl,rfl,λa ns es=>by simp[dG,D.sub,subs]⟩
theorem oH:Rest iB:=⟨by simp[iB],rfl,rfl,λa ns es=>by simp[iB,D.sub,subs]⟩
theorem uq:Rest (.tup oD2):=⟨by simp[fW],rfl,rfl,λa ns es=>by simp[fW,D.sub,subs]⟩
section
variable{ns:List Int}{far:Int}{a b:Nat}{p q p' q' :List Tr×List Tr}{hs:List (List Tr×List Tr)}{x3 hJ x12 x13:Os}
theorem My(h3:OkS x3)(xZ:OkS hJ)(xV:OkS x12)(xU:OkS x13):ndE (lE ns far a b p q hs x3 hJ x12 x13)=true:=by
 have n4:=gx.nd;have n5:=(aF p.1 p.2).nd;have n6:=(aF q.1 q.2).nd;have n7:=LH hs;unfold lE;refine r9 rfl (r9 rfl (r9 rfl (r9 h3.nd (r9 rfl (r9 rfl (r9 rfl (r9 ?_ (r9 ?_ (r9 ?_ (r9 ?_ (r9 xZ.nd (r9 xV.nd (r9 xU.nd rfl)))))))))))))
 .simp[ndE,Slot.d,D.nd,nds,n4,n5,n6]
 .simp[ndE,Slot.d,D.nd,nds,n5,n6]
 .simp[ndE,Slot.d,D.nd,n7]
 .simp[ndE,Slot.d,D.nd,nds,n4,n6]
theorem Sz(xP:a≠b)(h3:OkS x3)(xZ:OkS hJ)(xV:OkS x12)(xU:OkS x13):(cq a fN [wdD,bkD p'.1 p'.2] (lE ns far a b p q hs x3 hJ x12 x13)).set 8 (some (.own (.lst [bkD p'.1 p'.2,bkD q.1 q.2])))=lE ns far a b p' q hs x3 hJ x12 x13:=by
 have s1:=oG.sb;have s2:=oH.sb;have s3:=uq.sb;have s4:=gx.sb;have s5:=(aF p.1 p.2).sb;have s6:=(aF q.1 q.2).sb;have s7:=λa ns es=>rf a ns es hs;have hba:¬b=a:=λh=>xP h.symm;unfold lE cq;generalize dG=g at*;generalize iB=r at*;generalize D.tup oD2=o at*;generalize wdD=w at*;generalize hs.map prD=H at*;simp only[Gap,GbF,h3.sb,xZ.sb,xV.sb,xU.sb];simp[Slot.sub,D.sub,subs,s1,s2,s3,s4,s5,s6,s7,hba]
theorem SA(xP:a≠b)(h3:OkS x3)(xZ:OkS hJ)(xV:OkS x12)(xU:OkS x13):(cq b fN [wdD,bkD q'.1 q'.2] (lE ns far a b p q hs x3 hJ x12 x13)).set 8 (some (.own (.lst [bkD p.1 p.2,bkD q'.1 q'.2])))=lE ns far a b p q' hs x3 hJ x12 x13:=by
 have s1:=oG.sb;have s2:=oH.sb;have s3:=uq.sb;have s4:=gx.sb;have s5:=(aF p.1 p.2).sb;have s6:=(aF q.1 q.2).sb;have s7:=λa ns es=>rf a ns es hs;unfold lE cq;generalize dG=g at*;generalize iB=r at*;generalize D.tup oD2=o at*;generalize wdD=w at*;generalize hs.map prD=H at*;simp only[Gap,GbF,h3.sb,xZ.sb,xV.sb,xU.sb];simp[Slot.sub,D.sub,subs,s1,s2,s3,s4,s5,s6,s7,xP]
theorem Mz(xP:a≠b)(h3:OkS x3)(xZ:OkS hJ)(xV:OkS x12)(xU:OkS x13):cq a fN [wdD,bkD p.1 p.2] (lE ns far a b p q hs x3 hJ x12 x13)=lE ns far a b p q hs x3 hJ x12 x13:=by
 have s1:=oG.sb;have s2:=oH.sb;have s3:=uq.sb;have s4:=gx.sb;have s5:=(aF p.1 p.2).sb;have s6:=(aF q.1 q.2).sb;have s7:=λa ns es=>rf a ns es hs;have hba:¬b=a:=λh=>xP h.symm;unfold lE cq;generalize dG=g at*;generalize iB=r at*;generalize D.tup oD2=o at*;generalize wdD=w at*;generalize hs.map prD=H at*;simp only[Gap,GbF,h3.sb,xZ.sb,xV.sb,xU.sb];simp[Slot.sub,D.sub,subs,s1,s2,s3,s4,s5,s6,s7,hba]
theorem MA(xP:a≠b)(h3:OkS x3)(xZ:OkS hJ)(xV:OkS x12)(xU:OkS x13):cq b fN [wdD,bkD q.1 q.2] (lE ns far a b p q hs x3 hJ x12 x13)=lE ns far a b p q hs x3 hJ x12 x13:=by
 have s1:=oG.sb;have s2:=oH.sb;have s3:=uq.sb;have s4:=gx.sb;have s5:=(aF p.1 p.2).sb;have s6:=(aF q.1 q.2).sb;have s7:=λa ns es=>rf a ns es hs;unfold lE cq;generalize dG=g at*;generalize iB=r at*;generalize D.tup oD2=o at*;generalize wdD=w at*;generalize hs.map prD=H at*;simp only[Gap,GbF,h3.sb,xZ.sb,xV.sb,xU.sb];simp[Slot.sub,D.sub,subs,s1,s2,s3,s4,s5,s6,s7,xP]
end
section
variable{ns:List Int}{far:Int}{a b:Nat}{p q:List Tr×List Tr}{hs:List (List Tr×List Tr)}{hJ x12 x13:Os}{L:List Nat}{m:Nat}
theorem qb{d:D}(h:Rest d):OkS (some (.sh d)):= .inr ⟨d,rfl,h⟩
theorem JB{k:Int}{R:MK}{y11 y12 y13:Os}(hl:hs.length<900)(K:∀xI y12 y13,xI.length=hs.length+2->Rest y12->Rest y13->R.nx L (lE ns far a b p q xI (some (.sh (.int k))) y11 (some (.sh y12)) (some (.sh y13)))):
  bH (iD none (iU (kE (.int 2))) (gN 12) k9) L (lE ns far a b p q hs (some (.sh (.int k))) y11 y12 y13) R:=by
 obtain⟨xI,Vc,Vb,e1,r1,r2,e⟩:=OF (ns:=ns) (far:=far) (a:=a) (b:=b) (p:=p) (q:=q) (hs:=hs) (x3:=some (.sh (.int k))) (hJ:=y11) (x12:=y12) (x13:=y13) hl;exact⟨_,e,K xI Vc Vb e1 r1 r2⟩
theorem LI{k:Int}{R:MK}(hk:0<=k)(SR:k<500)(hf:0<=far)(Td:far<1000000000)(xP:a≠b)(ha:a∈L)(hb:b∈L)(hp:BOk m p.1 p.2)(hq:BOk m q.1 q.2)(hm:m<63)(hl:hs.length<900)(xV:OkS x12)(xU:OkS x13)
  (K:∀p' q' xI y11 y12 y13,BOk (m+1) p'.1 p'.2->BOk (m+1) q'.1 q'.2->xI.length=hs.length+2->OkS y11->OkS y12->OkS y13->R.nx L (lE ns far a b p' q' xI (some (.sh (.int k))) y11 y12 y13)):
  qX L (lE ns far a b p q hs (some (.sh (.int k))) hJ x12 x13) R:=by
 have q1:=jF ns (500+k) 2 (by lia);have d1:=iK (ns:=ns) (k:=500+k) (m:=2) (by lia) (by lia) (by lia);obtain⟨w,x,y,z,hd,ed⟩:=OE (ns:=ns) (k:=k) (far:=far) hk (by lia) hf Td;have rd:=Af w x y z;have rv:=bU rd.im;generalize draw ns (500+k) 2=j at*;have e1:bI 11 (aV b4 (aa (vE 0) (aa (opE gC (kE (.int 500)) (vE 3)) (aa (kE (.int 2)) ao)))) (lE ns far a b p q hs (some (.sh (.int k))) hJ x12 x13)=some (.nx (lE ns far a b p q hs (some (.sh (.int k))) (some (.sh (.int j))) x12 x13)):=by
  have ay:gC (.int 500) (.int k)=some ⟨.c,.int (500+k)⟩:=rfl;have rj:c5 (.int j)=⟨.c,.int j⟩:=rfl;unfold lE;simp[ay,d1,rj]
 unfold qX;refine⟨_,e1, ?_⟩;have h3:OkS (some (.sh (.int k))):=qb (nL k);have xZ:OkS (some (.sh (.int j))):=qb (nL j);have nd:=My (ns:=ns) (far:=far) (a:=a) (b:=b) (p:=p) (q:=q) (hs:=hs) h3 xZ xV xU;have er:aa (vE 11) (aa (aV k8 (aa (vE 0) (aa (vE 3) (aa (vE 1) ao)))) ao) (lE ns far a b p q hs (some (.sh (.int k))) (some (.sh (.int j))) x12 x13)=some [⟨.c,.int j⟩,⟨.c,bg w x y z⟩]:=by
  unfold lE;generalize bg w x y z=dd at*;simp[ed,rv]
 have lp:=(aF p.1 p.2).pl;have lq:=(aF q.1 q.2).pl;have Wh:=(aF p.1 p.2).nd;have bn2:=(aF q.1 q.2).nd;have Wg:=(aF p.1 p.2).sb;have bs2:=(aF q.1 q.2).sb;have pl:pls [bkD p.1 p.2,bkD q.1 q.2]=true:=by simp[pls,lp,lq]
 have nl:nds [bkD p.1 p.2,bkD q.1 q.2]=true:=by simp[nds,Wh,bn2]
 have sl:∀a ns es,subs a ns es [bkD p.1 p.2,bkD q.1 q.2]=[bkD p.1 p.2,bkD q.1 q.2]:=λa ns es=>by simp[subs,Wg,bs2]
 have lw:=gx.pl;have fin:∀p' q' :List Tr×List Tr,BOk (m+1) p'.1 p'.2->BOk (m+1) q'.1 q'.2->bH (iD none (iU (kE (.int 2))) (gN 12) k9) L (lE ns far a b p' q' hs (some (.sh (.int k))) (some (.sh (.int j))) x12 x13) R:=λp' q' h1 h2=>JB hl λxI y12 y13 hz r1 r2=>K p' q' xI _ _ _ h1 h2 hz (qb (nL j)) (qb r1) (qb r2);have hj:j=0\/j=1:=by lia
 have iw:=gx.im;rcases hj with rfl|rfl
 .have ex:ixE (vE 7) (vE 11) (lE ns far a b p q hs (some (.sh (.int k))) (some (.sh (.int 0))) x12 x13)=some ⟨.c,hsD a wdD (bkD p.1 p.2)⟩:=by
   have ip:=(aF p.1 p.2).im;unfold lE;generalize bkD p.1 p.2=P at*;generalize wdD=wd at*;simp[ip,iw]
  refine⟨_,_,_,ex,er,nd,rfl,ha, ?_⟩;refine JA hp hm hd pl nl sl rfl (by simp) ?_;have st:=hp.step (x:=x) (y:=y) (z:=z) hd;generalize nxt p.1 p.2 x y z w=r at*;cases r with
  |done xo xF =>
   have lr:=(aF xo xF).pl;have s0:=Sz (ns:=ns) (far:=far) (p:=p) (q:=q) (hs:=hs) (p' :=(xo,xF)) xP h3 xZ xV xU;refine⟨rfl,by simp[pls,lr,lq],rfl,rfl,by simp[pls,lw,lr],true,rfl, ?_⟩;show∃o,aX _=some o/\_;refine⟨_,rfl, ?_⟩;have:=fin (xo,xF) q st hq.more;rw[<-s0] at this;exact this
  |twice u v=>
   have s0:=Mz (ns:=ns) (far:=far) (p:=p) (q:=q) (hs:=hs) xP h3 xZ xV xU;refine⟨rfl,rfl,rfl,by simp[pls,lw,lp],true,rfl, ?_⟩;show∃o,aX _=some o/\_;refine⟨_,rfl, ?_⟩;have:=fin p q hp.more hq.more;rw[<-s0] at this;exact this
  |noent u v=>
   have s0:=Mz (ns:=ns) (far:=far) (p:=p) (q:=q) (hs:=hs) xP h3 xZ xV xU;refine⟨rfl,rfl,rfl,by simp[pls,lw,lp],true,rfl, ?_⟩;show∃o,aX _=some o/\_;refine⟨_,rfl, ?_⟩;have:=fin p q hp.more hq.more;rw[<-s0] at this;exact this
 .have ex:ixE (vE 7) (vE 11) (lE ns far a b p q hs (some (.sh (.int k))) (some (.sh (.int 1))) x12 x13)=some ⟨.c,hsD b wdD (bkD q.1 q.2)⟩:=by
   have ip:=(aF q.1 q.2).im;unfold lE;generalize bkD q.1 q.2=P at*;generalize wdD=wd at*;simp[ip,iw]
  refine⟨_,_,_,ex,er,nd,rfl,hb, ?_⟩;refine JA hq hm hd pl nl sl rfl (by simp) ?_;have st:=hq.step (x:=x) (y:=y) (z:=z) hd;generalize nxt q.1 q.2 x y z w=r at*;cases r with
  |done xo xF =>
   have lr:=(aF xo xF).pl;have s0:=SA (ns:=ns) (far:=far) (p:=p) (q:=q) (hs:=hs) (q' :=(xo,xF)) xP h3 xZ xV xU;refine⟨rfl,by simp[pls,lr,lp],rfl,rfl,by simp[pls,lw,lr],true,rfl, ?_⟩;show∃o,aX _=some o/\_;refine⟨_,rfl, ?_⟩;have:=fin p (xo,xF) hp.more st;rw[<-s0] at this;exact this
  |twice u v=>
   have s0:=MA (ns:=ns) (far:=far) (p:=p) (q:=q) (hs:=hs) xP h3 xZ xV xU;refine⟨rfl,rfl,rfl,by simp[pls,lw,lq],true,rfl, ?_⟩;show∃o,aX _=some o/\_;refine⟨_,rfl, ?_⟩;have:=fin p q hp.more hq.more;rw[<-s0] at this;exact this
  |noent u v=>
   have s0:=MA (ns:=ns) (far:=far) (p:=p) (q:=q) (hs:=hs) xP h3 xZ xV xU;refine⟨rfl,rfl,rfl,by simp[pls,lw,lq],true,rfl, ?_⟩;show∃o,aX _=some o/\_;refine⟨_,rfl, ?_⟩;have:=fin p q hp.more hq.more;rw[<-s0] at this;exact this
end
theorem Fb{ns:List Int}{far:Int}{a b:Nat}{L:List Nat}{R:MK}(hf:0<=far)(Td:far<1000000000)(xP:a≠b)(ha:a∈L)(hb:b∈L)(K:∀p q hs y3 y11 y12 y13,hs.length<=200->OkS y3->OkS y11->OkS y12->OkS y13->R.nx L (lE ns far a b p q hs y3 y11 y12 y13)):∀(n i:Nat) (p q:List Tr×List Tr) (hs:List (List Tr×List Tr)) (x3 hJ x12 x13:Os),n+i<=63->BOk i p.1 p.2->BOk i q.1 q.2->hs.length=2*i->OkS x3->OkS hJ->OkS x12->OkS x13->t4 3 qX n (i:Int) L (lE ns far a b p q hs x3 hJ x12 x13) R
 |0,i,p,q,hs,x3,hJ,x12,x13,hn,_,_,hl,h3,xZ,xV,xU=>K p q hs x3 hJ x12 x13 (by lia) h3 xZ xV xU
 |n+1,i,p,q,hs,x3,hJ,x12,x13,hn,hp,hq,hl,h3,xZ,xV,xU=>by
  refine LI (m:=i) (by lia) (by lia) hf Td xP ha hb hp hq (by lia) (by lia) xV xU λp' q' xI y11 y12 y13 h1 h2 e Vo Vn Vm=> ?_;have:=Fb hf Td xP ha hb K n (i+1) p' q' xI (some (.sh (.int (i:Int)))) y11 y12 y13 (by lia) h1 h2 (by lia) (qb (nL _)) Vo Vn Vm;rw[Int.natCast_add] at this;exact this
theorem B6{R:D->D->Prop}{E:Nat->Str->D->D->Prop}(ro:Rest wd)(h:R .non (hsD a wd (bkD [] []))):c6 [.obj a 380 [] [],wd] R E:=by
 refine⟨rfl, ?_⟩;show bQ [a] (aE 2 [.obj a 380 [] [],wd]) _;unfold bQ;simp[aE,ndE,Slot.d,D.nd,nds,ro.nd,ro.pl,pls,kn,cq,Slot.sub,D.sub,subs,ro.sb,aq,D.pl];exact⟨_,_,⟨rfl,rfl⟩,by simp[pls,D.pl,ro.pl],h⟩
theorem MB{e12 e13 e14 e15 e16:Os}:qW [e0,e1,e2,e3,e4,e5,e6,e7,e8,e9,some (.sh (hsD a wdD (bkD [] []))),e11,e12,e13,e14,e15,e16]=some (.nx [e0,e1,e2,e3,e4,e5,e6,e7,e8,e9,some (.sh (hsD a wdD (bkD [] []))),e11,e12,e13,e14,e15,e16]):=by
 have ib:=mG [] [];have sp:de [hsD a wdD (bkD [] [])]=some (.tup [.tup [],.tup []]):=vo ib;have bp:cb [.tup [.tup [],.tup []],.tup [.tup [],.tup []]]=some (.bl true):=nM [] [];have mp:dR 380 "book" (hsD a wdD (bkD [] []))=true:=cR rfl rfl;have rp:c5 (.tup [.tup [],.tup []])=⟨.c,.tup [.tup [],.tup []]⟩:=bU ib;have rv:c5 (.bl true)=⟨.c,.bl true⟩:=rfl;generalize hsD a wdD (bkD [] [])=o at*;unfold qW;simp[sp,mp,bp,rp,rv,aq]
theorem Fc{e0 e1 e2 e3 e4 e5 e6 e7 e8 e9 e10 e11 e12 e13 e15 e16:Os}:∀(hs:List (List Tr×List Tr)) (zv:Os),OkS zv->∃y0,OkS y0/\forL (gN 14) nI (hs.map prD) [e0,e1,e2,e3,e4,e5,e6,e7,e8,e9,e10,e11,e12,e13,zv,e15,e16]=some (.nx [e0,e1,e2,e3,e4,e5,e6,e7,e8,e9,e10,e11,e12,e13,y0,e15,e16])
 |[],zv,h=> ⟨zv,h,rfl⟩
 |t::hs,zv,h=>by
  obtain⟨y0,h2,e⟩:=Fc (e0:=e0) (e1:=e1) (e2:=e2) (e3:=e3) (e4:=e4) (e5:=e5) (e6:=e6) (e7:=e7) (e8:=e8) (e9:=e9) (e10:=e10) (e11:=e11) (e12:=e12) (e13:=e13) (e15:=e15) (e16:=e16) hs (some (.sh (prD t))) (qb (B5 t));refine⟨y0,h2, ?_⟩;have qn:neB (bkD t.1 t.2) (bkD t.1 t.2)=some false:=by
   have q:eqB (bkD t.1 t.2) (bkD t.1 t.2)=some true:=BZ t.1 t.2;generalize bkD t.1 t.2=k at*;unfold eqB at q;unfold neB;split at q
   .rename_i c;rw[Gaf c];injection q with q
    rw[q];rfl
   .cases q
  have ib:=mG t.1 t.2;have i0:ixD (prD t) (.int 0)=some (bkD t.1 t.2):=rfl;have i1:ixD (prD t) (.int 1)=some (bkD t.1 t.2):=rfl;have ev:nI [e0,e1,e2,e3,e4,e5,e6,e7,e8,e9,e10,e11,e12,e13,some (.sh (prD t)),e15,e16]=some (.nx [e0,e1,e2,e3,e4,e5,e6,e7,e8,e9,e10,e11,e12,e13,some (.sh (prD t)),e15,e16]):=by
   generalize prD t=pd at*;generalize bkD t.1 t.2=k at*;unfold nI;simp[i0,i1,qn,ib]
  rw[Gap];generalize prD t=pd at*;simp only[forL,gN,GaL,GaM,Option.bind_some,ev];exact e
theorem dY{S:DS}{g:MS}{L:List Nat}{e:DL.Env}{R:MK}(h:S env=some (.nx e))(k:g L e R):cQ (bH S) g L env R:=⟨_,h,k⟩
theorem B7{s:Os}:∀{e:DL.Env} (i:Nat),ndE e=true->ndE [s]=true->ndE (e.set i s)=true
 |[],_,h,_=>h
 |x::e,0,h,h2=>by
  unfold ndE at*;rw[GaM,GaO];rw[GaO,Gam] at h;rw[GaO,List.all_nil,Gdb] at h2;rw[h2,h.2];rfl
 |x::e,i+1,h,h2=>by
  have ih:=B7 (e:=e) i (by unfold ndE at h⊢;rw[GaO,Gam] at h;exact h.2) h2;unfold ndE at*;rw[GaL,GaO,ih];rw[GaO,Gam] at h;rw[h.1];rfl
theorem OG:∃far,(0<=far/\far<1000000000)/\bI 1 (ixE (uG (aa (kE (.int 1)) (aa (opE pP (kE (.int 25)) (opE tQ (kE (.int 10)) (kE (.int 7)))) ao))) (aV b4 (aa (vE 0) (aa (kE (.int 2)) (aa (kE (.int 2)) ao))))) (aE 17 [.scr ns])=some (.nx [some (.sh (.scr ns)),some (.sh (.int far)),none,none,none,none,none,none,none,none,none,none,none,none,none,none,none]):=by
 have q:=jF ns 2 2 (by lia);have d:=iK (ns:=ns) (k:=2) (m:=2) (by lia) (by lia) (by lia);generalize draw ns 2 2=j at*;obtain⟨far,hf,e⟩:=at2 (a:=1) (b:=250000000) q.1 q.2;refine⟨far,by lia, ?_⟩;have pw:tQ (.int 10) (.int 7)=some ⟨.c,.int 10000000⟩:=rfl;have mo:ly 25 10000000=true:=rfl;have rj:c5 (.int j)=⟨.c,.int j⟩:=rfl;simp[aE,d,pw,mo,rj,e,aq]
theorem LJ:bI 2 (j4 jL (aa (lA none 1 [] (iU (kE (.int 3))) (gN 0) gQ (aQ (aa (opE gC (kE (.str "guest")) (ixE (kE (.str "abc")) (vE 0))) (aa (kE (.int 0)) ao)))) ao)) [some (.sh (.scr ns)),e1,none,none,none,none,none,none,none,none,none,none,none,none,none,none,none]=some (.nx [some (.sh (.scr ns)),e1,some (.sh dG),none,none,none,none,none,none,none,none,none,none,none,none,none,none]):=by
 rfl
theorem LK:bI 5 (j4 jL (aa (lA none 1 [4] (iU (kE (.int 2))) (gN 0) gQ (aQ (aa (opE gC (kE (.str "order")) (ixE (kE (.str "ab")) (vE 0))) (aa (vE 0) (aa (kE (.int 0)) (aa (vE 1) (aa (aQ (aa (kE (.str "asked")) (aa (kE (.int 0)) ao))) (aa (aQ ao) ao)))))))) ao)) [e0,e1,e2,none,some (.sh iB),none,none,none,none,none,none,none,none,none,none,none,none]=some (.nx [e0,e1,e2,none,some (.sh iB),some (.sh (.tup oD2)),none,none,none,none,none,none,none,none,none,none,none]):=by
 rfl
theorem JC{g:MS}{R:MK}(h6:env[6]? =some (some (.sh wdD)))(k:∀a b:Nat,a≠b->g [b,a] (env.set 7 (some (.own (.lst [hsD a wdD (bkD [] []),hsD b wdD (bkD [] [])])))) R):cQ (O7 7 380 c6 (aa (vE 6) ao) (aa (vE 6) ao)) g [] env R:=by
 have ev:aa (vE 6) ao env=some [⟨.c,wdD⟩]:=by simp[h6]
 have pw:pls [wdD,bkD [] []]=true:=rfl;refine⟨_,ev,λa _=>B6 gx ⟨rfl,rfl,rfl,pw,_,ev,λb hb=>B6 gx ⟨rfl,rfl,rfl,pw,k a b λe=>hb ?_⟩⟩⟩;rw[e];exact Gbw.mpr rfl
theorem LL:iD (some 7) (jd (vE 7)) (gN 10) qW [some (.sh (.scr ns)),some (.sh (.int far)),some (.sh dG),none,some (.sh iB),some (.sh (.tup oD2)),some (.sh wdD),some (.own (.lst [hsD a wdD (bkD [] []),hsD b wdD (bkD [] [])])),some (.own (.lst [bkD [] [],bkD [] []])),some (.own (.lst [])),none,none,none,none,none,none,none]=some (.nx (lE ns far a b ([],[]) ([],[]) [] none none none none)):=by
 have e1:=λe0 e1 e2 e3 e4 e5 e6 e7 e8 e9 e11 e12 e13 e14 e15 e16=>MB (a:=a) (e0:=e0) (e1:=e1) (e2:=e2) (e3:=e3) (e4:=e4) (e5:=e5) (e6:=e6) (e7:=e7) (e8:=e8) (e9:=e9) (e11:=e11) (e12:=e12) (e13:=e13) (e14:=e14) (e15:=e15) (e16:=e16);have e2:=λe0 e1 e2 e3 e4 e5 e6 e7 e8 e9 e11 e12 e13 e14 e15 e16=>MB (a:=b) (e0:=e0) (e1:=e1) (e2:=e2) (e3:=e3) (e4:=e4) (e5:=e5) (e6:=e6) (e7:=e7) (e8:=e8) (e9:=e9) (e11:=e11) (e12:=e12) (e13:=e13) (e14:=e14) (e15:=e15) (e16:=e16);unfold lE;rw[GbF];generalize hsD a wdD (bkD [] [])=A at*;generalize hsD b wdD (bkD [] [])=B at*;generalize bkD [] []=K at*;generalize dG=g at*;generalize iB=r at*;generalize D.tup oD2=o at*;generalize wdD=w at*;simp[e1,e2,freed]
theorem JD(t:Tr):b7 [t]=[t]:=List.perm_singleton.mp (dh [t])
noncomputable def tE(e:DL.Env)(zv Ve Vd:Os):DL.Env:=((e.set 14 zv).set 15 Ve).set 16 Vd
theorem JE:Rest (.tup [.tup [],.tup [],.tup [],.tup []]):=⟨rfl,rfl,rfl,λ_ _ _=>rfl⟩
theorem R6{y12 y13:Os}:∃y0,OkS y0/\iD (some 9) (jd (vE 9)) (gN 14) nI (lE ns far a b p q hs y3 y11 y12 y13)=some (.nx (tE (lE ns far a b p q hs y3 y11 y12 y13) y0 none none)):=by
 obtain⟨y0,h,e⟩:=Fc (e0:=some (.sh (.scr ns))) (e1:=some (.sh (.int far))) (e2:=some (.sh dG)) (e3:=y3) (e4:=some (.sh iB)) (e5:=some (.sh (.tup oD2))) (e6:=some (.sh wdD)) (e7:=some (.own (.lst [hsD a wdD (bkD p.1 p.2),hsD b wdD (bkD q.1 q.2)]))) (e8:=some (.own (.lst [bkD p.1 p.2,bkD q.1 q.2]))) (e9:=some (.lok (.lst (hs.map prD)))) (e10:=some (.sh (hsD b wdD (bkD q.1 q.2)))) (e11:=y11) (e12:=y12) (e13:=y13) (e15:=none) (e16:=none) hs none (.inl rfl);refine⟨y0,h, ?_⟩;unfold lE tE;generalize hs.map prD=H at*;generalize hsD a wdD (bkD p.1 p.2)=A at*;generalize hsD b wdD (bkD q.1 q.2)=B at*;generalize bkD p.1 p.2=P at*;generalize bkD q.1 q.2=Q at*;generalize dG=g at*;generalize iB=r at*;generalize D.tup oD2=o at*;generalize wdD=w at*;simp[-forL,e,freed]
theorem OH{x y z:Int}{e:DL.Env}(hf:0<=far/\far<1000000000)(h0:vE 0 e=some ⟨.c,.scr ns⟩)(h1:vE 1 e=some ⟨.c,.int far⟩):∃t:Tr,bI 16 (aQ (aa (aV b4 (aa (vE 0) (aa (kE (.int 7)) (aa (kE (.int 3)) ao)))) (aa (opE pP (vE 1) (aV b4 (aa (vE 0) (aa (kE (.int 8)) (aa (kE (.int 5)) ao))))) (aa (opE gC (kE (.int 1)) (aV b4 (aa (vE 0) (aa (kE (.int 9)) (aa (opE tQ (kE (.int 10)) (kE (.int 6))) ao))))) ao)))) e=some (.nx (e.set 16 (some (.sh (trD t))))):=by
 have d7:=iK (ns:=ns) (k:=7) (m:=3) (by lia) (by lia) (by lia);have d8:=iK (ns:=ns) (k:=8) (m:=5) (by lia) (by lia) (by lia);have d9:=iK (ns:=ns) (k:=9) (m:=1000000) (by lia) (by lia) (by lia);generalize draw ns 7 3=a at*;generalize draw ns 8 5=b at*;generalize draw ns 9 1000000=c at*;refine⟨(a,far*b,1+c), ?_⟩;have m1:ly far b=true:=ui (by lia) (by lia);have pw:tQ (.int 10) (.int 6)=some ⟨.c,.int 1000000⟩:=rfl;have ay:gC (.int 1) (.int c)=some ⟨.c,.int (1+c)⟩:=rfl;have rj:∀j:Int,c5 (.int j)=⟨.c,.int j⟩:=λ_=>rfl;simp[-vE,h0,h1,d7,d8,d9,m1,pw,ay,rj,aq,trD]
variable{E:DL.Env}
theorem Fd{c i:Nat}{f:List Str}{es:List D}{s:Slot}(h:E[i]? =some (some s)):(cq c f es E)[i]? =some (some (s.sub c f es)):=by
 unfold cq;rw[Gas,h];rfl
theorem OI{c:Nat}{t:Tr}(ro:Rest wd)(W8:E[15]? =some (some (.sh (hsD c wd (bkD [t] [])))))(W7:E[16]? =some (some (.sh (trD t)))):ng (jK (aV cb (aa (kC 380 "book" de (vE 15) ao) (aa (aQ (aa (aQ (aa (vE 16) ao)) (aa (aQ ao) ao))) ao)))) E=some false:=by
 have ib:=mG [t] [];have it:=oA t;have iw:=ro.im;have sp:=vo (a:=c) (wd:=wd) ib;have bp:cb [bkD [t] [],.tup [.tup [trD t],.tup []]]=some (.bl true):=nM [t] [];have mp:dR 380 "book" (hsD c wd (bkD [t] []))=true:=cR rfl rfl;have rp:=bU ib;have rv:c5 (.bl true)=⟨.c,.bl true⟩:=rfl;have io:(hsD c wd (bkD [t] [])).imm=true:=by simp[iw,ib]
 generalize hsD c wd (bkD [t] [])=o at*;generalize bkD [t] []=k at*;generalize trD t=td at*;simp[W8,W7,sp,bp,mp,rp,rv,aq,it,io]
theorem LM{g:MS}{i:Nat}{a:DA}{L:List Nat}{R:MK}(ev:a env=some [⟨.c,wd⟩])(ro:Rest wd)(k:∀c,c∉L->g (c::L) (env.set i (some (.sh (hsD c wd (bkD [] []))))) R):cQ (L6 i (oX 380 c6 a)) g L env R:=
 ⟨_,ev,λc hc=>B6 ro ⟨rfl,rfl,rfl,by simp[pls,ro.pl,(aF [] []).pl],k c hc⟩⟩
theorem JF:∀ns:List Int,ns.length<=63->A8 [.scr ns] (λd=>d= .bl true):=by
 intro ns hl;obtain⟨far,hf,e1⟩:=OG (ns:=ns);refine⟨rfl, ?_⟩;unfold J9;refine dY e1 ?_;refine dY LJ ?_;refine dY (e:=[some (.sh (.scr ns)),some (.sh (.int far)),some (.sh dG),none,some (.sh iB),none,none,none,none,none,none,none,none,none,none,none,none]) rfl ?_;refine dY LK ?_;refine dY (e:=[some (.sh (.scr ns)),some (.sh (.int far)),some (.sh dG),none,some (.sh iB),some (.sh (.tup oD2)),some (.sh wdD),none,none,none,none,none,none,none,none,none,none]) rfl ?_;refine JC rfl λa b xP=> ?_;refine dY (e:=[some (.sh (.scr ns)),some (.sh (.int far)),some (.sh dG),none,some (.sh iB),some (.sh (.tup oD2)),some (.sh wdD),some (.own (.lst [hsD a wdD (bkD [] []),hsD b wdD (bkD [] [])])),some (.own (.lst [bkD [] [],bkD [] []])),none,none,none,none,none,none,none,none]) rfl ?_;refine dY (e:=[some (.sh (.scr ns)),some (.sh (.int far)),some (.sh dG),none,some (.sh iB),some (.sh (.tup oD2)),some (.sh wdD),some (.own (.lst [hsD a wdD (bkD [] []),hsD b wdD (bkD [] [])])),some (.own (.lst [bkD [] [],bkD [] []])),some (.own (.lst [])),none,none,none,none,none,none,none]) rfl ?_;refine dY LL ?_;have q6:=jF ns 6 4 (by lia);have d6:=iK (ns:=ns) (k:=6) (m:=4) (by lia) (by lia) (by lia);generalize draw ns 6 4=j6 at*;have bo:BOk 0 ([]:List Tr) []:=⟨List.nodup_nil,List.nodup_nil,by simp,by simp,rfl,rfl,by simp⟩
 obtain⟨T,hT,eT⟩:∃T:Int,(0<=T/\T<=63)/\opE gC (j4 wN (aa (j4 ni (aa (vE 0) ao)) (aa (kE (.int 60)) ao))) (aV b4 (aa (vE 0) (aa (kE (.int 6)) (aa (kE (.int 4)) ao)))) (lE ns far a b ([],[]) ([],[]) [] none none none none)=some ⟨.c,.int T⟩:=by
  have rj:c5 (.int j6)=⟨.c,.int j6⟩:=rfl;have ay:∀i j:Int,gC (.int i) (.int j)=some ⟨.c,.int (i+j)⟩:=λ_ _=>rfl;refine⟨(if(60:Int)<(ns.length:Int) then(60:Int) else(ns.length:Int))+j6,by split<;>lia, ?_⟩;unfold lE;simp[d6,rj,ay,wN]
 refine⟨_,T,eT,rfl,Df (by lia) (by lia), ?_⟩;refine Fb hf.1 hf.2 xP (by simp) (by simp) ?_ T.toNat 0 ([],[]) ([],[]) [] none none none none (by lia) bo bo rfl (.inl rfl) (.inl rfl) (.inl rfl) (.inl rfl);intro p q hs y3 y11 y12 y13 h8 h3 xZ xV xU;obtain⟨y0,W9,e14⟩:=R6 (ns:=ns) (far:=far) (a:=a) (b:=b) (p:=p) (q:=q) (hs:=hs) (y3:=y3) (y11:=y11) (y12:=y12) (y13:=y13);refine dY e14 ?_;have nd:=My (ns:=ns) (far:=far) (a:=a) (b:=b) (p:=p) (q:=q) (hs:=hs) h3 xZ xV xU;have a15:aa (aQ (aa (vE 2) (aa (aQ ao) (aa (aQ ao) (aa (aQ ao) ao))))) ao (tE (lE ns far a b p q hs y3 y11 y12 y13) y0 none none)=some [⟨.c,wdB⟩]:=rfl;refine LM a15 B4 λc hc=> ?_;have s15:(tE (lE ns far a b p q hs y3 y11 y12 y13) y0 none none).set 15 (some (.sh (hsD c wdB (bkD [] []))))=tE (lE ns far a b p q hs y3 y11 y12 y13) y0 (some (.sh (hsD c wdB (bkD [] [])))) none:=rfl;rw[s15];obtain⟨t,e16⟩:=OH (ns:=ns) (far:=far) (x:=0) (y:=0) (z:=0) (e:=tE (lE ns far a b p q hs y3 y11 y12 y13) y0 (some (.sh (hsD c wdB (bkD [] [])))) none) hf rfl rfl;have s16:(tE (lE ns far a b p q hs y3 y11 y12 y13) y0 (some (.sh (hsD c wdB (bkD [] [])))) none).set 16 (some (.sh (trD t)))=tE (lE ns far a b p q hs y3 y11 y12 y13) y0 (some (.sh (hsD c wdB (bkD [] [])))) (some (.sh (trD t))):=rfl;rw[s16] at e16;refine dY e16 ?_;have n1:nxt [] [] t.1 t.2.1 t.2.2 .weigh= .done [t] []:=by
  simp only[nxt];rw[Gag (by simp),List.nil_append];exact congrArg (Res.done · []) (JD t)
 have H:HOk wdB [] [] (nxt [] [] t.1 t.2.1 t.2.2 .weigh):=⟨B4,by simp,by simp,λxo xF e=>by
  rw[n1] at e;injection e with _ e2
  rw[<-e2];exact C2⟩
 have Vq:ndE (tE (lE ns far a b p q hs y3 y11 y12 y13) y0 (some (.sh (hsD c wdB (bkD [] [])))) (some (.sh (trD t))))=true:=B7 16 (B7 15 (B7 14 nd W9.nd) rfl) rfl;have ea:aa (vE 15) (aa (opE gC (aQ (aa (kE (.str "weigh")) ao)) (vE 16)) ao) (tE (lE ns far a b p q hs y3 y11 y12 y13) y0 (some (.sh (hsD c wdB (bkD [] [])))) (some (.sh (trD t))))=some [⟨.c,hsD c wdB (bkD [] [])⟩,⟨.c,bg .weigh t.1 t.2.1 t.2.2⟩]:=rfl;have g15:(tE (lE ns far a b p q hs y3 y11 y12 y13) y0 (some (.sh (hsD c wdB (bkD [] [])))) (some (.sh (trD t))))[15]? =some (some (.sh (hsD c wdB (bkD [] [])))):=rfl;have g16:(tE (lE ns far a b p q hs y3 y11 y12 y13) y0 (some (.sh (hsD c wdB (bkD [] [])))) (some (.sh (trD t))))[16]? =some (some (.sh (trD t))):=rfl;generalize tE (lE ns far a b p q hs y3 y11 y12 y13) y0 (some (.sh (hsD c wdB (bkD [] [])))) (some (.sh (trD t)))=E at*;have u:=OI (E:=cq c fN [wdB,bkD [t] []] E) (c:=c) (t:=t) B4 (by
  have:=Fd (c:=c) (f:=fN) (es:=[wdB,bkD [t] []]) g15
  simpa[Slot.sub,D.sub] using this) (by
  have:=Fd (c:=c) (f:=fN) (es:=[wdB,bkD [t] []]) g16
  simpa[Slot.sub,D.sub,subs,trD] using this)
 refine⟨_,ea,Vq,Gav,Jy H ?_⟩;rw[n1];refine⟨rfl,rfl,rfl,rfl,_,rfl,false,rfl, ?_⟩;show∃c,_/\_;refine⟨false,u, ?_⟩;show∃o,aX _=some o/\_;refine⟨_,rfl, ?_⟩;refine⟨_,rfl,λc2 _=>B6 JE ⟨rfl,rfl,rfl,rfl,cR rfl rfl,_,vo (mG [] []),mG [] [],_,rfl,_,nM [] [],rfl,rfl⟩⟩
end Maths
seal L2.PE L2.PT L2.PW L2.PA L2.PS L2.PSs L2.PG L2.PGs L2.PI
namespace Der
open PySem PySem.Spec PyProof.Rows L2 DL Den
noncomputable abbrev top:=Hd.top
noncomputable abbrev inn:=Hd.inn
noncomputable abbrev vt:Stmt:=top 1
noncomputable abbrev rh:Stmt:=top 2
noncomputable abbrev nO:Stmt:=top 3
noncomputable abbrev kK:Stmt:=top 4
noncomputable abbrev nP:Stmt:=top 5
noncomputable abbrev kL:Stmt:=top 6
noncomputable abbrev pf:Stmt:=top 7
noncomputable abbrev C7:Stmt:=top 18
noncomputable abbrev Ah:Stmt:=top 20
noncomputable abbrev Ai:Stmt:=top 21
noncomputable abbrev rm:Stmt:=top 23
noncomputable abbrev Fe:Stmt:=top 25
noncomputable abbrev kM:Stmt:=top 27
noncomputable abbrev nQ:Stmt:=top 28
noncomputable abbrev kb:Stmt:=top 29
noncomputable abbrev ph:Stmt:=top 30
noncomputable abbrev kN:Stmt:=top 31
noncomputable abbrev nR:Stmt:=top 32
noncomputable abbrev pj:Stmt:=top 33
noncomputable abbrev mM:Stmt:=top 34
noncomputable abbrev Aj:Stmt:=top 35
noncomputable abbrev kO:Stmt:=inn 37 0
noncomputable abbrev pk:Stmt:=inn 37 1
noncomputable abbrev jk:Stmt:=inn 37 8
noncomputable abbrev kc:Stmt:=inn 37 9
noncomputable abbrev pq:Stmt:=inn 37 10
noncomputable abbrev nS:Stmt:=inn 37 2
noncomputable abbrev lM:Stmt:=inn 37 3
noncomputable abbrev pz:Stmt:=inn 37 4
noncomputable abbrev mO:Stmt:=inn 37 5
noncomputable abbrev nU:Stmt:=inn 37 6
noncomputable abbrev pA:Stmt:=inn 37 7
noncomputable abbrev t5:Stmt:=top 39
noncomputable abbrev rA:Stmt:=top 40
noncomputable abbrev t6:Stmt:=top 41
noncomputable abbrev t7:Stmt:=top 42
noncomputable abbrev t8:Stmt:=top 43
noncomputable abbrev t9:Stmt:=top 44
noncomputable abbrev nV:Stmt:=top 45
noncomputable abbrev mP:Stmt:=top 46
noncomputable abbrev tf:Stmt:=top 47
noncomputable abbrev tm:Stmt:=top 48
noncomputable abbrev JG:Stmt:=top 49
theorem pB{us:List Value}{n:Nat}(h:us.length=n+1):∃a t,us=a::t/\t.length=n:=by
 cases us with
 |nil=>cases h
 |cons a t=>exact⟨a,t,rfl,Nat.succ.inj h⟩
theorem all1{K:PySem.W.Frag}{fd:FuncData}{p0:Str}(h:∀v0:Value,bindArgs fd ⟨[v0],[]⟩=pure ([p0].zip [v0])):Binds K fd [p0] []:= .all λus hl=>by
 obtain⟨v0,t0,rfl,hZ⟩:=pB hl;cases GbU.mp hZ;exact h v0
variable{p1:Str}
theorem all2{K:PySem.W.Frag}{fd:FuncData}{p0:Str}(h:∀v0 v1:Value,bindArgs fd ⟨[v0,v1],[]⟩=pure ([p0,p1].zip [v0,v1])):Binds K fd [p0,p1] []:= .all λus hl=>by
 obtain⟨v0,t0,rfl,h0⟩:=pB hl;obtain⟨v1,t1,rfl,hZ⟩:=pB h0;cases GbU.mp hZ;exact h v0 v1
variable{p2:Str}
theorem sM{K:PySem.W.Frag}{fd:FuncData}{p0:Str}(h:∀v0 v1 v2:Value,bindArgs fd ⟨[v0,v1,v2],[]⟩=pure ([p0,p1,p2].zip [v0,v1,v2])):Binds K fd [p0,p1,p2] []:= .all λus hl=>by
 obtain⟨v0,t0,rfl,h0⟩:=pB hl;obtain⟨v1,t1,rfl,h1⟩:=pB h0;obtain⟨v2,t2,rfl,hZ⟩:=pB h1;cases GbU.mp hZ;exact h v0 v1 v2
theorem Dn{K:PySem.W.Frag}{fd:FuncData}{p0 p3:Str}(h:∀v0 v1 v2 v3:Value,bindArgs fd ⟨[v0,v1,v2,v3],[]⟩=pure ([p0,p1,p2,p3].zip [v0,v1,v2,v3])):Binds K fd [p0,p1,p2,p3] []:= .all λus hl=>by
 obtain⟨v0,t0,rfl,h0⟩:=pB hl;obtain⟨v1,t1,rfl,h1⟩:=pB h0;obtain⟨v2,t2,rfl,h2⟩:=pB h1;obtain⟨v3,t3,rfl,hZ⟩:=pB h2;cases GbU.mp hZ;exact h v0 v1 v2 v3
section
variable{Pm:Params}{mg:Str->Option Value}
def Txt(Pm:Params)(mg:Str->Option Value):Prop:=∃h:Heap,(Hd.K Pm).In h/\h.Ns mainGlobals mg
variable{n:Str}
theorem Txt.at{v:Value}(T:Txt Pm mg)(e:PySem.W.nsIn (Hd.K Pm) mainGlobals n=some (some v):=by kernel_rfl):mg n=some v:=let⟨_,X,G⟩:=T;PySem.W.mg_of X G e
theorem Txt.no(T:Txt Pm mg)(e:PySem.W.nsIn (Hd.K Pm) mainGlobals n=some none:=by kernel_rfl):mg n=none:=let⟨_,X,G⟩:=T;PySem.W.mg_none_of X G e
variable{pm cd:Value}{f:Addr}{st:Stmt}{x:Str}
theorem mkF(l:(Hd.K Pm).lookup f=some (Hd.fo (PySem.W.fnOf x x (jo st) (dJ st) (ar st) .none .none .none pm none cd .none)):=by kernel_rfl)(c:PySem.W.codeIn (Hd.K Pm) cd x=true:=by kernel_rfl)(k:PySem.W.keepIn (Hd.K Pm) (.ref f)=true:=by kernel_rfl):Fun (Hd.K Pm) x x st f (PySem.W.fnOf x x (jo st) (dJ st) (ar st) .none .none .none pm none cd .none):=Hh l c k
theorem mkI{q:Str}(l:(Hd.K Pm).lookup f=some (Hd.fo (PySem.W.fnOf x q (jo st) (dJ st) (ar st) .none .none .none pm none cd .none)):=by kernel_rfl)(c:PySem.W.codeIn (Hd.K Pm) cd q=true:=by kernel_rfl)(k:PySem.W.keepIn (Hd.K Pm) (.ref f)=true:=by kernel_rfl):Fun (Hd.K Pm) x q st f (PySem.W.fnOf x q (jo st) (dJ st) (ar st) .none .none .none pm none cd .none):=Hh l c k
theorem sN:Fun (Hd.K Pm) "laid_in" "laid_in" vt 21 Hd.oe:=mkF
theorem lK:Binds (Hd.K Pm) Hd.oe ["rows","row"] []:=all2 λ_ _=>rfl
theorem nW:Fun (Hd.K Pm) "taken_out" "taken_out" rh 26 Hd.ku:=mkF
theorem ja:Binds (Hd.K Pm) Hd.ku ["rows","number","hour"] []:=sM λ_ _ _=>rfl
theorem iZ:Fun (Hd.K Pm) "with_giving" "with_giving" nO 33 Hd.iN:=mkF
theorem dX:Binds (Hd.K Pm) Hd.iN ["book","order","hour","amount"] []:=Dn λ_ _ _ _=>rfl
theorem fX:Fun (Hd.K Pm) "without_giving" "without_giving" kK 40 Hd.fE:=mkF
theorem cI:Binds (Hd.K Pm) Hd.fE ["book","order","hour"] []:=sM λ_ _ _=>rfl
theorem pC:Fun (Hd.K Pm) "with_weight" "with_weight" nP 47 Hd.iO:=mkF
theorem iV:Binds (Hd.K Pm) Hd.iO ["book","guest","hour","weight"] []:=Dn λ_ _ _ _=>rfl
theorem lN:Fun (Hd.K Pm) "without_weight" "without_weight" kL 54 Hd.fF:=mkF
theorem fL:Binds (Hd.K Pm) Hd.fF ["book","guest","hour"] []:=sM λ_ _ _=>rfl
theorem rB:Fun (Hd.K Pm) "givings_of" "givings_of" pf 59 Hd.jq:=mkF
theorem jC:Binds (Hd.K Pm) Hd.jq ["book","order"] []:=all2 λ_ _=>rfl
theorem Ff:Fun (Hd.K Pm) "bound" "bound" C7 212 Hd.ua:=mkF
theorem B1:Binds (Hd.K Pm) Hd.ua ["cap","weight"] []:=all2 λ_ _=>rfl
theorem vA:Fun (Hd.K Pm) "due_of" "due_of" Ah 219 Hd.qv:=mkF
theorem nG:Binds (Hd.K Pm) Hd.qv ["order","hour"] []:=all2 λ_ _=>rfl
theorem C8:Fun (Hd.K Pm) "astray" "astray" Ai 226 Hd.qx:=mkF
theorem qU:Binds (Hd.K Pm) Hd.qx ["order","hour"] []:=all2 λ_ _=>rfl
theorem nX:Fun (Hd.K Pm) "weight_at" "weight_at" rm 233 Hd.kx:=mkF
theorem kH:Binds (Hd.K Pm) Hd.kx ["weights","guest","hour"] []:=sM λ_ _ _=>rfl
theorem JH:Fun (Hd.K Pm) "sums" "sums" Fe 240 Hd.Ay:=mkF
theorem De:Binds (Hd.K Pm) Hd.Ay ["marks","hours"] []:=all2 λ_ _=>rfl
theorem lO:Fun (Hd.K Pm) "goes_by_weight" "goes_by_weight" kM 245 Hd.fG:=mkF
theorem fP:Binds (Hd.K Pm) Hd.fG ["stuff"] []:=all1 λ_=>rfl
theorem pD:Fun (Hd.K Pm) "lone_faults" "lone_faults" nQ 250 Hd.iP:=mkF
theorem iX:Binds (Hd.K Pm) Hd.iP ["world","weights","giving"] []:=sM λ_ _ _=>rfl
theorem kP:Fun (Hd.K Pm) "marks_by_target" "marks_by_target" kb 257 Hd.fb:=mkF
theorem cX:Binds (Hd.K Pm) Hd.fb ["world","givings"] []:=all2 λ_ _=>rfl
theorem rC:Fun (Hd.K Pm) "cap_faults" "cap_faults" ph 264 Hd.jr:=mkF
theorem jD:Binds (Hd.K Pm) Hd.jr ["world","weights","givings"] []:=sM λ_ _ _=>rfl
theorem lP:Fun (Hd.K Pm) "gaps_by_stuffs" "gaps_by_stuffs" kN 271 Hd.fH:=mkF
theorem fQ:Binds (Hd.K Pm) Hd.fH ["bars"] []:=all1 λ_=>rfl
theorem pE:Fun (Hd.K Pm) "gap_between" "gap_between" nR 278 Hd.iQ:=mkF
theorem lj:Binds (Hd.K Pm) Hd.iQ ["gaps","order","other"] []:=sM λ_ _ _=>rfl
theorem rD:Fun (Hd.K Pm) "gap_faults" "gap_faults" pj 283 Hd.js:=mkF
theorem jE:Binds (Hd.K Pm) Hd.js ["world","givings"] []:=all2 λ_ _=>rfl
theorem nY:Fun (Hd.K Pm) "twice_faults" "twice_faults" mM 288 Hd.gM:=mkF
theorem i4:Binds (Hd.K Pm) Hd.gM ["world","givings"] []:=all2 λ_ _=>rfl
theorem C9:Fun (Hd.K Pm) "faults" "faults" Aj 295 Hd.qy:=mkF
theorem qV:Binds (Hd.K Pm) Hd.qy ["world","book"] []:=all2 λ_ _=>rfl
theorem bN:Fun (Hd.K Pm) "_law_draw" "_law_draw" t5 391 Hd.lV:=mkF
theorem bF:Binds (Hd.K Pm) Hd.lV ["_law_script","_law_k","_law_many"] []:=sM λ_ _ _=>rfl
theorem gJ:Fun (Hd.K Pm) "_law_whole" "_law_whole" rA 398 Hd.kz:=mkF
theorem dH:Binds (Hd.K Pm) Hd.kz ["_law_found"] []:=all1 λ_=>rfl
theorem vB:Fun (Hd.K Pm) "_law_call" "_law_call" t6 405 Hd.lW:=mkF
theorem jW:Binds (Hd.K Pm) Hd.lW ["_law_house","_law_deed_here"] []:=all2 λ_ _=>rfl
theorem qe:Fun (Hd.K Pm) "_law_told" "_law_told" t7 412 Hd.lX:=mkF
theorem jX:Binds (Hd.K Pm) Hd.lX ["_law_house","_law_deed_here"] []:=all2 λ_ _=>rfl
theorem qf:Fun (Hd.K Pm) "_law_part" "_law_part" t8 417 Hd.lY:=mkF
theorem jZ:Binds (Hd.K Pm) Hd.lY ["_law_kept"] []:=all1 λ_=>rfl
theorem vC:Fun (Hd.K Pm) "_law_next" "_law_next" t9 424 Hd.lZ:=mkF
theorem dP:Binds (Hd.K Pm) Hd.lZ ["_law_book","_law_deed_here"] []:=all2 λ_ _=>rfl
theorem dZ:Fun (Hd.K Pm) "_law_is_book" "_law_is_book" nV 431 Hd.iT:=mkF
theorem cG:Binds (Hd.K Pm) Hd.iT ["_law_found","_law_due"] []:=all2 λ_ _=>rfl
theorem nZ:Fun (Hd.K Pm) "_law_is_entry" "_law_is_entry" mP 438 Hd.gP:=mkF
theorem i7:Binds (Hd.K Pm) Hd.gP ["_law_found","_law_due"] []:=all2 λ_ _=>rfl
theorem vD:Fun (Hd.K Pm) "_law_deed" "_law_deed" tf 445 Hd.m8:=mkF
theorem dz:Binds (Hd.K Pm) Hd.m8 ["_law_script","_law_k","_law_far"] []:=sM λ_ _ _=>rfl
theorem vF:Fun (Hd.K Pm) "_law_step" "_law_step" tm 452 Hd.m9:=mkF
theorem gB:Binds (Hd.K Pm) Hd.m9 ["_law_house","_law_books","_law_at","_law_deed_here"] []:=Dn λ_ _ _ _=>rfl
theorem R7:Fun (Hd.K Pm) "law" "law" JG 457 Hd.DV:=mkF
theorem Txt.R8(T:Txt Pm mg):mg "law"=some (.ref 457):=T.at
theorem J9:Binds (Hd.K Pm) Hd.DV ["_law_script"] []:=all1 λ_=>rfl
theorem sO:Fun (Hd.K Pm) "__init__" "House.__init__" kO 309 Hd.fJ:=mkI
theorem bQ:Binds (Hd.K Pm) Hd.fJ ["self","world"] []:=all2 λ_ _=>rfl
theorem B8:Fun (Hd.K Pm) "book" "House.book" pk 316 Hd.jt:=mkI
theorem da:Binds (Hd.K Pm) Hd.jt ["self"] []:=all1 λ_=>rfl
theorem rE:Meth (Hd.K Pm) 380 "book" 316:=⟨by kernel_rfl,by kernel_rfl,by kernel_rfl⟩
theorem qg:Fun (Hd.K Pm) "is_weighed" "House.is_weighed" jk 363 Hd.dM:=mkI
theorem cM:Binds (Hd.K Pm) Hd.dM ["self","guest","hour"] []:=sM λ_ _ _=>rfl
theorem pF:Meth (Hd.K Pm) 380 "is_weighed" 363:=⟨by kernel_rfl,by kernel_rfl,by kernel_rfl⟩
theorem rF:Fun (Hd.K Pm) "amount_at" "House.amount_at" kc 370 Hd.ff:=mkI
theorem bJ:Binds (Hd.K Pm) Hd.ff ["self","order","hour"] []:=sM λ_ _ _=>rfl
theorem i9:Meth (Hd.K Pm) 380 "amount_at" 370:=⟨by kernel_rfl,by kernel_rfl,by kernel_rfl⟩
theorem B9:Fun (Hd.K Pm) "keep" "House.keep" pq 377 Hd.ju:=mkI
theorem c9:Binds (Hd.K Pm) Hd.ju ["self","book"] []:=all2 λ_ _=>rfl
theorem oJ:Meth (Hd.K Pm) 380 "keep" 377:=⟨by kernel_rfl,by kernel_rfl,by kernel_rfl⟩
theorem wa:Fun (Hd.K Pm) "weigh" "House.weigh" nS 323 Hd.iR:=mkI
theorem dm:Binds (Hd.K Pm) Hd.iR ["self","guest","hour","weight"] []:=Dn λ_ _ _ _=>rfl
theorem JI:Meth (Hd.K Pm) 380 "weigh" 323:=⟨by kernel_rfl,by kernel_rfl,by kernel_rfl⟩
theorem tZ:Fun (Hd.K Pm) "unweigh" "House.unweigh" lM 330 Hd.gu:=mkI
theorem cv:Binds (Hd.K Pm) Hd.gu ["self","guest","hour"] []:=sM λ_ _ _=>rfl
theorem Dp:Meth (Hd.K Pm) 380 "unweigh" 330:=⟨by kernel_rfl,by kernel_rfl,by kernel_rfl⟩
theorem Ba:Fun (Hd.K Pm) "give" "House.give" pz 337 Hd.jv:=mkI
theorem dO:Binds (Hd.K Pm) Hd.jv ["self","order","hour","amount"] []:=Dn λ_ _ _ _=>rfl
theorem LN:Meth (Hd.K Pm) 380 "give" 337:=⟨by kernel_rfl,by kernel_rfl,by kernel_rfl⟩
theorem vG:Fun (Hd.K Pm) "strike" "House.strike" mO 344 Hd.gO:=mkI
theorem cN:Binds (Hd.K Pm) Hd.gO ["self","order","hour"] []:=sM λ_ _ _=>rfl
theorem Gw:Meth (Hd.K Pm) 380 "strike" 344:=⟨by kernel_rfl,by kernel_rfl,by kernel_rfl⟩
theorem wc:Fun (Hd.K Pm) "amend" "House.amend" nU 351 Hd.iS:=mkI
theorem dq:Binds (Hd.K Pm) Hd.iS ["self","order","hour","amount"] []:=Dn λ_ _ _ _=>rfl
theorem JJ:Meth (Hd.K Pm) 380 "amend" 351:=⟨by kernel_rfl,by kernel_rfl,by kernel_rfl⟩
theorem Bb:Fun (Hd.K Pm) "move" "House.move" pA 358 Hd.jw:=mkI
theorem cC:Binds (Hd.K Pm) Hd.jw ["self","order","hour","other"] []:=Dn λ_ _ _ _=>rfl
theorem LO:Meth (Hd.K Pm) 380 "move" 358:=⟨by kernel_rfl,by kernel_rfl,by kernel_rfl⟩
theorem aL:L2.Cls (Hd.K Pm) 380:=⟨by kernel_rfl,by kernel_rfl,by kernel_rfl,by kernel_rfl⟩
theorem Ca:kR (Hd.K Pm) 380 "world":=show PySem.W.findIn (Hd.K Pm) (.ref 380) "world"=some none by kernel_rfl
theorem ic:kR (Hd.K Pm) 380 "kept":=show PySem.W.findIn (Hd.K Pm) (.ref 380) "kept"=some none by kernel_rfl
theorem rG:Mk (Hd.K Pm) 380 309:=⟨by kernel_rfl,by kernel_rfl,by kernel_rfl,by kernel_rfl⟩
theorem Txt.Bc(T:Txt Pm mg):mg "ValueError"=none:=T.no
theorem Txt.R9(T:Txt Pm mg):mg "any"=none:=T.no
theorem Txt.OJ(T:Txt Pm mg):mg "bool"=none:=T.no
theorem Txt.o4(T:Txt Pm mg):mg "enumerate"=none:=T.no
theorem Txt.Ra(T:Txt Pm mg):mg "int"=none:=T.no
theorem Txt.bT(T:Txt Pm mg):mg "isinstance"=none:=T.no
theorem Txt.tq(T:Txt Pm mg):mg "len"=none:=T.no
theorem Txt.Rb(T:Txt Pm mg):mg "max"=none:=T.no
theorem Txt.Rc(T:Txt Pm mg):mg "min"=none:=T.no
theorem Txt.ur(T:Txt Pm mg):mg "range"=none:=T.no
theorem Txt.o5(T:Txt Pm mg):mg "sorted"=none:=T.no
theorem Txt.jG(T:Txt Pm mg):mg "tuple"=none:=T.no
theorem XB:XBs (Hd.K Pm) 69:=⟨by kernel_rfl,by kernel_rfl,by kernel_rfl⟩
theorem oK:XCl (Hd.K Pm) 69 127 124 "entry":=IZ (by kernel_rfl:(Hd.K Pm).lookup 127=some Hd.DW) (by kernel_rfl) (by kernel_rfl) (by kernel_rfl) (by kernel_rfl:(Hd.K Pm).lookup 124=some (Hd.fo Hd.qz)) rfl (by kernel_rfl) (by kernel_rfl) (by kernel_rfl) (by kernel_rfl) (by kernel_rfl)
theorem o6:XIs (Hd.K Pm) 127:=J1 oK (by kernel_rfl) (by kernel_rfl) (by kernel_rfl)
theorem vH:Binds (Hd.K Pm) Hd.qz ["self","entry"] []:=all2 λ_ _=>rfl
variable{base:Heap}{w:World}{P:Program}
theorem qh(T:Txt Pm mg):bu P w (Hd.K Pm) mg base CX0 1 124 Hd.qz ["self","entry"] (uZ (Hd.K Pm) 69 127 "entry"):=EU (sd:=Hd.inn 12 0) mkI cS XB oK rfl T.at rfl rfl rfl (by decide) (by decide) (by decide) (λenv=> ⟨_,rfl⟩) (λ_=>rfl) (λ_=>rfl)
theorem iM:XCl (Hd.K Pm) 69 146 143 "entry":=IZ (by kernel_rfl:(Hd.K Pm).lookup 146=some Hd.wM) (by kernel_rfl) (by kernel_rfl) (by kernel_rfl) (by kernel_rfl:(Hd.K Pm).lookup 143=some (Hd.fo Hd.md)) rfl (by kernel_rfl) (by kernel_rfl) (by kernel_rfl) (by kernel_rfl) (by kernel_rfl)
theorem kf:XIs (Hd.K Pm) 146:=J1 iM (by kernel_rfl) (by kernel_rfl) (by kernel_rfl)
theorem mK:Binds (Hd.K Pm) Hd.md ["self","entry"] []:=all2 λ_ _=>rfl
theorem jH(T:Txt Pm mg):bu P w (Hd.K Pm) mg base CX0 1 143 Hd.md ["self","entry"] (uZ (Hd.K Pm) 69 146 "entry"):=EU (sd:=Hd.inn 13 0) mkI cS XB iM rfl T.at rfl rfl rfl (by decide) (by decide) (by decide) (λenv=> ⟨_,rfl⟩) (λ_=>rfl) (λ_=>rfl)
theorem we:∀C∈[127,146],PySem.W.exmOne (Hd.K Pm) (.ref C) (.ref 69)=some true:=mB (by kernel_rfl) (by kernel_rfl)
theorem Gx:∀q∈[(146,false),(127,false)],XIs (Hd.K Pm) q.1/\PySem.W.kitOne (Hd.K Pm) (.ref q.1) (.ref 165)=some q.2:=mB ⟨kf,by kernel_rfl⟩ ⟨o6,by kernel_rfl⟩
theorem Dq:∀q∈[(146,true),(127,false)],XIs (Hd.K Pm) q.1/\PySem.W.kitOne (Hd.K Pm) (.ref q.1) (.ref 146)=some q.2:=mB ⟨kf,by kernel_rfl⟩ ⟨o6,by kernel_rfl⟩
theorem JK:∀q∈[(146,false),(127,true)],XIs (Hd.K Pm) q.1/\PySem.W.kitOne (Hd.K Pm) (.ref q.1) (.ref 127)=some q.2:=mB ⟨kf,by kernel_rfl⟩ ⟨o6,by kernel_rfl⟩
theorem iz:∀q∈[(146,false),(127,false)],XIs (Hd.K Pm) q.1/\PySem.W.kitAny (Hd.K Pm) (.ref q.1) ([89,108,184,203].map Value.ref)=some q.2:=mB ⟨kf,by kernel_rfl⟩ ⟨o6,by kernel_rfl⟩
theorem wg:∀q∈[(146,true),(127,true)],XIs (Hd.K Pm) q.1/\PySem.W.kitOne (Hd.K Pm) (.ref q.1) (.type "ValueError")=some q.2:=mB ⟨kf,by kernel_rfl⟩ ⟨o6,by kernel_rfl⟩
theorem Cb:∀C∈([146,127]:List Nat),∃B fI,XCl (Hd.K Pm) B C fI "entry":=mB ⟨_,_,iM⟩ ⟨_,_,oK⟩
theorem Gy:∀C∈([]:List Nat),∃B fI,XCl (Hd.K Pm) B C fI "faults":=λq h=>by cases h
theorem wj:bootBuiltins "ValueError"=some (.type "ValueError"):=by decide+kernel
end
variable{fa:Addr}
theorem bY{X:Cx}{e:Expr}{pos p:Pos}{k m np:Nat}{fd:FuncData}{ps:List Str}{sp:List D->Option D}{x:Str}{st:Stmt}{es:List Expr}{r:DA}(F:bu X.prog X.w X.K X.mg X.base CX0 k fa fd ps (spD X.K np sp))(hr:cP m X.A)(hg:Gl X x)(hm:X.mg x=some (.ref fa))(hF:Fun X.K x x st fa fd)(hb:Binds X.K fd ps [])(ha:PAd X (e::es) r)(hl:∀env rs,r env=some rs->rs.length=np)(hk:autoParam (k<=m) Za2._auto_1)(xu:autoParam ((x==("__debug__":Str))=false) Za2._auto_1)(he:autoParam (starEach (e::es) X.env=(false,eval e X.env)::starEach es X.env) Za1._auto_1)(xa:autoParam ((backTo pos (starEach es X.env)).any (·.1)=false) Za1._auto_1):PEd X (.Call (.Name x p) (e::es) [] pos) (aV sp r):=Kp F (hr.mono hk) hg hm hF.kp hb uE ha hl xu he xa
seal Hd.K
section
variable{P:Program}{w:World}{Pm:Params}{mg:Str->Option Value}{base:Heap}
theorem Dr:aM ["rows","row"] ["rows","row"] (ar vt):=cS
theorem vI(T:Txt Pm mg):bu P w (Hd.K Pm) mg base CX0 1 21 Hd.oe ["rows","row"] (spD (Hd.K Pm) 2 jI):=by
 refine cK sN Dr rfl λeR A outer s H E hr=> ?_;refine ai 0 _ λv0=>ai 1 _ λv1=>aY "sorted" λh7=>aY "tuple" λeW=> ?_;exact(aB (aN (nv g8 j7 eW T.jG gV (a8 (gz j8 gX h7 T.o5 lB (a8 (mw (v0 _) (az (a8 (v1 _) ah))) ah)) ah))))
theorem Bd:aM ["rows","number","hour"] ["rows","number","hour"] (ar rh):=cS
theorem rH(T:Txt Pm mg):bu P w (Hd.K Pm) mg base CX0 1 26 Hd.ku ["rows","number","hour"] (spD (Hd.K Pm) 3 gI):=by
 refine cK nW Bd rfl λeR A outer s H E hr=> ?_;have hu:=cD hr;have hu20:=bZ hr;refine ai 0 _ λv0=>aY "tuple" λeW=> ?_;exact(aB (aN (nv g8 j7 eW T.jG gV (a8 (jB (N:=["row","number","hour"]) (l:=(some 0)) rfl (by exact⟨rfl,rfl,rfl,rfl,rfl,by decide,rfl,rfl⟩) (dE (v0 _)) gW ⟨λ_ _ _ _ _=>(b8 (i:=0) (iG (by decide+kernel)) rfl (cH rfl) (iH rfl)),λ_ _ _ _ _=>(sG (kA (aK (iE (by exact hu20)) iF (aj (by exact hu) (bR (i:=0) (hN:=rfl) (hv:=br rfl)) af) (bR (i:=1) (hN:=rfl) (hv:=lC rfl)) (aI _)) (gS (aK (iE (by exact hu20)) iF (aj (by exact hu) (bR (i:=0) (hN:=rfl) (hv:=br rfl)) af) (bR (i:=2) (hN:=rfl) (hv:=lC rfl)) (aI _)))).pt),λ_ _ _ _ _=>(bR (i:=0) (hN:=rfl) (hv:=br rfl))⟩) ah))))
theorem vJ:aM ["book","order","hour","amount"] ["book","order","hour","amount"] (ar nO):=cS
theorem kg(T:Txt Pm mg):bu P w (Hd.K Pm) mg base CX0 2 33 Hd.iN ["book","order","hour","amount"] (spD (Hd.K Pm) 4 cF):=by
 refine cK iZ vJ rfl λeR A outer s H E hr=> ?_;have hu:=cD hr;refine ai 0 _ λv0=>ai 1 _ λv1=>ai 2 _ λv2=>ai 3 _ λv3=>aY "laid_in" λxK=> ?_;exact(aB (aN (az (a8 (aj hu (v0 _) af) (a8 (bY (vI T) hr xK T.at sN lK (a8 (aj hu (v0 _) af) (a8 (az (a8 (v1 _) (a8 (v2 _) (a8 (v3 _) ah)))) ah)) (ae (ae au))) ah)))))
theorem rJ:aM ["book","order","hour"] ["book","order","hour"] (ar kK):=cS
theorem ij(T:Txt Pm mg):bu P w (Hd.K Pm) mg base CX0 2 40 Hd.fE ["book","order","hour"] (spD (Hd.K Pm) 3 bP):=by
 refine cK fX rJ rfl λeR A outer s H E hr=> ?_;have hu:=cD hr;refine ai 0 _ λv0=>ai 1 _ λv1=>ai 2 _ λv2=>aY "taken_out" λxx=> ?_;exact(aB (aN (az (a8 (aj hu (v0 _) af) (a8 (bY (rH T) hr xx T.at nW ja (a8 (aj hu (v0 _) af) (a8 (v1 _) (a8 (v2 _) ah))) (ae (ae (ae au)))) ah)))))
theorem vK:aM ["book","guest","hour","weight"] ["book","guest","hour","weight"] (ar nP):=cS
theorem vL(T:Txt Pm mg):bu P w (Hd.K Pm) mg base CX0 2 47 Hd.iO ["book","guest","hour","weight"] (spD (Hd.K Pm) 4 iW):=by
 refine cK pC vK rfl λeR A outer s H E hr=> ?_;have hu:=cD hr;refine ai 0 _ λv0=>ai 1 _ λv1=>ai 2 _ λv2=>ai 3 _ λv3=>aY "laid_in" λxK=> ?_;exact(aB (aN (az (a8 (bY (vI T) hr xK T.at sN lK (a8 (aj hu (v0 _) af) (a8 (az (a8 (v1 _) (a8 (v2 _) (a8 (v3 _) ah)))) ah)) (ae (ae au))) (a8 (aj hu (v0 _) af) ah)))))
theorem rK:aM ["book","guest","hour"] ["book","guest","hour"] (ar kL):=cS
theorem rL(T:Txt Pm mg):bu P w (Hd.K Pm) mg base CX0 2 54 Hd.fF ["book","guest","hour"] (spD (Hd.K Pm) 3 fM):=by
 refine cK lN rK rfl λeR A outer s H E hr=> ?_;have hu:=cD hr;refine ai 0 _ λv0=>ai 1 _ λv1=>ai 2 _ λv2=>aY "taken_out" λxx=> ?_;exact(aB (aN (az (a8 (bY (rH T) hr xx T.at nW ja (a8 (aj hu (v0 _) af) (a8 (v1 _) (a8 (v2 _) ah))) (ae (ae (ae au)))) (a8 (aj hu (v0 _) af) ah)))))
theorem wk:aM ["book","order"] ["book","order"] (ar pf):=cS
theorem wm(T:Txt Pm mg):bu P w (Hd.K Pm) mg base CX0 1 59 Hd.jq ["book","order"] (spD (Hd.K Pm) 2 mD):=by
 refine cK rB wk rfl λeR A outer s H E hr=> ?_;have hu:=cD hr;have hu20:=bZ hr;refine ai 0 _ λv0=> ?_;exact(aB (aN (jB (N:=["row","order"]) (l:=none) rfl (by exact⟨rfl,rfl,rfl,rfl,rfl,by decide,rfl,rfl⟩) (dE (aj hu (v0 _) af)) gW ⟨λ_ _ _ _ _=>(b8 (i:=0) (iG (by decide+kernel)) rfl (cH rfl) (iH rfl)),λ_ _ _ _ _=>(sG (aK (bW (by exact hu20)) bX (aj (by exact hu) (bR (i:=0) (hN:=rfl) (hv:=br rfl)) af) (bR (i:=1) (hN:=rfl) (hv:=lC rfl)) (aI _))),λ_ _ _ _ _=>(az (a8 (aj (by exact hu) (bR (i:=0) (hN:=rfl) (hv:=br rfl)) af) (a8 (aj (by exact hu) (bR (i:=0) (hN:=rfl) (hv:=br rfl)) af) ah)))⟩)))
theorem JL:aM ["cap","weight"] ["cap","weight"] (ar C7):=cS
theorem JM(T:Txt Pm mg):bu P w (Hd.K Pm) mg base CX0 1 212 Hd.ua ["cap","weight"] (spD (Hd.K Pm) 2 EV):=by
 refine cK Ff JL rfl λeR A outer s H E hr=> ?_;have hu:=cD hr;have hu20:=bZ hr;refine ai 0 _ λv0=>ai 1 _ λv1=> ?_;exact(ax (bS (aK (bW hu20) bX (aj hu (v0 _) af) aR (aI _))
  (aB (aN (aj hu (v0 _) af)))
  aS)
 (ax (bS (aK (bW hu20) bX (aj hu (v0 _) af) aR (aI _))
  (aB (aN (aj hu (v0 _) af)))
  aS)
 (ax (bS (aK lT jy (v1 _) cc (aI _))
  (aB (aN cc))
  aS)
 (aB (aN (AE (mi (v1 _) (aj hu (v0 _) af)) (aj hu (v0 _) af)))))))
theorem Ak:aM ["order","hour","dues","behind","k"] ["order","hour"] (ar Ah):=cS
theorem Al(T:Txt Pm mg):bu P w (Hd.K Pm) mg base CX0 1 219 Hd.qv ["order","hour"] (spD (Hd.K Pm) 2 qT):=by
 refine cK vA Ak rfl λeR A outer s H E hr=> ?_;have sc:=Ak;have hu:=cD hr;have hu20:=bZ hr;refine ai 0 _ λv0=>ai 1 _ λv1=>ai 2 _ λv2=>ai 3 _ λv3=>ai 4 _ λv4=>aJ 2 "dues" λl2=>aJ 3 "behind" λl3=>aJ 4 "k" λl4=> ?_;exact(ax (aO (i:=2) sc.nd rfl l2 (aj hu (v0 _) af))
 (ax (bS (aK (bW hu20) bX (aj hu (v2 _) af) aR (aI _))
  (aB (aN cc))
  aS)
 (ax (aO (i:=3) sc.nd rfl l3 (sr (v1 _) (sr (aj hu (v2 _) af) (aj hu (v2 _) af))))
 (ax (aO (i:=4) sc.nd rfl l4 (AE (v3 _) (aj hu (v2 _) af)))
 (ax (bS (kA (gU (HA GO CG Bk uJ af (v4 _) (aj hu (v2 _) af))) (gS (aK uz pV (sr (v3 _) (mi (v4 _) (aj hu (v2 _) af))) (cJ (aj hu (v2 _) af) (aj hu (v2 _) af)) (aI _)))).pt
  (aB (aN cc))
  aS)
 (aB (aN (v4 _))))))))
theorem Am:aM ["order","hour","dues"] ["order","hour"] (ar Ai):=cS
theorem Gz(T:Txt Pm mg):bu P w (Hd.K Pm) mg base CX0 2 226 Hd.qx ["order","hour"] (spD (Hd.K Pm) 2 vk):=by
 refine cK C8 Am rfl λeR A outer s H E hr=> ?_;have sc:=Am;have hu:=cD hr;have hu20:=bZ hr;refine ai 0 _ λv0=>ai 1 _ λv1=>ai 2 _ λv2=>aJ 2 "dues" λl2=>aY "due_of" λxX=> ?_;exact(ax (aO (i:=2) sc.nd rfl l2 (aj hu (v0 _) af))
 (ax (bS (aK (bW hu20) bX (aj hu (v2 _) af) aR (aI _))
  (aB (aN (sv Bk uJ (v1 _) (aj hu (v2 _) af) (aI _))))
  aS)
 (aB (aN (sv lT jy (bY (Al T) hr xX T.at vA nG (a8 (v0 _) (a8 (v1 _) ah)) (ae (ae au))) cc (aI _))))))
theorem rM:aM ["weights","guest","hour","found","row"] ["weights","guest","hour"] (ar rm):=cS
theorem rN(T:Txt Pm mg):bu P w (Hd.K Pm) mg base CX0 1 233 Hd.kx ["weights","guest","hour"] (spD (Hd.K Pm) 3 nH):=by
 refine cK nX rM rfl λeR A outer s H E hr=> ?_;have sc:=rM;have hu:=cD hr;have hu20:=bZ hr;refine ai 0 _ λv0=>ai 1 _ λv1=>ai 2 _ λv2=>ai 3 _ λv3=>ai 4 _ λv4=>aJ 3 "found" λl3=>aJ 4 "row" λl4=> ?_;exact(ax (aO (i:=3) sc.nd rfl l3 cc)
 (ax (f9 (l:=(some 0)) GaE rfl (dE (v0 _)) (b8 (i:=4) sc.nd rfl l4)
  (aB (bS (nu (aK (bW hu20) bX (aj hu (v4 _) af) (v1 _) (aI _)) (mj (aK GO CG (aj hu (v4 _) af) (v2 _) (aI _)))).pt
  (aB (aO (i:=3) sc.nd rfl l3 (aj hu (v4 _) af)))
  aS)))
 (aB (aN (v3 _)))))
theorem Fg:aM ["marks","hours","rows","found","total","gone","k","row"] ["marks","hours"] (ar Fe):=cS
theorem LP(T:Txt Pm mg):bu P w (Hd.K Pm) mg base CX0 1 240 Hd.Ay ["marks","hours"] (spD (Hd.K Pm) 2 J8):=by
 refine cK JH Fg rfl λeR A outer s H E hr=> ?_;have sc:=Fg;have hu:=cD hr;have hu20:=bZ hr;refine ai 0 _ λv0=>ai 1 _ λv1=>ai 2 _ λv2=>ai 3 _ λv3=>ai 4 _ λv4=>ai 5 _ λv5=>ai 6 _ λv6=>ai 7 _ λv7=>aJ 2 "rows" λl2=>aJ 3 "found" λl3=>mm 3 "found" λw3=>aJ 4 "total" λl4=>aJ 5 "gone" λl5=>aJ 6 "k" λl6=>aJ 7 "row" λl7=>aY "enumerate" λhI=>aY "len" λxn=>aY "sorted" λh7=> ?_;exact(ax (aO (i:=2) sc.nd rfl l2 (gz j8 gX h7 T.o5 lB (a8 (v0 _) ah)))
 (ax (aO (i:=3) sc.nd rfl l3 (ml ah))
 (ax (aO (i:=4) sc.nd rfl l4 af)
 (ax (aO (i:=5) sc.nd rfl l5 af)
 (ax (f9 (l:=(some 2)) GaE rfl (AL hI T.o4 (v2 _)) (sE rfl (dQ (b8 (i:=6) sc.nd rfl l6) (dQ (b8 (i:=7) sc.nd rfl l7) oj)))
  (ax (aO (i:=4) sc.nd rfl l4 (cJ (v4 _) (aj hu (v7 _) af)))
 (ax (HF GaE (nu (aK qp nr (v1 _) cc (aI _)) (mj (aK GO CG (aj hu (aj hu (v2 _) (v5 _)) af) (sr (aj hu (v7 _) af) (v1 _)) (aI _)))).pt
  (ax (aO (i:=4) sc.nd rfl l4 (sr (v4 _) (aj hu (aj hu (v2 _) (v5 _)) af)))
 (aB (aO (i:=5) sc.nd rfl l5 (cJ (v5 _) af)))))
 (aB (bS (kA (aK (bW hu20) bX (cJ (v6 _) af) (gz (j3.or gF) gG xn T.tq nA (a8 (v2 _) ah)) (aI _)) (gS (aK uz pV (aj hu (aj hu (v2 _) (cJ (v6 _) af)) af) (aj hu (v7 _) af) (aI _)))).pt
  (aB (fK (i:=3) rfl w3 (az (a8 (aj hu (v7 _) af) (a8 (v4 _) ah)))))
  aS)))))
 (aB (aN (v3 _))))))))
theorem rO:aM ["stuff"] ["stuff"] (ar kM):=cS
theorem rP(T:Txt Pm mg):bu P w (Hd.K Pm) mg base CX0 1 245 Hd.fG ["stuff"] (spD (Hd.K Pm) 1 iJ):=by
 refine cK lO rO rfl λeR A outer s H E hr=> ?_;have hu:=cD hr;have hu20:=bZ hr;refine ai 0 _ λv0=>aY "any" λTt=> ?_;exact(aB (aN (gz (FR (by rfl)) FU Tt T.R9 NG (a8 (jB (N:=["cap"]) (l:=none) rfl (by exact⟨rfl,rfl,rfl,rfl,rfl,by decide,rfl,rfl⟩) (dE (aj hu (v0 _) af)) gW ⟨λ_ _ _ _ _=>(b8 (i:=0) (iG (by decide+kernel)) rfl (cH rfl) (iH rfl)),λ_ _ _ _ _=>gH,λ_ _ _ _ _=>(sv (bW (by exact hu20)) bX (aj (by exact hu) (bR (i:=0) (hN:=rfl) (hv:=br rfl)) af) aR (aI _))⟩) ah))))
theorem o7:aM ["world","weights","giving","number","hour","amount","order","stuff","kinds"] ["world","weights","giving"] (ar nQ):=cS
theorem vM(T:Txt Pm mg):bu P w (Hd.K Pm) mg base CX0 3 250 Hd.iP ["world","weights","giving"] (spD (Hd.K Pm) 3 l0):=by
 refine cK pD o7 rfl λeR A outer s H E hr=> ?_;have sc:=o7;have hu:=cD hr;have hu20:=bZ hr;refine ai 0 _ λv0=>ai 1 _ λv1=>ai 2 _ λv2=>ai 3 _ λv3=>ai 4 _ λv4=>ai 5 _ λv5=>ai 6 _ λv6=>ai 7 _ λv7=>ai 8 _ λv8=>aJ 3 "number" λl3=>aJ 4 "hour" λl4=>aJ 5 "amount" λl5=>aJ 6 "order" λl6=>aJ 7 "stuff" λl7=>aJ 8 "kinds" λl8=>mm 8 "kinds" λw8=>aY "astray" λyI=>aY "goes_by_weight" λxM=>aY "weight_at" λxv=> ?_;exact(ax (aO (i:=3) sc.nd rfl l3 (aj hu (v2 _) af))
 (ax (aO (i:=4) sc.nd rfl l4 (aj hu (v2 _) af))
 (ax (aO (i:=5) sc.nd rfl l5 (aj hu (v2 _) af))
 (ax (aO (i:=6) sc.nd rfl l6 (aj hu (aj hu (v0 _) af) (v3 _)))
 (ax (aO (i:=7) sc.nd rfl l7 (aj hu (aj hu (v0 _) af) (aj hu (v6 _) af)))
 (ax (aO (i:=8) sc.nd rfl l8 (ml ah))
 (ax (bS (dN (bY (Gz T) hr yI T.at C8 qU (a8 (v6 _) (a8 (v4 _) ah)) (ae (ae au))))
  (aB (fK (i:=8) rfl w8 aR))
  aS)
 (ax (bS (aK uz pV (v5 _) (aj hu (aj hu (v6 _) af) af) (aI _))
  (aB (fK (i:=8) rfl w8 aR))
  aS)
 (ax (bS (kA (aK Bk uJ (v5 _) af (aI _)) (gS (aK (iE hu20) iF (su (v5 _) (aj hu (aj hu (v7 _) af) af)) af (aI _)))).pt
  (aB (fK (i:=8) rfl w8 aR))
  aS)
 (ax (bS (nu (dN (bY (rP T) hr xM T.at lO fP (a8 (v7 _) ah) (ae au))) (mj (aK lT jy (bY (rN T) hr xv T.at nX kH (a8 (v1 _) (a8 (aj hu (v6 _) af) (a8 (v4 _) ah))) (ae (ae (ae au)))) cc (aI _)))).pt
  (aB (fK (i:=8) rfl w8 aR))
  aS)
 (ax (bS (aK Bk uJ (v4 _) (cJ (aj hu (aj hu (aj hu (v0 _) af) (aj hu (v6 _) af)) af) (aj hu (v7 _) af)) (aI _))
  (aB (fK (i:=8) rfl w8 aR))
  aS)
 (aB (aN (jB (N:=["kind","number","hour"]) (l:=(some 8)) rfl (by exact⟨rfl,rfl,rfl,rfl,rfl,by decide,rfl,rfl⟩) (dE (v8 _)) gW ⟨λ_ _ _ _ _=>(b8 (i:=0) (iG (by decide+kernel)) rfl (cH rfl) (iH rfl)),λ_ _ _ _ _=>gH,λ_ _ _ _ _=>(az (a8 (bR (i:=0) (hN:=rfl) (hv:=br rfl)) (a8 (bR (i:=1) (hN:=rfl) (hv:=lC rfl)) (a8 (bR (i:=2) (hN:=rfl) (hv:=lC rfl)) ah))))⟩))))))))))))))
theorem kh:aM ["world","givings","found","giving","order"] ["world","givings"] (ar kb):=cS
theorem qi(T:Txt Pm mg):bu P w (Hd.K Pm) mg base CX0 1 257 Hd.fb ["world","givings"] (spD (Hd.K Pm) 2 cY):=by
 refine cK kP kh rfl λeR A outer s H E hr=> ?_;have sc:=kh;have hu:=cD hr;refine ai 0 _ λv0=>ai 1 _ λv1=>ai 3 _ λv3=>ai 4 _ λv4=>aJ 2 "found" λl2=> ?_;exact(G5 (i:=2) sc.nd rfl l2 (by first|exact Or.inl rfl|exact Or.inr (Or.inl rfl)|exact Or.inr (Or.inr rfl)) (NY (i:=2) (j:=3) GaE rfl (v1 _) sc.nd rfl (by first|exact Or.inl rfl|exact Or.inr rfl) (by decide) (Ir (NW (i:=2) (j:=4) sc.nd rfl (by first|exact Or.inl rfl|exact Or.inr rfl) (by decide) (aj hu (aj hu (v0 _) af) (aj hu (v3 _) af)))
 (KU (NX (i:=2) hu rfl (by first|exact Or.inl rfl|exact Or.inr (Or.inl rfl)|exact Or.inr (Or.inr rfl)) (az (a8 (aj hu (v4 _) af) (a8 (aj hu (v4 _) af) ah))) (az (a8 (aj hu (v3 _) af) (a8 (aj hu (v3 _) af) ah))))))))
theorem pG:aM ["world","weights","givings","found","target","marks","guest","k","cap","hours","row","top"] ["world","weights","givings"] (ar ph):=cS
theorem wq(T:Txt Pm mg):bu P w (Hd.K Pm) mg base CX0 2 264 Hd.jr ["world","weights","givings"] (spD (Hd.K Pm) 3 gY):=by
 refine cK rC pG rfl λeR A outer s H E hr=> ?_;have sc:=pG;have hu:=cD hr;have hu20:=bZ hr;refine ai 0 _ λv0=>ai 1 _ λv1=>ai 2 _ λv2=>ai 3 _ λv3=>ai 4 _ λv4=>ai 5 _ λv5=>ai 6 _ λv6=>ai 7 _ λv7=>ai 8 _ λv8=>ai 9 _ λv9=>ai 10 _ λv10=>ai 11 _ λv11=>aJ 3 "found" λl3=>mm 3 "found" λw3=>aJ 4 "target" λl4=>aJ 5 "marks" λl5=>aJ 6 "guest" λl6=>aJ 7 "k" λl7=>aJ 8 "cap" λl8=>aJ 9 "hours" λl9=>aJ 10 "row" λUe=>aJ 11 "top" λUd=>aY "bound" λzi=>aY "enumerate" λhI=>aY "marks_by_target" λxG=>aY "sums" λzS=>aY "weight_at" λxv=> ?_;exact(ax (aO (i:=3) sc.nd rfl l3 (ml ah))
 (ax (f9 (l:=none) GaE rfl (Il (bY (qi T) hr xG T.at kP cX (a8 (v0 _) (a8 (v2 _) ah)) (ae (ae au)))) (sE rfl (dQ (b8 (i:=4) sc.nd rfl l4) (dQ (b8 (i:=5) sc.nd rfl l5) oj)))
  (ax (aO (i:=6) sc.nd rfl l6 (aj hu (v4 _) af))
 (aB (f9 (l:=none) GaE rfl (AL hI T.o4 (aj hu (aj hu (aj hu (v0 _) af) (aj hu (v4 _) af)) af)) (sE rfl (dQ (b8 (i:=7) sc.nd rfl l7) (dQ (b8 (i:=8) sc.nd rfl l8) oj)))
  (ax (aO (i:=9) sc.nd rfl l9 (Hz (aK (bW hu20) bX (aj hu (v8 _) af) aR (aI _)) cc (aj hu (v8 _) af)))
 (aB (f9 (l:=none) GaE rfl (dE (bY (LP T) hr zS T.at JH De (a8 (v5 _) (a8 (v9 _) ah)) (ae (ae au)))) (b8 (i:=10) sc.nd rfl Ue)
  (ax (aO (i:=11) sc.nd rfl Ud (bY (JM T) hr zi T.at Ff B1 (a8 (v8 _) (a8 (bY (rN T) hr xv T.at nX kH (a8 (v1 _) (a8 (v6 _) (a8 (aj hu (v10 _) af) ah))) (ae (ae (ae au)))) ah)) (ae (ae au))))
 (aB (bS (nu (aK qp nr (v11 _) cc (aI _)) (mj (aK uz pV (aj hu (v10 _) af) (v11 _) (aI _)))).pt
  (aB (fK (i:=3) rfl w3 (az (a8 aR (a8 (v6 _) (a8 (aj hu (v4 _) af) (a8 (v7 _) (a8 (aj hu (v10 _) af) (a8 (aj hu (v10 _) af) (a8 (v11 _) ah))))))))))
  aS))))))))))
 (aB (aN (v3 _)))))
theorem kQ:aM ["bars","gaps","bar"] ["bars"] (ar kN):=cS
theorem rQ(T:Txt Pm mg):bu P w (Hd.K Pm) mg base CX0 1 271 Hd.fH ["bars"] (spD (Hd.K Pm) 1 fR):=by
 refine cK lP kQ rfl λeR A outer s H E hr=> ?_;have sc:=kQ;have hu:=cD hr;refine ai 0 _ λv0=>ai 1 _ λv1=>ai 2 _ λv2=>aJ 1 "gaps" λl1=>aJ 2 "bar" λl2=> ?_;exact(ax (aO (i:=1) sc.nd rfl l1 qF)
 (ax (f9 (l:=(some 0)) GaE rfl (dE (v0 _)) (b8 (i:=2) sc.nd rfl l2)
  (ax (uP (i:=1) hu rfl (by first|exact Or.inl rfl|exact Or.inr (Or.inl rfl)|exact Or.inr (Or.inr rfl)) (az (a8 (aj hu (v2 _) af) (a8 (aj hu (v2 _) af) ah))) (aj hu (v2 _) af))
 (aB (uP (i:=1) hu rfl (by first|exact Or.inl rfl|exact Or.inr (Or.inl rfl)|exact Or.inr (Or.inr rfl)) (az (a8 (aj hu (v2 _) af) (a8 (aj hu (v2 _) af) ah))) (aj hu (v2 _) af)))))
 (aB (aN (v1 _)))))
theorem vN:aM ["gaps","order","other"] ["gaps","order","other"] (ar nR):=cS
theorem vO(T:Txt Pm mg):bu P w (Hd.K Pm) mg base CX0 1 278 Hd.iQ ["gaps","order","other"] (spD (Hd.K Pm) 3 oY):=by
 refine cK pE vN rfl λeR A outer s H E hr=> ?_;have hu:=cD hr;have hu20:=bZ hr;refine ai 0 _ λv0=>ai 1 _ λv1=>ai 2 _ λv2=> ?_;exact(ax (bS (aK (iE hu20) iF (aj hu (v1 _) af) (aj hu (v2 _) af) (aI _))
  (aB (aN af))
  aS)
 (aB (aN (ED hu (v0 _) (az (a8 (aj hu (v1 _) af) (a8 (aj hu (v2 _) af) ah))) af ⟨rfl,rfl,rfl,rfl⟩))))
theorem pH:aM ["world","givings","gaps","widest","rows","found","k","row","later","apart"] ["world","givings"] (ar pj):=cS
theorem wt(T:Txt Pm mg):bu P w (Hd.K Pm) mg base CX0 2 283 Hd.js ["world","givings"] (spD (Hd.K Pm) 2 gZ):=by
 refine cK rD pH rfl λeR A outer s H E hr=> ?_;have sc:=pH;have hu:=cD hr;refine ai 0 _ λv0=>ai 1 _ λv1=>ai 2 _ λv2=>ai 3 _ λv3=>ai 4 _ λv4=>ai 5 _ λv5=>ai 6 _ λv6=>ai 7 _ λv7=>ai 8 _ λv8=>ai 9 _ λv9=>aJ 2 "gaps" λl2=>aJ 3 "widest" λl3=>aJ 4 "rows" λl4=>aJ 5 "found" λl5=>mm 5 "found" λw5=>aJ 6 "k" λl6=>aJ 7 "row" λl7=>aJ 8 "later" λl8=>aJ 9 "apart" λl9=>aY "enumerate" λhI=>aY "gap_between" λyc=>aY "gaps_by_stuffs" λxN=>aY "max" λTq=>aY "sorted" λh7=> ?_;exact(ax (aO (i:=2) sc.nd rfl l2 (bY (rQ T) hr xN T.at lP fQ (a8 (aj hu (v0 _) af) ah) (ae au)))
 (ax (aO (i:=3) sc.nd rfl l3 (KQ rfl Tq T.Rb (jB (N:=["bar"]) (l:=none) rfl (by exact⟨rfl,rfl,rfl,rfl,rfl,by decide,rfl,rfl⟩) (dE (aj hu (v0 _) af)) gW ⟨λ_ _ _ _ _=>(b8 (i:=0) (iG (by decide+kernel)) rfl (cH rfl) (iH rfl)),λ_ _ _ _ _=>gH,λ_ _ _ _ _=>(aj (by exact hu) (bR (i:=0) (hN:=rfl) (hv:=br rfl)) af)⟩) GC (λ_ _ _=> .int _) rfl))
 (ax (aO (i:=4) sc.nd rfl l4 (gz j8 gX h7 T.o5 lB (a8 (jB (N:=["giving"]) (l:=(some 1)) rfl (by exact⟨rfl,rfl,rfl,rfl,rfl,by decide,rfl,rfl⟩) (dE (v1 _)) gW ⟨λ_ _ _ _ _=>(b8 (i:=0) (iG (by decide+kernel)) rfl (cH rfl) (iH rfl)),λ_ _ _ _ _=>gH,λ_ _ _ _ _=>(az (a8 (aj (by exact hu) (bR (i:=0) (hN:=rfl) (hv:=br rfl)) af) (a8 (aj (by exact hu) (bR (i:=0) (hN:=rfl) (hv:=br rfl)) af) ah)))⟩) ah)))
 (ax (aO (i:=5) sc.nd rfl l5 (ml ah))
 (ax (f9 (l:=(some 4)) GaE rfl (AL hI T.o4 (v4 _)) (sE rfl (dQ (b8 (i:=6) sc.nd rfl l6) (dQ (b8 (i:=7) sc.nd rfl l7) oj)))
  (aB (f9 (l:=none) GaE rfl (dE (HL (v4 _) (FQ (cJ (v6 _) af)) FP)) (b8 (i:=8) sc.nd rfl l8)
  (ax (aO (i:=9) sc.nd rfl l9 (sr (aj hu (v8 _) af) (aj hu (v7 _) af)))
 (ax (bS (aK Pw NB (v9 _) (v3 _) (aI _))
  (aB HD)
  aS)
 (aB (bS (aK Bk uJ (v9 _) (bY (vO T) hr yc T.at pE lj (a8 (v2 _) (a8 (aj hu (aj hu (v0 _) af) (aj hu (v7 _) af)) (a8 (aj hu (aj hu (v0 _) af) (aj hu (v8 _) af)) ah))) (ae (ae (ae au)))) (aI _))
  (aB (fK (i:=5) rfl w5 (az (a8 aR (a8 (aj hu (v7 _) af) (a8 (aj hu (v7 _) af) (a8 (aj hu (v8 _) af) (a8 (aj hu (v8 _) af) ah))))))))
  aS)))))))
 (aB (aN (v5 _))))))))
theorem mQ:aM ["world","givings","counts","giving","k"] ["world","givings"] (ar mM):=cS
theorem u0(T:Txt Pm mg):bu P w (Hd.K Pm) mg base CX0 2 288 Hd.gM ["world","givings"] (spD (Hd.K Pm) 2 fz):=by
 refine cK nY mQ rfl λeR A outer s H E hr=> ?_;have sc:=mQ;have hu:=cD hr;refine ai 0 _ λv0=>ai 1 _ λv1=>ai 2 _ λv2=>ai 3 _ λv3=>ai 4 _ λv4=>aJ 2 "counts" λl2=>mm 2 "counts" λw2=>aJ 3 "giving" λl3=>aJ 4 "k" λl4=>aY "due_of" λxX=> ?_;exact(ax (aO (i:=2) sc.nd rfl l2 qF)
 (ax (f9 (l:=(some 1)) GaE rfl (dE (v1 _)) (b8 (i:=3) sc.nd rfl l3)
  (ax (aO (i:=4) sc.nd rfl l4 (bY (Al T) hr xX T.at vA nG (a8 (aj hu (aj hu (v0 _) af) (aj hu (v3 _) af)) (a8 (aj hu (v3 _) af) ah)) (ae (ae au))))
 (aB (bS (aK qp nr (v4 _) cc (aI _))
  (aB (uP (i:=2) hu rfl (by first|exact Or.inl rfl|exact Or.inr (Or.inl rfl)|exact Or.inr (Or.inr rfl)) (az (a8 (aj hu (v3 _) af) (a8 (v4 _) ah))) (cJ (ED hu (v2 _) (az (a8 (aj hu (v3 _) af) (a8 (v4 _) ah))) af ⟨rfl,rfl,rfl,rfl⟩) af)))
  aS))))
 (aB (aN (qK (N:=["due","many"]) (i:=2) rfl w2 rfl (by exact⟨rfl,rfl,rfl,rfl,rfl,by decide,rfl,rfl⟩) BA ⟨λ_ _ _ _ _=>(sE rfl (dQ (b8 (i:=0) (iG (by decide+kernel)) rfl (cH rfl) (iH rfl)) (dQ (b8 (i:=1) (iG (by decide+kernel)) rfl (cH rfl) (iH rfl)) oj))),λ_ _ _ _ _=>(sG (aK uz pV (bR (i:=1) (hN:=rfl) (hv:=br rfl)) af (aI _))),λ_ _ _ _ _=>(az (a8 aR (a8 (aj (by exact hu) (bR (i:=0) (hN:=rfl) (hv:=br rfl)) af) (a8 (aj (by exact hu) (bR (i:=0) (hN:=rfl) (hv:=br rfl)) af) ah))))⟩)))))
theorem An:aM ["world","book","weights","givings","found","giving"] ["world","book"] (ar Aj):=cS
theorem GA(T:Txt Pm mg):bu P w (Hd.K Pm) mg base CX0 4 295 Hd.qy ["world","book"] (spD (Hd.K Pm) 2 dF):=by
 refine cK C9 An rfl λeR A outer s H E hr=> ?_;have sc:=An;have hu:=cD hr;refine ai 0 _ λv0=>ai 1 _ λv1=>ai 2 _ λv2=>ai 3 _ λv3=>ai 4 _ λv4=>ai 5 _ λv5=>aJ 2 "weights" λl2=>aJ 3 "givings" λl3=>aJ 4 "found" λl4=>mm 4 "found" λw4=>aJ 5 "giving" λl5=>aY "cap_faults" λyj=>aY "gap_faults" λyi=>aY "lone_faults" λyb=>aY "sorted" λh7=>aY "twice_faults" λxW=> ?_;exact(ax (aO (i:=2) sc.nd rfl l2 (aj hu (v1 _) af))
 (ax (aO (i:=3) sc.nd rfl l3 (aj hu (v1 _) af))
 (ax (aO (i:=4) sc.nd rfl l4 (cJ (cJ (bY (wq T) hr yj T.at rC jD (a8 (v0 _) (a8 (v2 _) (a8 (v3 _) ah))) (ae (ae (ae au)))) (bY (wt T) hr yi T.at rD jE (a8 (v0 _) (a8 (v3 _) ah)) (ae (ae au)))) (bY (u0 T) hr xW T.at nY i4 (a8 (v0 _) (a8 (v3 _) ah)) (ae (ae au)))))
 (ax (f9 (l:=(some 3)) GaE rfl (dE (v3 _)) (b8 (i:=5) sc.nd rfl l5)
  (aB (FL (i:=4) rfl w4 (bY (vM T) hr yb T.at pD iX (a8 (v0 _) (a8 (v2 _) (a8 (v5 _) ah))) (ae (ae (ae au)))))))
 (aB (aN (gz j8 gX h7 T.o5 lB (a8 (v4 _) ah))))))))
theorem rR:aM ["self","world"] ["self","world"] (ar kO):=cS
theorem fi(T:Txt Pm mg):bu P w (Hd.K Pm) mg base (CXE P w (Hd.K Pm)) 1 309 Hd.fJ ["self","world"] (spM (Hd.K Pm) 2 c6):=by
 refine kZ sO rR rfl λeR A outer s H E M Pn hr hL hP=> ?_;refine aD 0 _ λv0=>aD 1 _ λv1=> ?_;exact(aW (D9 aL Ca (v0 _) (v1 _))
 (cL (D9 aL ic (v0 _) (az (a8 (az ah) (a8 (az ah) ah))))))
theorem wx:aM ["self"] ["self"] (ar pk):=cS
theorem gq(T:Txt Pm mg):bu P w (Hd.K Pm) mg base CX0 1 316 Hd.jt ["self"] (spD (Hd.K Pm) 1 de):=by
 refine cK B8 wx rfl λeR A outer s H E hr=> ?_;refine ai 0 _ λv0=> ?_;exact(aB (aN (kY aL ic (v0 _))))
theorem oQ:aM ["self","guest","hour"] ["self","guest","hour"] (ar jk):=cS
theorem jl(T:Txt Pm mg):bu P w (Hd.K Pm) mg base CX0 1 363 Hd.dM ["self","guest","hour"] (spD (Hd.K Pm) 3 bC):=by
 refine cK qg oQ rfl λeR A outer s H E hr=> ?_;have hu:=cD hr;have hu20:=bZ hr;refine ai 0 _ λv0=>ai 1 _ λv1=>ai 2 _ λv2=> ?_;exact(aB (aN (sv (CU hu20) CV (az (a8 (v1 _) (a8 (v2 _) ah))) (jB (N:=["row"]) (l:=none) rfl (by exact⟨rfl,rfl,rfl,rfl,rfl,by decide,rfl,rfl⟩) (dE (aj hu (kY aL ic (v0 _)) af)) gW ⟨λ_ _ _ _ _=>(b8 (i:=0) (iG (by decide+kernel)) rfl (cH rfl) (iH rfl)),λ_ _ _ _ _=>gH,λ_ _ _ _ _=>(az (a8 (aj (by exact hu) (bR (i:=0) (hN:=rfl) (hv:=br rfl)) af) (a8 (aj (by exact hu) (bR (i:=0) (hN:=rfl) (hv:=br rfl)) af) ah)))⟩) (by with_unfolding_all rfl))))
theorem km:aM ["self","order","hour","row"] ["self","order","hour"] (ar kc):=cS
theorem cO(T:Txt Pm mg):bu P w (Hd.K Pm) mg base CX0 2 370 Hd.ff ["self","order","hour"] (spD (Hd.K Pm) 3 aH):=by
 refine cK rF km rfl λeR A outer s H E hr=> ?_;have sc:=km;have hu:=cD hr;have hu20:=bZ hr;refine ai 0 _ λv0=>ai 1 _ λv1=>ai 2 _ λv2=>ai 3 _ λv3=>aJ 3 "row" λl3=>aY "givings_of" λyh=> ?_;exact(ax (f9 (l:=none) GaE rfl (dE (bY (wm T) hr yh T.at rB jC (a8 (kY aL ic (v0 _)) (a8 (v1 _) ah)) (ae (ae au)))) (b8 (i:=3) sc.nd rfl l3)
  (aB (bS (aK (bW hu20) bX (aj hu (v3 _) af) (v2 _) (aI _))
  (aB (aN (aj hu (v3 _) af)))
  aS)))
 (aB (aN cc)))
theorem pI:aM ["self","book","found"] ["self","book"] (ar pq):=cS
theorem f7(T:Txt Pm mg):bu P w (Hd.K Pm) mg base (CXE P w (Hd.K Pm)) 5 377 Hd.ju ["self","book"] (spM (Hd.K Pm) 2 df):=by
 refine kZ B9 pI rfl λeR A outer s H E M Pn hr hL hP=> ?_;have sc:=pI;refine aD 0 _ λv0=>aD 1 _ λv1=>aD 2 _ λv2=>bB 2 "found" λl2=>aU "faults" λyH=>aU "len" λxn=> ?_;exact(aW (cW (aO (i:=2) sc.nd rfl l2 (bY (GA T) hr yH T.at C9 qV (a8 (kY aL Ca (v0 _)) (a8 (v1 _) ah)) (ae (ae au)))))
 (aW (kG (aK uz pV (gz (j3.or gF) gG xn T.tq nA (a8 (v2 _) ah)) af (aI _))
  (cL IS)
  (bL aS))
 (cL (D9 aL ic (v0 _) (v1 _)))))
theorem vP:aM ["self","guest","hour","weight"] ["self","guest","hour","weight"] (ar nS):=cS
theorem vQ(T:Txt Pm mg):bu P w (Hd.K Pm) mg base (CXE P w (Hd.K Pm)) 6 323 Hd.iR ["self","guest","hour","weight"] (spM (Hd.K Pm) 4 gk):=by
 refine kZ wa vP rfl λeR A outer s H E M Pn hr hL hP=> ?_;refine aD 0 _ λv0=>aD 1 _ λv1=>aD 2 _ λv2=>aD 3 _ λv3=>aU "Twice" λxq=>aU "with_weight" λya=> ?_;exact(aW (kG (dN (mz aL pF (jl T) (hr.mono (by decide)) cM (v0 _) (a8 (v1 _) (a8 (v2 _) ah)) (λenv rs h=>congrArg (· +1) ((ae (ae au)) env rs h))))
  (cL (jV oK (qh T) (hr.mono (by decide)) vH hL xq T.at (az (a8 (v1 _) (a8 (v2 _) ah)))))
  (bL aS))
 (cL (ot (gw hP aL oJ (f7 T) (hr.mono (by decide)) c9 (v0 _) (a8 (bY (vL T) hr ya T.at pC iV (a8 (kY aL ic (v0 _)) (a8 (v1 _) (a8 (v2 _) (a8 (v3 _) ah)))) (ae (ae (ae (ae au))))) ah) (λenv rs h=>congrArg (· +1) ((ae au) env rs h))))))
theorem sP:aM ["self","guest","hour"] ["self","guest","hour"] (ar lM):=cS
theorem sQ(T:Txt Pm mg):bu P w (Hd.K Pm) mg base (CXE P w (Hd.K Pm)) 6 330 Hd.gu ["self","guest","hour"] (spM (Hd.K Pm) 3 dU):=by
 refine kZ tZ sP rfl λeR A outer s H E M Pn hr hL hP=> ?_;refine aD 0 _ λv0=>aD 1 _ λv1=>aD 2 _ λv2=>aU "NoEntry" λeY=>aU "without_weight" λxJ=> ?_;exact(aW (kG (gU (dN (mz aL pF (jl T) (hr.mono (by decide)) cM (v0 _) (a8 (v1 _) (a8 (v2 _) ah)) (λenv rs h=>congrArg (· +1) ((ae (ae au)) env rs h)))))
  (cL (jV iM (jH T) (hr.mono (by decide)) mK hL eY T.at (az (a8 (v1 _) (a8 (v2 _) ah)))))
  (bL aS))
 (cL (ot (gw hP aL oJ (f7 T) (hr.mono (by decide)) c9 (v0 _) (a8 (bY (rL T) hr xJ T.at lN fL (a8 (kY aL ic (v0 _)) (a8 (v1 _) (a8 (v2 _) ah))) (ae (ae (ae au)))) ah) (λenv rs h=>congrArg (· +1) ((ae au) env rs h))))))
theorem wz:aM ["self","order","hour","amount"] ["self","order","hour","amount"] (ar pz):=cS
theorem wA(T:Txt Pm mg):bu P w (Hd.K Pm) mg base (CXE P w (Hd.K Pm)) 6 337 Hd.jv ["self","order","hour","amount"] (spM (Hd.K Pm) 4 i5):=by
 refine kZ Ba wz rfl λeR A outer s H E M Pn hr hL hP=> ?_;refine aD 0 _ λv0=>aD 1 _ λv1=>aD 2 _ λv2=>aD 3 _ λv3=>aU "Twice" λxq=>aU "with_giving" λeZ=> ?_;exact(aW (kG (aK qp nr (mz aL i9 (cO T) (hr.mono (by decide)) bJ (v0 _) (a8 (v1 _) (a8 (v2 _) ah)) (λenv rs h=>congrArg (· +1) ((ae (ae au)) env rs h))) cc (aI _))
  (cL (jV oK (qh T) (hr.mono (by decide)) vH hL xq T.at (az (a8 (v1 _) (a8 (v2 _) ah)))))
  (bL aS))
 (cL (ot (gw hP aL oJ (f7 T) (hr.mono (by decide)) c9 (v0 _) (a8 (bY (kg T) hr eZ T.at iZ dX (a8 (kY aL ic (v0 _)) (a8 (v1 _) (a8 (v2 _) (a8 (v3 _) ah)))) (ae (ae (ae (ae au))))) ah) (λenv rs h=>congrArg (· +1) ((ae au) env rs h))))))
theorem u3:aM ["self","order","hour"] ["self","order","hour"] (ar mO):=cS
theorem u4(T:Txt Pm mg):bu P w (Hd.K Pm) mg base (CXE P w (Hd.K Pm)) 6 344 Hd.gO ["self","order","hour"] (spM (Hd.K Pm) 3 fB):=by
 refine kZ vG u3 rfl λeR A outer s H E M Pn hr hL hP=> ?_;refine aD 0 _ λv0=>aD 1 _ λv1=>aD 2 _ λv2=>aU "NoEntry" λeY=>aU "without_giving" λeV=> ?_;exact(aW (kG (aK lT jy (mz aL i9 (cO T) (hr.mono (by decide)) bJ (v0 _) (a8 (v1 _) (a8 (v2 _) ah)) (λenv rs h=>congrArg (· +1) ((ae (ae au)) env rs h))) cc (aI _))
  (cL (jV iM (jH T) (hr.mono (by decide)) mK hL eY T.at (az (a8 (v1 _) (a8 (v2 _) ah)))))
  (bL aS))
 (cL (ot (gw hP aL oJ (f7 T) (hr.mono (by decide)) c9 (v0 _) (a8 (bY (ij T) hr eV T.at fX cI (a8 (kY aL ic (v0 _)) (a8 (v1 _) (a8 (v2 _) ah))) (ae (ae (ae au)))) ah) (λenv rs h=>congrArg (· +1) ((ae au) env rs h))))))
theorem vR:aM ["self","order","hour","amount"] ["self","order","hour","amount"] (ar nU):=cS
theorem vS(T:Txt Pm mg):bu P w (Hd.K Pm) mg base (CXE P w (Hd.K Pm)) 6 351 Hd.iS ["self","order","hour","amount"] (spM (Hd.K Pm) 4 gm):=by
 refine kZ wc vR rfl λeR A outer s H E M Pn hr hL hP=> ?_;refine aD 0 _ λv0=>aD 1 _ λv1=>aD 2 _ λv2=>aD 3 _ λv3=>aU "NoEntry" λeY=>aU "with_giving" λeZ=>aU "without_giving" λeV=> ?_;exact(aW (kG (aK lT jy (mz aL i9 (cO T) (hr.mono (by decide)) bJ (v0 _) (a8 (v1 _) (a8 (v2 _) ah)) (λenv rs h=>congrArg (· +1) ((ae (ae au)) env rs h))) cc (aI _))
  (cL (jV iM (jH T) (hr.mono (by decide)) mK hL eY T.at (az (a8 (v1 _) (a8 (v2 _) ah)))))
  (bL aS))
 (cL (ot (gw hP aL oJ (f7 T) (hr.mono (by decide)) c9 (v0 _) (a8 (bY (kg T) hr eZ T.at iZ dX (a8 (bY (ij T) hr eV T.at fX cI (a8 (kY aL ic (v0 _)) (a8 (v1 _) (a8 (v2 _) ah))) (ae (ae (ae au)))) (a8 (v1 _) (a8 (v2 _) (a8 (v3 _) ah)))) (ae (ae (ae (ae au))))) ah) (λenv rs h=>congrArg (· +1) ((ae au) env rs h))))))
theorem pJ:aM ["self","order","hour","other","amount"] ["self","order","hour","other"] (ar pA):=cS
theorem wB(T:Txt Pm mg):bu P w (Hd.K Pm) mg base (CXE P w (Hd.K Pm)) 6 358 Hd.jw ["self","order","hour","other"] (spM (Hd.K Pm) 4 fS):=by
 refine kZ Bb pJ rfl λeR A outer s H E M Pn hr hL hP=> ?_;have sc:=pJ;have hu20:=bZ hr;refine aD 0 _ λv0=>aD 1 _ λv1=>aD 2 _ λv2=>aD 3 _ λv3=>aD 4 _ λv4=>bB 4 "amount" λl4=>aU "NoEntry" λeY=>aU "Twice" λxq=>aU "with_giving" λeZ=>aU "without_giving" λeV=> ?_;exact(aW (cW (aO (i:=4) sc.nd rfl l4 (mz aL i9 (cO T) (hr.mono (by decide)) bJ (v0 _) (a8 (v1 _) (a8 (v2 _) ah)) (λenv rs h=>congrArg (· +1) ((ae (ae au)) env rs h)))))
 (aW (kG (aK lT jy (v4 _) cc (aI _))
  (cL (jV iM (jH T) (hr.mono (by decide)) mK hL eY T.at (az (a8 (v1 _) (a8 (v2 _) ah)))))
  (bL aS))
 (aW (kG (nu (aK (iE hu20) iF (v3 _) (v2 _) (aI _)) (mj (aK qp nr (mz aL i9 (cO T) (hr.mono (by decide)) bJ (v0 _) (a8 (v1 _) (a8 (v3 _) ah)) (λenv rs h=>congrArg (· +1) ((ae (ae au)) env rs h))) cc (aI _)))).pt
  (cL (jV oK (qh T) (hr.mono (by decide)) vH hL xq T.at (az (a8 (v1 _) (a8 (v3 _) ah)))))
  (bL aS))
 (cL (ot (gw hP aL oJ (f7 T) (hr.mono (by decide)) c9 (v0 _) (a8 (bY (kg T) hr eZ T.at iZ dX (a8 (bY (ij T) hr eV T.at fX cI (a8 (kY aL ic (v0 _)) (a8 (v1 _) (a8 (v2 _) ah))) (ae (ae (ae au)))) (a8 (v1 _) (a8 (v3 _) (a8 (v4 _) ah)))) (ae (ae (ae (ae au))))) ah) (λenv rs h=>congrArg (· +1) ((ae au) env rs h))))))))
theorem tu:aM ["_law_script","_law_k","_law_many","_law_cell"] ["_law_script","_law_k","_law_many"] (ar t5):=cS
theorem bK(T:Txt Pm mg):bu P w (Hd.K Pm) mg base CX0 1 391 Hd.lV ["_law_script","_law_k","_law_many"] (spD (Hd.K Pm) 3 b4):=by
 refine cK bN tu rfl λeR A outer s H E hr=> ?_;have sc:=tu;have hu:=cD hr;refine ai 0 _ λv0=>ai 1 _ λv1=>ai 2 _ λv2=>ai 3 _ λv3=>aJ 3 "_law_cell" λl3=>aY "len" λxn=> ?_;exact(ax (aO (i:=3) sc.nd rfl l3 af)
 (ax (bS (aK uz pV (gz (j3.or gF) gG xn T.tq nA (a8 (v0 _) ah)) af (aI _))
  (aB (aO (i:=3) sc.nd rfl l3 (su (aj hu (v0 _) (su (v1 _) (gz (j3.or gF) gG xn T.tq nA (a8 (v0 _) ah)))) af)))
  aS)
 (aB (aN (su (AE (su (mi (su (mi (cJ (v3 _) af) (cJ (cJ (mi (v1 _) (v1 _)) (v1 _)) af)) af) af) af) af) (v2 _))))))
theorem Be:aM ["_law_found"] ["_law_found"] (ar rA):=cS
theorem ik(T:Txt Pm mg):bu P w (Hd.K Pm) mg base CX0 1 398 Hd.kz ["_law_found"] (spD (Hd.K Pm) 1 dI):=by
 refine cK gJ Be rfl λeR A outer s H E hr=> ?_;refine ai 0 _ λv0=>aY "bool" λg_bool=>aY "int" λTs=>aY "isinstance" λeF=> ?_;exact(aB (aN (CH (sF Ku (v0 _) eF T.bT Ts T.Ra NH) (Hy (NC (sF HI (v0 _) eF T.bT g_bool T.OJ Kt))))))
theorem Cc:aM ["_law_house","_law_deed_here"] ["_law_house","_law_deed_here"] (ar t6):=cS
theorem Cd(T:Txt Pm mg):bu P w (Hd.K Pm) mg base (CXE P w (Hd.K Pm)) 7 405 Hd.lW ["_law_house","_law_deed_here"] (spM (Hd.K Pm) 2 mF):=by
 refine kZ vB Cc rfl λeR A outer s H E M Pn hr hL hP=> ?_;have hu:=cD hr;have hu20:=bZ hr;refine aD 0 _ λv0=>aD 1 _ λv1=> ?_;exact(aW (kG (aK (bW hu20) bX (aj hu (v1 _) af) aR (aI _))
  (cL (pZ (gw hP aL JI (vQ T) (hr.mono (by decide)) dm (v0 _) (a8 (aj hu (v1 _) af) (a8 (aj hu (v1 _) af) (a8 (aj hu (v1 _) af) ah))) (λenv rs h=>congrArg (· +1) ((ae (ae (ae au))) env rs h)))))
  (bL aS))
 (aW (kG (aK (bW hu20) bX (aj hu (v1 _) af) aR (aI _))
  (cL (pZ (gw hP aL Dp (sQ T) (hr.mono (by decide)) cv (v0 _) (a8 (aj hu (v1 _) af) (a8 (aj hu (v1 _) af) ah)) (λenv rs h=>congrArg (· +1) ((ae (ae au)) env rs h)))))
  (bL aS))
 (aW (kG (aK (bW hu20) bX (aj hu (v1 _) af) aR (aI _))
  (cL (pZ (gw hP aL LN (wA T) (hr.mono (by decide)) dO (v0 _) (a8 (aj hu (v1 _) af) (a8 (aj hu (v1 _) af) (a8 (aj hu (v1 _) af) ah))) (λenv rs h=>congrArg (· +1) ((ae (ae (ae au))) env rs h)))))
  (bL aS))
 (aW (kG (aK (bW hu20) bX (aj hu (v1 _) af) aR (aI _))
  (cL (pZ (gw hP aL Gw (u4 T) (hr.mono (by decide)) cN (v0 _) (a8 (aj hu (v1 _) af) (a8 (aj hu (v1 _) af) ah)) (λenv rs h=>congrArg (· +1) ((ae (ae au)) env rs h)))))
  (bL aS))
 (aW (kG (aK (bW hu20) bX (aj hu (v1 _) af) aR (aI _))
  (cL (pZ (gw hP aL JJ (vS T) (hr.mono (by decide)) dq (v0 _) (a8 (aj hu (v1 _) af) (a8 (aj hu (v1 _) af) (a8 (aj hu (v1 _) af) ah))) (λenv rs h=>congrArg (· +1) ((ae (ae (ae au))) env rs h)))))
  (bL aS))
 (cL (pZ (gw hP aL LO (wB T) (hr.mono (by decide)) cC (v0 _) (a8 (aj hu (v1 _) af) (a8 (aj hu (v1 _) af) (a8 (aj hu (v1 _) af) ah))) (λenv rs h=>congrArg (· +1) ((ae (ae (ae au))) env rs h))))))))))
theorem tw:aM ["_law_house","_law_deed_here","_law_caught","_law_found","e","_law_sorts","_law_others"] ["_law_house","_law_deed_here"] (ar t7):=cS
theorem tD(T:Txt Pm mg):bu P w (Hd.K Pm) mg base (CXE P w (Hd.K Pm)) 8 412 Hd.lX ["_law_house","_law_deed_here"] (spM (Hd.K Pm) 2 jY):=by
 refine kZ qe tw rfl λeR A outer s H E M Pn hr hL hP=> ?_;have sc:=tw;have hu:=cD hr;have hu20:=bZ hr;refine aD 0 _ λv0=>aD 1 _ λv1=>aD 2 _ λv2=>aD 3 _ λv3=>aD 5 _ λv5=>aD 6 _ λv6=>bB 2 "_law_caught" λl2=>bB 3 "_law_found" λl3=>bB 5 "_law_sorts" λl5=>bB 6 "_law_others" λl6=>aU "HouseError" λym=>aU "NoEntry" λeY=>aU "NoLine" λyL=>aU "NoPieces" λyx=>aU "NoText" λyK=>aU "Torn" λzT=>aU "Twice" λxq=>aU "Unsafe" λyJ=>aU "ValueError" λyl=>aU "isinstance" λeF=>aU "_law_call" λDv=> ?_;exact(aW (cW (aO (i:=2) sc.nd rfl l2 cc))
 (aW (cW (aO (i:=3) sc.nd rfl l3 cc))
 (aW (Oa (i:=3) (j:=2) (k:=4) (Cd T) (hr.mono (by decide)) Dv T.at vB.kp jW (a8 (v0 _) (a8 (v1 _) ah)) (ae (ae au)) we ym T.at rfl rfl sc.nd rfl rfl rfl (by first|exact Or.inl rfl|exact Or.inr rfl) (by first|exact Or.inl rfl|exact Or.inr rfl) rfl (by decide))
 (bL (ax (bS (nu (aK lT jy (v2 _) cc (aI _)) (mj (aK lT jy (v3 _) cc (aI _)))).pt
  (aB (aN (az (a8 aR (a8 cc ah)))))
  aS)
 (ax (bS (aK lT jy (v2 _) cc (aI _))
  (aB (aN (az (a8 aR (a8 cc ah)))))
  aS)
 (ax (aO (i:=5) sc.nd rfl l5 (ml (a8 (AX JK (.inl ⟨_,rfl,rfl⟩) (v2 _) eF T.bT (lQ xq T.at rfl)) (a8 (AX Dq (.inl ⟨_,rfl,rfl⟩) (v2 _) eF T.bT (lQ eY T.at rfl)) (a8 (AX Gx (.inl ⟨_,rfl,rfl⟩) (v2 _) eF T.bT (lQ yJ T.at rfl)) ah)))))
 (ax (aO (i:=6) sc.nd rfl l6 (Lh iz (by decide) (v2 _) eF T.bT (Lg (lQ yK T.at rfl) (Lg (lQ yx T.at rfl) (Lg (lQ zT T.at rfl) (Lg (lQ yL T.at rfl) QX))))))
 (ax (bS (kA (dN (v6 _)) (kA (gU (dN (AX wg (.inr ⟨_,rfl,rfl⟩) (v2 _) eF T.bT (DB yl T.Bc wj rfl)))) (gS (aK (iE hu20) iF (J3 (v5 _) ⟨rfl,rfl,rfl,rfl⟩) af (aI _))))).pt
  (aB (aN (az (a8 aR (a8 cc ah)))))
  aS)
 (ax (bS (dN (aj hu (v5 _) af))
  (aB (aN (az (a8 aR (a8 (AY Cb (v2 _)) ah)))))
  aS)
 (ax (bS (dN (aj hu (v5 _) af))
  (aB (aN (az (a8 aR (a8 (AY Cb (v2 _)) ah)))))
  aS)
 (aB (aN (az (a8 aR (a8 (AY Gy (v2 _)) ah))))))))))))))))
theorem Ce:aM ["_law_kept"] ["_law_kept"] (ar t8):=cS
theorem tF(T:Txt Pm mg):bu P w (Hd.K Pm) mg base CX0 1 417 Hd.lY ["_law_kept"] (spD (Hd.K Pm) 1 k6):=by
 refine cK qf Ce rfl λeR A outer s H E hr=> ?_;have hu:=cD hr;refine mm 0 "_law_kept" λw0=>aY "sorted" λh7=>aY "tuple" λeW=> ?_;exact(aB (aN (nv g8 j7 eW T.jG gV (a8 (gz j8 gX h7 T.o5 lB (a8 (Iw (qK (N:=["_law_spot","_law_num"]) (i:=0) rfl w0 rfl (by exact⟨rfl,rfl,rfl,rfl,rfl,by decide,rfl,rfl⟩) BA ⟨λ_ _ _ _ _=>(sE rfl (dQ (b8 (i:=0) (iG (by decide+kernel)) rfl (cH rfl) (iH rfl)) (dQ (b8 (i:=1) (iG (by decide+kernel)) rfl (cH rfl) (iH rfl)) oj))),λ_ _ _ _ _=>gH,λ_ _ _ _ _=>(az (a8 (aj (by exact hu) (bR (i:=0) (hN:=rfl) (hv:=br rfl)) af) (a8 (aj (by exact hu) (bR (i:=0) (hN:=rfl) (hv:=br rfl)) af) (a8 (bR (i:=1) (hN:=rfl) (hv:=br rfl)) ah))))⟩)) ah)) ah))))
theorem tH:aM ["_law_book","_law_deed_here","_law_weights","_law_givings","_law_one","_law_kept","_law_spot","_law_num"] ["_law_book","_law_deed_here"] (ar t9):=cS
theorem Cf(T:Txt Pm mg):bu P w (Hd.K Pm) mg base CX0 2 424 Hd.lZ ["_law_book","_law_deed_here"] (spD (Hd.K Pm) 2 bM):=by
 refine cK vC tH rfl λeR A outer s H E hr=> ?_;have sc:=tH;have hu:=cD hr;have hu20:=bZ hr;refine ai 0 _ λv0=>ai 1 _ λv1=>ai 2 _ λv2=>ai 3 _ λv3=>ai 4 _ λv4=>ai 5 _ λv5=>ai 6 _ λv6=>ai 7 _ λv7=>aJ 2 "_law_weights" λl2=>aJ 3 "_law_givings" λl3=>aJ 4 "_law_one" λl4=>aJ 6 "_law_spot" λl6=>aY "_law_part" λvT=> ?_;exact(ax (aO (i:=2) sc.nd rfl l2 qF)
 (ax (aO (i:=3) sc.nd rfl l3 qF)
 (ax (f9 (l:=none) GaE rfl (dE (aj hu (v0 _) af)) (b8 (i:=4) sc.nd rfl l4)
  (aB (uP (i:=2) hu rfl (by first|exact Or.inl rfl|exact Or.inr (Or.inl rfl)|exact Or.inr (Or.inr rfl)) (az (a8 (aj hu (v4 _) af) (a8 (aj hu (v4 _) af) ah))) (aj hu (v4 _) af))))
 (ax (f9 (l:=none) GaE rfl (dE (aj hu (v0 _) af)) (b8 (i:=4) sc.nd rfl l4)
  (aB (uP (i:=3) hu rfl (by first|exact Or.inl rfl|exact Or.inr (Or.inl rfl)|exact Or.inr (Or.inr rfl)) (az (a8 (aj hu (v4 _) af) (a8 (aj hu (v4 _) af) ah))) (aj hu (v4 _) af))))
 (Gb (k:=5) (g:=3) (w:=2) sc.nd rfl rfl rfl (by first|exact Or.inl rfl|exact Or.inr rfl) (by first|exact Or.inl rfl|exact Or.inr (Or.inl rfl)|exact Or.inr (Or.inr rfl)) (by first|exact Or.inl rfl|exact Or.inr (Or.inl rfl)|exact Or.inr (Or.inr rfl)) (kA (aK (bW hu20) bX (aj hu (v1 _) af) aR (aI _)) (gS (aK (bW hu20) bX (aj hu (v1 _) af) aR (aI _)))).pt
 (mC (uh (aO (i:=6) sc.nd rfl l6 (az (a8 (aj hu (v1 _) af) (a8 (aj hu (v1 _) af) ah)))))
 (mC (J7 (kA (aK (bW hu20) bX (aj hu (v1 _) af) aR (aI _)) (gS (aK (bW hu20) bX (aj hu (v1 _) af) aR (aI _)))).pt
  (mC (uh (bS (aK (CU hu20) CV (v6 _) (v5 _) (by with_unfolding_all rfl))
  (aB (aN (az (a8 aR (a8 (v6 _) ah)))))
  aS))
 (B0 (Dd (k:=5) hu rfl (by first|exact Or.inl rfl|exact Or.inr (Or.inl rfl)|exact Or.inr (Or.inr rfl)) (v6 _) (aj hu (v1 _) af))))
  (mC (uh (bS (aK (KL hu20) KN (v6 _) (v5 _) (by with_unfolding_all rfl))
  (aB (aN (az (a8 aR (a8 (v6 _) ah)))))
  aS))
 (mC (uh (bS (nu (aK (bW hu20) bX (aj hu (v1 _) af) aR (aI _)) (nu (aK (iE hu20) iF (aj hu (v1 _) af) (aj hu (v1 _) af) (aI _)) (mj (aK (CU hu20) CV (az (a8 (aj hu (v1 _) af) (a8 (aj hu (v1 _) af) ah))) (v5 _) (by with_unfolding_all rfl))))).pt
  (aB (aN (az (a8 aR (a8 (az (a8 (aj hu (v1 _) af) (a8 (aj hu (v1 _) af) ah))) ah)))))
  aS))
 (mC (Oh (k:=5) (i:=7) hu rfl (by first|exact Or.inl rfl|exact Or.inr (Or.inl rfl)|exact Or.inr (Or.inr rfl)) (v6 _) sc.nd rfl (by first|exact Or.inl rfl|exact Or.inr rfl))
 (mC (J7 (aK (bW hu20) bX (aj hu (v1 _) af) aR (aI _))
  (B0 (Dd (k:=5) hu rfl (by first|exact Or.inl rfl|exact Or.inr (Or.inl rfl)|exact Or.inr (Or.inr rfl)) (v6 _) (aj hu (v1 _) af)))
  (vh aS))
 (B0 (J7 (aK (bW hu20) bX (aj hu (v1 _) af) aR (aI _))
  (B0 (Dd (k:=5) hu rfl (by first|exact Or.inl rfl|exact Or.inr (Or.inl rfl)|exact Or.inr (Or.inr rfl)) (az (a8 (aj hu (v1 _) af) (a8 (aj hu (v1 _) af) ah))) (v7 _)))
  (vh aS))))))))
 (vh (aB (aN (az (a8 aR (a8 (az (a8 (bY (tF T) hr vT T.at qf jZ (a8 (v2 _) ah) (ae au)) (a8 (bY (tF T) hr vT T.at qf jZ (a8 (v3 _) ah) (ae au)) ah))) ah)))))))) (by decide))))))
theorem o8:aM ["_law_found","_law_due","_law_part_here","_law_one"] ["_law_found","_law_due"] (ar nV):=cS
theorem fC(T:Txt Pm mg):bu P w (Hd.K Pm) mg base CX0 2 431 Hd.iT ["_law_found","_law_due"] (spD (Hd.K Pm) 2 cb):=by
 refine cK dZ o8 rfl λeR A outer s H E hr=> ?_;have sc:=o8;have hu:=cD hr;have hu20:=bZ hr;refine ai 0 _ λv0=>ai 1 _ λv1=>ai 2 _ λv2=>ai 3 _ λv3=>aJ 2 "_law_part_here" λl2=>aJ 3 "_law_one" λl3=>aY "isinstance" λeF=>aY "_law_whole" λgK=>aY "len" λxn=>aY "tuple" λeW=> ?_;exact(ax (bS (kA (gU (dN (sF kit_tuple (v0 _) eF T.bT eW T.jG gV))) (gS (aK (iE hu20) iF (gz (j3.or gF) gG xn T.tq nA (a8 (v0 _) ah)) af (aI _)))).pt
  (aB (aN nq))
  aS)
 (ax (f9 (l:=(some 0)) GaE rfl (dE (v0 _)) (b8 (i:=2) sc.nd rfl l2)
  (ax (bS (gU (dN (sF kit_tuple (v2 _) eF T.bT eW T.jG gV)))
  (aB (aN nq))
  aS)
 (aB (f9 (l:=(some 2)) GaE rfl (dE (v2 _)) (b8 (i:=3) sc.nd rfl l3)
  (ax (bS (kA (gU (dN (sF kit_tuple (v3 _) eF T.bT eW T.jG gV))) (gS (aK (iE hu20) iF (gz (j3.or gF) gG xn T.tq nA (a8 (v3 _) ah)) af (aI _)))).pt
  (aB (aN nq))
  aS)
 (aB (bS (kA (gU (dN (bY (ik T) hr gK T.at gJ dH (a8 (aj hu (v3 _) af) ah) (ae au)))) (kA (gU (dN (bY (ik T) hr gK T.at gJ dH (a8 (aj hu (v3 _) af) ah) (ae au)))) (gS (gU (dN (bY (ik T) hr gK T.at gJ dH (a8 (aj hu (v3 _) af) ah) (ae au))))))).pt
  (aB (aN nq))
  aS)))))))
 (aB (aN (sv (bW hu20) bX (v0 _) (v1 _) (aI _))))))
theorem u5:aM ["_law_found","_law_due"] ["_law_found","_law_due"] (ar mP):=cS
theorem u6(T:Txt Pm mg):bu P w (Hd.K Pm) mg base CX0 2 438 Hd.gP ["_law_found","_law_due"] (spD (Hd.K Pm) 2 k7):=by
 refine cK nZ u5 rfl λeR A outer s H E hr=> ?_;have hu:=cD hr;have hu20:=bZ hr;refine ai 0 _ λv0=>ai 1 _ λv1=>aY "isinstance" λeF=>aY "_law_whole" λgK=>aY "len" λxn=>aY "tuple" λeW=> ?_;exact(ax (bS (kA (gU (dN (sF kit_tuple (v0 _) eF T.bT eW T.jG gV))) (gS (aK (iE hu20) iF (gz (j3.or gF) gG xn T.tq nA (a8 (v0 _) ah)) af (aI _)))).pt
  (aB (aN nq))
  aS)
 (aB (aN (CH (Bt (bY (ik T) hr gK T.at gJ dH (a8 (aj hu (v0 _) af) ah) (ae au))) (CH (Bt (bY (ik T) hr gK T.at gJ dH (a8 (aj hu (v0 _) af) ah) (ae au))) (Hy (sv (bW hu20) bX (v0 _) (v1 _) (aI _))))))))
theorem tJ:aM ["_law_script","_law_k","_law_far","_law_word","_law_hour"] ["_law_script","_law_k","_law_far"] (ar tf):=cS
theorem Cg(T:Txt Pm mg):bu P w (Hd.K Pm) mg base CX0 2 445 Hd.m8 ["_law_script","_law_k","_law_far"] (spD (Hd.K Pm) 3 k8):=by
 refine cK vD tJ rfl λeR A outer s H E hr=> ?_;have sc:=tJ;have hu:=cD hr;have hu20:=bZ hr;refine ai 0 _ λv0=>ai 1 _ λv1=>ai 2 _ λv2=>ai 3 _ λv3=>ai 4 _ λv4=>aJ 3 "_law_word" λl3=>aJ 4 "_law_hour" λl4=>aY "_law_draw" λbO=> ?_;exact(ax (aO (i:=3) sc.nd rfl l3 (aj hu (ml (a8 aR (a8 aR (a8 aR (a8 aR (a8 aR (a8 aR (a8 aR (a8 aR ah))))))))) (bY (bK T) hr bO T.at bN bF (a8 (v0 _) (a8 (cJ af (v1 _)) (a8 af ah))) (ae (ae (ae au))))))
 (ax (aO (i:=4) sc.nd rfl l4 (mi (v2 _) (bY (bK T) hr bO T.at bN bF (a8 (v0 _) (a8 (cJ af (v1 _)) (a8 af ah))) (ae (ae (ae au))))))
 (ax (bS (kA (aK (bW hu20) bX (v3 _) aR (aI _)) (gS (aK (bW hu20) bX (v3 _) aR (aI _)))).pt
  (aB (aN (az (a8 (v3 _) (a8 (bY (bK T) hr bO T.at bN bF (a8 (v0 _) (a8 (cJ af (v1 _)) (a8 af ah))) (ae (ae (ae au)))) (a8 (v4 _) (a8 (cJ af (bY (bK T) hr bO T.at bN bF (a8 (v0 _) (a8 (cJ af (v1 _)) (a8 (CF af af) ah))) (ae (ae (ae au))))) ah)))))))
  aS)
 (ax (bS (aK (bW hu20) bX (v3 _) aR (aI _))
  (aB (aN (az (a8 (v3 _) (a8 (bY (bK T) hr bO T.at bN bF (a8 (v0 _) (a8 (cJ af (v1 _)) (a8 af ah))) (ae (ae (ae au)))) (a8 (v4 _) (a8 (mi (v2 _) (bY (bK T) hr bO T.at bN bF (a8 (v0 _) (a8 (cJ af (v1 _)) (a8 af ah))) (ae (ae (ae au))))) ah)))))))
  aS)
 (aB (aN (az (a8 (v3 _) (a8 (bY (bK T) hr bO T.at bN bF (a8 (v0 _) (a8 (cJ af (v1 _)) (a8 af ah))) (ae (ae (ae au)))) (a8 (v4 _) (a8 (cJ af (bY (bK T) hr bO T.at bN bF (a8 (v0 _) (a8 (cJ af (v1 _)) (a8 af ah))) (ae (ae (ae au))))) ah)))))))))))
theorem tN:aM ["_law_house","_law_books","_law_at","_law_deed_here","_law_due","_law_told_here"] ["_law_house","_law_books","_law_at","_law_deed_here"] (ar tm):=cS
theorem Ci(T:Txt Pm mg):bu P w (Hd.K Pm) mg base CX0 9 452 Hd.m9 ["_law_house","_law_books","_law_at","_law_deed_here"] (Lc (Hd.K Pm) 4 q8):=by
 refine Ld vF tN rfl λeR A outer s H E M Pn W2 hr=> ?_;have sc:=tN;have hu:=cD hr;have hu20:=bZ hr;refine aD 0 _ λv0=>aD 1 _ λv1=>aD 2 _ λv2=>aD 3 _ λv3=>aD 4 _ λv4=>aD 5 _ λv5=>bB 4 "_law_due" λl4=>bB 5 "_law_told_here" λl5=>aU "_law_is_entry" λvU=>aU "_law_next" λDu=>aU "_law_told" λqk=> ?_;exact(aW (cW (aO (i:=4) sc.nd rfl l4 (bY (Cf T) hr Du T.at vC dP (a8 (aj hu (v1 _) (v2 _)) (a8 (v3 _) ah)) (ae (ae au)))))
 (aW (IT (i:=5) sc.nd rfl l5 (EK ER (tD T) (hr.mono (by decide)) qk T.at qe.kp jX (a8 (v0 _) (a8 (v3 _) ah)) (ae (ae au))))
 (aW (cW (bS (aK (iE hu20) iF (aj hu (v5 _) af) (aj hu (v4 _) af) (aI _))
  (aB (aN nq))
  aS))
 (aW (kG (aK (bW hu20) bX (aj hu (v4 _) af) aR (aI _))
  (Lb (i:=1) hu rfl (by first|exact Or.inl rfl|exact Or.inr (Or.inl rfl)|exact Or.inr (Or.inr rfl)) (v2 _) (aj hu (v4 _) af) LQ W2)
  (bL aS))
 (bL (aB (aN (bY (u6 T) hr vU T.at nZ i7 (a8 (aj hu (v5 _) af) (a8 (aj hu (v4 _) af) ah)) (ae (ae au))))))))))
theorem JN:aM ["_law_script","_law_far","_law_guests","_law_k","_law_rule","_law_orders","_law_world","_law_houses","_law_books","_law_held","_law_house","_law_at","_law_t","_law_found","_law_pair","_law_bare","_law_one"] ["_law_script"] (ar JG):=cS
theorem OK(T:Txt Pm mg):bu P w (Hd.K Pm) mg base CX0 10 457 Hd.DV ["_law_script"] (spL (Hd.K Pm) 1 A8):=by
 refine Og R7 JN rfl λeR A outer s H E hr=> ?_;have sc:=JN;have hu:=cD hr;have hu20:=bZ hr;refine aD 0 _ λv0=>aD 1 _ λv1=>aD 2 _ λv2=>aD 3 _ λv3=>aD 5 _ λv5=>aD 6 _ λv6=>aD 7 _ λv7=>aD 8 _ λv8=>aD 9 _ λv9=>aD 10 _ λv10=>aD 11 _ λv11=>aD 12 _ λU3=>aD 13 _ λUP=>aD 14 _ λUO=>aD 15 _ λU2=>aD 16 _ λU1=>bB 1 "_law_far" λl1=>bB 2 "_law_guests" λl2=>bB 4 "_law_rule" λl4=>bB 5 "_law_orders" λl5=>bB 6 "_law_world" λl6=>bB 7 "_law_houses" λl7=>bB 8 "_law_books" λl8=>bB 9 "_law_held" λl9=>J4 9 "_law_held" λw9=>bB 10 "_law_house" λUe=>bB 11 "_law_at" λUd=>bB 12 "_law_t" λVw=>bB 13 "_law_found" λVv=>bB 14 "_law_pair" λVu=>bB 15 "_law_bare" λVt=>bB 16 "_law_one" λVs=>aU "House" λxT=>aU "_law_deed" λDw=>aU "_law_draw" λbO=>aU "_law_is_book" λgr=>aU "_law_step" λDx=>aU "_law_told" λqk=>aU "len" λxn=>aU "min" λTp=>aU "range" λxS=>aU "tuple" λeW=> ?_;exact(aW (cW (aO (i:=1) sc.nd rfl l1 (aj hu (ml (a8 af (a8 (mi af (CF af af)) ah))) (bY (bK T) hr bO T.at bN bF (a8 (v0 _) (a8 af (a8 af ah))) (ae (ae (ae au)))))))
 (aW (cW (aO (i:=2) sc.nd rfl l2 (nv g8 j7 eW T.jG gV (a8 (jB (N:=["_law_k"]) (l:=none) rfl (by exact⟨rfl,rfl,rfl,rfl,rfl,by decide,rfl,rfl⟩) (sD xS T.ur af) gW ⟨λ_ _ _ _ _=>(b8 (i:=0) (iG (by decide+kernel)) rfl (cH rfl) (iH rfl)),λ_ _ _ _ _=>gH,λ_ _ _ _ _=>(az (a8 (mw aR (aj (by exact hu) aR (bR (i:=0) (hN:=rfl) (hv:=br rfl)))) (a8 af ah)))⟩) ah))))
 (aW (cW (aO (i:=4) sc.nd rfl l4 (az (a8 aR (a8 af (a8 af (a8 af ah)))))))
 (aW (cW (aO (i:=5) sc.nd rfl l5 (nv g8 j7 eW T.jG gV (a8 (jB (N:=["_law_k","_law_rule"]) (l:=none) rfl (by exact⟨rfl,rfl,rfl,rfl,rfl,by decide,rfl,rfl⟩) (sD xS T.ur af) gW ⟨λ_ _ _ _ _=>(b8 (i:=0) (iG (by decide+kernel)) rfl (cH rfl) (iH rfl)),λ_ _ _ _ _=>gH,λ_ _ _ _ _=>(az (a8 (mw aR (aj (by exact hu) aR (bR (i:=0) (hN:=rfl) (hv:=br rfl)))) (a8 (bR (i:=0) (hN:=rfl) (hv:=br rfl)) (a8 af (a8 (bR (i:=1) (hN:=rfl) (hv:=lC rfl)) (a8 (az (a8 aR (a8 af ah))) (a8 (az ah) ah)))))))⟩) ah))))
 (aW (cW (aO (i:=6) sc.nd rfl l6 (az (a8 (v2 _) (a8 (az (a8 (az (a8 aR (a8 (az (a8 af (a8 af ah))) (a8 (az ah) (a8 af ah))))) ah)) (a8 (az ah) (a8 (v5 _) ah)))))))
 (aW (Ob (i:=7) sc.nd rfl l7 (qR rG (fi T) (hr.mono (by decide)) xT T.at bQ (a8 (v6 _) ah) (λenv rs h=>congrArg (· +1) ((ae au) env rs h))) (qR rG (fi T) (hr.mono (by decide)) xT T.at bQ (a8 (v6 _) ah) (λenv rs h=>congrArg (· +1) ((ae au) env rs h))))
 (aW (cW (aO (i:=8) sc.nd rfl l8 (ml (a8 (az (a8 (az ah) (a8 (az ah) ah))) (a8 (az (a8 (az ah) (a8 (az ah) ah))) ah)))))
 (aW (cW (aO (i:=9) sc.nd rfl l9 (ml ah)))
 (aW (cW (f9 (l:=(some 7)) GaE rfl (dE (v7 _)) (b8 (i:=10) sc.nd rfl Ue)
  (aB (bS (gU (dN (bY (fC T) hr gr T.at dZ cG (a8 (qQ aL rE (gq T) (hr.mono (by decide)) da (v10 _)) (a8 (az (a8 (az ah) (a8 (az ah) ah))) ah)) (ae (ae au)))))
  (aB (aN nq))
  aS))))
 (aW (Of (i:=3) GaE rfl xS T.ur (mw (gz (Fs (by rfl)) CI Tp T.Rc ND (a8 (gz (j3.or gF) gG xn T.tq nA (a8 (v0 _) ah)) (a8 af ah))) (bY (bK T) hr bO T.at bN bF (a8 (v0 _) (a8 af (a8 af ah))) (ae (ae (ae au))))) sc.nd rfl (by first|exact Or.inl rfl|exact Or.inr rfl) (aW (cW (aO (i:=11) sc.nd rfl Ud (bY (bK T) hr bO T.at bN bF (a8 (v0 _) (a8 (mw af (v3 _)) (a8 af ah))) (ae (ae (ae au))))))
 (aW (IW (Od (Oc (Le (i:=8) (Ci T) (hr.mono (by decide)) Dx T.at vF.kp gB (aj hu (v7 _) (v11 _)) rfl (by first|exact Or.inl rfl|exact Or.inr (Or.inl rfl)|exact Or.inr (Or.inr rfl)) (a8 (v11 _) (a8 (bY (Cg T) hr Dw T.at vD dz (a8 (v0 _) (a8 (v3 _) (a8 (v1 _) ah))) (ae (ae (ae au)))) ah)) (λenv rs h=>congrArg (· +2) ((ae (ae au)) env rs h)))))
  (bL (aB (aN nq)))
  (bL aS))
 (bL (aB (f9 (l:=none) GaE rfl (sD xS T.ur af) (b8 (i:=12) sc.nd rfl Vw)
  (ax (aO (i:=13) sc.nd rfl Vv (qQ aL rE (gq T) (hr.mono (by decide)) da (aj hu (v7 _) (U3 _))))
 (ax (bS (gU (dN (bY (fC T) hr gr T.at dZ cG (a8 (UP _) (a8 (aj hu (v8 _) (U3 _)) ah)) (ae (ae au)))))
  (aB (aN nq))
  aS)
 (aB (fK (i:=9) rfl w9 (az (a8 (UP _) (a8 (aj hu (v8 _) (U3 _)) ah)))))))))))))
 (aW (cW (f9 (l:=(some 9)) GaE rfl (dE (v9 _)) (b8 (i:=14) sc.nd rfl Vu)
  (aB (bS (aK (iE hu20) iF (aj hu (UO _) af) (aj hu (UO _) af) (aI _))
  (aB (aN nq))
  aS))))
 (aW (IT (i:=15) sc.nd rfl Vt (mXs.mx (qR rG (fi T) (hr.mono (by decide)) xT T.at bQ (a8 (az (a8 (v2 _) (a8 (az ah) (a8 (az ah) (a8 (az ah) ah))))) ah) (λenv rs h=>congrArg (· +1) ((ae au) env rs h)))))
 (aW (cW (aO (i:=16) sc.nd rfl Vs (az (a8 (bY (bK T) hr bO T.at bN bF (a8 (v0 _) (a8 af (a8 af ah))) (ae (ae (ae au)))) (a8 (mi (v1 _) (bY (bK T) hr bO T.at bN bF (a8 (v0 _) (a8 af (a8 af ah))) (ae (ae (ae au))))) (a8 (mw af (bY (bK T) hr bO T.at bN bF (a8 (v0 _) (a8 af (a8 (CF af af) ah))) (ae (ae (ae au))))) ah))))))
 (aW (IW (QV (Oe (iE hu20) iF (EK ER (tD T) (hr.mono (by decide)) qk T.at qe.kp jX (a8 (U2 _) (a8 (mw (az (a8 aR ah)) (U1 _)) ah)) (ae (ae au))) (az (a8 aR (a8 cc ah))) (aI _)) (gS (gU (dN (bY (fC T) hr gr T.at dZ cG (a8 (qQ aL rE (gq T) (hr.mono (by decide)) da (U2 _)) (a8 (az (a8 (az (a8 (U1 _) ah)) (a8 (az ah) ah))) ah)) (ae (ae au)))))) (gS (gU (dN (bY (fC T) hr gr T.at dZ cG (a8 (qQ aL rE (gq T) (hr.mono (by decide)) da (U2 _)) (a8 (az (a8 (az (a8 (U1 _) ah)) (a8 (az ah) ah))) ah)) (ae (ae au)))))))
  (bL (aB (aN nq)))
  (bL aS))
 (cL (pZ (IV (fC T) (hr.mono (by decide)) gr T.at dZ.kp cG (QU aL rE (gq T) (hr.mono (by decide)) da (mXs.mx (qR rG (fi T) (hr.mono (by decide)) xT T.at bQ (a8 (az (a8 (az ah) (a8 (az ah) (a8 (az ah) (a8 (az ah) ah))))) ah) (λenv rs h=>congrArg (· +1) ((ae au) env rs h))))) (a8 (az (a8 (az ah) (a8 (az ah) ah))) ah) (λenv rs h=>congrArg (· +1) ((ae au) env rs h)))))))))))))))))))
end
theorem all_mk{l:PySem.W.OpenLaw}{w:World}{h:Heap}{mg:Str->Option Value}(X:(Hd.K w.params).In h)(G:h.Ns mainGlobals mg)(VR:mg "law"=some (.ref fa)):
  ∃fd:FuncData,(∀(s:Shared) (v:Value),BindsTo s fd ⟨[v],[]⟩ [("_law_script",v)])/\∀base:Heap,(Hd.K w.params).In base->base.Ns mainGlobals mg->bu l.prog w (Hd.K w.params) mg base CX0 10 fa fd ["_law_script"] (spL (Hd.K w.params) 1 A8):=by
 have T:Txt w.params mg:=⟨h,X,G⟩
 have e:=VR.symm.trans T.R8;cases e;exact⟨_,λs v=> .of_eq rfl,λbase _ _=>OK T⟩
theorem walk{l:PySem.W.OpenLaw}{q:Program}{loose:List Str}{XP:(Str->Option Value)->Heap->Prop}{YP:World->Heap->Prop}{d:DefRec}{K:Params->PySem.W.Frag}(hn:l.most=some 63)(zf:d.params.defaults=[])
  (hY:∀(w:World) (h:Heap),YP w h->(K w.params).In h)(T3:∀ns:List Int,ns.length<=63->A8 [.scr ns] (λd=>d= .bl true))
  (F:∀(w:World) (mg:Str->Option Value) (fa:Addr) (h:Heap),(K w.params).In h->h.Ns mainGlobals mg->mg d.name=some (.ref fa)->
   ∃fd:FuncData,(∀(s:Shared) (u:Value),BindsTo s fd ⟨[u],[]⟩ [("_law_script",u)])/\∀base:Heap,(K w.params).In base->base.Ns mainGlobals mg->bu l.prog w (K w.params) mg base CX0 10 fa fd ["_law_script"] (spL (K w.params) 1 A8)):
  PySem.W.WalkO q loose XP YP l.row.toRowW d [] (λf vs=>PySem.call f vs):=
 L2.Kb (n:=63) (k:=10) (x:="_law_script") (CX:=λ_=>CX0) (sp:=λw=>spL (K w.params) 1 A8) hn (by decide) zf ⟨rfl,by decide,by decide⟩ hY F (λ_ _ a ns hl hO hS=>Li hO hS (T3 ns hl)) λ_ _ _ _ _ z=>z
end Der
open PySem PySem.W PyProof.Rows
theorem PySem.Challenge.cw_dosehouse_k50_entries_of_a_house_holds : PySem.Challenge.rw_dosehouse_k50_entries_of_a_house.Holds := by
 exact Hd.close λd h1 h2=>Der.walk (l:=PySem.Challenge.rw_dosehouse_k50_entries_of_a_house) (K:=Hd.K) rfl h1 (λw h Y=>PySem.W.kIn_of Y) Maths.JF λw mg fa h KX G zN=>Der.all_mk KX G (h2▸zN)
