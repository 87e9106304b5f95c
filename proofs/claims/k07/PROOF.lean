import PyProof.Rows.All
import Wide.All
import OpenK.AllK
import PySem.Challenge.RW_dosehouse_k07_shown_and_read
set_option Elab.async false
set_option linter.all false
set_option maxRecDepth 100000
set_option maxHeartbeats 0
noncomputable section
set_option genSizeOf false
set_option compiler.extract_closed false
set_option genInjectivity false
theorem Za1(h:True:=by rfl):True:=h
theorem Za2(h:True:=by decide):True:=h
theorem Za3(h:True:=by first|exact .inl rfl|exact .inr rfl|assumption):True:=h
def Gaa:=@Option.map_eq_some_iff
def Gab:=@List.getElem?_eq_some_iff
def Gac:=@List.getElem?_set_ne
def Gad:=@Bool.and_eq_true
def Gae:=@PySem.Heap.get?_push_of_some
def Gaf:=@List.getElem?_eq_getElem
def Gag:=@PySem.wpAny_bind
def Gah:=@List.mem_cons
def Gai:=@List.size_toArray
def Gaj:=@Bool.false_ne_true
def Gak:=@if_pos
def Gal:=@List.length_append
def Gam:=@if_neg
def Gan:=@PySem.Heap.lt_size
def Gao:=@List.all_eq_true
def Gap:=@List.getElem?_map
def Gaq:=@PySem.wpAny_pure
def Gar:=@Nat.le_refl
def Gas:=@of_decide_eq_true
def Gat:=@List.mem_cons_of_mem
def Gau:=@List.map_cons
def Gav:=@List.getElem?_set_self
def Gaw:=@List.map_map
def Gax:=@List.length_map
def Gay:=@List.lookup_cons
def Gaz:=@PySem.Heap.get?_push_size
def GaA:=@List.map_append
def GaB:=@List.not_mem_nil
def GaC:=@Nat.lt_of_lt_of_le
def GaD:=@List.mem_of_getElem?
def GaE:=@List.length_cons
def GaF:=@Nat.ne_of_lt
def GaG:=@Nat.zero_add
def GaH:=@List.append_assoc
def GaI:=@List.mem_cons_self
def GaJ:=@List.mem_map
def GaK:=@beq_iff_eq
def GaL:=@Nat.le_trans
def GaM:=@List.getElem?_append_left
def GaN:=@List.getElem?_of_mem
def GaO:=@List.mem_append_right
def GaP:=@List.nodup_cons
def GaQ:=@List.length_take
def GaR:=@List.getElem?_append_right
def GaS:=@List.append_nil
def GaT:=@or_false
def GaU:=@Ne.symm
def GaV:=@decide_eq_false
def GaW:=@List.find?_cons
def GaX:=@beq_eq_false_iff_ne
def GaY:=@PySem.wpAny_truthy_bool
def GaZ:=@List.getElem?_eq_none
def Gba:=@PySem.W.kia_one
def Gbb:=@List.zip_cons_cons
def Gbc:=@PySem.Heap.size_push
def Gbd:=@PySem.wpAny_mono
def Gbe:=@List.eq_nil_of_length_eq_zero
def Gbf:=@PySem.F.called_set
def Gbg:=@PyProof.Rows.callWith_type1
def Gbh:=@Bool.or_eq_true
def Gbi:=@Nat.le_succ
def Gbj:=@Nat.lt_irrefl
def Gbk:=@List.getElem_mem
def Gbl:=@decide_eq_true
def Gbm:=@List.getElem?_replicate
def Gbn:=@PySem.wpAny_callSpecial?_slot
def Gbo:=@PySem.F.plainAttrs_list
def Gbp:=@List.mem_range
def Gbq:=@List.findIdx?_cons
def Gbr:=@PyProof.Rows.F.plain_set_update_loop
def Gbs:=@List.mem_append
def Gbt:=@List.length_singleton
def Gbu:=@List.all_cons
def Gbv:=@PySem.wpAny_newObj_type
def Gbw:=@Nat.lt_succ_of_lt
def Gbx:=@List.mem_of_mem_take
def Gby:=@PySem.wpAny_seqItems
def Gbz:=@Nat.ne_of_gt
def GbA:=@List.length_drop
def GbB:=@List.mem_map_of_mem
def GbC:=@PyProof.Rows.slot_tuple_getitem
def GbD:=@PySem.wpAny_getItem_str_slice
def GbE:=@List.length_eq_zero_iff
def GbF:=@PySem.wpAny_pyIter_tuple
def GbG:=@PySem.wpAny_setField_rec
def GbH:=@PySem.sizeLine_eq
def GbI:=@List.nodup_append
def GbJ:=@List.flatMap_cons
def GbK:=@List.contains_iff_mem
def GbL:=@PySem.Str.cps_append
def GbM:=@Nat.lt_succ_self
def GbN:=@PySem.wpAny_call_entry
def GbO:=@PySem.call_meets
def GbP:=@List.cons_append
def GbQ:=@PySem.wpAny_passesOwn
def GbR:=@List.getElem?_zip_eq_some
def GbS:=@PySem.wpAny_Call_Name_kw
def GbT:=@PySem.F.args_tuple_add_2
def GbU:=@PySem.tupleKind_room_in1
def GbV:=@PyProof.Rows.F.entry_set_update_loop
def GbW:=@Int.emod_lt_of_pos
def GbX:=@PySem.typeIs_str
def GbY:=@PySem.F.entry_tuple_add
def GbZ:=@PySem.wpAny_pyIter_list
def Gca:=@List.foldl_append
def Gcb:=@PySem.wpAny_pyIter_enum
def Gcc:=@PySem.F.slot_tuple_add
def Gce:=@PySem.Str.ofString_eq_toList
def Gcf:=@List.findIdx?_eq_some_iff_getElem
def Gcg:=@List.any_cons
def Gch:=@Nat.le_add_right
def Gci:=@List.length_replicate
def Gcj:=@List.concat_eq_append
def Gck:=@PySem.codeAny_mono
def Gcl:=@List.length_set
def Gcm:=@List.map_nil
def Gcn:=@List.forIn_cons
def Gco:=@Bool.eq_iff_iff
def Gcp:=@PySem.codeAny_builtin
def Gcq:=@PySem.Around.under_plainId
def Gcr:=@PySem.wpAny_updateSeq_pair
def Gcs:=@PySem.F.slot_zip_next
def Gct:=@PySem.post_val_or_str
def Gcu:=@List.nil_append
def Gcv:=@List.range_succ
def Gcw:=@Int.emod_nonneg
def Gcx:=@List.filterMap_cons
def Gcy:=@Array.length_toList
def Gcz:=@Array.toList_append
def GcA:=@List.map_eq_flatMap
def GcB:=@Bool.and_false
def GcC:=@Nat.zero_le
def GcD:=@List.mem_singleton
def GcE:=@Prod.mk.injEq
def GcF:=@List.map_take
def GcG:=@Option.isSome_map
def GcH:=@List.ext_getElem?
def GcI:=@not_false_eq_true
abbrev VSP:=PySem.Value->PySem.Shared->Prop
abbrev LAO:=List (PySem.Addr×PySem.Obj)
namespace L2
open PySem PySem.Spec PyProof.Rows
abbrev Key:=Sum Int Str
def o6:Key->Value->Bool
 | .inl k,v=>Value.isInt k v
 | .inr x,v=>Value.isStrOf x v
noncomputable def NW(w:World):Key->Int
 | .inl k=>hashInt k
 | .inr x=>hashStr w x
theorem bL:∀{k:Key} {v:Value},o6 k v=true->(∃i t,k=Sum.inl i/\v=Value.int i t)\/(∃x t,k=Sum.inr x/\v=Value.str x t)
 | .inl i,v,h=>by
  obtain⟨t,e⟩:=Value.isInt_shape (k:=i) (v:=v) h;exact .inl ⟨i,t,rfl,e⟩
 | .inr x,v,h=>by
  obtain⟨t,e⟩:=Value.isStrOf_shape (x:=x) (v:=v) h;exact .inr ⟨x,t,rfl,e⟩
theorem vf(i:Int)(t:Tok):o6 (.inl i) (.int i t)=true:=by simp[o6,Value.isInt]
theorem vg(x:Str)(t:Tok):o6 (.inr x) (.str x t)=true:=by simp[o6,Value.isStrOf]
theorem Gz(a b:Int):decide ((Sum.inl a:Key)=Sum.inl b)=(a==b):=by
 by_cases e:a=b
 .subst e;simp
 .have h:¬(Sum.inl a:Key)=Sum.inl b:=λq=>e (Sum.inl.inj q);rw[GaV h];exact(GaX.mpr e).symm
theorem GA(a b:Str):decide ((Sum.inr a:Key)=Sum.inr b)=decide (a=b):=by
 by_cases e:a=b
 .subst e;simp
 .have h:¬(Sum.inr a:Key)=Sum.inr b:=λq=>e (Sum.inr.inj q);rw[GaV h,GaV e]
theorem GB(a:Int)(b:Str):decide ((Sum.inl a:Key)=Sum.inr b)=false:=GaV (λq=>nomatch q)
theorem GC(a:Str)(b:Int):decide ((Sum.inr a:Key)=Sum.inl b)=false:=GaV (λq=>nomatch q)
def bD(prog:Program)(w:World):PySem.KeyKind prog w Key where
 is:=o6
 hash:=NW w
 inj:=λv a b ha hb=>by
  rcases bL ha with⟨i,t,rfl,rfl⟩| ⟨x,t,rfl,rfl⟩
  .rcases bL hb with⟨j,u,rfl,e⟩| ⟨y,u,rfl,e⟩
   .injection e with e1 _;rw[e1]
   .exact nomatch e
  .rcases bL hb with⟨j,u,rfl,e⟩| ⟨y,u,rfl,e⟩
   .exact nomatch e
   .injection e with e1 _;rw[e1]
 byValue:=λk v h=>by
  rcases bL h with⟨i,t,rfl,rfl⟩| ⟨x,t,rfl,rfl⟩<;>rfl
 pyHash:=λhv h=>by
  rcases bL hv with⟨i,t,rfl,rfl⟩| ⟨x,t,rfl,rfl⟩
  .exact wpAny_pyHash_int h
  .exact wpAny_pyHash_str h
 eqBool:=λhu hv h=>by
  rcases bL hu with⟨i,t,rfl,rfl⟩| ⟨x,t,rfl,rfl⟩
  .rcases bL hv with⟨j,u,rfl,rfl⟩| ⟨y,u,rfl,rfl⟩
   .rw[Gz] at h;exact wpAny_eqBool_int h
   .rw[GB] at h;exact SeqAt.EqAt.int_str i t y u _ _ _ _ h
  .rcases bL hv with⟨j,u,rfl,rfl⟩| ⟨y,u,rfl,rfl⟩
   .rw[GC] at h;exact SeqAt.EqAt.str_int x t j u _ _ _ _ h
   .rw[GA] at h;exact wpAny_eqBool_str h
 «strs» :=λk x t v h=>by
  rcases bL h with⟨i,u,rfl,e⟩| ⟨y,u,rfl,e⟩
  .exact nomatch e
  .injection e with e1 _
   subst e1;cases v<;>rfl
theorem qk(prog:Program)(w:World)(i:Int)(t:Tok):(bD prog w).is (.inl i) (.int i t)=true:=vf i t
theorem gO(prog:Program)(w:World)(x:Str)(t:Tok):(bD prog w).is (.inr x) (.str x t)=true:=vg x t
set_option genInjectivity true in
inductive V where
 |non|bl (b:Bool)|int (i:Int)|str (x:Str)|byt (b:Array UInt8)|flt (b:UInt64)|ref (a:Addr)|ty (n:String)
 deriving DecidableEq
def RelV:V->Value->Prop
 | .non,u=>u=Value.none
 | .bl b,u=>u=Value.bool b
 | .int i,u=>∃t,u=Value.int i t
 | .str x,u=>∃t,u=Value.str x t
 | .byt b,u=>∃t,u=Value.bytes b t
 | .flt b,u=>∃t,u=Value.float b t
 | .ref a,u=>u=Value.ref a
 | .ty n,u=>u=Value.type n
abbrev Vals:List V->List Value->Prop:=Paired RelV
theorem Vals.length{xs:List V}{us:List Value}(r:Vals xs us):xs.length=us.length:=Paired.length r
theorem Vals.get:∀{xs:List V} {us:List Value} {i:Nat} {x:V},Vals xs us->xs[i]? =some x->∃u,us[i]? =some u/\RelV x u
 |_,_,_,_,.nil,e=>by simp at e
 |_,_,0,_,.cons r _,e=>by simp at e;subst e;exact⟨_,rfl,r⟩
 |_,_,i+1,x,.cons _ t,e=>by
  obtain⟨u,h1,h2⟩:=Vals.get (i:=i) (x:=x) t (by simpa using e);exact⟨u,by simpa using h1,h2⟩
theorem Vals.set{x:V}{u:Value}(r:RelV x u):∀{xs:List V} {us:List Value} (i:Nat),Vals xs us->Vals (xs.set i x) (us.set i u)
 |_,_,_,.nil=> .nil
 |_,_,0,.cons _ t=> .cons r t
 |_,_,i+1,.cons q t=> .cons q (Vals.set r i t)
theorem Vals.append{xs ys:List V}{us ws:List Value}(p:Vals xs us)(s:Vals ys ws):Vals (xs++ys) (us++ws):=by
 induction p with
 |nil=>exact s
 |cons r t ih=>exact .cons r ih
theorem Vals.take:∀{xs:List V} {us:List Value} (n:Nat),Vals xs us->Vals (xs.take n) (us.take n)
 |_,_,0,_=> .nil
 |_,_,_+1,.nil=> .nil
 |_,_,n+1,.cons r t=> .cons r (Vals.take n t)
theorem Vals.drop:∀{xs:List V} {us:List Value} (n:Nat),Vals xs us->Vals (xs.drop n) (us.drop n)
 |_,_,0,r=>r
 |_,_,_+1,.nil=> .nil
 |_,_,n+1,.cons _ t=>Vals.drop n t
def km:Option V->Option Value->Prop
 |some v,some u=>RelV v u
 |none,none=>True
 |_,_=>False
def KV{Y:Type}:List (Y×V)->List (Y×Value)->Prop:=Paired λ(p:Y×V) (q:Y×Value)=>p.1=q.1/\RelV p.2 q.2
noncomputable def kV:Key->V
 | .inl i=> .int i
 | .inr x=> .str x
inductive HO where
 |lst (xs:List V)
 |tup (xs:List V)
 |dK (kvs:List (Key×V))|dT (kvs:List (List Key×V))
 |set (S:Int->Bool) (n:Nat)
 |ins (C dx:Addr) (fs:List (Str×V))
 |own (x:Addr)
 |xd (fs:List (Str×V))
 |met (f x:Addr)
 |rng (lo hi:Int)
 |frz (o:Obj) (u:HO)
 |tbl (ps:Array Value)
 |ext (φ:Heap->Prop)
abbrev Hp:=Addr->Option HO
noncomputable def upd(H:Hp)(a:Addr)(o:HO):Hp:=λb=>if b=a then some o else H b
variable{o:HO}{a:Addr}{H:Hp}
theorem ax:upd H a o a=some o:=by unfold upd;rw[Gak rfl]
variable{b:Addr}
theorem aw(h:b≠a):upd H a o b=H b:=by unfold upd;rw[Gam h]
variable{u:HO}
theorem Ky(h:H a=some o)(h' :H b=some u)(d:o≠u):a≠b:=by
 intro e;subst e;rw[h] at h';exact d (Option.some.inj h')
theorem bU(h:H a=some o)(h' :H b=none):a≠b:=by
 intro e;subst e;rw[h] at h';cases h'
section
variable(P:Program)(w:World)
def bM(H:Hp)(h:Heap)(a:Addr):HO->Prop
 | .lst xs=>xs.length<=sizeLine/\∃(eh:List Value) (n:Nat),Vals xs eh/\h.get? a=some {cls:= .type "list",data:= .seq eh.toArray n}
 | .tup xs=>xs.length<=sizeLine/\∃eh:List Value,Vals xs eh/\IsTup h a eh.toArray
 | .dK kvs=>kvs.length<=sizeLine/\(a==sysModules)=false/\∃vs,KV kvs vs/\h.DictOf (bD P w) a vs
 | .dT kvs=>kvs.length<=sizeLine/\(a==sysModules)=false/\∃xs:List (List Key×Addr×Value),
   Paired (λ(p:List Key×V) (q:List Key×Addr×Value)=>p.1=q.1/\H q.2.1=some (.tup (p.1.map kV))/\RelV p.2 q.2.2) kvs xs/\
   ∃o es ep,h.get? a=some o/\o.ExactDict/\o.data= .dict es ep/\es.toList=xs.map (entryOfKey (tupleKind (bD P w)))/\(xs.map (·.1)).Nodup
 | .set S n=>h.SetOf (intKind P w) a S n
 | .ins C dx fs=>H dx=some (.own a)/\fs.length<=1000/\dx≠a/\h.get? a=some (PySem.W.instObj C dx)/\
   ∃mA,h.Ns1 dx mA/\(∀f,km (fs.lookup f) (mA f))/\PySem.Within mA (fs.map (·.1))
 | .own _=>∃o,h.get? a=some o
 | .xd fs=>∃mA,h.Ns1 a mA/\∀f,km (fs.lookup f) (mA f)
 | .rng lo hi=>∃t u v,h.get? a=some {cls:= .type "range",data:= .fields #[.int lo t,.int hi u,.int 1 v]}
 | .frz o u=>h.get? a=some o/\bM H h a u
 | .tbl ps=>h.get? a=some {cls:= .none,data:= .fields ps}
 | .met f x=>h.get? a=some (PySem.W.methodObj (.ref f) (.ref x))
 | .ext φ=>φ h/\(∃o,h.get? a=some o)/\∀h1 h2:Heap,φ h1->(∀o,h1.get? a=some o->h2.get? a=some o)->φ h2
def HOk(H:Hp)(h:Heap):Prop:=∀a o,H a=some o->bM P w H h a o
end
section
variable{P:Program}{w:World}{H H' :Hp}{h h' :Heap}{a:Addr}{o:HO}
theorem bM.lt(x:bM P w H h a o):a<h.objs.size:=by
 cases o with
 |lst xs=>obtain⟨_,_,_,_,e⟩:=x;exact Gan e
 |tup xs=>obtain⟨_,_,_,p⟩:=x;exact p.lt
 |dK kvs=>obtain⟨_,_,_,_,o,_,_,e,_⟩:=x;exact Gan e
 |dT kvs=>obtain⟨_,_,_,_,o,_,_,e,_⟩:=x;exact Gan e
 |set S n=>obtain⟨o,_,_,_,e,_⟩:=x;exact Gan e
 |ins C dx fs=>obtain⟨_,_,_,e,_⟩:=x;exact Gan e
 |own y=>obtain⟨_,e⟩:=x;exact Gan e
 |xd fs=>obtain⟨_,⟨_,_,_,e,_⟩,_⟩:=x;exact Gan e
 |rng lo hi=>obtain⟨_,_,_,e⟩:=x;exact Gan e
 |frz ob u=>obtain⟨e,_⟩:=x;exact Gan e
 |tbl ps=>exact Gan (show h.get? a=some _ from x)
 |met f y=>exact Gan (show h.get? a=some _ from x)
 |ext φ=>obtain⟨_,⟨_,e⟩,_⟩:=x;exact Gan e
theorem Paired.GD{α β:Type}{F G:α->β->Prop}{l₁:List α}{l₂:List β}(p:Paired F l₁ l₂)(f:∀a b,F a b->G a b):Paired G l₁ l₂:=by
 induction p with
 |nil=>exact .nil
 |cons r t ih=>exact .cons (f _ _ r) ih
theorem bM.gI(x:bM P w H h a o)(k:∀b u,(b=a\/H b=some (.own a))->h.get? b=some u->h'.get? b=some u)
  (ho:∀b,H b=some (.own a)->H' b=some (.own a))(ht:∀b xs,H b=some (.tup xs)->H' b=some (.tup xs)):bM P w H' h' a o:=by
 induction o with
 |lst xs=>obtain⟨z,eh,n,r,e⟩:=x;exact⟨z,eh,n,r,k _ _ (.inl rfl) e⟩
 |tup xs=>obtain⟨z,eh,r,ob,e,c⟩:=x;exact⟨z,eh,r,ob,k _ _ (.inl rfl) e,c⟩
 |dK kvs=>obtain⟨z,y,vs,r,ob,es,ep,e,c⟩:=x;exact⟨z,y,vs,r,ob,es,ep,k _ _ (.inl rfl) e,c⟩
 |dT kvs=>
  obtain⟨z,y,xs,r,ob,es,ep,e,c⟩:=x;exact⟨z,y,xs,Paired.GD r λp q z=> ⟨z.1,ht _ _ z.2.1,z.2.2⟩,ob,es,ep,k _ _ (.inl rfl) e,c⟩
 |set S n=>obtain⟨ob,es,ep,t,e,c⟩:=x;exact⟨ob,es,ep,t,k _ _ (.inl rfl) e,c⟩
 |ins C dx fs=>
  obtain⟨d,z,ne,e,mA,⟨od,es,ep,e2,c⟩,r⟩:=x;exact⟨ho _ d,z,ne,k _ _ (.inl rfl) e,mA,⟨od,es,ep,k _ _ (.inr d) e2,c⟩,r⟩
 |own y=>obtain⟨ob,e⟩:=x;exact⟨ob,k _ _ (.inl rfl) e⟩
 |xd fs=>obtain⟨mA,⟨od,es,ep,e,c⟩,r⟩:=x;exact⟨mA,⟨od,es,ep,k _ _ (.inl rfl) e,c⟩,r⟩
 |rng lo hi=>obtain⟨t,u,v,e⟩:=x;exact⟨t,u,v,k _ _ (.inl rfl) e⟩
 |frz ob u ih=>obtain⟨e,q⟩:=x;exact⟨k _ _ (.inl rfl) e,ih q⟩
 |tbl ps=>
  have e:h.get? a=some {cls:= .none,data:= .fields ps}:=x;show h'.get? a=some {cls:= .none,data:= .fields ps};exact k a _ (.inl rfl) e
 |met f y=>
  have e:h.get? a=some (PySem.W.methodObj (.ref f) (.ref y)):=x;show h'.get? a=some (PySem.W.methodObj (.ref f) (.ref y));exact k a _ (.inl rfl) e
 |ext φ=>obtain⟨p,⟨o,e⟩,st⟩:=x;exact⟨st _ _ p λo q=>k _ _ (.inl rfl) q,⟨o,k _ _ (.inl rfl) e⟩,st⟩
theorem HOk.lt(x:HOk P w H h)(e:H a=some o):a<h.objs.size:=(x a o e).lt
theorem HOk.fresh(x:HOk P w H h)(e:h.objs.size<=a):H a=none:=by
 cases q:H a with
 |none=>rfl
 |some u=>exact absurd (GaC (x.lt q) e) (Gbj _)
theorem HOk.kept(x:HOk P w H h)(k:∀b u,h.get? b=some u->h'.get? b=some u):HOk P w H h' :=λa o e=>
 (x a o e).gI (λb u _ q=>k b u q) (λ_ q=>q) λ_ _ q=>q
theorem HOk.laid(x:HOk P w H h)(k:∀b u,h.get? b=some u->h'.get? b=some u)(hp:h.objs.size<=a)(new:bM P w (upd H a o) h' a o):HOk P w (upd H a o) h' :=λb u e=>by
 have hn:=x.fresh hp;by_cases hb:b=a
 .subst hb;rw[ax] at e;cases e;exact new
 .rw[aw hb] at e;exact(x b u e).gI (λc v _ q=>k c v q) (λc q=>by rw[aw (bU q hn)];exact q) λc xs q=>by rw[aw (bU q hn)];exact q
end
def Rd(H:Hp)(a:Addr)(u:HO):Prop:=H a=some u\/∃o,H a=some (.frz o u)
theorem Rd.of(h:H a=some u):Rd H a u:= .inl h
variable{h:Heap}
theorem Rd.ok{P:Program}{w:World}(r:Rd H a u)(x:HOk P w H h):bM P w H h a u:=by
 rcases r with r| ⟨o,r⟩
 .exact x a u r
 .obtain⟨_,q⟩:=x a _ r;exact q
def Mut:Option HO->Prop
 |some (.lst _)=>True
 |some (.dK _)=>True
 |some (.dT _)=>True
 |some (.set _ _)=>True
 |some (.ins _ _ _)=>True
 |some (.ext _)=>True
 |_=>False
section
variable{P:Program}{w:World}{H:Hp}{h h' :Heap}{x e:Addr}{o' :HO}
theorem HOk.write(ok:HOk P w H h)(mu:Mut (H x))(he:e=x\/H e=some (.own x))(k:∀b u,b≠e->h.get? b=some u->h'.get? b=some u)(yS:∃u,h'.get? e=some u)
  (new:bM P w (upd H x o') h' x o'):HOk P w (upd H x o') h' :=λb u q=>by
 have nown:∀c y,H c=some (.own y)->c≠x:=λc y r z=>by subst z;rw[r] at mu;exact mu
 have ntup:∀c xs,H c=some (.tup xs)->c≠x:=λc xs r z=>by subst z;rw[r] at mu;exact mu
 by_cases hb:b=x
 .subst hb;rw[ax] at q;cases q;exact new
 .rw[aw hb] at q;by_cases hbe:b=e
  .have q' :H b=some (.own x):=by
    rcases he with z|z
    .exact absurd (hbe.trans z) hb
    .rw[hbe];exact z
   rw[q] at q';cases q'
   obtain⟨v,hv⟩:=yS;exact⟨v,by rw[hbe];exact hv⟩
  .refine(ok b u q).gI (λc v hc r=>k c v ?_ r) (λc r=>by rw[aw (nown c b r)];exact r) λc xs r=>by rw[aw (ntup c xs r)];exact r
   rcases hc with rfl|hc
   .exact hbe
   .rintro rfl;rcases he with z|z
    .exact nown c b hc z
    .rw[hc] at z;cases z;exact hb rfl
end
structure Un(fs ex:List Addr)(H H' :Hp)(h h' :Heap):Prop where
 keep:∀b o,h.get? b=some o->H b=none->b∉fs->b∉ex->h'.get? b=some o
 slot:∀b o,h.get? b=some o->H b=none->b∈fs->b∉ex->∃sl,h'.get? b=some {o with slots:=sl}
 free:∀b o,h.get? b=some o->H b=none->b∉ex->H' b=none
 there:∀b o,h.get? b=some o->b∉ex->∃o',h'.get? b=some o'
 rK:∀b xs,H b=some (.tup xs)->H' b=some (.tup xs)
 qj:∀b o u,H b=some (.frz o u)->H' b=some (.frz o u)
 rL:∀b ps,H b=some (.tbl ps)->∃more,H' b=some (.tbl (ps++more))
section
variable{fs Q5 ex Rt :List Addr}{H H1 H2:Hp}{h h1 h2 h' :Heap}{a x e:Addr}{o:HO}
theorem Un.any(u:Un fs ex H H1 h h1){b:Addr}{ob:Obj}(q:h.get? b=some ob)(n:H b=none)(hx:b∉ex):∃sl,h1.get? b=some {ob with slots:=sl}:=by
 by_cases hb:b∈fs
 .exact u.slot b ob q n hb hx
 .exact⟨ob.slots,u.keep b ob q n hb hx⟩
theorem Un.kept(k:∀b u,h.get? b=some u->h'.get? b=some u):Un fs ex H H h h' :=
 ⟨λb ob q _ _ _=>k b ob q,λb ob q _ _ _=> ⟨ob.slots,k b ob q⟩,λ_ _ _ n _=>n,λb ob q _=> ⟨ob,k b ob q⟩,λ_ _ q=>q,λ_ _ _ q=>q,λ_ ps q=> ⟨#[],by rw[q];simp⟩⟩
theorem Un.refl:Un fs ex H H h h:=Un.kept λ_ _ q=>q
theorem Un.laid(k:∀b u,h.get? b=some u->h'.get? b=some u)(hp:h.objs.size<=a)(hn:H a=none):Un fs ex H (upd H a o) h h' where
 keep:=λb u q _ _ _=>k b u q
 slot:=λb u q _ _ _=> ⟨u.slots,k b u q⟩
 free:=λb u q n _=>by rw[aw (GaF (GaC (Gan q) hp))];exact n
 there:=λb u q _=> ⟨u,k b u q⟩
 rK:=λb xs q=>by rw[aw (bU q hn)];exact q
 qj:=λb u xs q=>by rw[aw (bU q hn)];exact q
 rL:=λb ps q=> ⟨#[],by rw[aw (bU q hn),q];simp⟩
theorem Un.write(mu:Mut (H x))(he:e=x\/H e=some (.own x))(k:∀b u,b≠e->h.get? b=some u->h'.get? b=some u)(yS:∃u,h'.get? e=some u):Un fs ex H (upd H x o) h h' :=by
 have hx:∀b,H b=none->b≠x:=λb n z=>by subst z;rw[n] at mu;exact mu
 have hb:∀b,H b=none->b≠e:=λb n z=>by
  subst z;rcases he with r|r
  .exact hx b n r
  .rw[n] at r;cases r
 have hm:∀b u,H b=some u->¬Mut (some u)->b≠x:=λb u q nm z=>by subst z;rw[q] at mu;exact nm mu
 refine⟨λb u q n _ _=>k b u (hb b n) q,λb u q n _ _=> ⟨u.slots,k b u (hb b n) q⟩,λb u q n _=>by rw[aw (hx b n)];exact n,λb u q _=> ?_,
  λb xs q=>by rw[aw (hm b _ q λz=>z)];exact q,λb u xs q=>by rw[aw (hm b _ q λz=>z)];exact q,λb ps q=> ⟨#[],by rw[aw (hm b _ q λz=>z),q];simp⟩⟩
 by_cases hbe:b=e
 .subst hbe;exact yS
 .exact⟨u,k b u hbe q⟩
end
noncomputable def trk(h:Heap)(H:Hp):List Addr:=(List.range h.objs.size).filter λa=>(H a).isSome
def pv(h:Heap)(H:Hp):Heap:=PySem.W.hideAll h (trk h H)
theorem vh(h:Heap)(H:Hp):(pv h H).objs.size=h.objs.size:=PySem.W.hideAll_size _ _
theorem A4{o:Obj}(e:h.get? b=some o)(n:H b=none):(pv h H).get? b=some o:=
 PySem.W.hideAll_get _ e λhm=>by
  have q:(H b).isSome=true:=(List.mem_filter.mp hm).2;rw[n] at q;simp at q
theorem Dc{o:Obj}(e:(pv h H).get? b=some o):h.get? b=some o/\H b=none:=by
 have e' :h.get? b=some o:=PySem.W.of_hideAll (trk h H) e;refine⟨e', ?_⟩;cases q:H b with
 |none=>rfl
 |some x=>
  have hm:b∈trk h H:=List.mem_filter.mpr ⟨Gbp.mpr (Gan e'),by simp[q]⟩;have z:(pv h H).get? b=none:=PySem.W.hideAll_none (trk h H) hm;rw[z] at e;cases e
noncomputable def Dd(g h:Heap)(L:Addr):LAO:=(List.range h.objs.size).filterMap λa=>if a=L\/(g.get? a).isSome=true then none else(h.get? a).map λo=>(a,o)
def rest(g h:Heap)(L d:Addr):LAO:=(Dd g h L).filter λp=>decide (p.1≠d)
structure Mod(K:PySem.W.Frag)(mg:Str->Option Value)(base:Heap):Prop where
 kin:K.In base
 glob:base.Ns mainGlobals mg
 blt:∃mb,base.Ns builtinsNs mb/\∀x:Str,x≠"__name__"->mb x=bootBuiltins x
 nolimit:base.NoLimit
structure Cx where
 prog:Program
 w:World
 K:PySem.W.Frag
 mg:Str->Option Value
 base:Heap
 A:Around
 N:List Str
 s₀:Shared
 H0:Hp
 env:Env
 outer:List Env
 stack:List Env
 ex:List Addr
 fn:Str->Bool
 calm:Bool
 pn:LAO
 xe:VSP
noncomputable def frs(l:List Env):List Addr:=l.filterMap (·.frame)
abbrev Cx.fs (X:Cx):List Addr:=frs X.outer
def Vis(sc:Scope)(x:Str):Prop:=sc.names.lookup x=some .local\/sc.names.lookup x=some .cell\/sc.names.lookup x=some .free
def Loc(sc:Scope)(x:Str):Prop:=sc.names.lookup x=some .local\/sc.names.lookup x=some .cell
def Look(env:Env)(h:Heap)(m:Str->Option Value)(x:Str)(u:Value):Prop:=
 (env.kindOf x=some .local/\m x=some u)\/((env.kindOf x=some .cell\/env.kindOf x=some .free)/\∃c,env.cells.lookup x=some c/\h.IsCell c (some u))
structure Cx.Ok(X:Cx):Prop where
 mod:Mod X.K X.mg X.base
 kind:X.env.scope.kind= .function
 glob:X.env.globals=mainGlobals
 blt:X.env.builtins=builtinsNs
 above:X.s₀.heap.objs.size<=X.env.locals
 inj:∀x y c,X.env.cells.lookup x=some c->X.env.cells.lookup y=some c->x=y
 has:∀x,(X.env.kindOf x=some .cell\/X.env.kindOf x=some .free)->∃c,X.env.cells.lookup x=some c
 cab:∀x c,X.fn x=true->X.env.cells.lookup x=some c->X.s₀.heap.objs.size<=c
 hd:X.calm=true->X.A.handled=none
 frames:X.A.frames=some X.stack
 stk:X.stack=X.outer\/(X.stack=X.env::X.outer/\X.env.frame=some X.env.locals)
 exf:∀b∈X.ex,b≠X.env.locals/\∀x c,X.env.cells.lookup x=some c->c≠b
 bs:∀b o,X.base.get? b=some o->X.s₀.heap.get? b=some o/\X.H0 b=none
 bsz:X.base.objs.size<=X.s₀.heap.objs.size
 D8:∀b o,X.base.get? b=some o->b∉X.ex
 D9:∀b∈X.ex,b∉X.fs
 lV:X.s₀.heap.FunFrames X.base X.outer
 frf:∀b∈X.fs,X.H0 b=none
structure Inv(X:Cx)(ef:LAO)(Z:List (Option V))(H:Hp)(s:Shared):Prop where
 ok:X.Ok
 os:s.os=X.s₀.os
 bare:AllBare s.gens
 base:Un X.fs X.ex X.H0 H X.s₀.heap s.heap
 loc:∃m,s.heap.Ns X.env.locals m/\∀(i:Nat) (x:Str) (v:V),X.N[i]? =some x->Z[i]? =some (some v)->Vis X.env.scope x->∃u,RelV v u/\Look X.env s.heap m x u
 cell:∀x c,X.env.cells.lookup x=some c->∃v,s.heap.IsCell c v
 free:H X.env.locals=none
 j9:∀x c,X.env.cells.lookup x=some c->H c=none
 pin:∀p∈X.pn++ef,s.heap.get? p.1=some p.2/\H p.1=none/\p.1≠X.env.locals/\p.1∉X.fs/\∀v,p.2.data≠ .cell v
 hok:HOk X.prog X.w H s.heap
 len:Z.length=X.N.length
section
variable{X:Cx}{ef:LAO}{Z:List (Option V)}{H H' :Hp}{s:Shared}{h' :Heap}
theorem Cx.Ok.NX(ok:X.Ok){b:Addr}{o:Obj}(e:X.base.get? b=some o):b∉X.fs:=λhb=>by
 have:=(ok.lV.mem hb).1;rw[e] at this;cases this
theorem Inv.bs(I:Inv X ef Z H s):∀b o,X.base.get? b=some o->s.heap.get? b=some o/\H b=none:=λb o e=>
 ⟨I.base.keep b o (I.ok.bs b o e).1 (I.ok.bs b o e).2 (I.ok.NX e) (I.ok.D8 b o e),I.base.free b o (I.ok.bs b o e).1 (I.ok.bs b o e).2 (I.ok.D8 b o e)⟩
theorem Inv.bk(I:Inv X ef Z H s):∀b o,X.base.get? b=some o->s.heap.get? b=some o:=λb o e=>(I.bs b o e).1
theorem Inv.mod(I:Inv X ef Z H s):Mod X.K X.mg X.base:=I.ok.mod
theorem Inv.kIn(I:Inv X ef Z H s):X.K.In s.heap:=I.ok.mod.kin.keeps I.bk
theorem Inv.lt(I:Inv X ef Z H s):X.env.locals<s.heap.objs.size:=let⟨_,hn,_⟩:=I.loc;hn.lt
theorem Inv.sz(I:Inv X ef Z H s):X.s₀.heap.objs.size<=s.heap.objs.size:=GaL I.ok.above (Nat.le_of_lt I.lt)
theorem Inv.NY(I:Inv X ef Z H s){a:Addr}(h:s.heap.objs.size<=a):a∉X.fs:=λhb=>by
 obtain⟨_,o,ho,_⟩:=I.ok.lV.mem hb;exact absurd (GaC (Gan ho) (GaL I.sz h)) (Gbj _)
theorem Inv.cne(I:Inv X ef Z H s):∀x c,X.env.cells.lookup x=some c->c≠X.env.locals:=λx c e z=>by
 obtain⟨v,o,ho,hd⟩:=I.cell x c e;obtain⟨m,⟨o',es,ep,xv,eX,_⟩,_⟩:=I.loc;rw[z,xv] at ho;cases ho;rw[eX] at hd;cases hd
theorem Inv.lV(I:Inv X ef Z H s):s.heap.FunFrames X.base X.outer:=by
 have all:∀(l:List Env),(∀b∈frs l,b∈X.fs)->X.s₀.heap.FunFrames X.base l->s.heap.FunFrames X.base l:=by
  intro l;induction l with
  |nil=>intro _ _;trivial
  |cons env r ih=>
   intro hs hl;obtain⟨hk,⟨L,o,hf,hn,ho,hd⟩,hr⟩:=hl;have hL:L∈X.fs:=hs L (by unfold frs;rw[Gcx,hf];exact GaI);obtain⟨sl,e⟩:=I.base.slot L o ho (I.ok.frf L hL) hL λz=>I.ok.D9 L z hL;exact⟨hk,⟨L,_,hf,hn,e,hd⟩,ih (λb hb=>hs b (by unfold frs;rw[Gcx,hf];exact Gat _ hb)) hr⟩
 exact all X.outer (λ_ hb=>hb) I.ok.lV
theorem Inv.stack(I:Inv X ef Z H s):s.heap.FunFrames X.base X.stack:=by
 rcases I.ok.stk with e| ⟨e,hf⟩
 .rw[e];exact I.lV
 .rw[e];obtain⟨m,hn,_⟩:=I.loc;refine .cons (by rw[I.ok.kind];decide) hf hn ?_ I.lV;exact Heap.get?_none_of_le (GaL I.ok.bsz I.ok.above)
theorem Inv.rM(I:Inv X ef Z H s):∀b∈frs X.stack,b∈X.env.locals::X.fs:=λb hb=>by
 rcases I.ok.stk with e| ⟨e,hf⟩
 .rw[e] at hb;exact Gat _ hb
 .rw[e] at hb;unfold frs at hb;rw[Gcx,hf] at hb;exact hb
theorem Inv.tQ(I:Inv X ef Z H s):∀b∈frs X.stack,H b=none:=λb hb=>by
 rcases Gah.mp (I.rM b hb) with e|hb
 .rw[e];exact I.free
 .obtain⟨_,o,ho,_⟩:=I.ok.lV.mem hb;exact I.base.free b o ho (I.ok.frf b hb) λz=>I.ok.D9 b z hb
variable{ch:List Addr}{t' :Nat}
theorem Inv.step{g' :Array GenState}{d' :Drawn}(I:Inv X ef Z H s)
  (yc:∀b∈ch,(b∈X.ex\/X.s₀.heap.objs.size<=b)/\b≠X.env.locals/\(∀x c,X.env.cells.lookup x=some c->c≠b)/\∀p∈X.pn++ef,p.1≠b)
  (keep:∀b o,b≠X.env.locals->b∉X.fs->b∉ch->s.heap.get? b=some o->H b=none->h'.get? b=some o)
  (slot:∀b o,b≠X.env.locals->b∈X.fs->b∉ch->s.heap.get? b=some o->H b=none->∃sl,h'.get? b=some {o with slots:=sl})(free:∀b o,b∉ch->s.heap.get? b=some o->H b=none->H' b=none)
  (there:∀b o,b∉ch->s.heap.get? b=some o->∃o',h'.get? b=some o')
  (rK:∀b xs,H b=some (.tup xs)->H' b=some (.tup xs))(qj:∀b o u,H b=some (.frz o u)->H' b=some (.frz o u))(rL:∀b ps,H b=some (.tbl ps)->∃more,H' b=some (.tbl (ps++more)))
  (ns:∀m,s.heap.Ns X.env.locals m->h'.Ns X.env.locals m)(hok:HOk X.prog X.w H' h')(hg:AllBare g'):
  Inv X ef Z H' {s with heap:=h',gens:=g',drawn:=d',toks:=t' }:=by
 have neL:∀b o,X.s₀.heap.get? b=some o->b≠X.env.locals:=λb o e=>GaF (GaC (Gan e) I.ok.above);have neC:∀b o,X.s₀.heap.get? b=some o->b∉X.ex->b∉ch:=λb o e hx hb=>by
  rcases(yc b hb).1 with z|z
  .exact hx z
  .exact absurd (GaC (Gan e) z) (Gbj _)
 have cellK:∀x c,X.env.cells.lookup x=some c->∀v,s.heap.IsCell c v->h'.IsCell c v:=λx c e v ⟨o,ho,hd⟩=>by
  have nch:c∉ch:=λz=>(yc c z).2.2.1 x c e rfl;by_cases hc:c∈X.fs
  .obtain⟨sl,q⟩:=slot c o (I.cne x c e) hc nch ho (I.j9 x c e);exact⟨_,q,hd⟩
  .exact⟨o,keep c o (I.cne x c e) hc nch ho (I.j9 x c e),hd⟩
 refine⟨I.ok,I.os,hg,⟨λb o e n hb hx=> ?_,λb o e n hb hx=> ?_,λb o e n hx=> ?_,λb o e hx=> ?_,λb xs e=>rK b xs (I.base.rK b xs e),λb o xs e=>qj b o xs (I.base.qj b o xs e),λb ps e=> ?_⟩, ?_,λx c e=> ?_, ?_,λx c e=> ?_,λp hp=> ?_,hok,I.len⟩
 .exact keep b o (neL b o e) hb (neC b o e hx) (I.base.keep b o e n hb hx) (I.base.free b o e n hx)
 .obtain⟨sl,e1⟩:=I.base.slot b o e n hb hx;obtain⟨QF,e2⟩:=slot b _ (neL b o e) hb (neC b o e hx) e1 (I.base.free b o e n hx);exact⟨QF,e2⟩
 .obtain⟨o',e1⟩:=I.base.there b o e hx;exact free b o' (neC b o e hx) e1 (I.base.free b o e n hx)
 .obtain⟨o',e1⟩:=I.base.there b o e hx;exact there b o' (neC b o e hx) e1
 .obtain⟨m1,e1⟩:=I.base.rL b ps e;obtain⟨m2,e2⟩:=rL b _ e1;exact⟨m1++m2,by rw[e2,Array.append_assoc]⟩
 .obtain⟨m,hn,hl⟩:=I.loc;refine⟨m,ns m hn,λi x v e1 e2 e3=> ?_⟩;obtain⟨u,r,l⟩:=hl i x v e1 e2 e3;refine⟨u,r, ?_⟩;rcases l with l| ⟨k,c,e,z⟩
  .exact .inl l
  .exact .inr ⟨k,c,e,cellK x c e _ z⟩
 .obtain⟨v,z⟩:=I.cell x c e;exact⟨v,cellK x c e v z⟩
 .obtain⟨m,⟨o,_,_,ho,_⟩,_⟩:=I.loc;exact free _ o (λz=>(yc _ z).2.1 rfl) ho I.free
 .obtain⟨v,o,ho,hd⟩:=I.cell x c e;exact free c o (λz=>(yc c z).2.2.1 x c e rfl) ho (I.j9 x c e)
 .obtain⟨e,n,ne,nf,d⟩:=I.pin p hp;have nch:p.1∉ch:=λz=>(yc p.1 z).2.2.2 p hp rfl;exact⟨keep p.1 p.2 ne nf nch e n,free p.1 p.2 nch e n,ne,nf,d⟩
theorem Inv.un(I:Inv X ef Z H s)(u:Un X.fs [] H H' s.heap h')(hok:HOk X.prog X.w H' h'):Inv X ef Z H' {s with heap:=h',toks:=t' }:=by
 obtain⟨m,⟨o,es,ep,ho,r⟩,_⟩:=id I.loc;obtain⟨sl,hL⟩:=u.any ho I.free (by simp);exact I.step (g' :=s.gens) (d' :=s.drawn) (ch:=[]) (λ_ z=>nomatch z) (λb o _ hb _ e n=>u.keep b o e n hb (by simp)) (λb o _ hb _ e n=>u.slot b o e n hb (by simp)) (λb o _ e n=>u.free b o e n (by simp)) (λb o _ e=>u.there b o e (by simp)) u.rK u.qj u.rL (λm' hm=>by
  obtain⟨o',Q7,Q8,xv,r'⟩:=hm;rw[ho] at xv;cases xv
  exact⟨_,Q7,Q8,hL,r'⟩) hok I.bare
theorem Inv.call{g' :Array GenState}{d' :Drawn}(I:Inv X ef Z H s)(u:Un (frs X.stack) ch H H' s.heap h')(hok:HOk X.prog X.w H' h')(hg:AllBare g')
  (yc:∀b∈ch,(b∈X.ex\/X.s₀.heap.objs.size<=b)/\b≠X.env.locals/\(∀x c,X.env.cells.lookup x=some c->c≠b)/\∀p∈X.pn++ef,p.1≠b):
  Inv X ef Z H' {s with heap:=h',gens:=g',drawn:=d',toks:=t' }:=by
 obtain⟨m,⟨o,es,ep,ho,r⟩,_⟩:=id I.loc;obtain⟨sl,hL⟩:=u.any ho I.free λz=>(yc _ z).2.1 rfl;exact I.step (ch:=ch) yc (λb o hL hb hc e n=>u.keep b o e n (λz=>(Gah.mp (I.rM b z)).elim hL hb) hc) (λb o _ _ hc e n=>u.any e n hc) (λb o hc e n=>u.free b o e n hc) (λb o hc e=>u.there b o e hc) u.rK u.qj u.rL (λm' hm=>by
  obtain⟨o',Q7,Q8,xv,r'⟩:=hm;rw[ho] at xv;cases xv
  exact⟨_,Q7,Q8,hL,r'⟩) hok hg
theorem Inv.turned{it:Addr}(I:Inv X ef Z H s)(k:∀b o,b≠it->s.heap.get? b=some o->h'.get? b=some o)(hn:H it=none)(hL:it≠X.env.locals)
  (h1:it∈X.ex\/X.s₀.heap.objs.size<=it)(h2:∀x c,X.env.cells.lookup x=some c->c≠it)(h3:∀p∈X.pn++ef,p.1≠it):Inv X ef Z H {s with heap:=h',toks:=t' }:=by
 have nit:∀b u,H b=some u->b≠it:=λb u e z=>by rw[z,hn] at e;cases e
 refine I.step (g' :=s.gens) (d' :=s.drawn) (ch:=[it]) (λb hb=> ?_) (λb o _ _ hc e _=>k b o (λz=>hc (by simp[z])) e) (λb o _ _ hc e _=> ⟨o.slots,k b o (λz=>hc (by simp[z])) e⟩) (λ_ _ _ _ n=>n)
  (λb o hc e=> ⟨o,k b o (λz=>hc (by simp[z])) e⟩) (λ_ _ e=>e) (λ_ _ _ e=>e) (λb ps e=> ⟨#[],by rw[e];simp⟩) (λm hm=> ?_) (λb u e=> ?_) I.bare
 .have e:b=it:=by simpa using hb
  subst e;exact⟨h1,hL,h2,h3⟩
 .obtain⟨o,es,ep,ho,r⟩:=hm;exact⟨o,es,ep,k _ o (GaU hL) ho,r⟩
 .refine(I.hok b u e).gI (λc v hc q=>k c v ?_ q) (λ_ q=>q) λ_ _ q=>q;rcases hc with z|z
  .rw[z];exact nit b u e
  .exact nit c _ z
theorem Inv.tok(I:Inv X ef Z H s)(t:Nat):Inv X ef Z H {s with toks:=t}:=I.un (h' :=s.heap) (t' :=t) Un.refl I.hok
theorem Inv.kept{t' :Nat}(I:Inv X ef Z H s)(k:∀b u,s.heap.get? b=some u->h'.get? b=some u):Inv X ef Z H {s with heap:=h',toks:=t' }:=I.un (Un.kept k) (I.hok.kept k)
theorem Inv.laid{a:Addr}{o:HO}{t' :Nat}(I:Inv X ef Z H s)(k:∀b u,s.heap.get? b=some u->h'.get? b=some u)(hp:s.heap.objs.size<=a)(new:bM X.prog X.w (upd H a o) h' a o):
  Inv X ef Z (upd H a o) {s with heap:=h',toks:=t' }:=I.un (Un.laid k hp (I.hok.fresh hp)) (I.hok.laid k hp new)
theorem Inv.write{x e:Addr}{o:HO}{t' :Nat}(I:Inv X ef Z H s)(mu:Mut (H x))(he:e=x\/H e=some (.own x))(k:∀b u,b≠e->s.heap.get? b=some u->h'.get? b=some u)(yS:∃u,h'.get? e=some u)
  (new:bM X.prog X.w (upd H x o) h' x o):Inv X ef Z (upd H x o) {s with heap:=h',toks:=t' }:=I.un (Un.write mu he k yS) (I.hok.write mu he k yS new)
theorem Inv.tR{xE :LAO}(I:Inv X ef Z H s)(h:∀p∈xE,s.heap.get? p.1=some p.2/\H p.1=none/\p.1≠X.env.locals/\p.1∉X.fs/\∀v,p.2.data≠ .cell v):Inv X xE Z H s:=
 ⟨I.ok,I.os,I.bare,I.base,I.loc,I.cell,I.free,I.j9,λp hp=>(Gbs.mp hp).elim (λz=>I.pin p (List.mem_append_left _ z)) (h p),I.hok,I.len⟩
variable{x:Str}{i:Nat}
theorem ql{N:List Str}(hN:N.Nodup){j:Nat}(a:N[i]? =some x)(b:N[j]? =some x):i=j:=by
 obtain⟨h1,e1⟩:=Gab.mp a;obtain⟨h2,e2⟩:=Gab.mp b;exact(List.getElem_inj hN).mp (e1.trans e2.symm)
variable{u:Value}{v:V}{A:Around}
theorem o7{M:Model}{E:VSP}{Q:Unit->Shared->Prop}(I:Inv X ef Z H s)(hN:X.N.Nodup)(hi:X.N[i]? =some x)(hx:Loc X.env.scope x)(r:RelV v u)
  (h:∀s',Inv X ef (Z.set i (some v)) H s' ->(∃a,Heap.SameBut a s.heap s'.heap/\(a=X.env.locals\/X.env.cells.lookup x=some a))->Q () s')(hf:autoParam (X.fn x=true\/X.env.scope.names.lookup x=some .local) Za3._auto_1):wpAny M A (storeName X.env x u) Q E s:=by
 obtain⟨m,hn,hl⟩:=id I.loc;have hcls:(X.env.scope.kind== .class||(X.env.scope.kind== .module&&X.env.locals !=X.env.globals))=false:=by rw[I.ok.kind];rfl
 have hiZ:i<Z.length:=by rw[I.len];exact(Gab.mp hi).1
 have cne:=I.cne;have tracked:∀{a:Addr} {h' :Heap},(∃o,s.heap.get? a=some o/\H a=none)->Heap.SameBut a s.heap h' ->HOk X.prog X.w H h' :=λ{a h'} ha hs b ob e=>by
  obtain⟨_,_,xp⟩:=ha;refine(I.hok b ob e).gI (λc w' hc q=>(hs.2 c ?_).trans q) (λ_ q=>q) λ_ _ q=>q;rintro rfl;rcases hc with rfl|hc
  .rw[xp] at e;cases e
  .rw[xp] at hc;cases hc
 rcases hx with hk|hk
 .refine wpAny_storeName_local hk hn (λh' R5 hs=> ?_) hcls;obtain⟨oL,_,_,QY,_⟩:=id hn;refine h _ ⟨I.ok,I.os,I.bare,⟨λb o e n hb hx=> ?_,λb o e n hb hx=> ?_,I.base.free,λb o e hx=> ?_,I.base.rK,I.base.qj,I.base.rL⟩,⟨_,R5,λj y v' e1 e2 e3=> ?_⟩,λy c e=> ?_,I.free,I.j9,λp hp=> ?_,tracked ⟨oL,QY,I.free⟩ hs,by simpa using I.len⟩ ⟨_,hs,.inl rfl⟩
  .exact(hs.2 b (GaF (GaC (Gan e) I.ok.above))).trans (I.base.keep b o e n hb hx)
  .obtain⟨sl,e1⟩:=I.base.slot b o e n hb hx;exact⟨sl,(hs.2 b (GaF (GaC (Gan e) I.ok.above))).trans e1⟩
  .obtain⟨o',e1⟩:=I.base.there b o e hx;exact⟨o',(hs.2 b (GaF (GaC (Gan e) I.ok.above))).trans e1⟩
  .by_cases hj:j=i
   .subst hj;rw[hi] at e1;cases e1
    rw[Gav hiZ] at e2;cases e2;exact⟨u,r,.inl ⟨hk,by simp⟩⟩
   .rw[Gac (GaU hj)] at e2;obtain⟨u',r',q⟩:=hl j y v' e1 e2 e3;refine⟨u',r', ?_⟩;rcases q with⟨k,e⟩| ⟨k,c,e,z⟩
    .refine .inl ⟨k, ?_⟩;have:y≠x:=λe=>hj (ql hN e1 (e▸hi));simp[this,e]
    .exact .inr ⟨k,c,e,z.sameBut hs (cne y c e)⟩
  .obtain⟨w',z⟩:=I.cell y c e;exact⟨w',z.sameBut hs (cne y c e)⟩
  .obtain⟨e,n,ne,nf,d⟩:=I.pin p hp;exact⟨(hs.2 p.1 ne).trans e,n,ne,nf,d⟩
 .have hfn:X.fn x=true:=by
   rcases hf with z|z
   .exact z
   .rw[z] at hk;cases hk
  obtain⟨c,hc⟩:=I.ok.has x (.inl hk);obtain⟨w',z⟩:=I.cell x c hc;refine wpAny_storeName_cell I.ok.kind hk hc z (λh' ym hs=> ?_);obtain⟨oc,Qs,PN⟩:=id z;refine h {s with heap:=h' } ⟨I.ok,I.os,I.bare,⟨λb o e n hb hx=> ?_,λb o e n hb hx=> ?_,I.base.free,λb o e hx=> ?_,I.base.rK,I.base.qj,I.base.rL⟩,⟨m,hn.sameBut hs (GaU (cne x c hc)),λj y v' e1 e2 e3=> ?_⟩,λy c' e=> ?_,I.free,I.j9,λp hp=> ?_,tracked ⟨oc,Qs,I.j9 x c hc⟩ hs,by simpa using I.len⟩ ⟨c,hs,.inr hc⟩
  .exact(hs.2 b (GaF (GaC (Gan e) (I.ok.cab x c hfn hc)))).trans (I.base.keep b o e n hb hx)
  .obtain⟨sl,e1⟩:=I.base.slot b o e n hb hx;exact⟨sl,(hs.2 b (GaF (GaC (Gan e) (I.ok.cab x c hfn hc)))).trans e1⟩
  .obtain⟨o',e1⟩:=I.base.there b o e hx;exact⟨o',(hs.2 b (GaF (GaC (Gan e) (I.ok.cab x c hfn hc)))).trans e1⟩
  .by_cases hj:j=i
   .subst hj;rw[hi] at e1;cases e1
    rw[Gav hiZ] at e2;cases e2;exact⟨u,r,.inr ⟨.inl hk,c,hc,ym⟩⟩
   .rw[Gac (GaU hj)] at e2;obtain⟨u',r',q⟩:=hl j y v' e1 e2 e3;refine⟨u',r', ?_⟩;rcases q with q| ⟨k,c',e,z'⟩
    .exact .inl q
    .refine .inr ⟨k,c',e,z'.sameBut hs ?_⟩;rintro rfl;exact hj (ql hN e1 (I.ok.inj _ _ _ e hc▸hi))
  .by_cases hcc:c' =c
   .subst hcc;exact⟨_,ym⟩
   .obtain⟨w2,z2⟩:=I.cell y c' e;exact⟨w2,z2.sameBut hs hcc⟩
  .obtain⟨e,n,ne,nf,d⟩:=I.pin p hp;refine⟨(hs.2 p.1 ?_).trans e,n,ne,nf,d⟩;intro q;rw[q,Qs] at e;have q' :oc=p.2:=Option.some.inj e;exact d w' (by rw[<-q'];exact PN)
theorem qm{M:Model}{E:VSP}{Q:Unit->Shared->Prop}(I:Inv X ef Z H s)(hN:X.N.Nodup)(hi:X.N[i]? =some x)(hx:Loc X.env.scope x)(r:RelV v u)
  (h:∀s',Inv X ef (Z.set i (some v)) H s' ->Q () s')(hf:autoParam (X.fn x=true\/X.env.scope.names.lookup x=some .local) Za3._auto_1):wpAny M A (storeName X.env x u) Q E s:=
 o7 I hN hi hx r (λs' I' _=>h s' I') hf
theorem Inv.A5{s' :Shared}(I:Inv X ef Z H s)(ho:s'.os=s.os)(u:Un (frs X.stack) ch H H' s.heap s'.heap)(hok:HOk X.prog X.w H' s'.heap)(hg:AllBare s'.gens)
  (yc:∀b∈ch,(b∈X.ex\/X.s₀.heap.objs.size<=b)/\b≠X.env.locals/\(∀x c,X.env.cells.lookup x=some c->c≠b)/\∀p∈X.pn++ef,p.1≠b):Inv X ef Z H' s' :=by
 obtain⟨h',g',d',t',o'⟩:=s';have e:o' =s.os:=ho;subst e;exact I.call (g' :=g') (t' :=t') (d' :=d') u hok hg yc
end
abbrev XK:=Value->Option Addr->Hp->Prop
abbrev St:=List (Option V)
abbrev VK:=V->Hp->Prop
abbrev TE:=St->Hp->VK->Prop
abbrev TT:=St->Hp->(Bool->Hp->Prop)->Prop
abbrev TA:=St->Hp->(List V->Hp->Prop)->Prop
structure Ends where
 nx:St->Hp->Prop
 rt:VK
 bk:St->Hp->Prop:=λ_ _=>False
 ct:St->Hp->Prop:=λ_ _=>False
abbrev TS:=Ends->St->Hp->Prop
def EP(X:Cx)(ef:LAO)(Z:St)(Q:VK)(u:Value)(s' :Shared):Prop:=∃v H',Inv X ef Z H' s' /\RelV v u/\Q v H'
def TP(X:Cx)(ef:LAO)(Z:St)(Q:Bool->Hp->Prop)(b:Bool)(s' :Shared):Prop:=∃H',Inv X ef Z H' s' /\Q b H'
def AP(X:Cx)(ef:LAO)(Z:St)(Q:List V->Hp->Prop)(us:List Value)(s' :Shared):Prop:=∃vs H',Inv X ef Z H' s' /\Vals vs us/\Q vs H'
def SP(X:Cx)(ef:LAO)(D:Ends)(f:Flow)(s' :Shared):Prop:=
 match f with
 | .next=>∃Z' H',Inv X ef Z' H' s' /\D.nx Z' H'
 | .brk=>∃Z' H',Inv X ef Z' H' s' /\D.bk Z' H'
 | .cont=>∃Z' H',Inv X ef Z' H' s' /\D.ct Z' H'
 | .ret u=>∃v Z' H',Inv X ef Z' H' s' /\RelV v u/\D.rt v H'
def PE(X:Cx)(e:Expr)(t:TE):Prop:=
 ∀(ef:LAO) (s:Shared) (Z:St) (H:Hp) (Q:VK),Inv X ef Z H s->t Z H Q->wpAny (model X.prog X.w) X.A (eval e X.env) (EP X ef Z Q) X.xe s
def PT(X:Cx)(e:Expr)(t:TT):Prop:=
 ∀(ef:LAO) (s:Shared) (Z:St) (H:Hp) (Q:Bool->Hp->Prop),Inv X ef Z H s->t Z H Q->wpAny (model X.prog X.w) X.A (isTrue e X.env (eval e X.env)) (TP X ef Z Q) X.xe s
def PW(X:Cx)(e:Expr)(t:TT):Prop:=
 ∀(whole:Sem Value) (ef:LAO) (s:Shared) (Z:St) (H:Hp) (Q:Bool->Hp->Prop),Inv X ef Z H s->t Z H Q->wpAny (model X.prog X.w) X.A (isTrue e X.env whole) (TP X ef Z Q) X.xe s
theorem PW.pt{X:Cx}{e:Expr}{t:TT}(h:PW X e t):PT X e t:=h _
def PA(X:Cx)(es:List Expr)(t:TA):Prop:=
 ∀(pos:Pos) (ef:LAO) (s:Shared) (Z:St) (H:Hp) (Q:List V->Hp->Prop),Inv X ef Z H s->t Z H Q->wpAny (model X.prog X.w) X.A (spliced (backTo pos (starEach es X.env))) (AP X ef Z Q) X.xe s
def PS(X:Cx)(st:Stmt)(t:TS):Prop:=
 ∀(ef:LAO) (s:Shared) (Z:St) (H:Hp) (D:Ends),Inv X ef Z H s->t D Z H->wpAny (model X.prog X.w) X.A (exec st X.env) (SP X ef D) X.xe s
def PSs(X:Cx)(st:List Stmt)(t:TS):Prop:=
 ∀(ef:LAO) (s:Shared) (Z:St) (H:Hp) (D:Ends),Inv X ef Z H s->t D Z H->wpAny (model X.prog X.w) X.A (execs st X.env) (SP X ef D) X.xe s
theorem thn{α:Type}{t:Sem α}{Q Q' :α->Shared->Prop}{M:Model}{A:Around}{E:VSP}{s:Shared}(h:wpAny M A t Q E s)(hQ:∀a s,Q a s->Q' a s):wpAny M A t Q' E s:=Gbd h hQ λ_ _ x=>x
section
variable{X:Cx}
def NZ(i:Nat):TE:=λZ H Q=>∃v,Z[i]? =some (some v)/\Q v H
def tC(v:V):TE:=λ_ H Q=>Q v H
variable{pos:Pos}{x:Str}
theorem cK{i:Nat}(hN:X.N[i]? =some x)(hv:Vis X.env.scope x)(hd:autoParam ((x==("__debug__":Str))=false) Za2._auto_1)(eQ:autoParam ((x==("__classdict__":Str))=false) Za2._auto_1):PE X (.Name x pos) (NZ i):=by
 intro ef s Z H Q I h;obtain⟨v,e,h⟩:=h;obtain⟨m,hn,hl⟩:=I.loc;obtain⟨u,r,l⟩:=hl i x v hN e hv;have fin:EP X ef Z Q u s:=⟨v,H,I,r,h⟩
 rcases l with⟨hk,hm⟩| ⟨hk,c,hc,xg⟩
 .exact wpAny_Name (wpAny_loadName_local I.ok.kind hk hn hm fin) hd
 .rcases hk with hk|hk
  .exact wpAny_Name (wpAny_loadName_cell I.ok.kind hk hc xg fin) hd
  .exact wpAny_Name (wpAny_loadName_free I.ok.kind hk hc xg fin eQ) hd
theorem GF{i j pos}:PE X (.Constant (.int i) j pos) (tC (.int i)):=λ_ _ _ H _ I h=>wpAny_Constant_int ⟨.int i,H,I.tok _,⟨_,rfl⟩,h⟩
theorem Kz{b j pos}:PE X (.Constant (.bool b) j pos) (tC (.bl b)):=λ_ _ _ H _ I h=>Constant_bool ⟨.bl b,H,I,rfl,h⟩
theorem GH{j pos}:PE X (.Constant .none j pos) (tC .non):=λ_ _ _ H _ I h=>Constant_none ⟨.non,H,I,rfl,h⟩
theorem rN{x j pos}:PE X (.Constant (.str x) j pos) (tC (.str x)):=λ_ _ _ H _ I h=>Calls.Constant_str ⟨.str x,H,I.tok _,⟨_,rfl⟩,h⟩
def Gl(X:Cx)(x:Str):Prop:=X.env.kindOf x=some .globalImplicit
variable{u:Value}{H:Hp}{Z:St}{s:Shared}{ef:LAO}
theorem iK{E:VSP}{Q:VSP}(I:Inv X ef Z H s)(hg:Gl X x)(hm:X.mg x=some u)(h:Q u s)
  (hd:autoParam ((x==("__debug__":Str))=false) Za2._auto_1):wpAny (model X.prog X.w) X.A (eval (.Name x pos) X.env) Q E s:=
 Calls.Name_function_global I.ok.kind hg (Calls.loadGlobal_global (by rw[I.ok.glob];exact I.mod.glob.keeps I.bk) hm h) hd
theorem ja{E:VSP}{Q:VSP}(I:Inv X ef Z H s)(hg:Gl X x)(hm:X.mg x=none)(hv:bootBuiltins x=some u)(h:Q u s)
  (hn:autoParam (x≠"__name__") Za2._auto_1)(hd:autoParam ((x==("__debug__":Str))=false) Za2._auto_1):wpAny (model X.prog X.w) X.A (eval (.Name x pos) X.env) Q E s:=by
 obtain⟨mb,h1,h2⟩:=I.mod.blt;exact Calls.Name_function_global I.ok.kind hg (Calls.loadGlobal_builtin (by rw[I.ok.glob];exact I.mod.glob.keeps I.bk) hm (by rw[I.ok.blt];exact h1.keeps I.bk) ((h2 x hn).trans hv) h) hd
variable{v:V}
theorem tU(hg:Gl X x)(hm:X.mg x=some u)(r:RelV v u)(hd:autoParam ((x==("__debug__":Str))=false) Za2._auto_1):PE X (.Name x pos) (tC v):=
 λ_ _ _ H _ I h=>iK I hg hm ⟨v,H,I,r,h⟩ hd
theorem De(hg:Gl X x)(hm:X.mg x=none)(hv:bootBuiltins x=some u)(r:RelV v u)(hn:autoParam (x≠"__name__") Za2._auto_1)(hd:autoParam ((x==("__debug__":Str))=false) Za2._auto_1):PE X (.Name x pos) (tC v):=
 λ_ _ _ H _ I h=>ja I hg hm hv ⟨v,H,I,r,h⟩ hn hd
variable{a b:Expr}{ta tb:TE}{pos:Pos}
def PC(X:Cx)(op:CmpOp)(a b:Expr)(t:TE):Prop:=
 ∀(ef:LAO) (s:Shared) (Z:St) (H:Hp) (Q:VK),Inv X ef Z H s->t Z H Q->
  wpAny (model X.prog X.w) X.A (eval a X.env) (λv s₁=>wpAny (model X.prog X.w) X.A (eval b X.env) (λu s₂=>wpAny (model X.prog X.w) X.A (compareOp op v u) (EP X ef Z Q) X.xe s₂) X.xe s₁) X.xe s
def tB(t:TE):TT:=λZ H Q=>t Z H λx H1=>∃c,x= .bl c/\Q c H1
theorem GI{op:CmpOp}{t:TE}(h:PC X op a b t)(h1:behindInMarks op b=false:=by first|exact nobehind _ (by decide) (by decide)|rfl):PT X (.Compare a [op] [b] pos) (tB t):=by
 intro ef s Z H Q I hw;refine wpAny_isTrue_Compare1 (thn (h ef s Z H _ I hw) λv s1 h1=>thn h1 λu s2 h2=>thn h2 λc s3 ⟨x,H1,I1,r1,q1⟩=> ?_) h1;obtain⟨d,rfl,q⟩:=q1;cases r1;exact GaY ⟨H1,I1,q⟩
theorem A6{e:Expr}{t:TE}(h:PE X e t)(he:∀whole,isTrue e X.env whole=(do let v<-whole;standAt e.pos;holding [v] (truthy v)):=by intro _;rfl):PT X e (tB t):=by
 intro ef s Z H Q I hw;refine isTrue_plain (thn (h ef s Z H _ I hw) λv s1 ⟨x,H1,I1,r1,q1⟩=> ?_) (he _);obtain⟨d,rfl,q⟩:=q1;cases r1;exact GaY ⟨H1,I1,q⟩
variable{tA zo :TT}{rest:List Expr}
def O0(t u:TT):TT:=λZ H Q=>t Z H λc H1=>if c=true then u Z H1 Q else Q false H1
def tOr(t u:TT):TT:=λZ H Q=>t Z H λc H1=>if c=true then Q true H1 else u Z H1 Q
def O1(t:TT):TT:=λZ H Q=>t Z H λc H1=>Q (!c) H1
theorem Df(ha:PT X a tA):PW X (.BoolOp .And [a] pos) tA:=by
 intro wh ef s Z H Q I h;refine isTrue_and (thn (ha ef s Z H Q I h) λc s1 e=> ?_);cases c with
 |true=>exact isTrue_and_nil e
 |false=>exact e
theorem GJ(ha:PT X a tA):PW X (.BoolOp .Or [a] pos) tA:=by
 intro wh ef s Z H Q I h;refine isTrue_or (thn (ha ef s Z H Q I h) λc s1 e=> ?_);cases c with
 |false=>exact isTrue_or_nil e
 |true=>exact e
theorem GK(ha:PT X a tA)(hb:PW X (.BoolOp .And (b::rest) pos) zo):PW X (.BoolOp .And (a::b::rest) pos) (O0 tA zo):=by
 intro wh ef s Z H Q I h;refine isTrue_and (thn (ha ef s Z H _ I h) λc s1 ⟨H1,I1,q1⟩=> ?_);cases c with
 |true=>exact hb wh ef s1 Z H1 Q I1 q1
 |false=>exact⟨H1,I1,q1⟩
theorem KA(ha:PT X a tA)(hb:PW X (.BoolOp .Or (b::rest) pos) zo):PW X (.BoolOp .Or (a::b::rest) pos) (tOr tA zo):=by
 intro wh ef s Z H Q I h;refine isTrue_or (thn (ha ef s Z H _ I h) λc s1 ⟨H1,I1,q1⟩=> ?_);cases c with
 |true=>exact⟨H1,I1,q1⟩
 |false=>exact hb wh ef s1 Z H1 Q I1 q1
theorem A7(ha:PT X a tA):PT X (.UnaryOp .Not a pos) (O1 tA):=by
 intro ef s Z H Q I h;exact isTrue_not (ha ef s Z H (λc H1=>Q (!c) H1) I h)
def KC(ta tb:TE):TE:=λZ H Q=>ta Z H λx H1=>∃c,x= .bl c/\if c=true then tb Z H1 Q else Q (.bl false) H1
def O2(ta tb:TE):TE:=λZ H Q=>ta Z H λx H1=>∃c,x= .bl c/\if c=true then Q (.bl true) H1 else tb Z H1 Q
def KD(ta:TE):TE:=λZ H Q=>ta Z H λx H1=>∃c,x= .bl c/\Q (.bl (!c)) H1
theorem GL{op}{t:TE}(h:PE X a t):PE X (.BoolOp op [a] pos) t:=λef s Z H Q I hw=>BoolOp_one (h ef s Z H Q I hw)
theorem GN(ha:PE X a ta)(hb:PE X (.BoolOp .And (b::rest) pos) tb):PE X (.BoolOp .And (a::b::rest) pos) (KC ta tb):=by
 intro ef s Z H Q I h;refine BoolOp_and (thn (ha ef s Z H _ I h) λv s1 ⟨x,H1,I1,r1,q1⟩=> ?_);obtain⟨c,rfl,q1⟩:=q1;cases r1;refine GaY ?_;cases c with
 |true=>exact hb ef s1 Z H1 Q I1 q1
 |false=>exact⟨.bl false,H1,I1,rfl,q1⟩
theorem KG(ha:PE X a ta)(hb:PE X (.BoolOp .Or (b::rest) pos) tb):PE X (.BoolOp .Or (a::b::rest) pos) (O2 ta tb):=by
 intro ef s Z H Q I h;refine BoolOp_or (thn (ha ef s Z H _ I h) λv s1 ⟨x,H1,I1,r1,q1⟩=> ?_);obtain⟨c,rfl,q1⟩:=q1;cases r1;refine GaY ?_;cases c with
 |false=>exact hb ef s1 Z H1 Q I1 q1
 |true=>exact⟨.bl true,H1,I1,rfl,q1⟩
theorem GO(ha:PE X a ta):PE X (.UnaryOp .Not a pos) (KD ta):=by
 intro ef s Z H Q I h;refine UnaryOp_ (thn (ha ef s Z H _ I h) λv s1 ⟨x,H1,I1,r1,q1⟩=> ?_);obtain⟨c,rfl,q1⟩:=q1;cases r1;exact not_of (GaY ⟨.bl (!c),H1,I1,rfl,q1⟩)
def tIf(t:TT)(ta tb:TE):TE:=λZ H Q=>t Z H λc H1=>if c=true then ta Z H1 Q else tb Z H1 Q
theorem A8{c:Expr}(hc:PT X c tA)(ha:PE X a ta)(hb:PE X b tb):PE X (.IfExp c a b pos) (tIf tA ta tb):=by
 intro ef s Z H Q I h;refine wpAny_IfExp (thn (hc ef s Z H _ I h) λd s1 ⟨H1,I1,q1⟩=> ?_);cases d with
 |true=>exact ha ef s1 Z H1 Q I1 q1
 |false=>exact hb ef s1 Z H1 Q I1 q1
end
def SqL(K:PySem.W.Frag)(H:Hp)(a:Addr)(xs:List V):Prop:=
 Rd H a (.lst xs)\/
  ∃(o:Obj) (eh:Array Value) (n:Nat),K.lookup a=some o/\o.cls= .type "list"/\o.dict=none/\o.data= .seq eh n/\eh.size<=sizeLine/\Vals xs eh.toList
def SqT(K:PySem.W.Frag)(H:Hp)(a:Addr)(xs:List V):Prop:=
 Rd H a (.tup xs)\/
  ∃(o:Obj) (eh:Array Value) (n:Nat),K.lookup a=some o/\o.cls= .type "tuple"/\o.data= .seq eh n/\eh.size<=sizeLine/\Vals xs eh.toList
noncomputable def O3:Value->Option V
 | .none=>some .non
 | .bool b=>some (.bl b)
 | .int i _=>some (.int i)
 | .str x _=>some (.str x)
 | .bytes b _=>some (.byt b)
 | .float b _=>some (.flt b)
 | .ref a=>some (.ref a)
 | .type n=>some (.ty n)
 |_=>none
variable{u:Value}
theorem RelV.abs{x:V}(r:RelV x u):O3 u=some x:=by
 cases x with
 |non=>cases r;rfl
 |bl _=>cases r;rfl
 |int _=>obtain⟨t,rfl⟩:=r;rfl
 |str _=>obtain⟨t,rfl⟩:=r;rfl
 |byt _=>obtain⟨t,rfl⟩:=r;rfl
 |flt _=>obtain⟨t,rfl⟩:=r;rfl
 |ref _=>cases r;rfl
 |ty _=>cases r;rfl
theorem RelV.inj{x y:V}{u:Value}(r:RelV x u)(q:RelV y u):x=y:=Option.some.inj (r.abs.symm.trans q.abs)
theorem Vals.inj{xs ys:List V}{us:List Value}(p:Vals xs us)(q:Vals ys us):xs=ys:=by
 induction p generalizing ys with
 |nil=>cases q;rfl
 |cons r t ih=>cases q with|cons r' t' =>rw[r.inj r',ih t']
section
variable{X:Cx}{ef:LAO}{Z:St}{H:Hp}{s:Shared}{a:Addr}{xs ys:List V}
theorem SqL.of{K:PySem.W.Frag}(h:H a=some (.lst xs)):SqL K H a xs:= .inl (.inl h)
theorem SqT.of{K:PySem.W.Frag}(h:H a=some (.tup xs)):SqT K H a xs:= .inl (.inl h)
theorem Inv.list(I:Inv X ef Z H s)(h:SqL X.K H a xs):∃eh:List Value,Vals xs eh/\PlainL s.heap a eh.toArray/\xs.length<=sizeLine:=by
 rcases h with h| ⟨o,eh,n,hk,hc,hd,hs,hz,r⟩
 .obtain⟨z,eh,n,r,e⟩:=h.ok I.hok;exact⟨eh,r,⟨_,n,e,rfl,rfl,rfl⟩,z⟩
 .refine⟨eh.toList,r,⟨o,n,I.kIn a o hk,hc,hd,by simpa using hs⟩, ?_⟩;have e:=r.length;simp only[Gcy] at e;lia
theorem Inv.tuple(I:Inv X ef Z H s)(h:SqT X.K H a xs):∃eh:List Value,Vals xs eh/\IsTup s.heap a eh.toArray/\xs.length<=sizeLine:=by
 rcases h with h| ⟨o,eh,n,hk,hc,hs,hz,r⟩
 .obtain⟨z,eh,r,p⟩:=h.ok I.hok;exact⟨eh,r,p,z⟩
 .refine⟨eh.toList,r,⟨o,I.kIn a o hk,hc,n,by simpa using hs⟩, ?_⟩;have e:=r.length;simp only[Gcy] at e;lia
theorem Inv.mh(I:Inv X ef Z H s)(h:SqL X.K H a xs)(h' :SqL X.K H a ys):xs=ys:=by
 obtain⟨eh,r,⟨o,n,e,_,_,d⟩,_⟩:=I.list h;obtain⟨its',r',⟨o',n',e',_,_,d'⟩,_⟩:=I.list h';rw[e] at e';cases e'
 rw[d] at d';injection d' with d1 _
 have:eh=its' :=by simpa using congrArg Array.toList d1
 subst this;exact r.inj r'
theorem Inv.ko(I:Inv X ef Z H s)(h:SqT X.K H a xs)(h' :SqT X.K H a ys):xs=ys:=by
 obtain⟨eh,r,⟨o,e,_,n,d⟩,_⟩:=I.tuple h;obtain⟨its',r',⟨o',e',_,n',d'⟩,_⟩:=I.tuple h';rw[e] at e';cases e'
 rw[d] at d';injection d' with d1 _
 have:eh=its' :=by simpa using congrArg Array.toList d1
 subst this;exact r.inj r'
end
noncomputable abbrev Cx.jy (X:Cx) (E:VSP):Cx:={X with xe:=E}
abbrev Cx.nox (X:Cx):Cx:=X.jy λ_ _=>False
theorem Cx.Ok.jy{X:Cx}(ok:X.Ok)(E:VSP):(X.jy E).Ok:=
 ⟨ok.mod,ok.kind,ok.glob,ok.blt,ok.above,ok.inj,ok.has,ok.cab,ok.hd,ok.frames,ok.stk,ok.exf,ok.bs,ok.bsz,ok.D8,ok.D9,ok.lV,ok.frf⟩
variable{X:Cx}
theorem Cx.Ok.dN{E:VSP}(ok:(X.jy E).Ok):X.Ok:=
 ⟨ok.mod,ok.kind,ok.glob,ok.blt,ok.above,ok.inj,ok.has,ok.cab,ok.hd,ok.frames,ok.stk,ok.exf,ok.bs,ok.bsz,ok.D8,ok.D9,ok.lV,ok.frf⟩
section
variable{X:Cx}{ef:LAO}{Z:St}{H:Hp}{s:Shared}{E:VSP}
theorem Inv.jy(I:Inv X ef Z H s)(E:VSP):Inv (X.jy E) ef Z H s:=⟨I.ok.jy E,I.os,I.bare,I.base,I.loc,I.cell,I.free,I.j9,I.pin,I.hok,I.len⟩
theorem Inv.dN(I:Inv (X.jy E) ef Z H s):Inv X ef Z H s:=⟨I.ok.dN,I.os,I.bare,I.base,I.loc,I.cell,I.free,I.j9,I.pin,I.hok,I.len⟩
theorem SP.dN{D:Ends}{f:Flow}{s' :Shared}(h:SP (X.jy E) ef D f s'):SP X ef D f s' :=by
 cases f with
 |next=>obtain⟨Z',H',I,q⟩:=h;exact⟨Z',H',I.dN,q⟩
 |brk=>obtain⟨Z',H',I,q⟩:=h;exact⟨Z',H',I.dN,q⟩
 |cont=>obtain⟨Z',H',I,q⟩:=h;exact⟨Z',H',I.dN,q⟩
 |ret u=>obtain⟨v,Z',H',I,r,q⟩:=h;exact⟨v,Z',H',I.dN,r,q⟩
theorem PE.nox{e:Expr}{t:TE}(h:PE X.nox e t):PE X e t:=λef s Z H Q I hw=>
 Gbd (h ef s Z H Q (I.jy _) hw) (λ_ _ ⟨v,H',I',r,q⟩=> ⟨v,H',I'.dN,r,q⟩) λ_ _ z=>False.elim z
theorem PT.nox{e:Expr}{t:TT}(h:PT X.nox e t):PT X e t:=λef s Z H Q I hw=>
 Gbd (h ef s Z H Q (I.jy _) hw) (λ_ _ ⟨H',I',q⟩=> ⟨H',I'.dN,q⟩) λ_ _ z=>False.elim z
theorem PSs.nox{st:List Stmt}{t:TS}(h:PSs X.nox st t):PSs X st t:=λef s Z H D I hw=>
 Gbd (h ef s Z H D (I.jy _) hw) (λ_ _ q=>q.dN) λ_ _ z=>False.elim z
end
section
variable{X:Cx}{st:Stmt}{rest:List Stmt}{t u:TS}{e:Expr}{te:TE}{pos:Pos}
def KH:TS:=λD Z H=>D.nx Z H
def O4(t u:TS):TS:=λD Z H=>t {D with nx:=u D} Z H
theorem Dg:PSs X [] KH:=λ_ _ Z H _ I h=>wpAny_execs_nil ⟨Z,H,I,h⟩
theorem qo(h1:PS X st t)(h2:PSs X rest u):PSs X (st::rest) (O4 t u):=by
 intro ef s Z H D I h;refine wpAny_execs_cons (thn (h1 ef s Z H {D with nx:=u D} I h) λf s1 q=> ?_);cases f with
 |next=>
  obtain⟨Z',H',I',q⟩:=q;exact h2 ef s1 Z' H' D I' q
 |ret v=>exact q
 |brk=>exact q
 |cont=>exact q
theorem tX(h1:PS X st t):PSs X [st] t:=by
 intro ef s Z H D I h;refine wpAny_execs_cons (thn (h1 ef s Z H D I h) λf s1 q=> ?_);cases f with
 |next=>exact wpAny_execs_nil q
 |ret v=>exact q
 |brk=>exact q
 |cont=>exact q
theorem Inv.quiet{ef:LAO}{Z:St}{H:Hp}{s:Shared}(I:Inv X ef Z H s):interactive X.env=false:=by simp[interactive,I.ok.kind]
def KI(te:TE):TS:=λD Z H=>te Z H λ_ H1=>D.nx Z H1
theorem jz(he:PE X e te)(hs:autoParam (swapsWith e none pos.line X.env=pure false) Za1._auto_1):PS X (.Expr e pos) (KI te):=by
 intro ef s Z H D I h;exact wpAny_Expr_any (thn (he ef s Z H _ I h) λv s1 ⟨x,H1,I1,r1,q1⟩=> ⟨Z,H1,I1,q1⟩) I.quiet hs
def O5(te:TE):TS:=λD Z H=>te Z H D.rt
theorem pz(he:PE X e te):PS X (.Return (some e) pos) (O5 te):=by
 intro ef s Z H D I h;exact wpAny_Return_some (thn (he ef s Z H _ I h) λv s1 ⟨x,H1,I1,r1,q1⟩=> ⟨x,Z,H1,I1,r1,q1⟩)
def O6(c:TT)(t u:TS):TS:=λD Z H=>c Z H λb H1=>if b=true then t D Z H1 else u D Z H1
theorem A9{c:Expr}{a b:List Stmt}{tc:TT}(hc:PT X c tc)(ha:PSs X a t)(hb:PSs X b u):PS X (.If c a b pos) (O6 tc t u):=by
 intro ef s Z H D I h;refine wpAny_If (thn (hc ef s Z H _ I h) λd s1 ⟨H1,I1,q1⟩=> ?_);cases d with
 |true=>exact ha ef s1 Z H1 D I1 q1
 |false=>exact hb ef s1 Z H1 D I1 q1
end
abbrev TG:=V->St->Hp->(St->Hp->Prop)->Prop
abbrev TGs:=List V->St->Hp->(St->Hp->Prop)->Prop
def PG(X:Cx)(target:Expr)(t:TG):Prop:=
 ∀(ef:LAO) (s:Shared) (Z:St) (H:Hp) (v:V) (u:Value) (Q:St->Hp->Prop),Inv X ef Z H s->RelV v u->t v Z H Q->
  wpAny (model X.prog X.w) X.A (assign target X.env u) (λ_ s' =>∃Z' H',Inv X ef Z' H' s' /\Q Z' H') X.xe s
def PGs(X:Cx)(ts:List Expr)(t:TGs):Prop:=
 ∀(ef:LAO) (s:Shared) (Z:St) (H:Hp) (vs:List V) (us:List Value) (Q:St->Hp->Prop),Inv X ef Z H s->Vals vs us->t vs Z H Q->
  wpAny (model X.prog X.w) X.A (assignInOrder ((assignEach ts X.env).map (·.2)) us) (λ_ s' =>∃Z' H',Inv X ef Z' H' s' /\Q Z' H') X.xe s
abbrev O7:=V->V->V->Hp->(Hp->Prop)->Prop
def KJ(X:Cx)(t:O7):Prop:=
 ∀(ef:LAO) (s:Shared) (Z:St) (H:Hp) (o i v:V) (ov iv u:Value) (Q:Hp->Prop),Inv X ef Z H s->RelV o ov->RelV i iv->RelV v u->t o i v H Q->
  wpAny (model X.prog X.w) X.A (setItem ov iv u) (λ_ s' =>∃H',Inv X ef Z H' s' /\Q H') X.xe s
section
variable{X:Cx}{pos:Pos}
def FT(i:Nat):TG:=λv Z H Q=>Q (Z.set i (some v)) H
variable{x:Str}{i:Nat}
theorem pA(hN:X.N.Nodup)(hi:X.N[i]? =some x)(hx:Loc X.env.scope x)(hf:autoParam (X.fn x=true\/X.env.scope.names.lookup x=some .local) Za3._auto_1):PG X (.Name x pos) (FT i):=by
 intro ef s Z H v u Q I r h;exact wpAny_assign_Name (qm I hN hi hx r (λs' I' => ⟨_,H,I',h⟩) hf)
def O8:TGs:=λvs Z H Q=>vs=[]/\Q Z H
def KL(t:TG)(u:TGs):TGs:=λvs Z H Q=>∃v r,vs=v::r/\t v Z H λZ' H' =>u r Z' H' Q
theorem tY:PGs X [] O8:=by
 intro ef s Z H vs us Q I r h;obtain⟨e,h⟩:=h;subst e;cases r;exact assignInOrder_nil ⟨Z,H,I,h⟩
variable{es:List Expr}
theorem mi{e:Expr}{t:TG}{u:TGs}(h1:PG X e t)(h2:PGs X es u)
  (hs:autoParam ((assignEach (e::es) X.env).map (·.2)=assign e X.env::(assignEach es X.env).map (·.2)) Za1._auto_1):PGs X (e::es) (KL t u):=by
 intro ef s Z H vs us Q I r h;obtain⟨v,vr,e1,h⟩:=h;subst e1;cases r with
 |cons r rr=>
  rw[hs];refine assignInOrder_cons (thn (h1 ef s Z H _ _ _ I r h) λ_ s1 ⟨Z1,H1,I1,q1⟩=> ?_);exact h2 ef s1 Z1 H1 _ _ Q I1 rr q1
def O9(K:PySem.W.Frag)(n:Nat)(t:TGs):TG:=λv Z H Q=>∃a xs,v= .ref a/\SqT K H a xs/\xs.length=n/\t xs Z H Q
theorem Aa{k:Nat}{t:TGs}{n:Nat}(hc:X.calm=true)(h:PGs X es t)
  (hn:autoParam ((assignEach es X.env).length=n) Za1._auto_1)(xP:autoParam ((assignEach es X.env).findIdx? (·.1)=none) Za1._auto_1):PG X (.Tuple es k pos) (O9 X.K n t):=by
 intro ef s Z H v u Q I r hw;obtain⟨a,xs,e1,hq,hl,hw⟩:=hw;subst e1;cases r;obtain⟨eh,rv,ht,hz⟩:=I.tuple hq;refine assign_Tuple_tuple (I.ok.hd hc) ht (by simp[hn,<-hl,rv.length]) xP λh' hx=> ?_;have I1:Inv X ef Z H {s with heap:=h' }:=I.kept (t' :=s.toks) λb o e=>hx b o (GaF (Gan e)) e;exact h ef _ Z H xs _ Q I1 (by simpa using rv) hw
def KN(te:TE)(g:TG):TS:=λD Z H=>te Z H λx H1=>g x Z H1 D.nx
variable{te:TE}
theorem GP{tg e:Expr}{g:TG}(he:PE X e te)(hg:PG X tg g)(hs:autoParam (swapsWithSole [tg] e pos.line X.env=pure false) Za1._auto_1)(hw:autoParam (swappedStores [tg] e X.env=pure none) Za1._auto_1)
  (h1:autoParam ((assignEach [tg] X.env).map (·.2)=[assign tg X.env]) Za1._auto_1):PS X (.Assign [tg] e pos) (KN te g):=by
 intro ef s Z H D I h;refine wpAny_Assign_stores (thn (he ef s Z H _ I h) λv s1 ⟨x,H1,I1,r1,q1⟩=> ?_) hs hw;rw[h1];exact thn (hg ef s1 Z H1 x v _ I1 r1 q1) λ_ s2 q=>q
theorem rO{e:Expr}{pos' :Pos}(hN:X.N.Nodup)(hi:X.N[i]? =some x)(hx:Loc X.env.scope x)(he:PE X e te)(hs:autoParam (swapsWith e (some (.Name x pos')) pos.line X.env=pure false) Za1._auto_1)(hf:autoParam (X.fn x=true\/X.env.scope.names.lookup x=some .local) Za3._auto_1):
  PS X (.Assign [.Name x pos'] e pos) (KN te (FT i)):=by
 intro ef s Z H D I h;refine wpAny_Assign_Name (thn (he ef s Z H _ I h) λv s1 ⟨y,H1,I1,r1,q1⟩=> ?_) hs;exact qm I1 hN hi hx r1 (λs2 I2=> ⟨_,H1,I2,q1⟩) hf
end
structure It where
 go:Nat->Hp->Prop
 yld:Nat->Hp->V->Hp->Prop
 stop:Nat->Hp->Prop
def gP(X:Cx)(ef:LAO)(H:Hp)(b:Addr):Prop:=
 H b=none/\b≠X.env.locals/\b∉X.fs/\(b∈X.ex\/X.s₀.heap.objs.size<=b)/\(∀x c,X.env.cells.lookup x=some c->c≠b)/\∀p∈X.pn++ef,p.1≠b
variable{s:Shared}
theorem Inv.rP{ef:LAO}{Z:St}{H H' :Hp}{b:Addr}(I:Inv X ef Z H s)(hb:s.heap.objs.size<=b)(hn:H' b=none):gP X ef H' b:=by
 refine⟨hn,Gbz (GaC I.lt hb),I.NY hb,.inr (GaL I.sz hb),λx c e z=> ?_,λp hp z=> ?_⟩
 .obtain⟨v,q⟩:=I.cell x c e;exact absurd (GaC q.lt (by rw[z];exact hb)) (Gbj _)
 .exact absurd (GaC (Gan (I.pin p hp).1) (by rw[z];exact hb)) (Gbj _)
structure Turn(P:Program)(w:World)(K:PySem.W.Frag)(tg:Expr)(J:It)(fp:List Addr)(it:Addr)(tn:Nat->Heap->Prop):Prop where
 mem:it∈fp
 obj:∀i h,tn i h->∀b∈fp,∃o,h.get? b=some o/\∀v,o.data≠ .cell v
 keep:∀i h h',tn i h->(∀b∈fp,∀o,h.get? b=some o->h'.get? b=some o)->tn i h'
 item:∀(X:Cx),X.prog=P->X.w=w->X.K=K->X.calm=true->∀(i:Nat) (ef:LAO) (s:Shared) (Z:St) (H:Hp) (E:VSP),Inv X ef Z H s->(∀b∈fp,gP X ef H b)->tn i s.heap->J.go i H->
  wpAny (model P w) X.A (pyNext (.ref it)) (λr s1=>∃u,r=some u/\
   wpAny (model P w) X.A (letOwnedTupleGo tg (.ref it) u) (λ_ s2=>∃x H',Inv X ef Z H' s2/\RelV x u/\J.yld i H x H' /\tn (i+1) s2.heap/\∀b∈fp,H' b=none) E s1) E s
 done:∀(X:Cx),X.prog=P->X.w=w->X.K=K->X.calm=true->∀(i:Nat) (ef:LAO) (s:Shared) (Z:St) (H:Hp) (E:VSP),Inv X ef Z H s->(∀b∈fp,gP X ef H b)->tn i s.heap->J.stop i H->
  wpAny (model P w) X.A (pyNext (.ref it)) (λr s1=>r=none/\Inv X ef Z H s1) E s
 self:∀(A:Around) (i:Nat) (s:Shared) (Q:VSP) (E:VSP),tn i s.heap->Q (.ref it) s->wpAny (model P w) A (pyIter (.ref it)) Q E s
abbrev TI:=St->Hp->(It->Hp->Prop)->Prop
def PIE(X:Cx)(ef:LAO)(Z:St)(tg:Expr)(R:It->Hp->Prop)(zu:Value)(s2:Shared):Prop:=
 ∃(it:Addr) (fp:List Addr) (tn:Nat->Heap->Prop) (J:It) (H' :Hp),zu= .ref it/\Inv X ef Z H' s2/\Turn X.prog X.w X.K tg J fp it tn/\tn 0 s2.heap/\(∀b∈fp,gP X ef H' b)/\R J H'
def PI(X:Cx)(tg iter:Expr)(wi:TI):Prop:=
 ∀(ef:LAO) (s:Shared) (Z:St) (H:Hp) (R:It->Hp->Prop),Inv X ef Z H s->wi Z H R->
  wpAny (model X.prog X.w) X.A (eval iter X.env) (λv s1=>wpAny (model X.prog X.w) X.A (pyIter v) (PIE X ef Z tg R) X.xe s1) X.xe s
variable{tg:Expr}
theorem qp{M:Model}{A:Around}{E:VSP}{it:Addr}{o:Obj}{n:String}{vs:Array Value}{Q:Unit->Shared->Prop}(ho:s.heap.get? it=some o)(hc:o.cls= .type n)(hd:o.data= .fields vs)
  (hn:["enumerate","zip","dict_itemiterator","dict_reverseitemiterator","odict_iterator","itertools.zip_longest","itertools.pairwise"].contains n=false)(hQ:Q () s):wpAny M A (letOwnedTupleGo tg (.ref it) u) Q E s:=by
 unfold letOwnedTupleGo;cases tg<;>first
  |exact Gaq hQ
  |(cases u<;>first
    |exact Gaq hQ
    |(refine Gag (wpAny_load ho ?_)
      rw[hc,hd];show wpAny M A (if(["enumerate","zip","dict_itemiterator","dict_reverseitemiterator","odict_iterator","itertools.zip_longest","itertools.pairwise"].contains n&&vs[0]? ==some (rawInt _))=true then _ else _) Q E s;rw[Gam (by intro h;rw[hn,Bool.false_and] at h;cases h)];exact Gaq hQ))
noncomputable def Itl(K:PySem.W.Frag)(a:Addr):It:=
 ⟨λi H=>∃xs x,SqL K H a xs/\xs[i]? =some x,λi H x H' =>H' =H/\∀xs,SqL K H a xs->xs[i]? =some x,λi H=>∃xs,SqL K H a xs/\xs.length<=i⟩
noncomputable def Itt(K:PySem.W.Frag)(a:Addr):It:=
 ⟨λi H=>∃xs x,SqT K H a xs/\xs[i]? =some x,λi H x H' =>H' =H/\∀xs,SqT K H a xs->xs[i]? =some x,λi H=>∃xs,SqT K H a xs/\xs.length<=i⟩
noncomputable def Itr(lo:Int)(n:Nat):It:=⟨λi _=>i<n,λi H x H' =>H' =H/\x= .int (lo+i),λi _=>n<=i⟩
variable{w:World}{P:Program}
theorem vi{K:PySem.W.Frag}(a it:Addr):Turn P w K tg (Itl K a) [it] it (λi h=>h.IsListIter it a i) where
 mem:=by simp
 obj:=λi h st b hb=>by
  have e:b=it:=by simpa using hb
  subst e;obtain⟨o,e,c,d⟩:=st;exact⟨o,e,λv z=>by rw[d] at z;cases z⟩
 keep:=λi h h' st k=>st.at λo e=>k it (by simp) o e
 item:=by
  intro X hP hw hK hc i ef s Z H E I hf st hg;subst hP hw hK;obtain⟨xs,x,hq,hx⟩:=hg;obtain⟨eh,rv,p,hz⟩:=I.list hq;obtain⟨u,hu,ru⟩:=rv.get hx;obtain⟨f0,f1,f2,f3,f4,f5⟩:=hf it (by simp);refine wpAny_pyNext_list_item st p.isList (x:=u) (by simpa using hu) λh' xx sb=> ?_;have I1:Inv X ef Z H {s with heap:=h' }:=I.turned (t' :=s.toks) (λb o hb e=>(sb.2 b hb).trans e) f0 f1 f3 f4 f5;obtain⟨o,e,c,d⟩:=id xx;exact⟨u,rfl,qp (s:={s with heap:=h' }) e c d (by decide) ⟨x,H,I1,ru,⟨rfl,λys hy=>by rw[I.mh hy hq];exact hx⟩,xx,λb hb=>(hf b hb).1⟩⟩
 done:=by
  intro X hP hw hK hc i ef s Z H E I hf st hg;subst hP hw hK;obtain⟨xs,hq,hx⟩:=hg;obtain⟨eh,rv,p,hz⟩:=I.list hq;obtain⟨f0,f1,f2,f3,f4,f5⟩:=hf it (by simp);have hl:=rv.length;exact wpAny_pyNext_list_end (I.ok.hd hc) st p.isList (by simp;lia) λh' eb=> ⟨rfl,I.turned (t' :=s.toks) (λb o hb e=>eb b o hb e) f0 f1 f3 f4 f5⟩
 self:=λ_ _ _ _ _ st h=>wpAny_pyIter_listiter st h
theorem rQ{K:PySem.W.Frag}(a it:Addr):Turn P w K tg (Itt K a) [it] it (λi h=>h.IsTupleIter it a i) where
 mem:=by simp
 obj:=λi h st b hb=>by
  have e:b=it:=by simpa using hb
  subst e;obtain⟨o,e,c,d⟩:=st;exact⟨o,e,λv z=>by rw[d] at z;cases z⟩
 keep:=λi h h' st k=>st.at λo e=>k it (by simp) o e
 item:=by
  intro X hP hw hK hc i ef s Z H E I hf st hg;subst hP hw hK;obtain⟨xs,x,hq,hx⟩:=hg;obtain⟨eh,rv,p,hz⟩:=I.tuple hq;obtain⟨u,hu,ru⟩:=rv.get hx;obtain⟨f0,f1,f2,f3,f4,f5⟩:=hf it (by simp);refine wpAny_pyNext_tuple_item st (show s.heap.IsTuple a eh.toArray from p) (x:=u) (by simpa using hu) λh' xx sb=> ?_;have I1:Inv X ef Z H {s with heap:=h' }:=I.turned (t' :=s.toks) (λb o hb e=>(sb.2 b hb).trans e) f0 f1 f3 f4 f5;obtain⟨o,e,c,d⟩:=id xx;exact⟨u,rfl,qp (s:={s with heap:=h' }) e c d (by decide) ⟨x,H,I1,ru,⟨rfl,λys hy=>by rw[I.ko hy hq];exact hx⟩,xx,λb hb=>(hf b hb).1⟩⟩
 done:=by
  intro X hP hw hK hc i ef s Z H E I hf st hg;subst hP hw hK;obtain⟨xs,hq,hx⟩:=hg;obtain⟨eh,rv,p,hz⟩:=I.tuple hq;obtain⟨f0,f1,f2,f3,f4,f5⟩:=hf it (by simp);have hl:=rv.length;exact wpAny_pyNext_tuple_end (I.ok.hd hc) st (show s.heap.IsTuple a eh.toArray from p) (by simp;lia) λh' eb=> ⟨rfl,I.turned (t' :=s.toks) (λb o hb e=>eb b o hb e) f0 f1 f3 f4 f5⟩
 self:=λ_ _ _ _ _ st h=>wpAny_pyIter_tupleiter st h
theorem rR{K:PySem.W.Frag}(it:Addr)(lo:Int)(n:Nat):Turn P w K tg (Itr lo n) [it] it (λi h=>IsRangeIter h it (lo+(i:Nat)*1) ((n:Int)-(i:Nat)) 1) where
 mem:=by simp
 obj:=λi h st b hb=>by
  have e:b=it:=by simpa using hb
  subst e;exact⟨_,st,λv z=>by
   have z' :Data.fields _=Data.cell v:=z;cases z'⟩
 keep:=λi h h' st k=>k it (by simp) _ st
 item:=by
  intro X hP hw hK hc i ef s Z H E I hf st hg;subst hP hw hK;obtain⟨f0,f1,f2,f3,f4,f5⟩:=hf it (by simp);have W:=Walks.range (prog:=X.prog) (w:=X.w) (I.ok.hd hc) it lo 1 n;refine W.item i s _ _ hg st λv h' tk hv xx kk=> ?_;obtain⟨t,rfl⟩:=hv;have I1:Inv X ef Z H {s with heap:=h',toks:=tk}:=I.turned (λb o hb e=>kk b o (by simpa using hb) e) f0 f1 f3 f4 f5;refine⟨_,rfl,qp (s:={s with heap:=h',toks:=tk}) (n:="range_iterator") xx rfl rfl (by decide) ⟨.int (lo+i),H,I1,⟨t, ?_⟩,⟨rfl,rfl⟩,xx,λb hb=>(hf b hb).1⟩⟩;rw[Int.mul_one]
 done:=by
  intro X hP hw hK hc i ef s Z H E I hf st hg;subst hP hw hK;obtain⟨f0,f1,f2,f3,f4,f5⟩:=hf it (by simp);exact wpAny_pyNext_range_end (I.ok.hd hc) st (by have:n<=i:=hg;lia) λh' eb=> ⟨rfl,I.turned (t' :=s.toks) (λb o hb e=>eb b o hb e) f0 f1 f3 f4 f5⟩
 self:=λ_ _ _ _ _ st h=>wpAny_pyIter_rangeiter st h
section
variable{X:Cx}{tg:Expr}
variable{s:Shared}{H:Hp}{Z:St}{ef:LAO}
theorem gQ{R:It->Hp->Prop}{E:VSP}{lo hi:Int}{t u v:Tok}{tk:Nat}(I:Inv X ef Z H s)(h1: -(2^62)<=lo)(h2:lo<2^62)(h3: -(2^62)<=hi)(h4:hi<2^62)
  (q:R (Itr lo (hi -lo).toNat) H):wpAny (model X.prog X.w) X.A (pyIter (.ref s.heap.objs.size)) (PIE X ef Z tg R) E {s with heap:=s.heap.push {cls:= .type "range",data:= .fields #[.int lo t,.int hi u,.int 1 v]},toks:=tk}:=by
 refine wpAny_pyIter_range (IsRange.new ..) (small_one h1 h2 h3 h4) ?_;have I1:Inv X ef Z H {s with heap:=s.heap.push {cls:= .type "range",data:= .fields #[.int lo t,.int hi u,.int 1 v]},toks:=tk}:=I.kept λb o e=>Gae _ e;refine⟨(s.heap.push {cls:= .type "range",data:= .fields #[.int lo t,.int hi u,.int 1 v]}).objs.size,[(s.heap.push {cls:= .type "range",data:= .fields #[.int lo t,.int hi u,.int 1 v]}).objs.size],_,_,H,rfl,
  I1.kept (t' :=tk) λb o e=>Gae _ e,rR _ lo (hi -lo).toNat, ?_,λb hb=> ?_,q⟩
 .have e1:lo+((0:Nat):Int)*1=lo:=by simp
  have e2:(((hi -lo).toNat:Nat):Int)-((0:Nat):Int)=Builtin.Range.rangeSize lo hi 1:=by rw[rangeSize_one];split<;>lia
  show IsRangeIter _ _ (lo+((0:Nat):Int)*1) ((((hi -lo).toNat:Nat):Int)-((0:Nat):Int)) 1;rw[e1,e2];exact Gaz _ rfl
 .have e:b=(s.heap.push {cls:= .type "range",data:= .fields #[.int lo t,.int hi u,.int 1 v]}).objs.size:=by simpa using hb
  subst e;exact I1.rP (Gar _) (I1.hok.fresh (Gar _))
def KO(ta:TA):TI:=λZ H R=>ta Z H λvs H1=>∃j:Int,vs=[.int j]/\-(2^62)<=j/\j<2^62/\R (Itr 0 j.toNat) H1
def KP(ta:TA):TI:=λZ H R=>ta Z H λvs H1=>∃i j:Int,vs=[.int i,.int j]/\(-(2^62)<=i/\i<2^62/\-(2^62)<=j/\j<2^62)/\R (Itr i (j -i).toNat) H1
variable{p pos:Pos}{ta:TA}{a:Expr}
theorem vk(hg:Gl X "range")(hm:X.mg "range"=none)(ha:PA X [a] ta)(hs:autoParam (starEach [a] X.env=[(false,eval a X.env)]) Za1._auto_1):PI X tg (.Call (.Name "range" p) [a] [] pos) (KO ta):=by
 intro ef s Z H R I h;refine Call_ (ja I hg hm boot_range (Gbg (thn (ha pos ef s Z H _ I h) λus s1 ⟨vs,H1,I1,r1,q1⟩=> ?_) hs rfl));obtain⟨j,e,q1,q2,q⟩:=q1;subst e;cases r1 with
 |cons r rr=>
  cases rr;obtain⟨t,rfl⟩:=r;exact call_range_1 (gQ I1 (by lia) (by lia) q1 q2 (by simpa using q))
theorem vo{b:Expr}(hg:Gl X "range")(hm:X.mg "range"=none)(ha:PA X [a,b] ta)(hs:autoParam (starEach [a,b] X.env=[(false,eval a X.env),(false,eval b X.env)]) Za1._auto_1)(eW:autoParam (starEach [b] X.env=[(false,eval b X.env)]) Za1._auto_1):
  PI X tg (.Call (.Name "range" p) [a,b] [] pos) (KP ta):=by
 intro ef s Z H R I h;refine Call_ (ja I hg hm boot_range (Gbg (thn (ha pos ef s Z H _ I h) λus s1 ⟨vs,H1,I1,r1,q1⟩=> ?_) (by rw[hs,eW]) (by rw[eW];rfl)));obtain⟨i,j,e,⟨q1,q2,q3,q4⟩,q⟩:=q1;subst e;cases r1 with
 |cons r rr=>
  cases rr with
  |cons r' rr=>
   cases rr;obtain⟨t,rfl⟩:=r;obtain⟨t',rfl⟩:=r';exact call_range_2 (gQ I1 q1 q2 q3 q4 q)
def Oa(wi:TI)(g:TG)(tb:TS):TS:=λD Z H=>wi Z H λJ H1=>∃W:Nat->Nat->St->Hp->Prop,(∃m,W 0 m Z H1)/\∀i m Z H,W i m Z H->
 (J.stop i H/\D.nx Z H)\/(J.go i H/\∃N:St->Hp->Prop,(∀Z' H',N Z' H' ->∃m',m' <m/\W (i+1) m' Z' H')/\∀x H',J.yld i H x H' ->g x Z H' λZ2 H2=>tb {D with nx:=N,ct:=N,bk:=D.nx} Z2 H2)
noncomputable def mj(fp:List Addr)(h:Heap):LAO:=fp.filterMap λb=>(h.get? b).map λo=>(b,o)
variable{h:Heap}{fp:List Addr}
theorem g5{b:Addr}{o:Obj}(hb:b∈fp)(e:h.get? b=some o):(b,o)∈mj fp h:=List.mem_filterMap.mpr ⟨b,hb,by rw[e];rfl⟩
theorem vp{p:Addr×Obj}(hp:p∈mj fp h):p.1∈fp/\h.get? p.1=some p.2:=by
 obtain⟨b,hb,e⟩:=List.mem_filterMap.mp hp;cases q:h.get? b with
 |none=>rw[q] at e;cases e
 |some o=>
  rw[q] at e;have e' :(b,o)=p:=Option.some.inj e;subst e';exact⟨hb,q⟩
theorem Inv.pinned(I:Inv X ef Z H s)(hf:∀b∈fp,gP X ef H b)(ho:∀b∈fp,∃o,s.heap.get? b=some o/\∀v,o.data≠ .cell v):Inv X (ef++mj fp s.heap) Z H s:=
 I.tR λp hp=>(Gbs.mp hp).elim (λz=>I.pin p (GaO _ z)) λz=>by
  obtain⟨hb,e⟩:=vp z;obtain⟨f0,f1,f2,_⟩:=hf p.1 hb;obtain⟨o,e',d⟩:=ho p.1 hb;rw[e] at e';cases e'
  exact⟨e,f0,f1,f2,d⟩
theorem Inv.jA{pl:LAO}(I:Inv X (ef++pl) Z H s):Inv X ef Z H s:=I.tR λp hp=>I.pin p (GaO _ (List.mem_append_left _ hp))
theorem Ab{iter:Expr}{body:List Stmt}{wi:TI}{g:TG}{tb:TS}(hp:PassesOwn (model X.prog X.w) X.A X.env X.xe)(hc:X.calm=true)(hi:PI X tg iter wi)(hg:PG X tg g)(hb:PSs X body tb)
  (hs:∀x,foldedSetIterable iter X.env x=pure x:=by intro _;rfl):PS X (.For tg iter body [] pos) (Oa wi g tb):=by
 intro ef s Z H D I h;refine wpAny_For (thn (hi ef s Z H _ I h) λv s1 h1=>thn h1 λzu s2 h2=> ?_) hs;obtain⟨it,fp,tn,J,H2,e,I2,T,st2,f2,W,⟨m0,w0⟩,turn⟩:=h2;subst e;have stat:∀{H' :Hp},(∀b∈fp,H' b=none)->∀b∈fp,gP X ef H' b:=λhn b hb=> ⟨hn b hb,(f2 b hb).2⟩;refine codeAny_forLoop_any (λn s' =>∃i Z' H',Inv X ef Z' H' s' /\tn i s'.heap/\(∀b∈fp,H' b=none)/\W i n Z' H') ?_ m0 ⟨0,Z,H2,I2,st2,λb hb=>(f2 b hb).1,w0⟩;rintro n s3 ⟨i,Z3,H3,I3,Qb,Qz,w3⟩;rcases turn i n Z3 H3 w3 with⟨stop,qn⟩| ⟨go,N,hN,step⟩
 .refine GbQ hp (thn (T.done X rfl rfl rfl hc i ef s3 Z3 H3 X.xe I3 (stat Qz) Qb stop) λr s4 ⟨hr,I4⟩=> ?_);subst hr;exact wpAny_execs_nil ⟨Z3,H3,I4,qn⟩
 .refine GbQ hp (thn (T.item X rfl rfl rfl hc i ef s3 Z3 H3 X.xe I3 (stat Qz) Qb go) λr s4 ⟨u,hr,h4⟩=> ?_);subst hr;refine GbQ hp (thn h4 λ_ s5 ⟨x,H5,I5,r5,y5,yy,Q6⟩=> ?_);have I5' :=I5.pinned (stat Q6) (T.obj _ _ yy);refine GbQ hp (thn (hg _ s5 Z3 H5 x u _ I5' r5 (step x H5 y5)) λ_ s6 ⟨Z6,H6,I6,q6⟩=> ?_);refine GbQ hp (thn (hb _ s6 Z6 H6 _ I6 q6) λf s7 q7=> ?_);have again:∀{Z7:St} {H7:Hp},Inv X (ef++mj fp s5.heap) Z7 H7 s7->N Z7 H7->∃m,m<n/\∃i Z' H',Inv X ef Z' H' s7/\tn i s7.heap/\(∀b∈fp,H' b=none)/\W i m Z' H' :=λ{Z7 H7} I7 n7=>by
   obtain⟨m',hm,w7⟩:=hN Z7 H7 n7;refine⟨m',hm,i+1,Z7,H7,I7.jA,T.keep _ _ _ yy λb hb o e=>(I7.pin (b,o) (GaO _ (GaO _ (g5 hb e)))).1,λb hb=> ?_,w7⟩;obtain⟨o,e,d⟩:=T.obj _ _ yy b hb;exact(I7.pin (b,o) (GaO _ (GaO _ (g5 hb e)))).2.1
  cases f with
  |next=>obtain⟨Z7,H7,I7,n7⟩:=q7;exact again I7 n7
  |cont=>obtain⟨Z7,H7,I7,n7⟩:=q7;exact again I7 n7
  |brk=>obtain⟨Z7,H7,I7,q7⟩:=q7;exact⟨Z7,H7,I7.jA,q7⟩
  |ret v=>obtain⟨x7,Z7,H7,I7,r7,q7⟩:=q7;exact⟨x7,Z7,H7,I7.jA,r7,q7⟩
end
abbrev R2:=V->V->Hp->VK->Prop
def OpR(X:Cx)(f:Value->Value->Sem Value)(r:R2):Prop:=
 ∀(ef:LAO) (s:Shared) (Z:St) (H:Hp) (x y:V) (v u:Value) (Q:VK),Inv X ef Z H s->RelV x v->RelV y u->r x y H Q->
  wpAny (model X.prog X.w) X.A (f v u) (EP X ef Z Q) X.xe s
def UnR(X:Cx)(f:Value->Sem Value)(r:V->Hp->VK->Prop):Prop:=
 ∀(ef:LAO) (s:Shared) (Z:St) (H:Hp) (x:V) (v:Value) (Q:VK),Inv X ef Z H s->RelV x v->r x H Q->
  wpAny (model X.prog X.w) X.A (f v) (EP X ef Z Q) X.xe s
def cn(X:Cx)(f:Value)(r:List V->Hp->VK->Prop):Prop:=
 ∀(ef:LAO) (s:Shared) (Z:St) (H:Hp) (xs:List V) (us:List Value) (Q:VK),Inv X ef Z H s->Vals xs us->r xs H Q->
  wpAny (model X.prog X.w) X.A (call f us) (EP X ef Z Q) X.xe s
def tOp(r:R2)(ta tb:TE):TE:=λZ H Q=>ta Z H λx H1=>tb Z H1 λy H2=>r x y H2 Q
def tUn(r:V->Hp->VK->Prop)(ta:TE):TE:=λZ H Q=>ta Z H λx H1=>r x H1 Q
def rI(C:Int->Int->Prop)(g:Int->Int->V):R2:=λx y H Q=>∃i j,x= .int i/\y= .int j/\C i j/\Q (g i j) H
def rI0(g:Int->Int->V):R2:=λx y H Q=>∃i j,x= .int i/\y= .int j/\Q (g i j) H
def rU(g:Int->V):V->Hp->VK->Prop:=λx H Q=>∃i,x= .int i/\Q (g i) H
section
variable{X:Cx}{a b c:Expr}{ta tb tc:TE}{pos:Pos}
theorem GQ(ha:PE X a ta)(hb:PE X b tb){ef:LAO}{s:Shared}{Z:St}{H:Hp}{R:V->V->Hp->Prop}(I:Inv X ef Z H s)
  (h:ta Z H λx H1=>tb Z H1 λy H2=>R x y H2){Q:VSP}{f:Value->Value->Sem Value}
  (hf:∀v u s2 x y H2,Inv X ef Z H2 s2->RelV x v->RelV y u->R x y H2->wpAny (model X.prog X.w) X.A (f v u) Q X.xe s2):
  wpAny (model X.prog X.w) X.A (eval a X.env) (λv s₁=>wpAny (model X.prog X.w) X.A (eval b X.env) (λu s₂=>wpAny (model X.prog X.w) X.A (f v u) Q X.xe s₂) X.xe s₁) X.xe s:=by
 refine thn (ha ef s Z H _ I h) λv s1 ⟨x,H1,I1,r1,q1⟩=> ?_;refine thn (hb ef s1 Z H1 _ I1 q1) λu s2 ⟨y,H2,I2,r2,q2⟩=> ?_;exact hf v u s2 x y H2 I2 r1 r2 q2
theorem KQ{op:Operator}{r:R2}(ho:OpR X (binaryOp op) r)(ha:PE X a ta)(hb:PE X b tb):PE X (.BinOp a op b pos) (tOp r ta tb):=by
 intro ef s Z H Q I h;exact wpAny_BinOp (GQ ha hb I h λv u s2 x y H2 I2 rx ry q=>ho ef s2 Z H2 x y v u Q I2 rx ry q)
theorem KR{op:UnaryOp}{r:V->Hp->VK->Prop}(ho:UnR X (unaryOp op) r)(ha:PE X a ta):PE X (.UnaryOp op a pos) (tUn r ta):=by
 intro ef s Z H Q I h;exact UnaryOp_ (thn (ha ef s Z H _ I h) λv s1 ⟨x,H1,I1,r1,q1⟩=>ho ef s1 Z H1 x v Q I1 r1 q1)
variable{g:Int->Int->Int}
theorem opI{f:Value->Value->Sem Value}{C:Int->Int->Prop}
  (rule:∀(i j:Int) (t u:Tok) (s:Shared) (Q:VSP) (E:VSP),C i j->Q (.int (g i j) s.toks) {s with toks:=s.toks+1}->wpAny (model X.prog X.w) X.A (f (.int i t) (.int j u)) Q E s):
  OpR X f (rI C λi j=> .int (g i j)):=by
 intro ef s Z H x y v u Q I rx ry h;obtain⟨i,j,rfl,rfl,hc,q⟩:=h;obtain⟨t,rfl⟩:=rx;obtain⟨t',rfl⟩:=ry;exact rule i j t t' s _ _ hc ⟨.int (g i j),H,I.tok _,⟨_,rfl⟩,q⟩
theorem KS{f:Value->Value->Sem Value}
  (rule:∀(i j:Int) (t u:Tok) (s:Shared) (Q:VSP) (E:VSP),Q (.int (g i j) s.toks) {s with toks:=s.toks+1}->wpAny (model X.prog X.w) X.A (f (.int i t) (.int j u)) Q E s):
  OpR X f (rI0 λi j=> .int (g i j)):=by
 intro ef s Z H x y v u Q I rx ry h;obtain⟨i,j,rfl,rfl,q⟩:=h;obtain⟨t,rfl⟩:=rx;obtain⟨t',rfl⟩:=ry;exact rule i j t t' s _ _ ⟨.int (g i j),H,I.tok _,⟨_,rfl⟩,q⟩
theorem Dh{f:Value->Value->Sem Value}{g:Int->Int->Bool}
  (rule:∀(i j:Int) (t u:Tok) (s:Shared) (Q:VSP) (E:VSP),Q (.bool (g i j)) s->wpAny (model X.prog X.w) X.A (f (.int i t) (.int j u)) Q E s):
  OpR X f (rI0 λi j=> .bl (g i j)):=by
 intro ef s Z H x y v u Q I rx ry h;obtain⟨i,j,rfl,rfl,q⟩:=h;obtain⟨t,rfl⟩:=rx;obtain⟨t',rfl⟩:=ry;exact rule i j t t' s _ _ ⟨.bl (g i j),H,I,rfl,q⟩
def KU(i j:Int):Prop:=0<j/\j<1073741824
def Di(i j:Int):Prop:=(-(2^64)<i/\i<2^64)\/(-(2^64)<j/\j<2^64)
theorem Di.ok{i j:Int}(h:Di i j):IntMulOk i j:=by
 rcases h with⟨h1,h2⟩| ⟨h1,h2⟩
 .exact .of_left (intBits_le_64 h1 h2)
 .exact .of_right (intBits_le_64 h1 h2)
theorem GR:OpR X (binaryOp .Add) (rI0 λi j=> .int (i+j)):=KS λ_ _ _ _ _ _ _ q=>add_int q
theorem GS:OpR X (binaryOp .Sub) (rI0 λi j=> .int (i -j)):=KS λ_ _ _ _ _ _ _ q=>sub_int q
theorem GU:OpR X (binaryOp .Mult) (rI Di λi j=> .int (i*j)):=opI λ_ _ _ _ _ _ _ hc q=>mul_int q hc.ok
theorem Dj:OpR X (binaryOp .FloorDiv) (rI KU λi j=> .int (i/j)):=opI λi j _ _ _ _ _ hc q=>by
 have h1:(0:Int)<j:=hc.1;have h2:j<1073741824:=hc.2;exact floordiv_int (by lia) (by rw[Int.fdiv_eq_ediv_of_nonneg i (by lia)];exact q) (.inl (PyProof.noPylong_small (by lia)))
theorem GV:OpR X (binaryOp .Mod) (rI (λ_ j=>0<j) λi j=> .int (i%j)):=opI λi j _ _ _ _ _ hc q=>by
 have h1:(0:Int)<j:=hc;exact mod_int' (by lia) (by rw[Int.fmod_eq_emod_of_nonneg i (by lia)];exact q)
theorem unI{f:Value->Sem Value}{g:Int->Int}
  (rule:∀(i:Int) (t:Tok) (s:Shared) (Q:VSP) (E:VSP),Q (.int (g i) s.toks) {s with toks:=s.toks+1}->wpAny (model X.prog X.w) X.A (f (.int i t)) Q E s):
  UnR X f (rU λi=> .int (g i)):=by
 intro ef s Z H x v Q I rx h;obtain⟨i,rfl,q⟩:=h;obtain⟨t,rfl⟩:=rx;exact rule i t s _ _ ⟨.int (g i),H,I.tok _,⟨_,rfl⟩,q⟩
theorem GW:UnR X (unaryOp .USub) (rU λi=> .int (-i)):=unI λ_ _ _ _ _ q=>neg_int q
end
section
variable{X:Cx}{a b c:Expr}{ta tb tc:TE}{pos:Pos}
theorem Ac{ef:LAO}{Z:St}{H:Hp}{s:Shared}{Q:VK}{k k' :Bool}(I:Inv X ef Z H s)(q:Q (.bl k) H)(e:k=k'):EP X ef Z Q (.bool k') s:=by
 subst e;exact⟨.bl k,H,I,rfl,q⟩
theorem KW:OpR X (compareOp .Lt) (rI0 λi j=> .bl (decide (i<j))):=Dh λ_ _ _ _ _ _ _ q=>lt_int q
theorem KY:OpR X (compareOp .LtE) (rI0 λi j=> .bl (decide (i<=j))):=Dh λ_ _ _ _ _ _ _ q=>le_int q
theorem KZ:OpR X (compareOp .Gt) (rI0 λi j=> .bl (decide (j<i))):=Dh λ_ _ _ _ _ _ _ q=>gt_int q
theorem L3:OpR X (compareOp .GtE) (rI0 λi j=> .bl (decide (j<=i))):=Dh λ_ _ _ _ _ _ _ q=>ge_int q
theorem GX:OpR X (compareOp .Is) (λx y H Q=>y= .non/\Q (.bl (decide (x= .non))) H):=by
 intro ef s Z H x y v u Q I rx ry h;obtain⟨rfl,q⟩:=h;cases ry;refine is_none_gen (Ac I q ?_);cases x<;>first
  |(cases rx;rfl)
  |(obtain⟨t,rfl⟩:=rx;rfl)
theorem Dk:OpR X (compareOp .IsNot) (λx y H Q=>y= .non/\Q (.bl (!decide (x= .non))) H):=by
 intro ef s Z H x y v u Q I rx ry h;obtain⟨rfl,q⟩:=h;cases ry;refine isnot_none_gen (Ac I q ?_);cases x<;>first
  |(cases rx;rfl)
  |(obtain⟨t,rfl⟩:=rx;rfl)
theorem OpR.or{f:Value->Value->Sem Value}{r r' :R2}(h:OpR X f r)(h' :OpR X f r'):OpR X f (λx y H Q=>r x y H Q\/r' x y H Q):=by
 intro ef s Z H x y v u Q I rx ry q;rcases q with q|q
 .exact h ef s Z H x y v u Q I rx ry q
 .exact h' ef s Z H x y v u Q I rx ry q
theorem Dl{op:CmpOp}{r:R2}(ho:OpR X (compareOp op) r)(ha:PE X a ta)(hb:PE X b tb)(hm:behindInMarks op b=false):PE X (.Compare a [op] [b] pos) (tOp r ta tb):=by
 intro ef s Z H Q I h;exact wpAny_Compare1 (GQ ha hb I h λv u s2 x y H2 I2 rx ry q=>ho ef s2 Z H2 x y v u Q I2 rx ry q) hm
def FU(t:TE):TT:=λZ H Q=>t Z H λx H' =>∃k,x= .bl k/\Q k H'
theorem Dm{op:CmpOp}{r:R2}(ho:OpR X (compareOp op) r)(ha:PE X a ta)(hb:PE X b tb)(hm:behindInMarks op b=false):PT X (.Compare a [op] [b] pos) (FU (tOp r ta tb)):=by
 intro ef s Z H Q I h;refine wpAny_isTrue_Compare1 (thn (ha ef s Z H _ I h) λv s1 ⟨x,H1,I1,r1,q1⟩=>thn (hb ef s1 Z H1 _ I1 q1) λu s2 ⟨y,H2,I2,r2,q2⟩=>
  thn (ho ef s2 Z H2 x y v u _ I2 r1 r2 q2) λc s3 ⟨z,H3,I3,r3,k,e,q3⟩=> ?_) hm
 subst e;cases r3;exact GaY ⟨H3,I3,q3⟩
def Ad(r r' :R2)(ta tb tc:TE):TE:=λZ H Q=>ta Z H λx H1=>tb Z H1 λy H2=>r x y H2 λz H3=>∃k,z= .bl k/\
 (if k=true then tc Z H3 λw' H4=>r' y w' H4 Q else Q (.bl false) H3)
theorem Ae{op xr :CmpOp}{r r' :R2}(ho:OpR X (compareOp op) r)(xv :OpR X (compareOp xr) r')(ha:PE X a ta)(hb:PE X b tb)(hc:PE X c tc)
  (hm:lastMarks [op,xr] [b,c]=false:=by with_unfolding_all rfl):PE X (.Compare a [op,xr] [b,c] pos) (Ad r r' ta tb tc):=by
 intro ef s Z H Q I h;refine Compare_chain (thn (ha ef s Z H _ I h) λv s1 ⟨x,H1,I1,r1,q1⟩=>chain_link (thn (hb ef s1 Z H1 _ I1 q1) λu s2 ⟨y,H2,I2,r2,q2⟩=>
  thn (ho ef s2 Z H2 x y v u _ I2 r1 r2 q2) λd s3 ⟨z,H3,I3,r3,k,e,q3⟩=> ?_)) hm
 subst e;cases r3;refine GaY ?_;cases k with
 |false=>exact ite_ff ⟨.bl false,H3,I3,rfl,q3⟩
 |true=>exact ite_tt (chain_last (thn (hc ef s3 Z H3 _ I3 q3) λw' s4 ⟨z',H4,I4,r4,q4⟩=>xv ef s4 Z H4 y z' u w' Q I4 r2 r4 q4))
theorem Af{op xr :CmpOp}{r r' :R2}(ho:OpR X (compareOp op) r)(xv :OpR X (compareOp xr) r')(ha:PE X a ta)(hb:PE X b tb)(hc:PE X c tc)
  (hm:lastMarks [op,xr] [b,c]=false:=by with_unfolding_all rfl):PT X (.Compare a [op,xr] [b,c] pos) (FU (Ad r r' ta tb tc)):=by
 intro ef s Z H Q I h;refine isTrue_chain (thn (ha ef s Z H _ I h) λv s1 ⟨x,H1,I1,r1,q1⟩=>test_link (thn (hb ef s1 Z H1 _ I1 q1) λu s2 ⟨y,H2,I2,r2,q2⟩=>
  thn (ho ef s2 Z H2 x y v u _ I2 r1 r2 q2) λd s3 ⟨z,H3,I3,r3,k,e,q3⟩=> ?_)) hm
 subst e;cases r3;refine GaY ?_;cases k with
 |false=>
  obtain⟨k',e',q'⟩:=q3;cases e';exact ite_ff ⟨H3,I3,q'⟩
 |true=>
  refine ite_tt (test_last (thn (hc ef s3 Z H3 _ I3 q3) λw' s4 ⟨z',H4,I4,r4,q4⟩=>thn (xv ef s4 Z H4 y z' u w' _ I4 r2 r4 q4) λd' s5 ⟨z2,H5,I5,r5,k2,e2,q5⟩=> ?_));subst e2;cases r5;exact GaY ⟨H5,I5,q5⟩
theorem ml:(sizeLine:Nat)<2^63:=by rw[GbH];decide
theorem rS:OpR X (binaryOp .Add) (λx y H Q=>∃i j,x= .str i/\y= .str j/\i.length+j.length<=sizeLine/\Q (.str (i++j)) H):=by
 intro ef s Z H x y v u Q I rx ry h;obtain⟨i,j,rfl,rfl,hz,q⟩:=h;obtain⟨t,rfl⟩:=rx;obtain⟨t',rfl⟩:=ry;exact add_str (λt' tk=> ⟨.str (i++j),H,I.tok _,⟨_,rfl⟩,q⟩) hz
variable{us:List Value}{x:V}
theorem vals1(r:Vals [x] us):∃u,us=[u]/\RelV x u:=by
 cases r with
 |cons r1 r2=>cases r2;exact⟨_,rfl,r1⟩
theorem vals2{y:V}(r:Vals [x,y] us):∃u w',us=[u,w']/\RelV x u/\RelV y w' :=by
 cases r with
 |cons r1 r2=>
  cases r2 with
  |cons r3 r4=>cases r4;exact⟨_,_,rfl,r1,r3⟩
theorem vq(hc:X.calm=true):cn X (.builtin "max") (λxs H Q=>∃i j,xs=[.int i,.int j]/\Q (.int (if j>i then j else i)) H):=by
 intro ef s Z H xs us Q I r h;obtain⟨i,j,rfl,q⟩:=h;obtain⟨u,w',rfl,⟨t,rfl⟩,⟨t',rfl⟩⟩:=vals2 r;refine max_two_ints (I.ok.hd hc) λh' tk k=> ⟨_,H,I.kept k, ?_,q⟩;by_cases hj:j>i
 .rw[Gak hj,Gak hj];exact⟨_,rfl⟩
 .rw[Gam hj,Gam hj];exact⟨_,rfl⟩
theorem vt(hc:X.calm=true):cn X (.builtin "min") (λxs H Q=>∃i j,xs=[.int i,.int j]/\Q (.int (if j<i then j else i)) H):=by
 intro ef s Z H xs us Q I r h;obtain⟨i,j,rfl,q⟩:=h;obtain⟨u,w',rfl,⟨t,rfl⟩,⟨t',rfl⟩⟩:=vals2 r;refine min_two_ints (I.ok.hd hc) λh' tk k=> ⟨_,H,I.kept k, ?_,q⟩;by_cases hj:j<i
 .rw[Gak hj,Gak hj];exact⟨_,rfl⟩
 .rw[Gam hj,Gam hj];exact⟨_,rfl⟩
theorem vw:cn X (.type "int") (λxs H Q=>(∃i,xs=[.int i]/\Q (.int i) H)\/∃k,xs=[.bl k]/\Q (.int (if k then 1 else 0)) H):=by
 intro ef s Z H xs us Q I r h;rcases h with⟨i,rfl,q⟩| ⟨k,rfl,q⟩
 .obtain⟨u,rfl,t,rfl⟩:=vals1 r;exact call_int_int ⟨.int i,H,I,⟨_,rfl⟩,q⟩
 .obtain⟨u,rfl,r1⟩:=vals1 r;cases r1;exact call_int_bool ⟨.int (if k then 1 else 0),H,I.tok _,⟨_,rfl⟩,q⟩
theorem pB:cn X (.type "str") (λxs H Q=>∃i,xs=[.int i]/\i.natAbs.log2<1920/\Q (.str (toString i)) H):=by
 intro ef s Z H xs us Q I r h;obtain⟨i,rfl,hz,q⟩:=h;obtain⟨u,rfl,t,rfl⟩:=vals1 r;exact PySem.P.str_of_int hz ⟨.str _,H,I.tok _,⟨_,rfl⟩,q⟩
def L4(K:PySem.W.Frag)(x:V)(H:Hp)(n:Nat):Prop:=
 match x with
 | .str y=>y.length<=sizeLine/\n=y.length
 | .byt y=>y.size<=sizeLine/\n=y.size
 | .ref p=>(∃xs,SqL K H p xs/\n=xs.length)\/∃xs,SqT K H p xs/\n=xs.length
 |_=>False
theorem Ag:cn X (.builtin "len") (λxs H Q=>∃x n,xs=[x]/\L4 X.K x H n/\Q (.int n) H):=by
 intro ef s Z H xs us Q I r h;obtain⟨x,n,rfl,e,q⟩:=h;obtain⟨u,rfl,rx⟩:=vals1 r;have hl:=ml;have hs:sizeLine=16777216:=GbH;cases x with
 |str y=>
  obtain⟨t,rfl⟩:=rx;obtain⟨hy,e'⟩:y.length<=sizeLine/\n=y.length:=e;subst e';exact len_str (by lia) ⟨.int _,H,I.tok _,⟨_,rfl⟩,q⟩
 |byt y=>
  obtain⟨t,rfl⟩:=rx;obtain⟨hy,e'⟩:y.size<=sizeLine/\n=y.size:=e;subst e';exact PySem.W.len_bytes (by lia) ⟨.int _,H,I.tok _,⟨_,rfl⟩,q⟩
 |ref p=>
  cases rx;have e' :(∃xs,SqL X.K H p xs/\n=xs.length)\/∃xs,SqT X.K H p xs/\n=xs.length:=e;rcases e' with⟨xs,hx,e'⟩| ⟨xs,hx,e'⟩
  .subst e';obtain⟨eh,r',pl,hz⟩:=I.list hx;have eJ:=r'.length;exact Calls.call_len_list pl.isList (by simp only[Gai];lia) ⟨.int xs.length,H,I.tok _,⟨_,by simp only[Gai];rw[eJ]⟩,q⟩
  .subst e';obtain⟨eh,r',pl,hz⟩:=I.tuple hx;have eJ:=r'.length;exact len_tuple pl (by simp only[Gai];lia) ⟨.int xs.length,H,I.tok _,⟨_,by simp only[Gai];rw[eJ]⟩,q⟩
 |_=>exact(show False from e).elim
end
structure vA(h:Heap)(x dx C:Addr)(mA:Str->Option Value):Prop where
 obj:h.get? x=some (PySem.W.instObj C dx)
 ns:h.Ns1 dx mA
 ne:dx≠x
variable{mA:Str->Option Value}{dx:Addr}{h:Heap}
theorem vB(n:h.Ns1 dx mA):∃od,h.get? dx=some od/\∀name,PySem.W.lookIn name od=some (mA name):=by
 obtain⟨o,es,ep,ho,hd,hk,_,hm⟩:=n;refine⟨o,ho,λname=> ?_⟩;have e:=hm name;unfold nsFind findBy at e;rw[<-Array.find?_toList] at e;unfold PySem.W.lookIn;rw[hd];dsimp only;split
 .rename_i y q;rw[q] at e;exact congrArg some e
 .rename_i q;rw[q] at e;have a:es.toList.any (·.refKey)=false:=by
   rw[List.any_eq_false];intro y hy;obtain⟨z,t,xY⟩:=hk y (Array.mem_toList_iff.mp hy);simp[DictEntry.refKey,xY]
  have a' :¬es.toList.any (·.refKey)=true:=by rw[a];exact Gaj
  rw[Gam a'];exact congrArg some e
variable{C:Addr}
theorem vA.look{x:Addr}(I:vA h x dx C mA):∃od,PySem.W.InstAt h x (PySem.W.instObj C dx) C (some od)/\∀name,PySem.W.lookIn name od=some (mA name):=
 let⟨od,ho,hl⟩:=vB I.ns
 ⟨od,⟨I.obj,rfl,rfl,ho⟩,hl⟩
section
variable{prog:Program}{w:World}{A:Around}{E:VSP}{s:Shared}{K:PySem.W.Frag}{x dx C f:Addr}{mA:Str->Option Value}{name:Str}{v:Value}
theorem get_map{expr:Bool}{Q:VSP}(X:K.In s.heap)(I:vA s.heap x dx C mA)(hg:PySem.W.plainGet K C name=true)(hh:PySem.W.hasDictIn K C=true)
  (ha:PySem.W.findIn K (.ref C) name=some none)(hv:mA name=some v)(yr :PySem.W.handedIn v=true)(h:Q v {s with toks:=s.toks+1}):
  wpAny (model prog w) A (getAttr (.ref x) name expr) Q E s:=by
 obtain⟨od,J,hl⟩:=I.look;exact PySem.W.get_value X J (PySem.W.plainGet_of hg).1 (PySem.W.findObj_own hh ha rfl (by rw[hl,hv])) yr h
theorem Dn{ns:List Str}{Q:Unit->Shared->Prop}(X:K.In s.heap)(I:vA s.heap x dx C mA)
  (hs:PySem.W.findIn K (.ref C) "__setattr__"=some (some (.builtin "object.__setattr__")))(hp:PySem.W.plainOver K C=true)(ht:PySem.W.takerIn K C name=some none)(hh:PySem.W.hasDictIn K C=true)
  (hw:PySem.Within mA ns)(hsz:ns.length<=sizeLine)
  (h:∀h',vA h' x dx C (λy=>if y=name then some v else mA y)->Heap.SameBut dx s.heap h' ->Q () {s with heap:=h',toks:=s.toks+2}):
  wpAny (model prog w) A (setAttr (.ref x) name v) Q E s:=by
 obtain⟨od,J,hl⟩:=I.look;refine PySem.W.set_plain X J hs (PySem.W.osa_open (s:={s with toks:=s.toks+1}) (r:=none) X J hp ht λb=> ?_);obtain⟨cd,hc,eX⟩:=PySem.W.any_some hh;have hx:s.heap.get? x=some ⟨.ref C,some dx,.plain,#[]⟩:=I.obj;refine Gag (Gaq (Gag (Gag (wpAny_loadPart hx (Gag (PySem.W.Looks.here (s:={s with toks:=s.toks+1}) (PySem.W.looks_clsIn X hc) ?_))))));rw[eX];refine Gaq (a:=some dx) (Gag (Gaq (Gag ?_)));refine wpAny_nsSet1 (s:={s with toks:=s.toks+1}) I.ns λh' yP eW=> ?_;obtain⟨oD,Ru,Rw,QZ,Rf,Rh⟩:=yP.count (PySem.Within.cons name v hw);refine Gag (wpAny_lookBehind QZ (by rw[Rf];exact pastItsLine_dict (GaL Rh (by rw[GaE];lia))) ?_);exact Gaq (h _ ⟨(eW.2 _ (GaU I.ne)).trans I.obj,yP,I.ne⟩ eW)
theorem Ah{R:Result->Shared->Prop}{vs:List Value}{kw:List (Str×Value)}(X:K.In s.heap)(hm:PySem.W.makesIn K C=true)
  (hi:PySem.W.findIn K (.ref C) "__init__"=some (some (.ref f)))(hf:PySem.W.typeIn K (.ref f)=some (.type "function"))
  (h:codeAny (model prog w) (A.under (.builtin "type.__call__" ⟨.ref C::vs,kw⟩)) (.call (.ref f) ⟨.ref (s.heap.objs.size+1)::vs,kw⟩) (PySem.W.InitBack (s.heap.objs.size+1) R)
   {s with heap:=(s.heap.push PySem.W.emptyDict).push (PySem.W.instObj C s.heap.objs.size)}):
  codeAny (model prog w) A (.call (.ref C) ⟨vs,kw⟩) R s:=by
 obtain⟨hh,g,d,t,os⟩:=s;exact PySem.W.make_core (PySem.W.makes_of X hm) (PySem.W.looks_findIn X hi) (λself=>PySem.W.bind_fn X self hf) (.inl rfl) h
end
noncomputable def fG(f:Str)(v:V):List (Str×V)->List (Str×V)
 |[]=>[(f,v)]
 |(g,x)::r=>if g=f then(g,v)::r else(g,x)::fG f v r
theorem lh(f g:Str)(v:V):∀fs:List (Str×V),(fG f v fs).lookup g=if g=f then some v else fs.lookup g
 |[]=>by
  show List.lookup g [(f,v)]=_;by_cases h:g=f
  .have hb:(g==f)=true:=GaK.mpr h;simp only[List.lookup,hb,Gak h]
  .have hb:(g==f)=false:=GaX.mpr h;simp only[List.lookup,hb,Gam h]
 |(k,x)::r=>by
  have ih:=lh f g v r;rw[show fG f v ((k,x)::r)=(if k=f then(k,v)::r else(k,x)::fG f v r) from rfl];by_cases hk:k=f
  .rw[Gak hk];by_cases h:g=k
   .have hb:(g==k)=true:=GaK.mpr h;simp only[List.lookup,hb,Gak (h.trans hk)]
   .have hb:(g==k)=false:=GaX.mpr h;simp only[List.lookup,hb,Gam (λe:g=f=>h (e.trans hk.symm))]
  .rw[Gam hk];by_cases h:g=k
   .have hb:(g==k)=true:=GaK.mpr h;simp only[List.lookup,hb,Gam (λe:g=f=>hk (h.symm.trans e))]
   .have hb:(g==k)=false:=GaX.mpr h;simp only[List.lookup,hb];exact ih
theorem kq(f:Str)(v:V):∀fs:List (Str×V),f∈(fG f v fs).map (·.1)/\∀g,g∈fs.map (·.1)->g∈(fG f v fs).map (·.1)
 |[]=> ⟨by simp[fG],λg h=>by simp at h⟩
 |(k,x)::r=>by
  obtain⟨i1,i2⟩:=kq f v r;rw[show fG f v ((k,x)::r)=(if k=f then(k,v)::r else(k,x)::fG f v r) from rfl];by_cases hk:k=f
  .rw[Gak hk];subst hk;exact⟨by simp,λg h=>by simpa using h⟩
  .rw[Gam hk];refine⟨?_,λg h=> ?_⟩
   .rw[Gau];exact Gat _ i1
   .rw[Gau] at h⊢;rcases Gah.mp h with e|e
    .exact Gah.mpr (.inl e)
    .exact Gat _ (i2 g e)
theorem lj(f:Str)(v:V):∀fs:List (Str×V),(fG f v fs).length<=fs.length+1
 |[]=>by simp[fG]
 |(k,x)::r=>by
  have ih:=lj f v r;rw[show fG f v ((k,x)::r)=(if k=f then(k,v)::r else(k,x)::fG f v r) from rfl];by_cases hk:k=f
  .rw[Gak hk,GaE,GaE];lia
  .rw[Gam hk,GaE,GaE];lia
variable{v:V}
theorem km.some_of{o:Option Value}(r:km (some v) o):∃u,o=some u/\RelV v u:=by
 cases o with
 |none=>exact(show False from r).elim
 |some u=>exact⟨u,rfl,r⟩
theorem vC{u:Value}(r:RelV v u):PySem.W.handedIn u=true:=by
 cases v with
 |non=>cases(show u=Value.none from r);rfl
 |bl b=>cases(show u=Value.bool b from r);rfl
 |int i=>obtain⟨t,e⟩:=(show∃t,u=Value.int i t from r);cases e;rfl
 |str x=>obtain⟨t,e⟩:=(show∃t,u=Value.str x t from r);cases e;rfl
 |byt b=>obtain⟨t,e⟩:=(show∃t,u=Value.bytes b t from r);cases e;rfl
 |flt b=>obtain⟨t,e⟩:=(show∃t,u=Value.float b t from r);cases e;rfl
 |ref a=>cases(show u=Value.ref a from r);rfl
 |ty n=>cases(show u=Value.type n from r);rfl
section
variable{P:Program}{w:World}{H H' :Hp}{h h' :Heap}{a C dx:Addr}{fs Q5 :List (Str×V)}
theorem pC(hok:HOk P w H h)(e:H a=some (.ins C dx fs)):∃mA,vA h a dx C mA/\(∀f,km (fs.lookup f) (mA f))/\PySem.Within mA (fs.map (·.1))/\fs.length<=1000/\H dx=some (.own a):=by
 obtain⟨d,z,ne,ob,mA,n,r,q⟩:=(show bM P w H h a (.ins C dx fs) from hok a _ e)
 exact⟨mA,⟨ob,n,ne⟩,r,q,z,d⟩
end
structure Cls(K:PySem.W.Frag)(C:Addr):Prop where
 pg:PySem.W.plainGet K C Str.empty=true
 hd:PySem.W.hasDictIn K C=true
 po:PySem.W.plainOver K C=true
 sa:PySem.W.findIn K (.ref C) "__setattr__"=some (some (.builtin "object.__setattr__"))
theorem Cls.get{K:PySem.W.Frag}(c:Cls K C)(f:Str):PySem.W.plainGet K C f=true:=c.pg
def bO(K:PySem.W.Frag)(C:Addr)(f:Str):Prop:=PySem.W.findIn K (.ref C) f=some none
theorem bO.L5{K:PySem.W.Frag}{f:Str}(n:bO K C f):PySem.W.takerIn K C f=some none:=by
 unfold PySem.W.takerIn;rw[show PySem.W.findIn K (.ref C) f=some none from n]
 rfl
section
variable{X:Cx}{ef:LAO}{Z:St}{H:Hp}{s:Shared}{a C dx:Addr}{fs:List (Str×V)}{f:Str}{v:V}{A:Around}{E:VSP}
theorem rT{b:Bool}{Q:VSP}(I:Inv X ef Z H s)(e:H a=some (.ins C dx fs))(c:Cls X.K C)(n:bO X.K C f)(l:fs.lookup f=some v)
  (h:∀u s',Inv X ef Z H s' ->RelV v u->Q u s'):wpAny (model X.prog X.w) A (getAttr (.ref a) f b) Q E s:=by
 obtain⟨mA,O,r,_,_,_⟩:=pC I.hok e;obtain⟨u,hu,ru⟩:=km.some_of (v:=v) (o:=mA f) (by rw[<-l];exact r f);exact get_map I.kIn O (c.get f) c.hd n hu (vC ru) (h u _ (I.tok _) ru)
theorem rV{y:V}{u:Value}{Q:Unit->Shared->Prop}(I:Inv X ef Z H s)(e:H a=some (.ins C dx fs))(c:Cls X.K C)(n:bO X.K C f)(hl:fs.length<1000)(ry:RelV y u)
  (h:∀s',Inv X ef Z (upd H a (.ins C dx (fG f y fs))) s' ->Q () s'):wpAny (model X.prog X.w) A (setAttr (.ref a) f u) Q E s:=by
 obtain⟨mA,O,r,wi,_,ho⟩:=pC I.hok e;have hz:(fs.map (·.1)).length<=sizeLine:=by rw[Gax,GbH];lia
 refine Dn I.kIn O c.sa c.po n.L5 c.hd wi hz λh' O' sb=>h _ ?_;have hd:∃o,h'.get? dx=some o:=let⟨o,_,_,e',_⟩:=O'.ns;⟨o,e'⟩
 refine I.write (x:=a) (e:=dx) (by rw[e];exact True.intro) (.inr ho) (λb q hb z=>(sb.2 b hb).trans z) hd ?_;refine⟨by rw[aw O.ne];exact ho, ?_,O.ne,O'.obj,_,O'.ns,λg=> ?_,λg hg=> ?_⟩
 .have:=lj f y fs;lia
 .show km ((fG f y fs).lookup g) (if g=f then some u else mA g);rw[lh];by_cases q:g=f
  .rw[Gak q,Gak q];exact ry
  .rw[Gam q,Gam q];exact r g
 .by_cases q:g=f
  .rw[q];exact(kq f y fs).1
  .refine(kq f y fs).2 g (wi g λz=>hg ?_);show(if g=f then some u else mA g)=none;rw[Gam q];exact z
theorem Inv.made(I:Inv X ef Z H s):Inv X ef Z (upd (upd H s.heap.objs.size (.own (s.heap.objs.size+1))) (s.heap.objs.size+1) (.ins C s.heap.objs.size []))
  {s with heap:=(s.heap.push PySem.W.emptyDict).push (PySem.W.instObj C s.heap.objs.size)}:=by
 have e1:(s.heap.push PySem.W.emptyDict).get? s.heap.objs.size=some PySem.W.emptyDict:=Gaz s.heap rfl;have e2:((s.heap.push PySem.W.emptyDict).push (PySem.W.instObj C s.heap.objs.size)).get? (s.heap.objs.size+1)=some (PySem.W.instObj C s.heap.objs.size):=by
  have:=Gaz (s.heap.push PySem.W.emptyDict) (o:=PySem.W.instObj C s.heap.objs.size) rfl
  rwa[Gbc] at this
 have e3:(s.heap.push PySem.W.emptyDict).Ns s.heap.objs.size (λ_=>none):=⟨PySem.W.emptyDict,#[],_,e1,rfl,(λe he=>absurd he (by simp)),λ_=>rfl⟩
 have I1:=I.laid (a:=s.heap.objs.size) (o:= .own (s.heap.objs.size+1)) (h' :=s.heap.push PySem.W.emptyDict) (t' :=s.toks) (λb u q=>Gae _ q) (Gar _) ⟨_,e1⟩;refine I1.laid (a:=s.heap.objs.size+1) (o:= .ins C s.heap.objs.size []) (t' :=s.toks) (λb u q=>Gae _ q) (Nat.le_of_eq (Gbc _ _)) ?_;have ne:s.heap.objs.size≠s.heap.objs.size+1:=GaF (GbM _);refine⟨by rw[aw ne,ax],GcC _,ne,e2,λ_=>none,(Heap.Ns1.of_empty e3).at λo q=>Gae _ q,λ_=>True.intro,λy hy=>absurd rfl hy⟩
theorem Dp{prog:Program}{w:World}{env:Env}{e:Expr}{f:Str}{pos:Pos}{s:Shared}{Q:VSP}(hb:attributeBase e f env (eval e env)=eval e env)
  (h:wpAny (model prog w) A (eval e env) (λo s₁=>wpAny (model prog w) A (getAttr o f true) Q E s₁) E s):wpAny (model prog w) A (eval (.Attribute e f pos) env) Q E s:=
 Attribute_any_ h (by rw[arm_eval_Attribute,hb])
end
def Ob(K:PySem.W.Frag)(ta:TE)(f:Str):TE:=λZ H Q=>ta Z H λx H1=>∃a C dx fs v,x= .ref a/\H1 a=some (.ins C dx fs)/\Cls K C/\bO K C f/\fs.lookup f=some v/\Q v H1
def Oc(K:PySem.W.Frag)(ta tv:TE)(f:Str):TS:=λD Z H=>tv Z H λy H1=>ta Z H1 λx H2=>∃a C dx fs,x= .ref a/\H2 a=some (.ins C dx fs)/\Cls K C/\bO K C f/\fs.length<1000/\
 D.nx Z (upd H2 a (.ins C dx (fG f y fs)))
section
variable{X:Cx}{o e value:Expr}{f:Str}{pos pos' QE:Pos}{ta tv:TE}
theorem rW(he:PE X e ta)(hb:attributeBase e f X.env (eval e X.env)=eval e X.env):PE X (.Attribute e f pos) (Ob X.K ta f):=by
 intro ef s Z H Q I h;refine Dp hb (thn (he ef s Z H _ I h) λu s1 ⟨x,H1,I1,rx,a,C,dx,fs,v,ex,ea,c,n,l,q⟩=> ?_);subst ex;obtain rfl:u=Value.ref a:=rx;exact rT I1 ea c n l λu' s2 I2 ru=> ⟨v,H1,I2,ru,q⟩
theorem rX(ha:PE X o ta)(hv:PE X value tv)(hs:swapsWith value (some (.Attribute o f pos')) pos.line X.env=pure false):PS X (.Assign [.Attribute o f pos'] value pos) (Oc X.K ta tv f):=by
 intro ef s Z H D I h;refine plainObj_wpAny_Assign_Attribute (thn (hv ef s Z H _ I h) λu s1 ⟨y,H1,I1,ry,q⟩=>thn (ha ef s1 Z H1 _ I1 q) λov s2 ⟨x,H2,I2,rx,a,C,dx,fs,ex,ea,c,n,l,q2⟩=> ?_) hs;subst ex;obtain rfl:ov=Value.ref a:=rx;exact rV I2 ea c n l ry λs3 I3=> ⟨Z,_,I3,q2⟩
end
section
variable{X:Cx}{ef:LAO}{Z:St}{H:Hp}{s:Shared}{A:Around}{E:VSP}{Q:VSP}{c:Value}{b:Bool}
inductive jb(K:PySem.W.Frag)(H:Hp):V->Value->Prop where
 |non:jb K H .non (.type "NoneType")
 |bl (x:Bool):jb K H (.bl x) (.type "bool")
 |int (i:Int):jb K H (.int i) (.type "int")
 |str (x:Str):jb K H (.str x) (.type "str")
 |flt (x:UInt64):jb K H (.flt x) (.type "float")
 |lst {a:Addr} {xs:List V} (e:H a=some (.lst xs)):jb K H (.ref a) (.type "list")
 |frz {a:Addr} {o:Obj} {xs:List V} (e:H a=some (.frz o (.lst xs))):jb K H (.ref a) (.type "list")
 |tup {a:Addr} {xs:List V} (e:H a=some (.tup xs)):jb K H (.ref a) (.type "tuple")
 |dK {a:Addr} {kvs:List (Key×V)} (e:H a=some (.dK kvs)):jb K H (.ref a) (.type "dict")
 |dT {a:Addr} {kvs:List (List Key×V)} (e:H a=some (.dT kvs)):jb K H (.ref a) (.type "dict")
 |ins {a C dx:Addr} {fs:List (Str×V)} (e:H a=some (.ins C dx fs)) (cl:Cls K C) (ha:PySem.W.findIn K (.ref C) "__class__"=some (some (.builtin "object.__class__")))
   (hn:PySem.W.specialIn K (.builtin "object.__class__") "__get__"=some (some (.builtin "getset_descriptor.__get__"))) (Qr:PySem.W.takesIn K (.builtin "object.__class__")=some true)
   (hm:PySem.W.mroIn K C (.type "object")=some true):jb K H (.ref a) (.ref C)
theorem vD{x:V}{u t:Value}(I:Inv X ef Z H s)(rx:RelV x u)(ty:jb X.K H x t)(e:PySem.W.kitOne X.K t c=some b)(h:∀tk,Q (.bool b) {s with toks:=tk}):
  wpAny (model X.prog X.w) A (call (.builtin "isinstance") [u,c]) Q E s:=by
 cases ty with
 |non=>cases(show u=Value.none from rx);exact Gba PySem.W.kitx_none I.kIn True.intro e (λz=>nomatch z) h
 |bl y=>cases(show u=Value.bool y from rx);exact Gba PySem.W.kitx_bool I.kIn True.intro e (λz=>nomatch z) h
 |int i=>obtain⟨t,q⟩:=(show∃t,u=Value.int i t from rx);cases q;exact Gba PySem.W.kitx_int I.kIn True.intro e (λz=>nomatch z) h
 |str y=>obtain⟨t,q⟩:=(show∃t,u=Value.str y t from rx);cases q;exact Gba PySem.W.kitx_str I.kIn True.intro e (λz=>nomatch z) h
 |flt y=>obtain⟨t,q⟩:=(show∃t,u=Value.float y t from rx);cases q;exact Gba PySem.W.kitx_float I.kIn True.intro e (λz=>nomatch z) h
 | @lst a xs ea=>
  cases(show u=Value.ref a from rx);obtain⟨_,_,n,_,h1⟩:=(show bM X.prog X.w H s.heap a (.lst xs) from I.hok a _ ea)
  exact Gba PySem.W.kitx_list I.kIn ⟨_,h1,rfl⟩ e (λz=>nomatch z) h
 | @frz a ob xs ea=>
  cases(show u=Value.ref a from rx);obtain⟨_,_,_,n,_,h1⟩:=(show bM X.prog X.w H s.heap a (.frz ob (.lst xs)) from I.hok a _ ea)
  exact Gba PySem.W.kitx_list I.kIn ⟨_,h1,rfl⟩ e (λz=>nomatch z) h
 | @tup a xs ea=>
  cases(show u=Value.ref a from rx);obtain⟨_,_,_,p⟩:=(show bM X.prog X.w H s.heap a (.tup xs) from I.hok a _ ea)
  obtain⟨o,h1,h2,_⟩:=p;exact Gba PySem.W.kitx_tuple I.kIn ⟨o,h1,h2⟩ e (λz=>nomatch z) h
 | @dK a kvs ea=>
  cases(show u=Value.ref a from rx);obtain⟨_,_,vs,_,p⟩:=(show bM X.prog X.w H s.heap a (.dK kvs) from I.hok a _ ea)
  obtain⟨o,es,ep,h1,h2,_⟩:=p;exact Gba PySem.W.kitx_dict I.kIn ⟨o,h1,h2.1⟩ e (λz=>nomatch z) h
 | @dT a kvs ea=>
  cases(show u=Value.ref a from rx);obtain⟨_,_,xs,_,o,es,ep,h1,h2,_⟩:=(show bM X.prog X.w H s.heap a (.dT kvs) from I.hok a _ ea)
  exact Gba PySem.W.kitx_dict I.kIn ⟨o,h1,h2.1⟩ e (λz=>nomatch z) h
 | @ins a C dx fs ea cl ha hn Qr hm=>
  cases(show u=Value.ref a from rx);obtain⟨mA,O,_⟩:=pC I.hok ea;obtain⟨od,J,_⟩:=O.look;exact Gba (PySem.W.kitx_own (cl.get _) cl.hd ha hn Qr hm) I.kIn J e (λz=>nomatch z) h
end
structure cw(k:Nat)(A:Around):Prop where
 hd:A.handled=none
 dp:A.depth+3*k+5<recursionLimit
 un:A.units+16*k+200<cLine
variable{A:Around}
theorem cw.mono{j k:Nat}(r:cw k A)(h:j<=k):cw j A:=⟨r.hd,by have:=r.dp;lia,by have:=r.un;lia⟩
theorem cw.deeper{k:Nat}{A:Around}(r:cw (k+1) A)(env:Env):cw k (A.deeper env):=
 ⟨r.hd,by have:=r.dp;show A.depth+1+3*k+5<_;lia,by have:=r.un;show A.units+3+16*k+200<_;lia⟩
variable{kw:List (Str×Value)}{us:List Value}{C:Addr}
theorem rY:(A.under (.builtin "type.__call__" ⟨.ref C::us,kw⟩)).depth=A.depth+1:=by
 first|rfl|simp[Around.under,Code.weight,Code.isCreation,Code.isGuard,Code.isCaller,Code.frames,Code.isFrame,guardIds]
theorem rZ:(A.under (.builtin "type.__call__" ⟨.ref C::us,kw⟩)).units=A.units+1:=by
 first|rfl|simp[Around.under,Code.cUnits,Code.frames,Code.isFrame]
theorem cw.make{k:Nat}(r:cw (k+1) A)(C:Addr)(us:List Value)(kw:List (Str×Value)):cw k (A.under (.builtin "type.__call__" ⟨.ref C::us,kw⟩)):=
 ⟨r.hd,by have:=r.dp;rw[rY];lia,by have:=r.un;rw[rZ];lia⟩
theorem cw.depth{k:Nat}{A:Around}(r:cw k A):A.depth<recursionLimit:=by have:=r.dp;lia
theorem cw.units{k:Nat}{A:Around}(r:cw k A):A.units+64<cLine:=by have:=r.un;lia
def L6:TA:=λ_ H Q=>Q [] H
def L7(ta:TE)(tr:TA):TA:=λZ H Q=>ta Z H λx H1=>tr Z H1 λxs H2=>Q (x::xs) H2
section
variable{X:Cx}{e:Expr}{es:List Expr}{te:TE}{t:TA}{pos:Pos}
theorem g7:PA X [] L6:=λ_ _ _ _ H Q I h=>Calls.spliced_nil ⟨[],H,I,.nil,h⟩
theorem cW(ha:PE X e te)(hr:PA X es t)(hs:autoParam (starEach (e::es) X.env=(false,eval e X.env)::starEach es X.env) Za1._auto_1):PA X (e::es) (L7 te t):=by
 intro pos ef s Z H Q I h;rw[hs];show wpAny _ _ (spliced ((false,eval e X.env)::backTo pos (starEach es X.env))) _ _ s;refine Calls.spliced_cons (thn (ha ef s Z H _ I h) λu s1 ⟨x,H1,I1,r1,q1⟩=> ?_);exact thn (hr pos ef s1 Z H1 _ I1 q1) λus s2 ⟨xs,H2,I2,r2,q2⟩=> ⟨x::xs,H2,I2,.cons r1 r2,q2⟩
def Od(t:TA):TE:=λZ H Q=>t Z H λxs H1=>xs.length<=sizeLine/\∀p,H1 p=none->Q (.ref p) (upd H1 p (.tup xs))
def Oe(t:TA):TE:=λZ H Q=>t Z H λxs H1=>xs.length<=sizeLine/\∀p,H1 p=none->Q (.ref p) (upd H1 p (.lst xs))
theorem Ai{x1}(h:PA X es t):PE X (.Tuple es x1 pos) (Od t):=by
 intro ef s Z H Q I hq;refine wpAny_Tuple_spliced (thn (h pos ef s Z H _ I hq) λus s1 ⟨xs,H1,I1,r,z,q⟩=> ⟨by rw[<-r.length];exact z, ?_⟩);have hf:H1 s1.heap.objs.size=none:=I1.hok.fresh (Gar _);refine⟨.ref s1.heap.objs.size,upd H1 s1.heap.objs.size (.tup xs),I1.laid (t' :=s1.toks) (λb u e=>Gae _ e) (Gar _) ?_,rfl,q _ hf⟩;exact⟨z,us,r,⟨_,Gaz _ rfl,rfl,_,rfl⟩⟩
theorem se(h:PA X es t):PE X (.List es pos) (Oe t):=by
 intro ef s Z H Q I hq;refine wpAny_List_spliced (thn (h pos ef s Z H _ I hq) λus s1 ⟨xs,H1,I1,r,z,q⟩=> ⟨by rw[<-r.length];exact z, ?_⟩);have hf:H1 s1.heap.objs.size=none:=I1.hok.fresh (Gar _);refine⟨.ref s1.heap.objs.size,upd H1 s1.heap.objs.size (.lst xs),I1.laid (t' :=s1.toks) (λb u e=>Gae _ e) (Gar _) ?_,rfl,q _ hf⟩;exact⟨z,us,0,r,Gaz _ rfl⟩
end
abbrev Sp:=List V->Hp->VK->XK->Prop
abbrev CXT:=List Env->Hp->Shared->XK->VSP
structure sf(P:Program)(w:World)(K:PySem.W.Frag)(mg:Str->Option Value)(base:Heap)(A:Around)(outer:List Env)(s:Shared)(H:Hp):Prop where
 frames:A.frames=some outer
 mod:Mod K mg base
 bs:∀b o,base.get? b=some o->s.heap.get? b=some o/\H b=none
 bsz:base.objs.size<=s.heap.objs.size
 lV:s.heap.FunFrames base outer
 frf:∀b∈frs outer,H b=none
 hok:HOk P w H s.heap
 bare:AllBare s.gens
def CE(outer:List Env)(P:Program)(w:World)(H:Hp)(s:Shared)(Q:VK)(u:Value)(s' :Shared):Prop:=
 ∃v H',s'.os=s.os/\AllBare s'.gens/\Un (frs outer) [] H H' s.heap s'.heap/\HOk P w H' s'.heap/\RelV v u/\Q v H'
def CR(CX:CXT)(outer:List Env)(P:Program)(w:World)(H:Hp)(s:Shared)(Q:VK)(E:XK)(r:Result)(s' :Shared):Prop:=
 match r with
 | .ok (.ret u)=>CE outer P w H s Q u s'
 | .ok _=>False
 | .error e=>CX outer H s E e s'
structure cy(P:Program)(w:World)(K:PySem.W.Frag)(mg:Str->Option Value)(base:Heap)(CX:CXT)(k:Nat)(f:Addr)(fd:FuncData)(ps:List Str)(sp:Sp):Prop where
 len:∀vs H Q E,sp vs H Q E->vs.length=ps.length
 run:∀(A:Around) (outer:List Env) (s:Shared) (H:Hp) (args:Args) (us:List Value) (vs:List V) (Q:VK) (E:XK),cw k A->sf P w K mg base A outer s H->BindsTo s fd args (ps.zip us)->Vals vs us->sp vs H Q E->
  codeAny (model P w) A (.call (.ref f) args) (CR CX outer P w H s Q E) s
variable{ps:List Str}{f:Addr}{base:Heap}{mg:Str->Option Value}{w:World}{P:Program}
theorem cy.imp{K:PySem.W.Frag}{CX:CXT}{k:Nat}{fd:FuncData}{sp Qc :Sp}(F:cy P w K mg base CX k f fd ps sp)
  (h:∀vs H Q E,Qc vs H Q E->sp vs H Q E):cy P w K mg base CX k f fd ps Qc :=
 ⟨λvs H Q E q=>F.len vs H Q E (h _ _ _ _ q),λA outer s H args us vs Q E hr he hb hv hs=>F.run A outer s H args us vs Q E hr he hb hv (h _ _ _ _ hs)⟩
variable{H:Hp}{s:Shared}{outer:List Env}
theorem sf.make{K:PySem.W.Frag}(e:sf P w K mg base A outer s H)(C:Addr)(us:List Value)(kw:List (Str×Value)):
  sf P w K mg base (A.under (.builtin "type.__call__" ⟨.ref C::us,kw⟩)) outer s H:=⟨by first|exact e.frames|(simpa[Around.under,Code.envs,Code.isFrame,pushEnvs] using e.frames),e.mod,e.bs,e.bsz,e.lV,e.frf,e.hok,e.bare⟩
section
variable{X:Cx}{ef:LAO}{Z:St}{H:Hp}{s s' :Shared}
theorem Inv.L8(I:Inv X ef Z H s):sf X.prog X.w X.K X.mg X.base X.A X.stack s H:=
 ⟨I.ok.frames,I.ok.mod,I.bs,GaL I.ok.bsz I.sz,I.stack,I.tQ,I.hok,I.bare⟩
theorem Inv.after{Q:VK}{u:Value}(I:Inv X ef Z H s)(h:CE X.stack X.prog X.w H s Q u s'):EP X ef Z Q u s' :=by
 obtain⟨v,H',os,bare,un,hok,r,q⟩:=h;obtain⟨hh,g,d,t,QH⟩:=s';obtain rfl:QH =s.os:=os;exact⟨v,H',I.call (h' :=hh) (g' :=g) (d' :=d) (t' :=t) (ch:=[]) un hok bare (λb z=>absurd z (by simp)),r,q⟩
end
def L9(sp:Sp)(dvs:List V)(E:XK)(t:TA):TE:=λZ H Q=>t Z H λvs H1=>sp (vs++dvs) H1 Q E
def La(C:Addr)(sp:Sp)(dvs:List V)(E:XK)(t:TA):TE:=λZ H Q=>t Z H λvs H1=>∀x dx,H1 x=none->H1 dx=none->dx≠x->
 sp (.ref x::(vs++dvs)) (upd (upd H1 dx (.own x)) x (.ins C dx [])) (λv H2=>v= .non/\Q (.ref x) H2) E
def Binds(K:PySem.W.Frag)(fd:FuncData)(ps:List Str)(ds:List Value):Prop:=
 ∀(s:Shared) (us:List Value),K.In s.heap->(us++ds).length=ps.length->BindsTo s fd ⟨us,[]⟩ (ps.zip (us++ds))
theorem Binds.all{K:PySem.W.Frag}{fd:FuncData}(h:∀us:List Value,us.length=ps.length->bindArgs fd ⟨us,[]⟩=pure (ps.zip us)):Binds K fd ps []:=λs us _ hl=>by
 rw[GaS] at hl⊢;exact .of_eq (h us hl)
def Passes(CX:CXT)(X:Cx)(E:XK):Prop:=∀(ef:LAO) (Z:St) (H:Hp) (s:Shared) (e:Value) (s' :Shared),Inv X ef Z H s->CX X.stack H s E e s' ->X.xe e s'
section
variable{X:Cx}{CX:CXT}{k:Nat}{f C:Addr}{fd:FuncData}{ps:List Str}{sp:Sp}{dvs:List V}{ds:List Value}{E:XK}{x m:Str}{p pos apos:Pos}{e o:Expr}{es:List Expr}{ta:TE}{t:TA}
variable{vs:List V}{us:List Value}{Q:VK}{s:Shared}{H:Hp}{Z:St}{ef:LAO}
theorem GY(F:cy X.prog X.w X.K X.mg X.base CX k f fd ps sp)(hr:cw k X.A)(hb:Binds X.K fd ps ds)(hd:Vals dvs ds)(hx:Passes CX X E)
  (I:Inv X ef Z H s)(r:Vals vs us)(h:sp (vs++dvs) H Q E):wpAny (model X.prog X.w) X.A (call (.ref f) us) (EP X ef Z Q) X.xe s:=by
 have r2:Vals (vs++dvs) (us++ds):=r.append hd;have hl:(us++ds).length=ps.length:=by rw[<-r2.length];exact F.len _ _ _ _ h
 refine wpAny_call (Gck (F.run X.A X.stack s H ⟨us,[]⟩ (us++ds) (vs++dvs) Q E hr I.L8 (hb s us I.kIn hl) r2 h) λr s' hq=> ?_);cases r with
 |error e=>exact hx ef Z H s e s' I hq
 |ok fl=>
  cases fl with
  |ret u=>exact I.after hq
  |next=>exact False.elim hq
  |brk=>exact False.elim hq
  |cont=>exact False.elim hq
theorem pD(F:cy X.prog X.w X.K X.mg X.base CX k f fd ps sp)(hr:cw k X.A)(hg:Gl X x)(hm:X.mg x=some (.ref f))(hk:PySem.W.keepIn X.K (.ref f)=true)(hb:Binds X.K fd ps ds)(hd:Vals dvs ds)(hx:Passes CX X E)
  (ha:PA X (e::es) t)(xj:autoParam ((x==("__debug__":Str))=false) Za2._auto_1)(he:autoParam (starEach (e::es) X.env=(false,eval e X.env)::starEach es X.env) Za1._auto_1)(xf:autoParam ((backTo pos (starEach es X.env)).any (·.1)=false) Za1._auto_1):
  PE X (.Call (.Name x p) (e::es) [] pos) (L9 sp dvs E t):=by
 intro ef s Z H Q I h;refine GbS (iK I hg hm ?_ xj);refine PySem.W.callWith_K (h₀:=X.base) I.ok.mod.kin hk (thn (ha pos ef s Z H _ I h) λus s1 ⟨vs,H1,I1,r,q⟩=> ⟨I1.kIn, ?_⟩) he xf;exact GY F hr hb hd hx I1 r q
structure Mk(K:PySem.W.Frag)(C f:Addr):Prop where
 makes:PySem.W.makesIn K C=true
 init:PySem.W.findIn K (.ref C) "__init__"=some (some (.ref f))
 fn:PySem.W.isFn K (.ref f)=true
 kp:PySem.W.keepIn K (.ref C)=true
theorem Aj(M:Mk X.K C f)(F:cy X.prog X.w X.K X.mg X.base CX k f fd ps sp)(hr:cw (k+1) X.A)(hb:Binds X.K fd ps ds)(hd:Vals dvs ds)
  (hx:Passes CX X E)(I:Inv X ef Z H s)(r:Vals vs us)
  (h:∀x dx,H x=none->H dx=none->dx≠x->sp (.ref x::(vs++dvs)) (upd (upd H dx (.own x)) x (.ins C dx [])) (λv H2=>v= .non/\Q (.ref x) H2) E):
  wpAny (model X.prog X.w) X.A (call (.ref C) us) (EP X ef Z Q) X.xe s:=by
 have hq:=h (s.heap.objs.size+1) s.heap.objs.size (I.hok.fresh (Gbi _)) (I.hok.fresh (Gar _)) (GaF (GbM _));have I2:=Inv.made (C:=C) I;have r2:Vals (V.ref (s.heap.objs.size+1)::(vs++dvs)) (Value.ref (s.heap.objs.size+1)::(us++ds)):= .cons rfl (r.append hd);have hl:(Value.ref (s.heap.objs.size+1)::us++ds).length=ps.length:=by
  have e:=r2.length;rw[F.len _ _ _ _ hq] at e;exact e.symm
 refine wpAny_call (Ah (f:=f) I.kIn M.makes M.init (GaK.mp M.fn) (Gck (F.run _ X.stack _ _ ⟨Value.ref (s.heap.objs.size+1)::us,[]⟩ (Value.ref (s.heap.objs.size+1)::(us++ds)) _ _ E (hr.make C us [])
  (I2.L8.make C us []) (hb _ (Value.ref (s.heap.objs.size+1)::us) I2.kIn hl) r2 hq) λr s' yY => ?_))
 cases r with
 |error e=>exact hx ef Z _ _ e s' I2 yY
 |ok fl=>
  cases fl with
  |ret u=>
   obtain⟨v,H',I3,rv,ev,q3⟩:=I2.after yY;subst ev;exact⟨rv,⟨V.ref (s.heap.objs.size+1),H',I3,rfl,q3⟩⟩
  |next=>exact False.elim yY
  |brk=>exact False.elim yY
  |cont=>exact False.elim yY
theorem Ak(M:Mk X.K C f)(F:cy X.prog X.w X.K X.mg X.base CX k f fd ps sp)(hr:cw (k+1) X.A)(hg:Gl X x)(hm:X.mg x=some (.ref C))(hb:Binds X.K fd ps ds)(hd:Vals dvs ds)(hx:Passes CX X E)
  (xj:autoParam ((x==("__debug__":Str))=false) Za2._auto_1):PE X (.Call (.Name x p) [] [] pos) (La C sp dvs E L6):=by
 intro ef s Z H Q I h;refine GbS (iK I hg hm ?_ xj);exact PySem.W.callWith_K0 I.kIn M.kp (Aj (us:=[]) M F hr hb hd hx I .nil h)
end
structure cX(N P:List Str)(sc:Scope):Prop where
 kind:sc.kind= .function
 co:sc.isCoroutine=false
 gen:sc.isGenerator=false
 nd:N.Nodup
 pre:N.take P.length=P
 par:∀x∈P,sc.names.lookup x=some .local\/sc.names.lookup x=some .cell
 K7:∀y∈sc.names,y.2≠ .free
theorem o8{kindOf:Str->Option NameKind}{x:Str}:∀{binds:List (Str×Value)} {m:Str->Option Value},(∀v,(x,v)∉binds)->bindL kindOf binds m x=m x
 |[],_,_=>rfl
 |(n,v)::r,m,h=>by
  unfold bindL;rw[o8 λw hw=>h w (Gat _ hw)];split
  .have:x≠n:=by rintro rfl;exact h v GaI
   simp[this]
  .rfl
theorem o9{kindOf:Str->Option NameKind}{x:Str}:∀{binds:List (Str×Value)} {m:Str->Option Value},(∀v,(x,v)∉binds)->bindC kindOf binds m x=m x
 |[],_,_=>rfl
 |(n,v)::r,m,h=>by
  unfold bindC;rw[o9 λw hw=>h w (Gat _ hw)];split
  .rfl
  .have:x≠n:=by rintro rfl;exact h v GaI
   simp[this]
theorem oa{kindOf:Str->Option NameKind}{x:Str}{v:Value}:∀{P:List Str} {vs:List Value} {i:Nat} {m:Str->Option Value},P.Nodup->P[i]? =some x->vs[i]? =some v->kindOf x=some .local->
  bindL kindOf (P.zip vs) m x=some v
 |[],_,_,_,_,h,_,_=>by simp at h
 |_::_,[],_,_,_,_,h,_=>by simp at h
 |p::P,w::vs,0,m,nd,h1,h2,hk=>by
  simp at h1 h2;subst h1;subst h2
  show bindL kindOf ((p,w)::P.zip vs) m p=_;unfold bindL;rw[o8 λv hv=>(GaP.mp nd).1 (List.of_mem_zip hv).1,Gak hk];simp
 |p::P,w::vs,i+1,m,nd,h1,h2,hk=>by
  show bindL kindOf ((p,w)::P.zip vs) m x=_;unfold bindL;exact oa (i:=i) (GaP.mp nd).2 (by simpa using h1) (by simpa using h2) hk
theorem og{kindOf:Str->Option NameKind}{x:Str}{v:Value}:∀{P:List Str} {vs:List Value} {i:Nat} {m:Str->Option Value},P.Nodup->P[i]? =some x->vs[i]? =some v->kindOf x≠some .local->
  bindC kindOf (P.zip vs) m x=some v
 |[],_,_,_,_,h,_,_=>by simp at h
 |_::_,[],_,_,_,_,h,_=>by simp at h
 |p::P,w::vs,0,m,nd,h1,h2,hk=>by
  simp at h1 h2;subst h1;subst h2
  show bindC kindOf ((p,w)::P.zip vs) m p=_;unfold bindC;rw[o9 λv hv=>(GaP.mp nd).1 (List.of_mem_zip hv).1,Gam hk];simp
 |p::P,w::vs,i+1,m,nd,h1,h2,hk=>by
  show bindC kindOf ((p,w)::P.zip vs) m x=_;unfold bindC;exact og (i:=i) (GaP.mp nd).2 (by simpa using h1) (by simpa using h2) hk
noncomputable def start(N:List Str)(vs:List V):St:=vs.map some++List.replicate (N.length -vs.length) none
noncomputable def jc(CX:CXT)(P:Program)(w:World)(K:PySem.W.Frag)(mg:Str->Option Value)(base:Heap)(N:List Str)(qual:Str)(scope:Scope)(f:Addr)(cd:Value)(A:Around)(outer:List Env)(s:Shared)(H:Hp)(E:XK):Cx where
 prog:=P
 w:=w
 K:=K
 mg:=mg
 base:=base
 A:=A.deeper (envOfC qual scope s.heap.objs.size f cd)
 N:=N
 s₀:=s
 H0:=H
 env:=envOfC qual scope s.heap.objs.size f cd
 outer:=outer
 stack:=envOfC qual scope s.heap.objs.size f cd::outer
 ex:=[]
 calm:=true
 fn:=λ_=>true
 pn:=[]
 xe:=λe s' =>wpAny (model P w) (A.deeper (envOfC qual scope s.heap.objs.size f cd)) (leaving (envOfC qual scope s.heap.objs.size f cd) e) (λ_ yL =>CX outer H s E e yL) (λe' yL =>CX outer H s E e' yL) s'
theorem qq{sc:Scope}{n:Nat}{x:Str}(h:sc.names.lookup x=some .cell):∃c,(cellsFrom n sc.names []).lookup x=some c:=by
 have q:=PySem.W.cellsFrom_some sc.names n [] (.inl h);exact Option.isSome_iff_exists.mp q
variable{scope:Scope}{qual:Str}{N:List Str}
theorem vF{CX:CXT}{K:PySem.W.Frag}{cd:Value}{s1:Shared}{E:XK}{vs:List V}
  (S:cX N ps scope)(hd:A.handled=none)(e0:sf P w K mg base A outer s H)(hl:vs.length=ps.length)(r:Vals vs us)
  (x:InCallC s s.heap.objs.size (bindL (envOfC qual scope s.heap.objs.size f cd).kindOf (ps.zip us) λ_=>none) (cellsFrom (s.heap.objs.size+1) scope.names []) (bindC (envOfC qual scope s.heap.objs.size f cd).kindOf (ps.zip us) λ_=>none) s1):
  Inv (jc CX P w K mg base N qual scope f cd A outer s H E) [] (start N vs) H s1:=by
 have xf:ps.length<=N.length:=by have:=congrArg List.length S.pre;rw[GaQ] at this;lia
 obtain⟨h1,tk,rfl,hk⟩:=x.done;have noA:∀b:Addr,b∉(jc CX P w K mg base N qual scope f cd A outer s H E).ex:=λb z=>absurd (show b∈([]:List Addr) from z) (by simp);refine⟨⟨e0.mod,S.kind,rfl,rfl,Gar _,λy z c h1 h2=> ?_,λy hy=> ?_,λy c _ h=> ?_,λ_=>hd,Around.frames_deeper e0.frames,.inr ⟨rfl,rfl⟩,λb z=>absurd z (noA b),e0.bs,e0.bsz,λb _ _=>noA b,λb z=>absurd z (noA b),e0.lV,e0.frf⟩,
  rfl,e0.bare,Un.kept hk,⟨_,x.toInCall.ns,λi y v h1 h2 h3=> ?_⟩,λy c h=> ⟨_,x.cell y c h⟩,e0.hok.fresh (Gar _),λy c h=> ?_,λp hp=>absurd (show p∈([]:LAO) from hp) (by simp),e0.hok.kept hk, ?_⟩
 .exact name_of_addr x.apart (PySem.mem_of_lookup h1) (PySem.mem_of_lookup h2)
 .have hy:scope.names.lookup y=some .cell\/scope.names.lookup y=some .free:=hy;rcases hy with hy|hy
  .exact qq hy
  .exact absurd rfl (S.K7 _ (PySem.mem_of_lookup hy))
 .exact Nat.le_of_lt (x.above y c (PySem.mem_of_lookup h))
 .have hi:i<vs.length:=by
   unfold start at h2;by_cases hi:i<vs.length
   .exact hi
   .rw[GaR (by simpa using hi)] at h2;rw[Gbm] at h2;split at h2<;>cases h2
  have ha:vs[i]? =some v:=by
   unfold start at h2;rw[GaM (by simpa using hi),Gap] at h2;cases e:vs[i]? with
   |none=>rw[e] at h2;cases h2
   |some a=>rw[e] at h2;cases h2;rfl
  obtain⟨u,hu,rv⟩:=r.get ha;have hp:ps[i]? =some y:=by
   rw[<-S.pre,List.getElem?_take_of_lt (by lia)];exact h1
  have ndP:ps.Nodup:=by rw[<-S.pre];exact S.nd.sublist (List.take_sublist _ _)
  refine⟨u,rv, ?_⟩;rcases S.par y (GaD hp) with k|k
  .exact .inl ⟨k,oa ndP hp hu k⟩
  .obtain⟨c,e⟩:=qq (n:=s.heap.objs.size+1) k;refine .inr ⟨.inl k,c,e, ?_⟩;have q:=x.cell y c e;rw[og ndP hp hu (by show scope.names.lookup y≠_;rw[k];decide)] at q;exact q
 .exact e0.hok.fresh (Nat.le_of_lt (x.above y c (PySem.mem_of_lookup h)))
 .unfold start;show _=N.length;rw[Gal,Gax,Gci];lia
theorem Al{CX:CXT}{K:PySem.W.Frag}{k:Nat}{name:Str}{params:Arguments}{body:List Stmt}{dV kV doc pm eL ct oc:Value}{an od:Option Addr}
  {ye:Array (Option Value)}{sp:Sp}(lk:K.lookup f=some ⟨oc,od,.func (PySem.W.fnOf name qual params body scope dV kV doc pm an eL ct),ye⟩)(eQ:PySem.W.codeIn K eL qual=true)(S:cX N ps scope)
  (len:∀vs H Q E,sp vs H Q E->vs.length=ps.length)
  (xa:∀(A:Around) (outer:List Env) (s:Shared) (H:Hp) (vs:List V) (Q:VK) (E:XK),cw k (A.deeper (envOfC qual scope s.heap.objs.size f eL))->sp vs H Q E->
   ∃t,PSs (jc CX P w K mg base N qual scope f eL A outer s H E) body t/\t {nx:=λ_ H' =>Q .non H',rt:=Q} (start N vs) H):
  cy P w K mg base CX (k+1) f (PySem.W.fnOf name qual params body scope dV kV doc pm an eL ct) ps sp:=by
 refine⟨len,λA outer s H args us vs Q E hr e0 hb r xQ=> ?_⟩;have hl:=len _ _ _ _ xQ;have KX:K.In s.heap:=e0.mod.kin.keeps λb o e=>(e0.bs b o e).1;have lim:s.heap.NoLimit:=e0.mod.nolimit.keeps λb o e=>(e0.bs b o e).1;have hkind:∀y∈ps.zip us,scope.names.lookup y.1=some .local\/(scope.names.lookup y.1=some .cell/\((cellsFrom (s.heap.objs.size+1) scope.names []).lookup y.1).isSome=true):=λ⟨n,v⟩ hy=>by
  rcases S.par n (List.of_mem_zip hy).1 with q|q
  .exact .inl q
  .exact .inr ⟨q,PySem.W.cellsFrom_some _ _ _ (.inl q)⟩
 refine codeAny_call_function hr.depth (KX _ _ lk) rfl S.co S.gen rfl (PySem.W.codeRec_of KX eQ) (hb _ _ _ _ ?_);refine wpAny_newFunctionEnv_cells S.kind hkind λenv he s1 x=> ?_;subst he;refine⟨lim.keeps x.toInCall.keep,codeAny_func ?_⟩;obtain⟨t,ht,hq⟩:=xa A outer s H vs Q E (hr.deeper _) xQ;have I:Inv (jc CX P w K mg base N qual scope f eL A outer s H E) [] (start N vs) H s1:=vF S hr.hd e0 hl r x;refine Gbd (ht [] s1 (start N vs) H _ I hq) (λfl s' hs=> ?_) λe s' hs=>hs;have fin:∀{Z' :St} {H' :Hp} {v:V} {u:Value},Inv (jc CX P w K mg base N qual scope f eL A outer s H E) [] Z' H' s' ->RelV v u->Q v H' ->CE outer P w H s Q u s' :=
  λ{Z' H' v u} J rv q=> ⟨v,H',J.os,J.bare,J.base,J.hok,rv,q⟩
 cases fl with
 |ret u=>
  obtain⟨v,Z',H',J,rv,q⟩:=hs;exact fin J rv q
 |next=>
  obtain⟨Z',H',J,q⟩:=hs;exact fin (v:=V.non) (u:=Value.none) J rfl q
 |brk=>
  obtain⟨_,_,_,q⟩:=hs;exact False.elim q
 |cont=>
  obtain⟨_,_,_,q⟩:=hs;exact False.elim q
section
variable{X:Cx}{x:Str}{p pos:Pos}{e:Expr}{es:List Expr}{t:TA}{id T:String}{r:List V->Hp->VK->Prop}
def tCB(r:List V->Hp->VK->Prop)(t:TA):TE:=λZ H Q=>t Z H λvs H1=>r vs H1 Q
theorem mq(hc:cn X (.builtin id) r)(hg:Gl X x)(hm:X.mg x=none)(hv:bootBuiltins x=some (.builtin id))(ha:PA X (e::es) t)(hn:autoParam (x≠"__name__") Za2._auto_1)(xj:autoParam ((x==("__debug__":Str))=false) Za2._auto_1)
  (he:autoParam (starEach (e::es) X.env=(false,eval e X.env)::starEach es X.env) Za1._auto_1)(xf:autoParam ((backTo pos (starEach es X.env)).any (·.1)=false) Za1._auto_1):PE X (.Call (.Name x p) (e::es) [] pos) (tCB r t):=by
 intro ef s Z H Q I h;refine GbS (ja I hg hm hv ?_ hn xj);exact PyProof.Rows.callWith_builtin1 (thn (ha pos ef s Z H _ I h) λus s1 ⟨vs,H1,I1,r1,q1⟩=>hc ef s1 Z H1 vs us Q I1 r1 q1) he xf
theorem oh(hc:cn X (.type T) r)(hg:Gl X x)(hm:X.mg x=none)(hv:bootBuiltins x=some (.type T))(ha:PA X (e::es) t)(hn:autoParam (x≠"__name__") Za2._auto_1)(xj:autoParam ((x==("__debug__":Str))=false) Za2._auto_1)
  (he:autoParam (starEach (e::es) X.env=(false,eval e X.env)::starEach es X.env) Za1._auto_1)(xf:autoParam ((backTo pos (starEach es X.env)).any (·.1)=false) Za1._auto_1):PE X (.Call (.Name x p) (e::es) [] pos) (tCB r t):=by
 intro ef s Z H Q I h;refine GbS (ja I hg hm hv ?_ hn xj);exact Gbg (thn (ha pos ef s Z H _ I h) λus s1 ⟨vs,H1,I1,r1,q1⟩=>hc ef s1 Z H1 vs us Q I1 r1 q1) he xf
end
end L2
namespace HT
open PySem PyProof.Rows
section
open PySem.SeqAt
open PySem.AutoSeq1 (wpAny_loadPart')
open PySem.MeetsSeq PySem.MeetsSeq2 PySem.MeetsSeq3
end
section
variable{prog:Program}{w:World}{A:Around}{E:VSP}{s:Shared}
theorem Dq{t b:Addr}{vs ws:List Value}{Q:VSP}(ht:IsTup s.heap t vs.toArray)(hb:IsTup s.heap b ws.toArray)(hv:vs≠[])
  (h1:ws=[]->Q (.ref t) s)(h2:ws≠[]->Q (.ref s.heap.objs.size) {s with heap:=s.heap.push {cls:= .type "tuple",data:= .seq (vs++ws).toArray}})
  (hsz:vs.length+ws.length<=sizeLine):wpAny (model prog w) A (binaryOp .Add (.ref t) (.ref b)) Q E s:=by
 obtain⟨⟨cls,dd,data,sl⟩,ho,hc,n,hd⟩:=id ht;obtain⟨⟨Q9,zG,data2,zq⟩,yj,zd,n2,hd2⟩:=id hb;simp only at hc hd zd hd2;subst hc hd zd hd2;have e:vs.toArray++ws.toArray=(vs++ws).toArray:=by simp
 by_cases hw:ws=[]
 .exact concat_meets ⟨_,ho,rfl⟩ ⟨_,yj,rfl⟩ noFill_tuple_add seq_tuple_add Gcc GbY (GbT _ _)
   (tuple_addW1 t b vs.toArray ws.toArray n n2 dd zG sl zq (by simpa using hv) (by simp[hw])) ⟨ho,yj,h1 hw⟩
 .refine concat_meets ⟨_,ho,rfl⟩ ⟨_,yj,rfl⟩ noFill_tuple_add seq_tuple_add Gcc GbY (GbT _ _)
   (tuple_addW2 t b vs.toArray ws.toArray n n2 dd zG sl zq (by simpa using hv) (by simpa using hw) (by rw[Gai,Gai];exact hsz)) ⟨ho,yj, ?_⟩
  rw[e];exact h2 hw
noncomputable def sIx(n d:Nat):Option Int->Nat
 |none=>d
 |some v=>if v<0 then(v+(n:Int)).toNat else min v.toNat n
theorem GZ(n d:Nat)(hd:d<=n)(o:Option Int):sIx n d o<=n:=by
 cases o with
 |none=>exact hd
 |some v=>
  show(if v<0 then(v+(n:Int)).toNat else min v.toNat n)<=n;by_cases hv:v<0
  .rw[Gak hv];lia
  .rw[Gam hv];exact Nat.min_le_right _ _
theorem tZ(v:Int)(n d:Nat):(if v<0 then max (v+(n:Int)) 0 else min v (n:Int))=((sIx n d (some v):Nat):Int):=by
 show(if v<0 then max (v+(n:Int)) 0 else min v (n:Int))=(((if v<0 then(v+(n:Int)).toNat else min v.toNat n):Nat):Int);by_cases hv:v<0
 .simp only[Gak hv];lia
 .simp only[Gam hv];lia
theorem sg(lo hi:Option Int)(n:Nat):Builtin.Slice.sliceAdjust lo hi 1 (n:Int)=(((sIx n 0 lo:Nat):Int),((sIx n n hi:Nat):Int)):=by
 have h1:¬((1:Int)<0):=by lia
 unfold Builtin.Slice.sliceAdjust;simp only[h1,if_false];refine Prod.ext ?_ ?_
 .cases lo with
  |none=>rfl
  |some v=>exact tZ v n 0
 .cases hi with
  |none=>rfl
  |some v=>exact tZ v n n
theorem so(i j:Nat):Builtin.Slice.slicePlaces (i:Int) (j:Int) 1=j -i:=by
 unfold Builtin.Slice.slicePlaces;have h1:(1:Int)>0:=by lia
 simp only[h1,if_true,Int.ediv_one];split<;>lia
theorem mr{v:Value}{o:Option Int}{Q:Option Int->Shared->Prop}(p:IsPart v o)(h:Q o s):wpAny (model prog w) A (Builtin.Slice.slicePartIndex v) Q E s:=by
 cases p with
 |none=>exact slicePart_none h
 |int i t=>exact slicePart_int h
variable{lo hi:Option Int}{vl vu:Value}{sl:Addr}
theorem kr{n:Nat}{Q:Int×Int×Nat->Shared->Prop}(hs:s.heap.IsSliceOf sl vl vu .none)(pl:IsPart vl lo)(pu:IsPart vu hi)
  (h:Q (((sIx n 0 lo:Nat):Int),1,sIx n n hi -sIx n 0 lo) s):wpAny (model prog w) A (Builtin.Slice.sliceApplied (.ref sl) (pure (n:Int))) Q E s:=by
 obtain⟨os,yD,Q0,hds⟩:=id hs;unfold Builtin.Slice.sliceApplied Builtin.Slice.sliceFields;refine Gag (Gag (wpAny_field yD hds (x:=vl) rfl (Gag (wpAny_field yD hds (x:=vu) rfl (Gag (wpAny_field yD hds (x:= .none) rfl (Gaq ?_)))))));refine Gag (slicePart_none ?_);show wpAny _ _ (if((1:Int)==0)=true then _ else _) _ _ s;rw[Gam (by decide)];refine Gag (mr pl (Gag (mr pu (Gag (Gaq ?_)))));show wpAny _ _ (match Builtin.Slice.sliceAdjust lo hi 1 (n:Int) with|(lo,hi)=>pure (lo,(1:Int),Builtin.Slice.slicePlaces lo hi 1)) _ _ s;rw[sg lo hi n];show wpAny _ _ (pure (((sIx n 0 lo:Nat):Int),(1:Int),Builtin.Slice.slicePlaces ((sIx n 0 lo:Nat):Int) ((sIx n n hi:Nat):Int) 1)) _ _ s;rw[so];exact Gaq h
theorem Am(xs:Array Value)(i k:Nat):((List.range k).filterMap λ(m:Nat)=>xs[((i:Int)+(m:Int)*1).toNat]?).toArray=((xs.toList.drop i).take k).toArray:=by
 have e:(λ(m:Nat)=>xs[((i:Int)+(m:Int)*1).toNat]?)=λm=>xs[i+m]? :=by
  funext m
  have:((i:Int)+(m:Int)*1).toNat=i+m:=by lia
  rw[this]
 rw[e];have:=pick_run xs i k;rw[List.filterMap_map] at this;have e2:((λx=>xs[x]?)∘λx=>i+x)=λm=>xs[i+m]? :=rfl;rw[e2] at this;rw[this]
theorem jB{t:Addr}{items:Array Value}{Q:VSP}(ht:IsTup s.heap t items)(hs:s.heap.IsSliceOf sl vl vu .none)(pl:IsPart vl lo)(pu:IsPart vu hi)
  (hw:¬(sIx items.size 0 lo=0/\sIx items.size items.size hi=items.size))
  (h:Q (.ref s.heap.objs.size) {s with heap:=s.heap.push {cls:= .type "tuple",data:= .seq ((items.toList.drop (sIx items.size 0 lo)).take (sIx items.size items.size hi -sIx items.size 0 lo)).toArray}})
  (hsz:items.size<=sizeLine):wpAny (model prog w) A (getItem (.ref t) (.ref sl)) Q E s:=by
 have htake:sizeOk (.seq ((items.toList.drop (sIx items.size 0 lo)).take (sIx items.size items.size hi -sIx items.size 0 lo)).toArray):=by
  show((items.toList.drop (sIx items.size 0 lo)).take (sIx items.size items.size hi -sIx items.size 0 lo)).toArray.size<=sizeLine;rw[Gai,GaQ,GbA,Gcy];lia
 have hj:sIx items.size items.size hi<=items.size:=GZ _ _ (Gar _) hi;obtain⟨os,yD,Q0,hds⟩:=id hs;have hTs:s.TypeIs (.ref sl) "slice":=⟨os,yD,Q0⟩
 unfold getItem
 try with_reducible refine wpAny_holding ?_
 first|refine Gag (Gaq ?_)|skip
 refine Gag (wpAny_sequenceKey ht.typeIs (by decide) ?_);refine Gag (Gbn (name:=Str.ofString "__getitem__") ht.typeIs GbC
  (GbN GbC ht.typeIs entry_tuple_getitem ?_ (args_tuple_getitem _ _)))
 show wpAny _ _ (Builtin.Tuple.tupleItemsOf (.ref t)>>=_) _ _ s;refine Gag (tupleItemsOf_ ht ?_);refine Gag (wpAny_typeOf hTs ?_);rw[Gak (by decide)];refine Gag (kr hs pl pu ?_);have hno:¬((((sIx items.size 0 lo:Nat):Int)==0&&(1:Int)==1&&(sIx items.size items.size hi -sIx items.size 0 lo)==items.size)=true):=by
  intro q;rw[Gad,Gad] at q;have q1:((sIx items.size 0 lo:Nat):Int)=0:=eq_of_beq q.1.1;have q2:sIx items.size items.size hi -sIx items.size 0 lo=items.size:=eq_of_beq q.2;exact hw ⟨by lia,by lia⟩
 show wpAny _ _ (if(((sIx items.size 0 lo:Nat):Int)==0&&(1:Int)==1&&(sIx items.size items.size hi -sIx items.size 0 lo)==items.size)=true then _ else _) _ _ s;rw[Gam hno,Am]
 first
  |exact Gag (m:=Builtin.Tuple.tupleExact _) (Gbv (Gaq ⟨_,rfl,Gaq h⟩) htake)
  |exact Gag (m:=Builtin.Tuple.tupleExact _) (Gbv (Gag (Gaq (Gaq ⟨_,rfl,Gaq h⟩))) htake)
  |exact Gag (Gag (m:=Builtin.Tuple.tupleExact _) (Gbv (Gaq (Gaq ⟨_,rfl,Gaq h⟩)) htake))
  |exact Gag (Gag (m:=Builtin.Tuple.tupleExact _) (Gbv (Gaq ⟨_,rfl,Gaq h⟩) htake))
end
end HT
namespace L2
open PySem PySem.Spec PyProof.Rows
abbrev TO:=St->Hp->(Option Int->Hp->Prop)->Prop
def PO(X:Cx)(e:Option Expr)(t:TO):Prop:=
 ∀(ef:LAO) (s:Shared) (Z:St) (H:Hp) (Q:Option Int->Hp->Prop),Inv X ef Z H s->t Z H Q->
  wpAny (model X.prog X.w) X.A (evalPart e X.env) (λu s' =>∃o H',Inv X ef Z H' s' /\IsPart u o/\Q o H') X.xe s
def Dr:TO:=λ_ H Q=>Q none H
def Lb(t:TE):TO:=λZ H Q=>t Z H λx H1=>∃i,x= .int i/\Q (some i) H1
section
variable{X:Cx}{e:Expr}{te:TE}{lo hi:Option Expr}{tl th:TO}{pos p2:Pos}
theorem u0:PO X none Dr:=by
 intro ef s Z H Q I h;rw[evalPart_none];exact Gaq ⟨none,H,I,.none,h⟩
theorem u5(h:PE X e te):PO X (some e) (Lb te):=by
 intro ef s Z H Q I hw;rw[evalPart_some];refine thn (h ef s Z H _ I hw) λu s1 ⟨x,H1,I1,r1,q1⟩=> ?_;obtain⟨i,rfl,q⟩:=q1;obtain⟨t,rfl⟩:=r1;exact⟨some i,H1,I1,.int i t,q⟩
def SlR(X:Cx)(r:V->Option Int->Option Int->Hp->VK->Prop):Prop:=
 ∀(ef:LAO) (s:Shared) (Z:St) (H:Hp) (x:V) (v vl vu:Value) (lo hi:Option Int) (sl:Addr) (Q:VK),Inv X ef Z H s->RelV x v->s.heap.IsSliceOf sl vl vu .none->IsPart vl lo->IsPart vu hi->r x lo hi H Q->
  ∃T id,typeLookup (.type T) "__getitem__"=pure (some (.builtin id))/\s.TypeIs v T/\wpAny (model X.prog X.w) X.A (getItem v (.ref sl)) (EP X ef Z Q) X.xe s
theorem SlR.or{r r' :V->Option Int->Option Int->Hp->VK->Prop}(h:SlR X r)(h' :SlR X r'):SlR X (λx lo hi H Q=>r x lo hi H Q\/r' x lo hi H Q):=by
 intro ef s Z H x v vl vu lo hi sl Q I rx hs pl pu q;rcases q with q|q
 .exact h ef s Z H x v vl vu lo hi sl Q I rx hs pl pu q
 .exact h' ef s Z H x v vl vu lo hi sl Q I rx hs pl pu q
def tSl(r:V->Option Int->Option Int->Hp->VK->Prop)(te:TE)(tl th:TO):TE:=λZ H Q=>te Z H λx H1=>tl Z H1 λl H2=>th Z H2 λu H3=>r x l u H3 Q
theorem qr{r:V->Option Int->Option Int->Hp->VK->Prop}(hr:SlR X r)(he:PE X e te)(hl:PO X lo tl)(hu:PO X hi th):PE X (.Subscript e (.Slice lo hi none p2) pos) (tSl r te tl th):=by
 intro ef s Z H Q I h;refine Subscript_ (thn (he ef s Z H _ I h) λv s1 ⟨x,H1,I1,r1,q1⟩=> ?_);refine wpAny_Slice (thn (hl ef s1 Z H1 _ I1 q1) λvl s2 ⟨l,H2,I2,pl,q2⟩=>thn (hu ef s2 Z H2 _ I2 q2) λvu s3 ⟨u,H3,I3,pu,q3⟩=> ?_);rw[evalPart_none];refine Gaq ?_;have I4:Inv X ef Z H3 {s3 with heap:=s3.heap.push {cls:= .type "slice",data:= .fields #[vl,vu,.none]}}:=I3.kept (t' :=s3.toks) λb ob q=>Gae _ q;obtain⟨T,id,hT,ht,hg⟩:=hr ef {s3 with heap:=s3.heap.push {cls:= .type "slice",data:= .fields #[vl,vu,.none]}} Z H3 x v vl vu l u s3.heap.objs.size Q I4 r1 (Heap.IsSliceOf.new ..) pl pu q3;show wpAny (model X.prog X.w) X.A (subscriptTail e (.Slice lo hi none p2) v (.ref s3.heap.objs.size)) (EP X ef Z Q) X.xe {s3 with heap:=s3.heap.push {cls:= .type "slice",data:= .fields #[vl,vu,.none]}};exact tail_any (ops:=[.ref s3.heap.objs.size,v]) ht hT hg (by with_unfolding_all rfl)
def qu(xs:List V)(lo hi:Option Int):List V:=(xs.drop (HT.sIx xs.length 0 lo)).take (HT.sIx xs.length xs.length hi -HT.sIx xs.length 0 lo)
theorem lq(xs:List V)(lo hi:Option Int):(qu xs lo hi).length<=xs.length:=by
 unfold qu;rw[GaQ,GbA];lia
def Of(K:PySem.W.Frag):V->Option Int->Option Int->Hp->VK->Prop:=λx lo hi H Q=>∃a xs,x= .ref a/\SqT K H a xs/\
 ¬(HT.sIx xs.length 0 lo=0/\HT.sIx xs.length xs.length hi=xs.length)/\∀p,H p=none->Q (.ref p) (upd H p (.tup (qu xs lo hi)))
theorem Ha:SlR X (Of X.K):=by
 intro ef s Z H x v vl vu lo hi sl Q I rx hs pl pu h;obtain⟨a,xs,rfl,hx,hw,q⟩:=h;cases rx;obtain⟨eh,r,ht,hz⟩:=I.tuple hx;have eJ:eh.toArray.size=xs.length:=by rw[Gai];exact r.length.symm
 refine⟨"tuple",_,GbC.lookup,ht.typeIs, ?_⟩;refine HT.jB ht hs pl pu (by rw[eJ];exact hw) ?_ (by rw[eJ];exact hz);rw[eJ];refine⟨.ref s.heap.objs.size,_,I.laid (t' :=s.toks) (o:= .tup (qu xs lo hi)) (λb ob q=>Gae _ q) (Gar _) ?_,rfl,q _ (I.hok.fresh (Gar _))⟩;exact⟨GaL (lq xs lo hi) hz,_,(r.drop (HT.sIx xs.length 0 lo)).take (HT.sIx xs.length xs.length hi -HT.sIx xs.length 0 lo),IsTup.new _ _⟩
def FV(K:PySem.W.Frag):R2:=λx y H Q=>∃a b xs ys,x= .ref a/\y= .ref b/\SqT K H a xs/\SqT K H b ys/\xs≠[]/\xs.length+ys.length<=sizeLine/\
 (ys=[]->Q (.ref a) H)/\(ys≠[]->∀p,H p=none->Q (.ref p) (upd H p (.tup (xs++ys))))
theorem Vals.bP{xs:List V}{us:List Value}(r:Vals xs us):us=[]↔xs=[]:=by
 cases r with
 |nil=>simp
 |cons _ _=>simp
theorem Ds:OpR X (binaryOp .Add) (FV X.K):=by
 intro ef s Z H x y v u Q I rx ry h;obtain⟨a,b,xs,ys,rfl,rfl,ha,hb,hx,hz,q1,q2⟩:=h;cases rx;cases ry;obtain⟨eh,r1,p1,_⟩:=I.tuple ha;obtain⟨eF,r2,p2,_⟩:=I.tuple hb;refine HT.Dq p1 p2 (λz=>hx (r1.bP.mp z)) (λz=> ⟨.ref a,H,I,rfl,q1 (r2.bP.mp z)⟩) (λz=> ?_) (by rw[<-r1.length,<-r2.length];exact hz);refine⟨.ref s.heap.objs.size,_,I.laid (t' :=s.toks) (o:= .tup (xs++ys)) (λb ob q=>Gae _ q) (Gar _) ?_,rfl,q2 (λw=>z (r2.bP.mpr w)) _ (I.hok.fresh (Gar _))⟩;exact⟨by rw[Gal];exact hz,_,r1.append r2,IsTup.new _ _⟩
end
noncomputable def ixN(n:Nat)(i:Int):Option Nat:=if 0<=i then(if i<n then some i.toNat else none) else if -(n:Int)<=i then some (i+n).toNat else none
def atI{α:Type}(xs:List α)(i:Int):Option α:=(ixN xs.length i).bind λj=>xs[j]?
variable{i:Int}
theorem u6{n:Nat}{j:Nat}(h:ixN n i=some j):seqIndex? i n=some j/\j<n/\-(n:Int)<=i/\i<n:=by
 unfold ixN at h;by_cases h0:0<=i
 .rw[Gak h0] at h;by_cases h1:i<n
  .rw[Gak h1] at h;have e:i.toNat=j:=Option.some.inj h;exact⟨by rw[seqIndex_of h0 h1,e],by lia,by lia,h1⟩
  .rw[Gam h1] at h;cases h
 .rw[Gam h0] at h;by_cases h1: -(n:Int)<=i
  .rw[Gak h1] at h;have e:(i+n).toNat=j:=Option.some.inj h;exact⟨by rw[seqIndex_neg (by lia) h1,e],by lia,h1,by lia⟩
  .rw[Gam h1] at h;cases h
theorem pE{α:Type}{xs:List α}{v:α}(h:atI xs i=some v):∃j,seqIndex? i xs.length=some j/\xs[j]? =some v/\j<xs.length/\-(xs.length:Int)<=i/\i<xs.length:=by
 unfold atI at h;cases e:ixN xs.length i with
 |none=>rw[e] at h;cases h
 |some j=>
  rw[e] at h;obtain⟨h1,h2,h3,h4⟩:=u6 e;exact⟨j,h1,h,h2,h3,h4⟩
def m4(b:Expr):Prop:=∀o i,subscripted b false o i=operate [o,i] (getItem o i)
def IxR(X:Cx)(r:R2):Prop:=
 ∀(value slice:Expr) (ef:LAO) (s:Shared) (Z:St) (H:Hp) (x y:V) (v u:Value) (Q:VK),Inv X ef Z H s->RelV x v->RelV y u->r x y H Q->
  subscripted slice false v u=operate [v,u] (getItem v u)->wpAny (model X.prog X.w) X.A (subscriptTail value slice v u) (EP X ef Z Q) X.xe s
def MtR(X:Cx)(id:String)(r:V->List V->Hp->VK->Prop):Prop:=
 ∀(ef:LAO) (s:Shared) (Z:St) (H:Hp) (x:V) (xs:List V) (v:Value) (us:List Value) (Q:VK),Inv X ef Z H s->RelV x v->Vals xs us->r x xs H Q->
  wpAny (model X.prog X.w) X.A (call (.builtin id) (v::us)) (EP X ef Z Q) X.xe s
section
variable{X:Cx}{a b:Expr}{ta tb:TE}{pos:Pos}
theorem IxR.or{r r' :R2}(h:IxR X r)(h' :IxR X r'):IxR X (λx y H Q=>r x y H Q\/r' x y H Q):=by
 intro value slice ef s Z H x y v u Q I rx ry q hs;rcases q with q|q
 .exact h value slice ef s Z H x y v u Q I rx ry q hs
 .exact h' value slice ef s Z H x y v u Q I rx ry q hs
theorem FW{r:R2}(hr:IxR X r)(ha:PE X a ta)(hb:PE X b tb)(hs:m4 b):PE X (.Subscript a b pos) (tOp r ta tb):=by
 intro ef s Z H Q I h;exact Subscript_ (GQ ha hb I h λv u s2 x y H2 I2 rx ry q=>hr a b ef s2 Z H2 x y v u Q I2 rx ry q (hs _ _))
def Lc(K:PySem.W.Frag):R2:=λx y H Q=>∃p xs i v,x= .ref p/\y= .int i/\SqL K H p xs/\atI xs i=some v/\Q v H
def Ld(K:PySem.W.Frag):R2:=λx y H Q=>∃p xs i v,x= .ref p/\y= .int i/\SqT K H p xs/\atI xs i=some v/\Q v H
def Le:R2:=λx y H Q=>∃z i c,x= .str z/\y= .int i/\z.length<=sizeLine/\atI z.cps.toList i=some c/\Q (.str ⟨#[c]⟩) H
theorem Dt:IxR X (Lc X.K):=by
 intro value slice ef s Z H x y v u Q I rx ry h hs;obtain⟨p,xs,i,z,rfl,rfl,hq,he,q⟩:=h;cases rx;obtain⟨t,rfl⟩:=ry;obtain⟨eh,r,pl,hz⟩:=I.list hq;obtain⟨j,h1,h2,h3,h4,h5⟩:=pE he;obtain⟨w,ew,yd⟩:=r.get h2;have hl:=r.length;have hn:=ml;have fin:EP X ef Z Q w s:=⟨z,H,I,yd,q⟩
 by_cases h0:0<=i
 .have hj:i.toNat=j:=by
   rw[seqIndex_of h0 h5] at h1;exact Option.some.inj h1
  exact item_listR pl.isList h0 (by lia) (by rw[hj];simpa using ew) fin hs
 .have hj:(i+(eh.toArray.size:Int)).toNat=j:=by
   rw[seqIndex_neg (by lia) h4] at h1;rw[Gai,<-hl];exact Option.some.inj h1
  exact subscriptTail_builtinR (x:=w) pl.isList.typeIs slot_list_getitem.lookup
   (wpAny_getItem_list_neg (Q:=λr s' =>r=w/\EP X ef Z Q r s') pl.isList (by lia) (by rw[Gai]<;>lia) (by lia) (by rw[hj];simpa using ew) ⟨rfl,fin⟩) hs
theorem Hb:IxR X (Ld X.K):=by
 intro value slice ef s Z H x y v u Q I rx ry h hs;obtain⟨p,xs,i,z,rfl,rfl,hq,he,q⟩:=h;cases rx;obtain⟨t,rfl⟩:=ry;obtain⟨eh,r,pl,hz⟩:=I.tuple hq;obtain⟨j,h1,h2,h3,h4,h5⟩:=pE he;obtain⟨w,ew,yd⟩:=r.get h2;have hl:=r.length;have hn:=ml;have fin:EP X ef Z Q w s:=⟨z,H,I,yd,q⟩
 exact subscriptTail_builtinR (x:=w) pl.typeIs slot_tuple_getitem.lookup
  (getItem_tuple (j:=j) (Q:=λr s' =>r=w/\EP X ef Z Q r s') pl (by lia) (by lia) (by rw[Gai,<-hl];exact h1) (by simpa using ew) ⟨rfl,fin⟩) hs
theorem Hc:IxR X Le:=by
 intro value slice ef s Z H x y v u Q I rx ry h hs;obtain⟨z,i,c,rfl,rfl,hz,he,q⟩:=h;obtain⟨t,rfl⟩:=rx;obtain⟨t',rfl⟩:=ry;obtain⟨j,h1,h2,h3,h4,h5⟩:=pE he;have hl:z.cps.toList.length=z.length:=by simp[Str.length]
 rw[hl] at h1 h4 h5;have hn:=ml;exact tail_any (GbX s z t) slot_str_getitem.lookup (getItem_str (c:=c) (by
  have e1:decide (i< -(2^63:Int))=false:=GaV (by lia);have e2:decide (i>=2^63)=false:=GaV (by lia);rw[e1,e2,Bool.or_false]) (by rw[h1];simpa using h2) ⟨.str ⟨#[c]⟩,H,I.tok _,⟨_,rfl⟩,q⟩) hs
def rIx(K:PySem.W.Frag):R2:=λx y H Q=>Lc K x y H Q\/Ld K x y H Q\/Le x y H Q
theorem He:IxR X (rIx X.K):=Dt.or (Hb.or Hc)
theorem sr(eh:List Value)(n j:Nat)(u:Value):Obj.mapSeq (·.setIfInBounds j u) {cls:= .type "list",data:= .seq eh.toArray n}={cls:= .type "list",data:= .seq (eh.set j u).toArray n}:=by
 simp[Obj.mapSeq]
theorem Inv.lst{ef:LAO}{Z:St}{H:Hp}{s:Shared}{p:Addr}{xs:List V}(I:Inv X ef Z H s)(h:H p=some (.lst xs)):
  ∃(eh:List Value) (n:Nat),Vals xs eh/\s.heap.get? p=some {cls:= .type "list",data:= .seq eh.toArray n}/\xs.length<=sizeLine:=by
 obtain⟨z,eh,n,r,e⟩:=I.hok p _ h;exact⟨eh,n,r,e,z⟩
variable{s:Shared}{H:Hp}{Z:St}{ef:LAO}
theorem Inv.Hf{p:Addr}{xs ys:List V}{eh its' :List Value}{n n' :Nat}{f:Obj->Obj}(I:Inv X ef Z H s)(h:H p=some (.lst xs))
  (ho:s.heap.get? p=some {cls:= .type "list",data:= .seq eh.toArray n})(hf:f {cls:= .type "list",data:= .seq eh.toArray n}={cls:= .type "list",data:= .seq its'.toArray n' })(r:Vals ys its')(hz:ys.length<=sizeLine)(t:Nat):
  Inv X ef Z (upd H p (.lst ys)) {s with heap:=s.heap.update p f,toks:=t}:=by
 have e:(s.heap.update p f).get? p=some {cls:= .type "list",data:= .seq its'.toArray n' }:=by
  rw[Heap.get?_update_self f ho (by rw[hf]<;>rfl),hf]
 refine I.write (x:=p) (e:=p) (by rw[h];trivial) (.inl rfl) (λb u hb q=>(Heap.get?_update_other _ _ (GaU hb)).trans q) ⟨_,e⟩ ?_;exact⟨hz,its',n',r,e⟩
def FY:V->V->V->Hp->(Hp->Prop)->Prop:=λo i v H Q=>∃p xs k j,o= .ref p/\i= .int k/\H p=some (.lst xs)/\ixN xs.length k=some j/\Q (upd H p (.lst (xs.set j v)))
theorem set_list:KJ X FY:=by
 intro ef s Z H o i v ov iv u Q I ro ri rv h;obtain⟨p,xs,k,j,rfl,rfl,hp,hj,q⟩:=h;cases ro;obtain⟨t,rfl⟩:=ri;obtain⟨eh,n,r,ho,hz⟩:=I.lst hp;obtain⟨h1,h2,h3,h4⟩:=u6 hj;have hl:=r.length;have hn:=ml;have I' :Inv X ef Z (upd H p (.lst (xs.set j v))) {s with heap:=s.heap.update p (Obj.mapSeq (·.setIfInBounds j u))}:=
  I.Hf hp ho (sr eh n j u) (r.set rv j) (by rw[Gcl];exact hz) s.toks
 by_cases h0:0<=k
 .have hk:k.toNat=j:=by
   rw[seqIndex_of h0 h4] at h1;exact Option.some.inj h1
  exact PySem.W.ki_setAt ho h0 (by lia) (by rw[Gai,<-hl];exact h4) (by rw[hk];exact⟨_,I',q⟩)
 .have hk:(k+(eh.toArray.size:Int)).toNat=j:=by
   rw[seqIndex_neg (by lia) h3] at h1;rw[Gai,<-hl];exact Option.some.inj h1
  exact PySem.W.ki_setBack ho (by lia) (by rw[Gai,<-hl];exact h3) (by lia) (by rw[hk];exact⟨_,I',q⟩)
theorem pF(lo hi:Option Int)(n:Nat):(sliceBounds lo hi none n).1=((HT.sIx n 0 lo:Nat):Int)/\(sliceBounds lo hi none n).2.1=((HT.sIx n n hi:Nat):Int)/\(sliceBounds lo hi none n).2.2=1:=by
 refine⟨?_, ?_,rfl⟩
 .cases lo with
  |none=>simp[sliceBounds,HT.sIx]
  |some i=>
   simp only[sliceBounds,HT.sIx,Option.getD_none,show(1:Int)>0 by decide,if_true];by_cases h:i<0
   .simp only[h,if_true]<;>lia
   .simp only[h,if_false]<;>lia
 .cases hi with
  |none=>simp[sliceBounds,HT.sIx]
  |some i=>
   simp only[sliceBounds,HT.sIx,Option.getD_none,show(1:Int)>0 by decide,if_true];by_cases h:i<0
   .simp only[h,if_true]<;>lia
   .simp only[h,if_false]<;>lia
theorem nQ(eh:List Value)(lo hi:Option Int):slicePick eh.toArray lo hi none=((eh.drop (HT.sIx eh.length 0 lo)).take (HT.sIx eh.length eh.length hi -HT.sIx eh.length 0 lo)).toArray:=by
 obtain⟨h1,h2,h3⟩:=pF lo hi eh.toArray.size;unfold slicePick;rw[h1,h2,h3];simp only[sliceRange_one,pick_run,Gai]<;>rfl
def Og(K:PySem.W.Frag):V->Option Int->Option Int->Hp->VK->Prop:=λx lo hi H Q=>∃a xs,x= .ref a/\SqL K H a xs/\∀p,H p=none->Q (.ref p) (upd H p (.lst (qu xs lo hi)))
theorem Du:SlR X (Og X.K):=by
 intro ef s Z H x v vl vu lo hi sl Q I rx hs pl pu h;obtain⟨a,xs,rfl,hx,q⟩:=h;cases rx;obtain⟨eh,r,ht,hz⟩:=I.list hx;have eJ:=r.length;refine⟨"list",_,slot_list_getitem.lookup,ht.isList.typeIs, ?_⟩;refine wpAny_getItem_list_slice ht.isList hs pl pu .none (by simp) ?_ (by rw[Gai]<;>lia);rw[nQ,<-eJ];refine⟨.ref s.heap.objs.size,_,I.laid (t' :=s.toks) (o:= .lst (qu xs lo hi)) (λb ob q=>Gae _ q) (Gar _) ?_,rfl,q _ (I.hok.fresh (Gar _))⟩;exact⟨GaL (lq xs lo hi) hz,_,0,(r.drop (HT.sIx xs.length 0 lo)).take (HT.sIx xs.length xs.length hi -HT.sIx xs.length 0 lo),Gaz _ rfl⟩
noncomputable def u7:V->Bool
 | .non=>true
 | .bl _=>true
 | .int _=>true
 | .str _=>true
 |_=>false
noncomputable def eqV:V->V->Bool
 | .non,.non=>true
 | .bl a,.bl b=>a==b
 | .bl a,.int b=>(if a then 1 else 0)==b
 | .int a,.bl b=>a==(if b then 1 else 0)
 | .int a,.int b=>a==b
 | .str a,.str b=>a==b
 |_,_=>false
variable{v:Value}{x:V}
theorem Hg{A:Around}{y:V}{u:Value}(ry:RelV y u)(rx:RelV x v)(fy:u7 y=true)(fx:u7 x=true):SeqAt.EqAt A s u v (eqV y x):=by
 cases y with
 |non=>
  cases ry;cases x with
  |non=>cases rx;exact SeqAt.EqAt.same _
  |bl b=>cases rx;exact SeqAt.EqAt.none_bool b
  |int b=>obtain⟨t,rfl⟩:=rx;exact SeqAt.EqAt.none_int b t
  |str b=>obtain⟨t,rfl⟩:=rx;exact SeqAt.EqAt.none_str b t
  |_=>exact absurd (show false=true from fx) Gaj
 |bl a=>
  cases ry;cases x with
  |non=>cases rx;exact SeqAt.EqAt.bool_none a
  |bl b=>cases rx;exact SeqAt.EqAt.bool_bool a b
  |int b=>obtain⟨t,rfl⟩:=rx;exact SeqAt.EqAt.bool_int a b t
  |str b=>obtain⟨t,rfl⟩:=rx;exact SeqAt.EqAt.bool_str a b t
  |_=>exact absurd (show false=true from fx) Gaj
 |int a=>
  obtain⟨t',rfl⟩:=ry;cases x with
  |non=>cases rx;exact SeqAt.EqAt.int_none a t'
  |bl b=>cases rx;exact SeqAt.EqAt.int_bool a t' b
  |int b=>obtain⟨t,rfl⟩:=rx;exact SeqAt.EqAt.int_int a t' b t
  |str b=>obtain⟨t,rfl⟩:=rx;exact SeqAt.EqAt.int_str a t' b t
  |_=>exact absurd (show false=true from fx) Gaj
 |str a=>
  obtain⟨t',rfl⟩:=ry;cases x with
  |non=>cases rx;exact SeqAt.EqAt.str_none a t'
  |bl b=>cases rx;exact SeqAt.EqAt.str_bool a t' b
  |int b=>obtain⟨t,rfl⟩:=rx;exact SeqAt.EqAt.str_int a t' b t
  |str b=>obtain⟨t,rfl⟩:=rx;exact SeqAt.EqAt.str_str a t' b t
  |_=>exact absurd (show false=true from fx) Gaj
 |_=>exact absurd (show false=true from fy) Gaj
theorem cn.or{f:Value}{r r' :List V->Hp->VK->Prop}(h:cn X f r)(h' :cn X f r'):cn X f (λxs H Q=>r xs H Q\/r' xs H Q):=by
 intro ef s Z H xs us Q I rs q;rcases q with q|q
 .exact h ef s Z H xs us Q I rs q
 .exact h' ef s Z H xs us Q I rs q
theorem pG:cn X (.type "list") (λxs H Q=>∃p ys,xs=[.ref p]/\(SqL X.K H p ys\/SqT X.K H p ys)/\∀l,H l=none->Q (.ref l) (upd H l (.lst ys))):=by
 intro ef s Z H xs us Q I r h;obtain⟨p,ys,rfl,hq,q⟩:=h;obtain⟨u,rfl,rx⟩:=vals1 r;cases rx;have fin:∀(eh:List Value),Vals ys eh->ys.length<=sizeLine->∀(h' :Heap) (c' :Nat),(∀b o',s.heap.get? b=some o' ->h'.get? b=some o')->
   h'.get? s.heap.objs.size=some {cls:= .type "list",dict:=none,data:= .seq eh.toArray c',slots:=#[]}->EP X ef Z Q (.ref s.heap.objs.size) {s with heap:=h' }:=λeh r' hz h' c' kp e=>
  ⟨.ref s.heap.objs.size,_,I.laid (t' :=s.toks) kp (Gar _) (show bM X.prog X.w _ h' _ (.lst ys) from⟨hz,eh,c',r',e⟩),rfl,q _ (I.hok.fresh (Gar _))⟩
 rcases hq with hq|hq
 .obtain⟨eh,r',pl,hz⟩:=I.list hq;have eJ:=r'.length;obtain⟨o,ho,hc,n,hd⟩:=pl.isList;exact call_list_seq p (.inl rfl) ho hc hd (λh' c' kp e=>fin eh r' hz h' c' kp e) (by simp only[Gai]<;>lia)
 .obtain⟨eh,r',pl,hz⟩:=I.tuple hq;have eJ:=r'.length;obtain⟨o,ho,hc,n,hd⟩:=pl;exact call_list_seq p (.inr rfl) ho hc hd (λh' c' kp e=>fin eh r' hz h' c' kp e) (by simp only[Gai]<;>lia)
theorem nR:cn X (.type "tuple") (λxs H Q=>∃p ys,xs=[.ref p]/\((SqL X.K H p ys/\∀l,H l=none->Q (.ref l) (upd H l (.tup ys)))\/(SqT X.K H p ys/\Q (.ref p) H))):=by
 intro ef s Z H xs us Q I r h;obtain⟨p,ys,rfl,h⟩:=h;obtain⟨u,rfl,rx⟩:=vals1 r;cases rx;rcases h with⟨hq,q⟩| ⟨hq,q⟩
 .obtain⟨eh,r',pl,hz⟩:=I.list hq;have eJ:=r'.length;refine call_tuple_list pl.isList (λh' kp=> ?_) (by simp only[Gai]<;>lia);have I1:Inv X ef Z H {s with heap:=h' }:=I.kept (t' :=s.toks) kp;have I2:Inv X ef Z (upd H h'.objs.size (.tup ys)) {s with heap:=h'.push {cls:= .type "tuple",data:= .seq eh.toArray}}:=
   I1.laid (t' :=s.toks) (λb o e=>Gae _ e) (Gar _) (show bM X.prog X.w _ _ _ (.tup ys) from⟨hz,eh,r',IsTup.new _ _⟩)
  exact⟨.ref h'.objs.size,_,I2,rfl,q _ (I1.hok.fresh (Gar _))⟩
 .obtain⟨eh,r',pl,hz⟩:=I.tuple hq;exact call_tuple_same pl ⟨.ref p,H,I,rfl,q⟩
def tyV(K:PySem.W.Frag)(T:String)(x:V)(H:Hp):Prop:=match x with
 | .str _=>T="str"
 | .int _=>T="int"
 | .ref p=>(T="list"/\∃xs,SqL K H p xs)\/(T="tuple"/\∃o,K.lookup p=some o/\o.cls= .type "tuple"/\o.dict=none)\/
   (T="dict"/\((∃kvs,H p=some (.dK kvs))\/∃kvs,H p=some (.dT kvs)))\/(T="set"/\∃S n,H p=some (.set S n))
 |_=>False
theorem An{T:String}(I:Inv X ef Z H s)(r:RelV x v)(ty:tyV X.K T x H):
  s.TypeIs v T/\∀a,v= .ref a->∃ob,s.heap.get? a=some ob/\ob.dict=none:=by
 cases x with
 |str z=>
  obtain⟨t,rfl⟩:=r;cases(show T="str" from ty);exact⟨GbX s z t,λ_ e=>nomatch e⟩
 |int i=>
  obtain⟨t,rfl⟩:=r;cases(show T="int" from ty);exact⟨typeIs_int s i t,λ_ e=>nomatch e⟩
 |ref p=>
  cases r;rcases ty with⟨rfl,xs,hq⟩| ⟨rfl,o,hk,hc,hd⟩| ⟨rfl,hk⟩| ⟨rfl,S,n,hk⟩
  .obtain⟨eh,_,pl,_⟩:=I.list hq;refine⟨pl.isList.typeIs,λa e=> ?_⟩;cases e;obtain⟨o,n,e,c,hd,_⟩:=pl;exact⟨o,e,hd⟩
  .refine⟨⟨o,I.kIn p o hk,hc⟩,λa e=> ?_⟩;cases e;exact⟨o,I.kIn _ o hk,hd⟩
  .have z:∃o,s.heap.get? p=some o/\o.ExactDict:=by
    rcases hk with⟨kvs,hk⟩| ⟨kvs,hk⟩
    .obtain⟨_,_,_,_,o,_,_,e,ex,_⟩:=I.hok p _ hk;exact⟨o,e,ex⟩
    .obtain⟨_,_,_,_,o,_,_,e,ex,_⟩:=I.hok p _ hk;exact⟨o,e,ex⟩
   obtain⟨o,e,ex⟩:=z;refine⟨⟨o,e,ex.1⟩,λa e2=> ?_⟩;cases e2;exact⟨o,e,ex.2.1⟩
  .obtain⟨o,_,_,_,e,ex,_⟩:=I.hok p _ hk;refine⟨⟨o,e,ex.1⟩,λa e2=> ?_⟩;cases e2;exact⟨o,e,ex.2.1⟩
 |_=>exact False.elim ty
def Oh(K:PySem.W.Frag)(T:String)(r:V->List V->Hp->VK->Prop)(to:TE):TE:=λZ H Q=>to Z H λx H1=>tyV K T x H1/\r x [] H1 Q
def tBM(K:PySem.W.Frag)(T:String)(r:V->List V->Hp->VK->Prop)(to:TE)(t:TA):TE:=λZ H Q=>to Z H λx H1=>tyV K T x H1/\t Z H1 λxs H2=>r x xs H2 Q
variable{o e:Expr}{es:List Expr}{to:TE}{t:TA}{name:Str}{apos eD:Pos}{T id:String}{r:V->List V->Hp->VK->Prop}
theorem Hh(pa:PlainAttrs T)(slot:Slot T name id)(yg:typeOf (.builtin id)=pure (.type "method_descriptor"))(hm:MtR X id r)(ho:PE X o to)
  (eT:autoParam (attributeBase o name X.env (eval o X.env)=eval o X.env) Za1._auto_1)(eK:autoParam ((apos.endLine==eD.line)=true) Za1._auto_1):PE X (.Call (.Attribute o name apos) [] [] eD) (Oh X.K T r to):=by
 intro ef s Z H Q I h;refine wpAny_Call_method0_late eT eK (thn (ho ef s Z H _ I h) λv s1 ⟨x,H1,I1,r1,ty,q1⟩=> ?_);obtain⟨h1,h2⟩:=An I1 r1 ty;exact⟨T,id,pa,slot,yg,h1,h2,Calls.callWith_builtin rfl (PySem.evalArgs_none (hm ef s1 Z H1 x [] v [] Q I1 r1 .nil q1))⟩
theorem oj(pa:PlainAttrs T)(slot:Slot T name id)(yg:typeOf (.builtin id)=pure (.type "method_descriptor"))(hm:MtR X id r)(ho:PE X o to)(ha:PA X (e::es) t)
  (eT:autoParam (attributeBase o name X.env (eval o X.env)=eval o X.env) Za1._auto_1)
  (xB:((backTo eD (starEach (e::es) X.env)).all (λx=> !x.1)&&(backToKw eD (keywordEach [] X.env)).all (λx=>x.1.isSome)
   &&decide ((e::es).length+([]:List Keyword).length+(if([]:List Keyword).isEmpty then 0 else 1)<30))=true:=by rfl)
  (eK:autoParam ((apos.endLine==eD.line)=true) Za1._auto_1)(hs:autoParam (starEach (e::es) X.env=(false,eval e X.env)::starEach es X.env) Za1._auto_1)(yC:autoParam ((backTo eD (starEach es X.env)).any (·.1)=false) Za1._auto_1):
  PE X (.Call (.Attribute o name apos) (e::es) [] eD) (tBM X.K T r to t):=by
 intro ef s Z H Q I h;refine wpAny_Call_method_late eT xB eK rfl (thn (ho ef s Z H _ I h) λv s1 ⟨x,H1,I1,r1,ty,q1⟩=> ?_);obtain⟨h1,h2⟩:=An I1 r1 ty;refine⟨T,id,pa,slot,yg,h1,h2, ?_⟩;have hA:=ha eD ef s1 Z H1 _ I1 q1;rw[hs] at hA⊢;refine Calls.callWith_builtin (by show(false||(backTo eD (starEach es X.env)).any (·.1))=false;rw[yC]<;>rfl) (Calls.evalArgs_plain ?_);exact thn hA λus s2 ⟨vs,H2,I2,r2,q2⟩=>hm ef s2 Z H2 x vs v us Q I2 r1 r2 q2
end
def MtM(X:Cx)(id:String)(r:V->List V->Hp->VK->Prop):Prop:=
 ∀(ef:LAO) (s:Shared) (Z:St) (H:Hp) (x:V) (xs:List V) (v:Value) (us:List Value) (Q:VK),Inv X ef Z H s->RelV x v->Vals xs us->r x xs H Q->
  wpAny (model X.prog X.w) X.A (call (.builtin id) (v::us)) (EP X ef Z Q) X.xe s
theorem Vals.one{x:V}{us:List Value}(p:Vals [x] us):∃u,us=[u]/\RelV x u:=by
 cases p with
 |cons r t=>cases t;exact⟨_,rfl,r⟩
theorem Vals.zero:∀{us:List Value},Vals [] us->us=[]
 |_,.nil=>rfl
section
variable{X:Cx}{ef:LAO}{Z:St}{H:Hp}{s:Shared}{l b:Addr}{xs ys zs:List V}
variable{t' n:Nat}{eh:List Value}
theorem Inv.Dv{its' :List Value}{f:Array Value->Array Value}(I:Inv X ef Z H s)(hH:H l=some (.lst xs))
  (e:s.heap.get? l=some {cls:= .type "list",data:= .seq eh.toArray n})(hf:f eh.toArray=its'.toArray)(hv:Vals ys its')(hz:ys.length<=sizeLine):
  Inv X ef Z (upd H l (.lst ys)) {s with heap:=s.heap.update l (Obj.mapSeq f),toks:=t' }:=by
 have q:=PySem.IsL.update e f;rw[hf] at q;refine I.write (x:=l) (e:=l) (by rw[hH];exact trivial) (.inl rfl) (λb' u hb hu=>(Heap.get?_update_other s.heap (Obj.mapSeq f) (GaU hb)).trans hu) ⟨_,q⟩ ?_;exact⟨hz,its',_,hv,q⟩
theorem Inv.Lf(I:Inv X ef Z H s)(hv:Vals ys eh)(hz:ys.length<=sizeLine):
  Inv X ef Z (upd H s.heap.objs.size (.lst ys)) {s with heap:=s.heap.push {cls:= .type "list",data:= .seq eh.toArray},toks:=t' }:=
 I.laid (λ_ _ q=>Gae _ q) (Gar _) ⟨hz,eh,0,hv,Gaz _ rfl⟩
theorem Inv.fresh(I:Inv X ef Z H s):H s.heap.objs.size=none:=I.hok.fresh (Gar _)
theorem Inv.Ao(I:Inv X ef Z H s)(hH:H l=some (.lst xs)):xs.length<=sizeLine/\∃(eh:List Value) (n:Nat),Vals xs eh/\xs.length=eh.length/\s.heap.get? l=some {cls:= .type "list",data:= .seq eh.toArray n}:=by
 obtain⟨z,eh,n,r,e⟩:=I.hok l _ hH;exact⟨z,eh,n,r,r.length,e⟩
theorem Ap(h:n<=sizeLine):Builtin.List.listTooLong n=false:=by
 unfold Builtin.List.listTooLong;exact GaV (by lia)
end
section
variable{X:Cx}
def Dw:V->List V->Hp->VK->Prop:=λx vs H Q=>∃l xs y,x= .ref l/\vs=[y]/\H l=some (.lst xs)/\xs.length<sizeLine/\Q .non (upd H l (.lst (xs++[y])))
theorem ku:MtM X "list.append" Dw:=by
 intro ef s Z H x vs v us Q I rx rv h;obtain⟨l,xs,y,rfl,rfl,hH,hz,q⟩:=h;cases rx;obtain⟨u,rfl,ru⟩:=rv.one;obtain⟨z,eh,n,r,hl,e⟩:=I.Ao hH;refine GbO F.slot_list_append ⟨_,e,rfl⟩ F.entry_list_append (F.args_list_append_2 _ _) (PySem.list_append l eh.toArray n u (by rw[Gai];lia)) ⟨e, ?_⟩;refine⟨.non,_,I.Dv (its' :=eh++[u]) hH e (by simp) (r.append (.cons ru .nil)) ?_,rfl,q⟩;rw[Gal,Gbt];lia
def Dx:V->List V->Hp->VK->Prop:=λx vs H Q=>∃l b xs zs,x= .ref l/\vs=[.ref b]/\H l=some (.lst xs)/\H b=some (.lst zs)/\xs.length+zs.length<=sizeLine/\Q .non (upd H l (.lst (xs++zs)))
theorem vG:MtM X "list.extend" Dx:=by
 intro ef s Z H x vs v us Q I rx rv h;obtain⟨l,b,xs,zs,rfl,rfl,hH,hB,hz,q⟩:=h;cases rx;obtain⟨u,rfl,ru⟩:=rv.one;cases ru;obtain⟨z,eh,n,r,hl,e⟩:=I.Ao hH;obtain⟨z2,eF,n2,r2,PR,e2⟩:=I.Ao hB;have hsz:eh.toArray.size+eF.toArray.size<=sizeLine:=by rw[Gai,Gai];lia
 have hlong:¬(!eh.toArray.isEmpty&&Builtin.List.listTooLong (eh.toArray.size+eF.toArray.size))=true:=by
  rw[Ap hsz,GcB];exact Gaj
 refine GbO F.slot_list_extend ⟨_,e,rfl⟩ F.entry_list_extend (F.args_list_extend_2 _ _)
  (AutoSeq1.list_extend_list_list_0 l eh.toArray n b eF.toArray n2 hlong (by rw[Gai];lia) (by lia)) ⟨e,e2, ?_⟩
 refine⟨.non,_,I.Dv (its' :=eh++eF) hH e (by simp) (r.append r2) ?_,rfl,q⟩;rw[Gal];lia
def Hj:V->List V->Hp->VK->Prop:=λx vs H Q=>∃l xs,x= .ref l/\vs=[]/\H l=some (.lst xs)/\Q .non (upd H l (.lst []))
theorem Aq:MtM X "list.clear" Hj:=by
 intro ef s Z H x vs v us Q I rx rv h;obtain⟨l,xs,rfl,rfl,hH,q⟩:=h;cases rx;have hus:=rv.zero;subst hus;obtain⟨z,eh,n,r,hl,e⟩:=I.Ao hH;refine GbO F.slot_list_clear ⟨_,e,rfl⟩ F.entry_list_clear (F.args_list_clear_1 _) (AutoSeq1.list_clear_list_0 l eh.toArray n (by rw[Gai];lia)) ⟨e, ?_⟩;exact⟨.non,_,I.Dv (its' :=[]) (ys:=[]) hH e rfl .nil (GcC _),rfl,q⟩
end
section
variable{Y:Type} [DecidableEq Y]
def gJ(kvs:List (Y×V))(k:Y):Option V:=(kvs.find? λkv=>decide (kv.1=k)).map (·.2)
def putK(kvs:List (Y×V))(k:Y)(v:V):List (Y×V):=
 if(kvs.any λkv=>decide (kv.1=k))=true then kvs.map (λkv=>if kv.1=k then(kv.1,v) else kv) else kvs++[(k,v)]
theorem jC{p:Y×V}{r:List (Y×V)}{k:Y}(e:p.1=k):gJ (p::r) k=some p.2:=by simp[gJ,GaW,e]
theorem gS{p:Y×V}{r:List (Y×V)}{k:Y}(e:¬p.1=k):gJ (p::r) k=gJ r k:=by simp[gJ,GaW,e]
theorem qv(k:Y):∀kvs:List (Y×V),(kvs.any λkv=>decide (kv.1=k))=(gJ kvs k).isSome
 |[]=>rfl
 |p::r=>by
  rw[Gcg];by_cases e:p.1=k
  .simp only[jC e,Gbl e,Bool.true_or,Option.isSome_some]
  .rw[gS e,GaV e,Bool.false_or];exact qv k r
theorem lr(kvs:List (Y×V))(k:Y)(v:V):(putK kvs k v).length<=kvs.length+1:=by
 unfold putK;split
 .rw[Gax];lia
 .rw[Gal,GaE,List.length_nil];lia
theorem km.fT{o:Option V}{u:Option Value}(r:km o u):o.isSome=u.isSome:=by
 cases o with
 |none=>cases u with
  |none=>rfl
  |some _=>exact(show False from r).elim
 |some _=>cases u with
  |none=>exact(show False from r).elim
  |some _=>rfl
theorem KV.val{kvs:List (Y×V)}{vs:List (Y×Value)}(r:KV kvs vs)(k:Y):km (gJ kvs k) (valueAt vs k):=by
 unfold KV at r;induction r with
 |nil=>exact True.intro
 | @cons p q ps qs h t ih=>
  obtain⟨h1,h2⟩:=h;by_cases e:p.1=k
  .have e' :q.1=k:=h1.symm.trans e;have b:valueAt (q::qs) k=some q.2:=by simp[valueAt,GaW,e']
   rw[jC e,b];exact h2
  .have e' :¬q.1=k:=λz=>e (h1.trans z);have b:valueAt (q::qs) k=valueAt qs k:=by simp[valueAt,GaW,e']
   rw[gS e,b];exact ih
theorem KV.any{kvs:List (Y×V)}{vs:List (Y×Value)}(r:KV kvs vs)(k:Y):(kvs.any λkv=>decide (kv.1=k))=vs.any λkv=>decide (kv.1=k):=by
 unfold KV at r;induction r with
 |nil=>rfl
 |cons h t ih=>rw[Gcg,Gcg,ih,h.1]
variable{u:Value}{y:V}
theorem KV.Hk{kvs:List (Y×V)}{vs:List (Y×Value)}(r:KV kvs vs)(k:Y)(ry:RelV y u):
  KV (kvs.map λkv=>if kv.1=k then(kv.1,y) else kv) (vs.map λkv=>if kv.1=k then(kv.1,u) else kv):=by
 unfold KV at r⊢;induction r with
 |nil=>exact .nil
 | @cons p q ps qs h t ih=>
  rw[Gau,Gau];refine .cons ?_ ih;obtain⟨h1,h2⟩:=h;by_cases e:p.1=k
  .rw[Gak e,Gak (h1.symm.trans e)];exact⟨h1,ry⟩
  .rw[Gam e,Gam (λz=>e (h1.trans z))];exact⟨h1,h2⟩
theorem KV.put{kvs:List (Y×V)}{vs:List (Y×Value)}(r:KV kvs vs)(k:Y)(ry:RelV y u):KV (putK kvs k y) (stored vs k u):=by
 unfold putK stored;rw[r.any k];by_cases e:(vs.any λkv=>decide (kv.1=k))=true
 .rw[Gak e,Gak e];exact r.Hk k ry
 .rw[Gam e,Gam e];exact Paired.snoc r ⟨rfl,ry⟩
theorem KV.length{kvs:List (Y×V)}{vs:List (Y×Value)}(r:KV kvs vs):kvs.length=vs.length:=Paired.length r
end
variable{u:Value}{w:World}
theorem lu{P:Program}{k:Key}(r:RelV (kV k) u):(bD P w).is k u=true:=by
 cases k with
 |inl i=>obtain⟨t,e⟩:=(show∃t,u=Value.int i t from r);subst e;exact qk P w i t
 |inr x=>obtain⟨t,e⟩:=(show∃t,u=Value.str x t from r);subst e;exact gO P w x t
theorem om{P:Program}{w:World}:∀{ks:List Key} {us:List Value},Vals (ks.map kV) us->ItemsAre (bD P w) ks us
 |[],_,r=>by rw[Gcm] at r;cases r;exact .nil
 |k::ks,_,r=>by
  rw[Gau] at r;cases r with
  |cons h t=>exact .cons (lu h) (om t)
abbrev KT(H:Hp):List (List Key×V)->List (List Key×Addr×Value)->Prop:=Paired λp q=>p.1=q.1/\H q.2.1=some (.tup (p.1.map kV))/\RelV p.2 q.2.2
variable{xs:List (List Key×Addr×Value)}{H:Hp}
theorem KT.val{kvs:List (List Key×V)}(r:KT H kvs xs)(k:List Key):km (gJ kvs k) ((atKey xs k).map (·.2)):=by
 induction r with
 |nil=>exact True.intro
 | @cons p q ps qs h t ih=>
  obtain⟨h1,_,h2⟩:=h;by_cases e:p.1=k
  .have e' :q.1=k:=h1.symm.trans e;have b:atKey (q::qs) k=some q.2:=by simp[atKey,GaW,e']
   rw[jC e,b];exact h2
  .have e' :¬q.1=k:=λz=>e (h1.trans z);have b:atKey (q::qs) k=atKey qs k:=by simp[atKey,GaW,e']
   rw[gS e,b];exact ih
variable{y:V}
theorem KT.Hk{kvs:List (List Key×V)}(r:KT H kvs xs)(k:List Key)(ry:RelV y u):
  KT H (kvs.map λkv=>if kv.1=k then(kv.1,y) else kv) (xs.map (putAt k u)):=by
 induction r with
 |nil=>exact .nil
 | @cons p q ps qs h t ih=>
  rw[Gau,Gau];refine .cons ?_ ih;obtain⟨h1,h2,h3⟩:=h;unfold putAt;by_cases e:p.1=k
  .rw[Gak e,Gak (h1.symm.trans e)];exact⟨h1,h2,ry⟩
  .rw[Gam e,Gam (λz=>e (h1.trans z))];exact⟨h1,h2,h3⟩
variable{b:Addr}
theorem KT.put{kvs:List (List Key×V)}(r:KT H kvs xs)(k:List Key)(hb:H b=some (.tup (k.map kV)))(ry:RelV y u):
  KT H (putK kvs k y) (storedH xs k b u):=by
 have e:(kvs.any λkv=>decide (kv.1=k))=(atKey xs k).isSome:=by
  rw[qv,(r.val k).fT,GcG]
 unfold putK storedH;rw[e];by_cases q:(atKey xs k).isSome=true
 .rw[Gak q,Gak q];exact r.Hk k ry
 .rw[Gam q,Gam q];exact Paired.snoc r ⟨rfl,hb,ry⟩
theorem KT.keeps{H' :Hp}{kvs:List (List Key×V)}(r:KT H kvs xs)(ht:∀b ys,H b=some (.tup ys)->H' b=some (.tup ys)):KT H' kvs xs:=
 Paired.GD r λ_ _ z=> ⟨z.1,ht _ _ z.2.1,z.2.2⟩
section
variable{P:Program}{w:World}{H:Hp}{h:Heap}{a:Addr}
theorem FZ{u:HO}(ok:HOk P w H h)(e:Rd H a u):bM P w H h a u:=e.ok ok
theorem oo{kvs:List (Key×V)}(ok:HOk P w H h)(e:Rd H a (.dK kvs)):kvs.length<=sizeLine/\(a==sysModules)=false/\∃vs,KV kvs vs/\h.DictOf (bD P w) a vs:=
 show bM P w H h a (.dK kvs) from FZ ok e
theorem Lg{kvs:List (Key×V)}(ok:HOk P w H h)(e:H a=some (.dK kvs)):kvs.length<=sizeLine/\(a==sysModules)=false/\∃vs,KV kvs vs/\h.DictOf (bD P w) a vs:=oo ok (.inl e)
theorem mw{ks:List Key}(ok:HOk P w H h)(e:H a=some (.tup (ks.map kV))):(tupleKind (bD P w)).is h ks a:=by
 obtain⟨_,eh,r,o,h1,h2,n,h3⟩:=(show bM P w H h a (.tup (ks.map kV)) from ok a _ e)
 exact⟨o,eh.toArray,n,h1,h2,h3,by simpa using om r⟩
theorem qw{kvs:List (List Key×V)}(ok:HOk P w H h)(e:Rd H a (.dT kvs)):kvs.length<=sizeLine/\(a==sysModules)=false/\
  ∃xs,KT H kvs xs/\h.DictOfH (tupleKind (bD P w)) a xs:=by
 obtain⟨z,y,xs,r,o,es,ep,h1,h2,h3,h4,h5⟩:=(show bM P w H h a (.dT kvs) from FZ ok e)
 refine⟨z,y,xs,r,o,es,ep,h1,h2,h3,h4,λx hx=> ?_,h5⟩;have all:∀{l:List (List Key×V)} {m:List (List Key×Addr×Value)},KT H l m->∀x∈m,(tupleKind (bD P w)).is h x.1 x.2.1:=by
  intro l m q;induction q with
  |nil=>intro x hx;exact nomatch hx
  | @cons p q ps qs hq t ih=>
   intro x hx;rcases Gah.mp hx with e|hx
   .subst e;exact mw ok (by rw[<-hq.1];exact hq.2.1)
   .exact ih x hx
 exact all r x hx
theorem Lh{kvs:List (List Key×V)}(ok:HOk P w H h)(e:H a=some (.dT kvs)):kvs.length<=sizeLine/\(a==sysModules)=false/\
  ∃xs,KT H kvs xs/\h.DictOfH (tupleKind (bD P w)) a xs:=qw ok (.inl e)
end
def lW(H:Hp)(a:Addr)(y:V)(r:Option V):Prop:=
 (∃kvs k,Rd H a (.dK kvs)/\y=kV k/\r=gJ kvs k)\/∃kvs k b,Rd H a (.dT kvs)/\y= .ref b/\H b=some (.tup (k.map kV))/\r=gJ kvs k
def qx(H:Hp)(a:Addr)(y v:V)(H' :Hp):Prop:=
 (∃kvs k,H a=some (.dK kvs)/\y=kV k/\kvs.length<sizeLine/\H' =upd H a (.dK (putK kvs k v)))\/
 ∃kvs k b,H a=some (.dT kvs)/\y= .ref b/\H b=some (.tup (k.map kV))/\kvs.length<sizeLine/\H' =upd H a (.dT (putK kvs k v))
theorem lW.k{H:Hp}{a:Addr}{kvs:List (Key×V)}{k:Key}(e:H a=some (.dK kvs)):lW H a (kV k) (gJ kvs k):= .inl ⟨kvs,k,.inl e,rfl,rfl⟩
variable{a:Addr}
theorem lW.t{kvs:List (List Key×V)}{k:List Key}(e:H a=some (.dT kvs))(eb:H b=some (.tup (k.map kV))):lW H a (.ref b) (gJ kvs k):= .inr ⟨kvs,k,b,.inl e,rfl,eb,rfl⟩
theorem qx.k{H:Hp}{a:Addr}{kvs:List (Key×V)}{k:Key}{v:V}(e:H a=some (.dK kvs))(hl:kvs.length<sizeLine):qx H a (kV k) v (upd H a (.dK (putK kvs k v))):= .inl ⟨kvs,k,e,rfl,hl,rfl⟩
theorem qx.t{kvs:List (List Key×V)}{k:List Key}{v:V}(e:H a=some (.dT kvs))(eb:H b=some (.tup (k.map kV)))(hl:kvs.length<sizeLine):
  qx H a (.ref b) v (upd H a (.dT (putK kvs k v))):= .inr ⟨kvs,k,b,e,rfl,eb,hl,rfl⟩
section
variable{X:Cx}{ef:LAO}{Z:St}{H:Hp}{s:Shared}{a:Addr}{y v:V}{u r:Value}{o:Option V}{A:Around}{E:VSP}
theorem vH{Q:VSP}(hu:A.units+1<cLine)(I:Inv X ef Z H s)(g:lW H a y (some v))(ry:RelV y u)(h:∀w' s',Inv X ef Z H s' ->RelV v w' ->Q w' s'):
  wpAny (model X.prog X.w) A (getItem (.ref a) u) Q E s:=by
 rcases g with⟨kvs,k,e,ey,l⟩| ⟨kvs,k,b,e,ey,eb,l⟩
 .subst ey;obtain⟨z,hd,vs,rel,dd⟩:=oo I.hok e;obtain⟨w',hw,yd⟩:=km.some_of (v:=v) (o:=valueAt vs k) (by rw[l];exact rel.val k);exact wpAny_getItem_of (lu ry) dd.mapOf hw (h w' _ (I.tok _) yd)
 .subst ey;cases(show u=Value.ref b from ry);obtain⟨z,hd,xs,rel,dd⟩:=qw I.hok e;obtain⟨w',hw,yd⟩:=km.some_of (v:=v) (o:=(atKey xs k).map (·.2)) (by rw[l];exact rel.val k);obtain⟨p,hp,yZ⟩:=Gaa.mp hw;refine wpAny_getItem_heap (GbU hu) (mw I.hok eb) dd hp ?_;rw[yZ];exact h w' _ (I.tok _) yd
theorem Oi{Q:VSP}(hu:A.units+1<cLine)(I:Inv X ef Z H s)(g:lW H a y o)(ry:RelV y u)(h:∀s',Inv X ef Z H s' ->Q (.bool o.isSome) s'):
  wpAny (model X.prog X.w) A (compareOp .In u (.ref a)) Q E s:=by
 rcases g with⟨kvs,k,e,ey,l⟩| ⟨kvs,k,b,e,ey,eb,l⟩
 .subst ey;obtain⟨z,hd,vs,rel,dd⟩:=oo I.hok e;refine wpAny_in_of (lu ry) hd dd.mapOf ?_;rw[<-(rel.val k).fT,<-l];exact h _ (I.tok _)
 .subst ey;cases(show u=Value.ref b from ry);obtain⟨z,hd,xs,rel,dd⟩:=qw I.hok e;refine wpAny_in_heap (GbU hu) (mw I.hok eb) hd dd ?_;have q:=(rel.val k).fT;rw[GcG] at q;rw[<-q,<-l];exact h _ (I.tok _)
theorem Dy{Q:VSP}(hu:A.units+1<cLine)(I:Inv X ef Z H s)(g:lW H a y o)(ry:RelV y u)(h:∀s',Inv X ef Z H s' ->Q (.bool (!o.isSome)) s'):
  wpAny (model X.prog X.w) A (compareOp .NotIn u (.ref a)) Q E s:=by
 rcases g with⟨kvs,k,e,ey,l⟩| ⟨kvs,k,b,e,ey,eb,l⟩
 .subst ey;obtain⟨z,hd,vs,rel,dd⟩:=oo I.hok e;refine wpAny_notIn_of (lu ry) hd dd.mapOf ?_;rw[<-(rel.val k).fT,<-l];exact h _ (I.tok _)
 .subst ey;cases(show u=Value.ref b from ry);obtain⟨z,hd,xs,rel,dd⟩:=qw I.hok e;refine wpAny_notIn_heap (GbU hu) (mw I.hok eb) hd dd ?_;have q:=(rel.val k).fT;rw[GcG] at q;rw[<-q,<-l];exact h _ (I.tok _)
variable{h' :Heap}
theorem u9{t' :Nat}{ob:HO}(I:Inv X ef Z H s)(mu:Mut (H a))(hs:Heap.SameBut a s.heap h')(he:∃q,h'.get? a=some q)(new:bM X.prog X.w (upd H a ob) h' a ob):
  Inv X ef Z (upd H a ob) {s with heap:=h',toks:=t' }:=
 I.write (x:=a) (e:=a) mu (.inl rfl) (λb q hb z=>(hs.2 b hb).trans z) he new
variable{H' :Hp}
theorem Hl{P:Program}{w:World}{kvs:List (Key×V)}{vs:List (Key×Value)}(z:kvs.length<=sizeLine)(hd:(a==sysModules)=false)(rel:KV kvs vs)(dd:h'.DictOf (bD P w) a vs):
  bM P w H' h' a (.dK kvs):=⟨z,hd,vs,rel,dd⟩
theorem vI{Q:Unit->Shared->Prop}(hu:A.units+1<cLine)(I:Inv X ef Z H s)(g:qx H a y v H')(ry:RelV y u)(rv:RelV v r)(h:∀s',Inv X ef Z H' s' ->Q () s'):
  wpAny (model X.prog X.w) A (setItem (.ref a) u r) Q E s:=by
 rcases g with⟨kvs,k,e,ey,l,eH⟩| ⟨kvs,k,b,e,ey,eb,l,eH⟩
 .subst ey eH;obtain⟨z,hd,vs,rel,dd⟩:=Lg I.hok e;have hz:vs.length<=sizeLine:=by rw[<-rel.length];exact z
  have hl:(putK kvs k v).length<=sizeLine:=by have:=lr kvs k v;lia
  refine wpAny_setItem_pairs (hsz:=hz) (lu ry) dd λh' zH hs=>h _ ?_;have he:∃q,h'.get? a=some q:=let⟨q,_,_,hq,_⟩:=zH;⟨q,hq⟩
  exact u9 I (by rw[e];exact True.intro) hs he (Hl hl hd (rel.put k rv) zH)
 .subst ey eH;cases(show u=Value.ref b from ry);obtain⟨z,hd,xs,rel,dd⟩:=Lh I.hok e;have hz:xs.length<=sizeLine:=by rw[<-Paired.length rel];exact z
  have hl:(putK kvs k v).length<=sizeLine:=by have:=lr kvs k v;lia
  refine wpAny_setItem_heap (hsz:=hz) (GbU hu) (mw I.hok eb) dd λh' zH hs=>h _ ?_;obtain⟨q,es,ep,hq,h2,h3,h4,_,h5⟩:=zH;refine u9 I (by rw[e];exact True.intro) hs ⟨q,hq⟩ ⟨hl,hd,_,(rel.put k eb rv).keeps λc ys ec=> ?_,q,es,ep,hq,h2,h3,h4,h5⟩;rw[aw (Ky ec e (λz=>nomatch z))];exact ec
end
section
variable{X:Cx}{ef:LAO}{Z:St}{H:Hp}{s:Shared}{a:Addr}{kvs:List (Key×V)}{k:Key}{u:Value}{A:Around}{E:VSP}
theorem Li{Q:VSP}(I:Inv X ef Z H s)(e:Rd H a (.dK kvs))(h:∀t s',Inv X ef Z H s' ->Q (.int kvs.length t) s'):wpAny (model X.prog X.w) A (call (.builtin "len") [.ref a]) Q E s:=by
 obtain⟨z,hd,vs,rel,dd⟩:=oo I.hok e;refine call_len_dict hd dd (by rw[<-rel.length];rw[GbH] at z;lia) ?_;rw[<-rel.length];exact h _ _ (I.tok _)
end
def Hm(i:Expr):Prop:=∀ov iv,subscripted i false ov iv=operate [ov,iv] (getItem ov iv)
variable{s:Shared}
theorem Dz{prog:Program}{A:Around}{E:VSP}{env:Env}{value slice:Expr}{pos:Pos}{T id:String}{Q:VSP}
  (hl:typeLookup (.type T) "__getitem__"=pure (some (.builtin id)))(hs:Hm slice)
  (h:wpAny (model prog w) A (eval value env) (λo s₁=>wpAny (model prog w) A (eval slice env) (λi s₂=>s₂.TypeIs o T/\wpAny (model prog w) A (getItem o i) Q E s₂) E s₁) E s):
  wpAny (model prog w) A (eval (.Subscript value slice pos) env) Q E s:=by
 refine Subscript_ (Gbd h (λo s₁ h₁=>Gbd h₁ (λi s₂ h₂=> ?_) λ_ _ x=>x) λ_ _ x=>x);obtain⟨hT,h₂⟩:=h₂;unfold subscriptTail;refine Gag ?_;rw[getitemInPython_of_ne hT.not_modules];refine Gag (wpAny_specialOf hT hl ?_);have fin:wpAny (model prog w) A (subscripted slice false o i) (λr s₃=>wpAny (model prog w) A (letTemporaryGo value o r>>=λ_=>pure r) Q E s₃) E s₂:=by
  rw[hs o i];exact wpAny_operating (Gbd h₂ (λr s₃ h₃=>Gag (wpAny_letTemporaryGo (Gaq h₃))) λ_ _ x=>x)
 first
  |exact Gaq (Gag fin)
  |exact Gag (Gaq (Gag fin))
  |exact Gag fin
theorem qy{X:Cx}{ef:LAO}{Z:St}{o:Option V}(I:Inv X ef Z H s)(g:lW H a y o):s.TypeIs (.ref a) "dict":=by
 rcases g with⟨kvs,k,e,_,_⟩| ⟨kvs,k,b,e,_,_,_⟩
 .obtain⟨_,_,vs,_,dd⟩:=oo I.hok e;exact dd.typeIs
 .obtain⟨_,_,xs,_,dd⟩:=qw I.hok e;exact dd.typeIs
end L2
namespace Att
open PySem PySem.W PySem.Calls PyProof.Rows
variable{h:Heap}{P:Params}
theorem lX:∀(ns:List Int) (vs:List Value),WellAll P h vs (ns.map WData.int)->IntsAre vs ns:=by
 intro ns;induction ns with
 |nil=>
  intro vs w;rw[Gcm] at w;cases w;exact .nil
 |cons n ns ih=>
  intro vs w;rw[Gau] at w;cases w with
  |cons a b=>
   cases a;exact .cons _ _ (ih _ b)
variable{n:Nat}
theorem vJ{l:OpenLaw}(hn:l.most=some n){args:List WData}{vals:List Value}
  (yi:l.row.toRowW.claim.pre args=true)(zX:WellAll P h vals args):
  ∃a vs ns,vals=[Value.ref a]/\args=[WData.list (ns.map WData.int)]/\h.get? a=some {cls:= .type "list",data:= .seq vs.toArray}/\IntsAre vs ns/\ns.length<=n:=by
 have hsh:WShape.hasAll [] args [.list .int]=true:=(pre_splitW yi).1;have hc:l.pre.holds [] {args:=args}=true:=(pre_splitW yi).2;obtain⟨d,r,rfl,h1,h2⟩:=hasAllW_cons hsh;obtain rfl:=hasAllW_nil h2;obtain⟨xs,rfl,h3⟩:=hasW_list h1;obtain⟨ns,rfl⟩:=items_int h3;have eJ:ns.length<=n:=by
  unfold OpenLaw.pre at hc;have h4:(WTm.not (.lt (.lit (.int (n:Int))) (.len (.arg 0)))).holds [] {args:=[.list (ns.map .int)]}=true:=by
   have h4:=(holds_andW hc).1;rw[hn] at h4;exact h4
  have h5:=condW_of h4 (w_not (w_lt w_lit (w_len_list (w_arg rfl))));rw[Gax] at h5;refine Nat.le_of_not_lt λq=> ?_;have q' :(n:Int)<((ns.length:Nat):Int):=by lia
  first
   |(rw[Gbl q'] at h5;exact absurd h5 (by decide))
   |(simp at h5;lia)
 cases zX with
 |cons w1 w2=>
  cases w2;cases w1 with
  |list ho hall=>exact⟨_,_,ns,rfl,rfl,ho,lX ns _ hall,eJ⟩
theorem vK(l:OpenLaw)(args:List WData):l.row.toRowW.claim.post args (.bool true) args=true:=
 postW_of (r:=l.row.toRowW) (X:=(true==true))
  (show WShape.has [] (.bool true) .bool=true by first|rfl|decide|simp[WShape.has,WShape.arms,WShape.armsAll])
  (show(WTm.eq .res (.lit (.bool true))).value [] {args:=args,res:=some (.bool true),after:=args}=some (.bool (true==true)) from w_eq_bool (w_res rfl) w_lit) rfl
theorem qA{l:OpenLaw}{q:Program}{loose:List Str}{XP:(Str->Option Value)->Heap->Prop}{YP:World->Heap->Prop}{d:DefRec}
  (hn:l.most=some n)(zc:d.params.defaults=[])
  (call:∀(w:World) (s₀ s₁:Shared) (mg mb:Str->Option Value) (fa:Addr) (o:Obj) (pm cd doc:Value) (a:Addr) (vs:List Value) (ns:List Int),
   Ground q loose [] XP w s₀ mg mb s₁.heap->YP w s₁.heap->
   s₁.heap.get? fa=some o->o.data= .func (docDef d.name d.params d.body d.scope pm cd doc)->s₁.heap.CodeRec cd d.name->mg d.name=some (.ref fa)->
   s₁.heap.get? a=some {cls:= .type "list",data:= .seq vs.toArray}->IntsAre vs ns->ns.length<=n->s₁.gens=#[]->
   codeAny (model l.prog w) callerA (.call (.ref fa) ⟨[.ref a],[]⟩) (λr s' =>r= .ok (.ret (.bool true))/\OldK s₁.heap s'.heap/\s'.os=s₁.os/\AllBare s'.gens) s₁):
  WalkO q loose XP YP l.row.toRowW d [] (λf vs=>PySem.call f vs):=by
 intro w s₀ s₁ mg mb G Y fa o pm cd doc dV kV ho hd eQ hD z9 hg args vals as yi hlay hrd zX Qt;obtain rfl:dV= .none:=Dflts.none hD zc;obtain rfl:kV= .none:=Dflts.noKw hD;obtain⟨a,vs,ns,rfl,rfl,yE,hints,eJ⟩:=vJ hn yi zX;refine enter_call (Gck (call w s₀ s₁ mg mb fa o pm cd doc a vs ns G Y ho (fd_plain hd) eQ z9 yE hints eJ hg) λr s' hq=> ?_);obtain⟨rfl,h2,h3,h4⟩:=hq;exact⟨.inl ⟨.bool true,.bool true,[],rfl,λ_=>rfl,.bool true,vK l _,λ_=> ⟨List.Pairwise.nil,λ_ hm=>(nomatch hm)⟩⟩,h2,h3,h4⟩
end Att
namespace L2
open PySem PySem.Spec PyProof.Rows
variable{vs:List Value}
theorem kz{ns:List Int}(p:IntsAre vs ns):Vals (ns.map V.int) vs:=by
 induction p with
 |nil=>exact .nil
 |cons n t h ih=>exact .cons ⟨t,rfl⟩ ih
def DB(H:Hp):Prop:=∀b,H b=none\/∃o xs,H b=some (.frz o (.lst xs))
theorem Ar{P:Program}{w:World}{K:PySem.W.Frag}{mg mb:Str->Option Value}{CX:CXT}{k:Nat}{fa a:Addr}{fd:FuncData}{x:Str}{sp:Sp}{s₁:Shared}{ns:List Int}
  (KX:K.In s₁.heap)(xW:s₁.heap.Ns mainGlobals mg)(hb:s₁.heap.Ns builtinsNs mb)(Ri:∀x:Str,x≠"__name__"->mb x=bootBuiltins x)(PQ:s₁.heap.NoLimit)(hg:s₁.gens=#[])
  (ha:s₁.heap.get? a=some {cls:= .type "list",data:= .seq vs.toArray})(hi:IntsAre vs ns)(hl:ns.length<=sizeLine)(hr:cw k callerA)
  (F:∀base:Heap,K.In base->base.Ns mainGlobals mg->cy P w K mg base CX k fa fd [x] sp)(ze:∀(s:Shared) (u:Value),BindsTo s fd ⟨[u],[]⟩ [(x,u)])
  (xQ:∀H:Hp,DB H->SqL K H a (ns.map V.int)->sp [.ref a] H (λv _=>v= .bl true) λ_ _ _=>False)
  (Q4:∀H e s',CX [] H s₁ (λ_ _ _=>False) e s' ->False):
  codeAny (model P w) callerA (.call (.ref fa) ⟨[.ref a],[]⟩) (λr s' =>r= .ok (.ret (.bool true))/\OldK s₁.heap s'.heap/\s'.os=s₁.os/\AllBare s'.gens) s₁:=by
 have rv:=kz hi;have lenV:=hi.length;have core:∀H:Hp,DB H->SqL K H a (ns.map V.int)->HOk P w H s₁.heap->(∀b,H b≠none->b=a)->(H a≠none->K.lookup a=none)->
   codeAny (model P w) callerA (.call (.ref fa) ⟨[.ref a],[]⟩) (λr s' =>r= .ok (.ret (.bool true))/\OldK s₁.heap s'.heap/\s'.os=s₁.os/\AllBare s'.gens) s₁:=by
  intro H hO hS hok hA hK;have base_of:∀{b:Addr} {o:Obj},s₁.heap.get? b=some o->H b=none->(pv s₁.heap H).get? b=some o:=λe n=>A4 e n;have noA:∀{b:Addr} {o:Obj} {es:Array DictEntry} {ep:Nat},s₁.heap.get? b=some o->o.data= .dict es ep->H b=none:=λ{b o es ep} e d=>by
   cases q:H b with
   |none=>rfl
   |some u=>
    have e' :b=a:=hA b (by rw[q];simp);subst e';rw[ha] at e;cases e
    have d' :Data.seq vs.toArray _=Data.dict es ep:=d;cases d'
  have nsK:∀{b:Addr} {m:Str->Option Value},s₁.heap.Ns b m->(pv s₁.heap H).Ns b m:=λ{b m} ⟨o,es,ep,e,d,r⟩=> ⟨o,es,ep,base_of e (noA e d),d,r⟩;have Qy:K.In (pv s₁.heap H):=λb o e=>base_of (KX b o e) (by
   cases q:H b with
   |none=>rfl
   |some u=>
    have e' :b=a:=hA b (by rw[q];simp);subst e';rw[hK (by rw[q];simp)] at e;cases e)
  have hM:Mod K mg (pv s₁.heap H):=⟨Qy,nsK xW,⟨mb,nsK hb,Ri⟩,let⟨mc,h1,h2⟩:=PQ;⟨mc,nsK h1,h2⟩⟩
  have e0:sf P w K mg (pv s₁.heap H) callerA [] s₁ H:=⟨rfl,hM,λb o e=>Dc e,Nat.le_of_eq (vh _ _),trivial,λb hb=>absurd (show b∈([]:List Addr) from hb) (by simp),hok,.of_eq hg⟩
  refine Gck ((F _ Qy (nsK xW)).run callerA [] s₁ H ⟨[.ref a],[]⟩ [.ref a] [.ref a] _ _ hr e0 (ze s₁ (.ref a)) (.cons rfl .nil) (xQ H hO hS)) λr s' h=> ?_;cases r with
  |error e=>exact(Q4 H e s' h).elim
  |ok fl=>
   cases fl with
   |next=>exact False.elim h
   |brk=>exact False.elim h
   |cont=>exact False.elim h
   |ret u=>
    obtain⟨v,H',os,bare,un,PL,r',q⟩:=h;have q' :v= .bl true:=q;subst q';obtain rfl:u=Value.bool true:=r';refine⟨rfl,OldK.of_keep λb o e=> ?_,os,bare⟩;cases q:H b with
    |none=>exact un.keep b o e q (by intro z;exact absurd (show b∈([]:List Addr) from z) (by simp)) (by simp)
    |some u=>
     rcases hO b with z| ⟨ob,xs,z⟩
     .rw[q] at z;cases z
     .have z2:=un.qj b ob _ z;obtain⟨e1,_⟩:=hok b _ z;obtain⟨e2,_⟩:=PL b _ z2;rw[e] at e1;cases e1
      exact e2
 cases hk:K.lookup a with
 |some o=>
  have e:=KX a o hk;rw[ha] at e;cases e;refine core (λ_=>none) (λ_=> .inl rfl) (.inr ⟨_,vs.toArray,_,hk,rfl,rfl,rfl,by rw[Gai,lenV];exact hl,by simpa using rv⟩) (λb u z=>by have z' :(none:Option HO)=some u:=z;cases z') (λb z=>absurd rfl z) λz=>absurd rfl z
 |none=>
  refine core (λb=>if b=a then some (.frz {cls:= .type "list",data:= .seq vs.toArray} (.lst (ns.map V.int))) else none) (λb=> ?_) (.inl (.inr ⟨{cls:= .type "list",data:= .seq vs.toArray},Gak rfl⟩)) (λb u z=> ?_) (λb z=> ?_) λ_=>hk
  .by_cases hb:b=a
   .exact .inr ⟨_,_,Gak hb⟩
   .exact .inl (Gam hb)
  .by_cases hb:b=a
   .have z' :=(Gak hb).symm.trans z;cases z';subst hb;exact⟨ha,by rw[Gax];exact hl,vs,_,rv,ha⟩
   .have z' :=(Gam hb).symm.trans z;cases z'
  .by_cases hb:b=a
   .exact hb
   .exact absurd (Gam hb) z
theorem DC{l:PySem.W.OpenLaw}{n k:Nat}{q:Program}{loose:List Str}{XP:(Str->Option Value)->Heap->Prop}{YP:World->Heap->Prop}{d:DefRec}{K:Params->PySem.W.Frag}{CX:World->CXT}{sp:World->Sp}{x:Str}
  (hn:l.most=some n)(yP:n<=sizeLine)(zc:d.params.defaults=[])(hr:cw k callerA)
  (hY:∀(w:World) (h:Heap),YP w h->(K w.params).In h)
  (F:∀(w:World) (mg:Str->Option Value) (fa:Addr) (h:Heap),(K w.params).In h->h.Ns mainGlobals mg->mg d.name=some (.ref fa)->
   ∃fd:FuncData,(∀(s:Shared) (u:Value),BindsTo s fd ⟨[u],[]⟩ [(x,u)])/\
    ∀base:Heap,(K w.params).In base->base.Ns mainGlobals mg->cy l.prog w (K w.params) mg base (CX w) k fa fd [x] (sp w))
  (xQ:∀(w:World) (H:Hp) (a:Addr) (ns:List Int),ns.length<=n->DB H->SqL (K w.params) H a (ns.map V.int)->sp w [.ref a] H (λv _=>v= .bl true) λ_ _ _=>False)
  (Q4:∀(w:World) (H:Hp) (s:Shared) (e:Value) (s' :Shared),CX w [] H s (λ_ _ _=>False) e s' ->False):
  PySem.W.WalkO q loose XP YP l.row.toRowW d [] (λf vs=>PySem.call f vs):=by
 refine Att.qA hn zc λw s₀ s₁ mg mb fa o pm cd doc a vs ns G Y ho hd eQ z9 yE hints eJ hg=> ?_;have KX:=hY w _ Y;obtain⟨fd,hb,hF⟩:=F w mg fa _ KX G.T.g z9;exact Ar KX G.T.g G.T.b G.T.builtins G.T.nolimit hg yE hints (GaL eJ yP) hr hF hb (λH hO hS=>xQ w H a ns eJ hO hS) λH e s' =>Q4 w H s₁ e s'
noncomputable def g8(s:Stmt):Arguments:=match s with
 | .FunctionDef _ a _ _ _ _ _ _ _ _=>a
 |_=>{posonlyargs:=[],args:=[],vararg:=none,kwonlyargs:=[],kw_defaults:=[],kwarg:=none,defaults:=[]}
noncomputable def cp(s:Stmt):List Stmt:=match s with
 | .FunctionDef _ _ b _ _ _ _ _ _ _=>b
 |_=>[]
noncomputable def ay(s:Stmt):Scope:=match s with
 | .FunctionDef _ _ _ _ _ _ sc _ _ _=>sc
 |_=>{kind:= .function,names:=[],isGenerator:=false,isCoroutine:=false}
noncomputable abbrev CX0:CXT:=λ_ _ _ _ _ _=>False
noncomputable abbrev E0:XK:=λ_ _ _=>False
theorem ua{X:Cx}:Passes CX0 X E0:=λ_ _ _ _ _ _ _ h=>h.elim
structure Fun(K:PySem.W.Frag)(x qual:Str)(st:Stmt)(f:Addr)(fd:FuncData):Prop where
 ex:∃(oc:Value) (od:Option Addr) (kV doc pm:Value) (an:Option Addr) (eL ct:Value) (ye:Array (Option Value)),
  fd=PySem.W.fnOf x qual (g8 st) (cp st) (ay st) .none kV doc pm an eL ct/\K.lookup f=some ⟨oc,od,.func fd,ye⟩/\PySem.W.codeIn K eL qual=true
 kp:PySem.W.keepIn K (.ref f)=true
section
variable{P:Program}{w:World}{K:PySem.W.Frag}{mg:Str->Option Value}{base:Heap}
variable{f:Addr}{st:Stmt}{x qual:Str}
theorem Fun.ok{fd:FuncData}{N ps:List Str}{k:Nat}{sp:Sp}(F:Fun K x qual st f fd)(S:cX N ps (ay st))(len:∀vs H Q E,sp vs H Q E->vs.length=ps.length)
  (xa:∀(eL:Value) (A:Around) (outer:List Env) (s:Shared) (H:Hp) (vs:List V) (Q:VK) (E:XK),cw k (A.deeper (envOfC qual (ay st) s.heap.objs.size f eL))->sp vs H Q E->
   ∃t,PSs (jc CX0 P w K mg base N qual (ay st) f eL A outer s H E).nox (cp st) t/\t {nx:=λ_ H' =>Q .non H',rt:=Q} (start N vs) H):cy P w K mg base CX0 (k+1) f fd ps sp:=by
 obtain⟨oc,od,kV,doc,pm,an,eL,ct,ye,rfl,lk,eQ⟩:=F.ex;refine Al lk eQ S len λA outer s H vs Q E hr xQ=> ?_;obtain⟨t,h,q⟩:=xa eL A outer s H vs Q E hr xQ;exact⟨t,h.nox,q⟩
theorem Hn{oc:Value}{od an:Option Addr}{ye:Array (Option Value)}{kV doc pm eL ct:Value}(l:K.lookup f=some ⟨oc,od,.func (PySem.W.fnOf x qual (g8 st) (cp st) (ay st) .none kV doc pm an eL ct),ye⟩)
  (c:PySem.W.codeIn K eL qual=true)(k:PySem.W.keepIn K (.ref f)=true):Fun K x qual st f (PySem.W.fnOf x qual (g8 st) (cp st) (ay st) .none kV doc pm an eL ct):=⟨⟨oc,od,kV,doc,pm,an,eL,ct,ye,rfl,l,c⟩,k⟩
end
def bu(H H' :Hp):Prop:=∀b o,H b=some o->H' b=some o
variable{H:Hp}
theorem bu.trans{H1 H2:Hp}(a:bu H H1)(b:bu H1 H2):bu H H2:=λc o h=>b c o (a c o h)
theorem bu.free{H' :Hp}(e:bu H H'){l:Addr}(h:H' l=Option.none):H l=Option.none:=by
 cases q:H l with
 |none=>rfl
 |some o=>
  rw[e l o q] at h;cases h
end L2
namespace Hd
noncomputable section
open PySem PySem.W PyProof.Rows L2
def As(p:Program)(w:World)(m:Nat)(ann:Option Value)(q:SharedT×Thread):Option (SharedT×Thread):=bif stepOk m ann q.2 then stepT (denote treeTable) p w q.1 q.2 else none
def goT(p:Program)(w:World)(m:Nat)(ann:Option Value)(N:Nat):SharedT×Thread->Option SharedT:=
 N.rec (λ_=>none) λ_ go q=>bif through q.2 then some q.1 else(As p w m ann q).bind go
variable{ann:Option Value}{m:Nat}{p:Program}
theorem DD{w:World}{r:SharedT}(N:Nat):∀q:SharedT×Thread,goT p w m ann N q=some r->topRun treeTable p w m ann N q.1.abs q.2=some r.abs:=by
 induction N with
 |zero=>exactλ_ h=>nomatch h
 |succ N ih=>
  rintro⟨s,t⟩ h;have h:(bif through t then some s else(As p w m ann (s,t)).bind (goT p w m ann N))=some r:=h;rw[topRun];rcases Bool.eq_false_or_eq_true (through t) with a|a<;>rw[a] at h⊢
  .exact congrArg (Option.map SharedT.abs) h
  obtain⟨x,hx,go⟩:=Option.bind_eq_some_iff.mp h;rcases Bool.eq_false_or_eq_true (stepOk m ann t) with b|b<;>simp only[As,b,cond_true,cond_false] at hx
  .simp only[b,stepT_spec hx];exact ih x go
  .cases hx
def Lj(l:List Obj):BT:=(l.foldl (λ(q:BT×Nat) o=>(q.1.ins q.2 o,q.2+1)) (.nil,0)).1
noncomputable def at0(w:World)(os:OsState):SharedT:=⟨Lj (boot_heap w.params).objs.toList,(boot_heap w.params).objs.size,(boot_heap w.params).life,#[],boot_drawn,boot_toks,os⟩
abbrev Way(p q:Program)(loose:List Str)(Xt:Shared->Bool){α:Type}(Yf:Shared->α)(Ya:World->α)(N m:Nat)(ann:Option Value)(row:String)(b:Bool):Prop:=∀(w:World) (os:OsState),(goT p (w.withFollow row b) m ann N (at0 w os,topStub p)).map (λr=>(staticsOk (importedModules p.main.body) (boot_heap w.params) r.abs.heap&&namesBound p r.abs.heap&&gensDone r.abs&&laidKept (boot_heap w.params) r.abs.heap,openSeen q loose (importedModules p.main.body) Xt true r.abs,Yf r.abs))=some (true,openGood q loose,Ya (w.withFollow row b))
theorem DF{q:Program}{loose:List Str}{Xt:Shared->Bool}{α:Type}{Yf:Shared->α}{Ya:World->α}{N:Nat}{row:String}(e:opening p=plainProg p.main.scope.names)(f:∀s,fenceModules? p s=some s)(hN:Nat.ble 600 N=true)
  (h0:∀w os,(at0 w os).abs=⟨boot_heap w.params,#[],boot_drawn,boot_toks,os⟩)(size:∀w:World,((boot_heap w.params).isNs mainGlobals,(boot_heap w.params).objs.size,(boot_heap w.params).nsMap mainGlobals "__annotations__")=(true,m,ann))
  (c0:Way p q loose Xt Yf Ya N m ann row false)(c1:Way p q loose Xt Yf Ya N m ann row true):LeftO p q loose Xt Yf Ya N:=LeftO.of_split row λw=>by
 obtain⟨⟨h,gs,d,k,os⟩,e1,e2⟩:=Gaa.mp (boot_open e hN f w);obtain⟨rfl,rfl,rfl,rfl⟩:h=boot_heap w.params/\gs=#[]/\d=boot_drawn/\k=boot_toks:=by simpa using e2
 obtain⟨z1,z2,z3⟩:_/\_/\_:=by simpa only[GcE] using size w
 have go:∀b,Way p q loose Xt Yf Ya N m ann row b->(topFrom treeTable p (w.withFollow row b) N ⟨boot_heap w.params,#[],boot_drawn,boot_toks,os⟩).map (λs=>(openSeen q loose (importedModules p.main.body) Xt true s,Yf s))=some (openGood q loose,Ya (w.withFollow row b)):=λb c=>by
  obtain⟨r,hr,hc⟩:=Gaa.mp (c w os);obtain⟨l1,l2,l3⟩:_/\_/\_:=by simpa only[GcE] using hc
  have t:=DD N _ hr;rw[h0] at t;have t' :topFrom treeTable p (w.withFollow row b) N ⟨boot_heap w.params,#[],boot_drawn,boot_toks,os⟩=some r.abs:=by
   unfold topFrom;dsimp only;rw[z1,z2,z3,t];show(match staticsOk (importedModules p.main.body) (boot_heap w.params) r.abs.heap&&namesBound p r.abs.heap&&gensDone r.abs&&laidKept (boot_heap w.params) r.abs.heap with|true=>_|false=>_)=_;rw[l1]
  rw[t'];exact congrArg some (Prod.ext l2 l3)
 rw[e1];exact congrArg some (Prod.ext (go _ c0) (go _ c1))
end
end Hd
namespace Hd
noncomputable section
open PySem PySem.W PyProof.Rows L2
abbrev p0:=PySem.Challenge.pw_dosehouse_k07_shown_and_read
noncomputable def top(i:Nat):Stmt:=p0.main.body.getD i (.Pass ⟨0,0,0,0⟩)
def view:Program:={p0 with main:={p0.main with body:=[1,2,4,5,6,7,8,9,10,11,13,14,15,16,17,18,19,20,21,22,23,24,25,26,27,28,29,30,31,32,33,34,35,36,37,38,39,40,41,42,43,44,45,47,48,49,50,52,53,54,55,56,57,58,59,60,61,62,63,64,65].map top}}
abbrev fd(n:Str)(i:Nat)(m:Str)(t c:Nat):FuncData:=fnOf n n (g8 (top i)) (cp (top i)) (ay (top i)) .none .none .none (.str m t) none (.ref c) .none
abbrev tu(l:Array Value):Obj:={cls:= .type "tuple",data:= .seq l}
def fo(d:FuncData):Obj:=⟨.type "function",none,.func d,#[]⟩
def coq(m n:Str)(t l k a:Nat)(x y:Value)(b u:Nat):Obj:={cls:= .type "code",data:= .fields #[.str m t,.str n (t+1),.str "/claim/cut.py" (t+2),.int l 0,.int k 0,.int 0 0,.int 0 0,.int 3 0,.ref a,.bool true,.int 181 0,.ref (a+1),.none,x,y,.ref b,.int u 0,.int l 0,.str "/claim/cut.py" (u+1)]}
def co(n:Str)(t l k a:Nat)(x y:Value)(b u:Nat):Obj:=coq n n t l k a x y b u
def e(P:Params)(n:Str)(t:Nat)(v:Value):DictEntry:=⟨PyData.keyHash P n,.str n t,v⟩
def r(P:Params)(n:Str)(t a:Nat):DictEntry:=e P n t (.ref a)
abbrev m0:Str:="dosehouse.reading"
abbrev m1:Str:="dosehouse.showing"
abbrev m2:Str:="dosehouse.words"
abbrev m3:Str:="law_dosehouse_k07_shown_and_read"
abbrev jD:=fd "is_made_of" 9 m2 232 50
abbrev oq:=fd "is_name" 10 m2 232 57
abbrev ly:=fd "number_of" 11 m2 232 64
abbrev my:=fd "place_of" 28 m0 265 110
abbrev gU:=fd "has_new_name" 29 m0 265 117
abbrev jE:=fd "numbers_of" 30 m0 265 124
abbrev lA:=fd "with_part" 31 m0 265 131
abbrev jF:=fd "take_guest" 32 m0 265 138
abbrev lB:=fd "sizes_fit" 33 m0 265 143
abbrev jG:=fd "take_stuff" 34 m0 265 148
abbrev mz:=fd "take_cap" 35 m0 265 155
abbrev jH:=fd "take_young" 36 m0 265 162
abbrev mB:=fd "take_bar" 37 m0 265 167
abbrev jI:=fd "take_order" 38 m0 265 174
abbrev lC:=fd "take_dose" 39 m0 265 181
abbrev jJ:=fd "take_asked" 40 m0 265 188
abbrev mC:=fd "take_due" 41 m0 265 195
abbrev jK:=fd "take_taper" 42 m0 265 202
abbrev gF:=fd "take_of_order" 43 m0 265 209
abbrev Au:=fd "take" 44 m0 265 216
abbrev Av:=fd "read" 45 m0 265 223
abbrev ot:=fd "line_of" 47 m1 563 228
abbrev iW:=fd "stuff_lines" 48 m1 563 235
abbrev iX:=fd "order_lines" 49 m1 563 242
abbrev ub:=fd "shown" 50 m1 563 247
abbrev mD:=fd "_law_draw" 52 m3 597 254
abbrev g9:=fd "_law_same" 53 m3 597 259
abbrev lF:=fd "_law_names" 54 m3 597 264
abbrev jL:=fd "_law_number" 55 m3 597 271
abbrev ou:=fd "_law_cap" 56 m3 597 278
abbrev lG:=fd "_law_stuff" 57 m3 597 283
abbrev mE:=fd "_law_bars" 58 m3 597 290
abbrev mF:=fd "_law_dues" 59 m3 597 297
abbrev jM:=fd "_law_tapers" 60 m3 597 304
abbrev lH:=fd "_law_order" 61 m3 597 311
abbrev lI:=fd "_law_world" 62 m3 597 316
abbrev mG:=fd "_law_line" 63 m3 597 321
abbrev lJ:=fd "_law_lines" 64 m3 597 326
abbrev Aw:=fd "law" 65 m3 597 333
def inn(i j:Nat):Stmt:=match top i with
 | .ClassDef _ _ _ b _ _ _ _ _ _ _=>b.getD j (.Pass ⟨0,0,0,0⟩)
 |s=>s
abbrev fq(n q:Str)(st:Stmt)(m:Str)(t c:Nat):FuncData:=fnOf n q (g8 st) (cp st) (ay st) .none .none .none (.str m t) none (.ref c) .none
abbrev DH:Obj:={cls:= .type "type",data:= .cls {name:="Draft",bases:=[.type "object"],mro:=[.ref 100,.type "object"],ns:=99,qualname:="Draft"},slots:=#[Option.none,Option.none,Option.some (.str "Draft" 361),Option.some (.str "Draft" 369),Option.some (.builtin "object.__new__"),Option.some (.bool true)]}
abbrev qB:=fq "__init__" "Draft.__init__" (inn 27 0) "dosehouse.reading" 265 96
def K(P:Params):Frag:=[(3,{cls:= .type "dict",data:= .dict #[e P "__name__" 165 (.str "law_dosehouse_k07_shown_and_read" 597),e P "__doc__" 166 (.none),e P "__package__" 167 (.none),e P "__loader__" 168 (.builtin "__main__.__loader__#opaque"),e P "__spec__" 169 (.none),r P "__annotations__" 170 6,r P "__builtins__" 171 4,e P "__file__" 173 (.str "/claim/cut.py" 172),e P "__cached__" 174 (.none),r P "HouseError" 206 24,r P "NoText" 231 44,e P "LETTERS" 235 (.str "abcdefghijklmnopqrstuvwxyz" 234),e P "FIGURES" 237 (.str "0123456789" 236),e P "LONGEST_NAME" 239 (.int 8 238),e P "GREATEST" 241 (.int 1000000000 240),e P "MOST_FIGURES" 243 (.int 10 242),r P "is_made_of" 249 51,r P "is_name" 256 58,r P "number_of" 264 65,r P "BEHIND" 320 66,r P "UNENDED" 323 78,r P "CAP_LOWS" 336 79,r P "WAYS" 340 83,e P "MOST_GUESTS" 342 (.int 6 341),e P "MOST_STUFFS" 344 (.int 6 343),e P "MOST_BARS" 346 (.int 12 345),e P "MOST_ORDERS" 348 (.int 12 347),e P "MOST_SIZES" 350 (.int 8 349),e P "MOST_CAPS" 352 (.int 4 351),e P "MOST_TAPERS" 354 (.int 6 353),e P "MOST_DUES" 356 (.int 60 355),e P "MOST_DEN" 358 (.int 1000 357),e P "MOST_PARTS" 360 (.int 2000 359),r P "Draft" 392 100,r P "place_of" 402 111,r P "has_new_name" 410 118,r P "numbers_of" 422 125,r P "with_part" 431 132,r P "take_guest" 440 139,r P "sizes_fit" 446 144,r P "take_stuff" 452 149,r P "take_cap" 463 156,r P "take_young" 472 163,r P "take_bar" 478 168,r P "take_order" 488 175,r P "take_dose" 499 182,r P "take_asked" 508 189,r P "take_due" 519 196,r P "take_taper" 532 203,r P "take_of_order" 541 210,r P "take" 552 217,r P "read" 562 224,r P "line_of" 570 229,r P "stuff_lines" 579 236,r P "order_lines" 590 243,r P "shown" 596 248,r P "_law_draw" 608 255,r P "_law_same" 614 260,r P "_law_names" 620 265,r P "_law_number" 630 272,r P "_law_cap" 641 279,r P "_law_stuff" 647 284,r P "_law_bars" 660 291,r P "_law_dues" 673 298,r P "_law_tapers" 685 305,r P "_law_order" 703 312,r P "_law_world" 709 317,r P "_law_line" 715 322,r P "_law_lines" 721 327,r P "law" 733 334] 70}),
 (51,fo jD),(50,co "is_made_of" 244 15 2 47 (.none) (.none) 49 247),
 (58,fo oq),(57,co "is_name" 250 17 1 52 (.ref 54) (.ref 55) 56 254),
 (65,fo ly),(64,co "number_of" 257 19 1 59 (.ref 61) (.ref 62) 63 262),
 (111,fo my),(110,co "place_of" 393 51 2 105 (.ref 107) (.ref 108) 109 400),
 (118,fo gU),(117,co "has_new_name" 403 56 2 112 (.ref 114) (.ref 115) 116 408),
 (125,fo jE),(124,co "numbers_of" 411 58 2 119 (.ref 121) (.ref 122) 123 420),
 (132,fo lA),(131,co "with_part" 423 68 3 126 (.ref 128) (.ref 129) 130 429),
 (139,fo jF),(138,co "take_guest" 432 70 2 133 (.ref 135) (.ref 136) 137 438),
 (144,fo lB),(143,co "sizes_fit" 441 76 1 140 (.none) (.none) 142 444),
 (149,fo jG),(148,co "take_stuff" 447 82 2 145 (.none) (.none) 147 450),
 (156,fo mz),(155,co "take_cap" 453 90 2 150 (.ref 152) (.ref 153) 154 461),
 (163,fo jH),(162,co "take_young" 464 100 2 157 (.ref 159) (.ref 160) 161 470),
 (168,fo mB),(167,co "take_bar" 473 106 2 164 (.none) (.none) 166 476),
 (175,fo jI),(174,co "take_order" 479 118 2 169 (.ref 171) (.ref 172) 173 486),
 (182,fo lC),(181,co "take_dose" 489 127 2 176 (.ref 178) (.ref 179) 180 497),
 (189,fo jJ),(188,co "take_asked" 500 135 2 183 (.ref 185) (.ref 186) 187 506),
 (196,fo mC),(195,co "take_due" 509 141 2 190 (.ref 192) (.ref 193) 194 517),
 (203,fo jK),(202,co "take_taper" 520 151 2 197 (.ref 199) (.ref 200) 201 530),
 (210,fo gF),(209,co "take_of_order" 533 163 3 204 (.ref 206) (.ref 207) 208 539),
 (217,fo Au),(216,co "take" 542 173 2 211 (.ref 213) (.ref 214) 215 550),
 (224,fo Av),(223,co "read" 553 191 1 218 (.ref 220) (.ref 221) 222 560),
 (229,fo ot),(228,co "line_of" 565 200 1 225 (.none) (.none) 227 568),
 (236,fo iW),(235,co "stuff_lines" 571 202 1 230 (.ref 232) (.ref 233) 234 577),
 (243,fo iX),(242,co "order_lines" 580 209 3 237 (.ref 239) (.ref 240) 241 588),
 (248,fo ub),(247,co "shown" 591 214 1 244 (.none) (.none) 246 594),
 (255,fo mD),(254,co "_law_draw" 599 226 3 249 (.ref 251) (.ref 252) 253 606),
 (260,fo g9),(259,co "_law_same" 609 231 2 256 (.none) (.none) 258 612),
 (265,fo lF),(264,co "_law_names" 615 243 3 261 (.none) (.none) 263 618),
 (272,fo jL),(271,co "_law_number" 621 263 3 266 (.ref 268) (.ref 269) 270 628),
 (279,fo ou),(278,co "_law_cap" 631 270 2 273 (.ref 275) (.ref 276) 277 639),
 (284,fo lG),(283,co "_law_stuff" 642 279 3 280 (.none) (.none) 282 645),
 (291,fo mE),(290,co "_law_bars" 648 291 3 285 (.ref 287) (.ref 288) 289 658),
 (298,fo mF),(297,co "_law_dues" 661 299 2 292 (.ref 294) (.ref 295) 296 671),
 (305,fo jM),(304,co "_law_tapers" 674 308 3 299 (.ref 301) (.ref 302) 303 683),
 (312,fo lH),(311,co "_law_order" 686 316 5 306 (.ref 308) (.ref 309) 310 701),
 (317,fo lI),(316,co "_law_world" 704 326 1 313 (.none) (.none) 315 707),
 (322,fo mG),(321,co "_law_line" 710 339 1 318 (.none) (.none) 320 713),
 (327,fo lJ),(326,co "_law_lines" 716 341 1 323 (.none) (.none) 325 719),
 (334,fo Aw),(333,co "law" 722 359 1 328 (.ref 330) (.ref 331) 332 731),
 (2,{cls:= .none,data:= .dict #[]}),
 (100,DH),(99,{cls:= .type "dict",data:= .dict #[e P "__module__" 368 (.str "dosehouse.reading" 265),e P "__firstlineno__" 372 (.int 43 371),e P "__init__" 379 (.ref 97),e P "__static_attributes__" 385 (.ref 98),e P "__dict__" 387 (.ref 101),e P "__weakref__" 389 (.ref 102),e P "__doc__" 390 (.none)] 4}),
 (97,fo qB),(96,coq "__init__" "Draft.__init__" 373 45 1 91 (.ref 93) (.ref 94) 95 377),
 (66,{cls:= .type "dict",data:= .dict #[e P "" 267 (.ref 67),e P "guest" 272 (.ref 68),e P "stuff" 277 (.ref 69),e P "cap" 283 (.ref 70),e P "young" 289 (.ref 71),e P "bar" 293 (.ref 72),e P "order" 296 (.ref 73),e P "dose" 298 (.ref 74),e P "asked" 301 (.ref 75),e P "due" 303 (.ref 76),e P "taper" 306 (.ref 77)] 11}),
 (67,tu #[.str "guest" 268,.str "stuff" 269,.str "bar" 270,.str "order" 271]),
 (68,tu #[.str "guest" 273,.str "stuff" 274,.str "bar" 275,.str "order" 276]),
 (69,tu #[.str "cap" 278,.str "young" 279,.str "stuff" 280,.str "bar" 281,.str "order" 282]),
 (70,tu #[.str "cap" 284,.str "young" 285,.str "stuff" 286,.str "bar" 287,.str "order" 288]),
 (71,tu #[.str "stuff" 290,.str "bar" 291,.str "order" 292]),
 (72,tu #[.str "bar" 294,.str "order" 295]),
 (73,tu #[.str "dose" 297]),
 (74,tu #[.str "asked" 299,.str "due" 300]),
 (75,tu #[.str "order" 302]),
 (76,tu #[.str "taper" 304,.str "order" 305]),
 (77,tu #[.str "taper" 307,.str "order" 308]),
 (78,tu #[.str "order" 321,.str "dose" 322]),
 (79,{cls:= .type "dict",data:= .dict #[e P "flat" 324 (.ref 80),e P "kilo" 327 (.ref 81),e P "ever" 331 (.ref 82)] 3}),
 (80,tu #[.int 1 325,.int 1 326]),
 (81,tu #[.int 1 328,.int 1 329,.int 1 330]),
 (82,tu #[.int 1 332]),
 (83,tu #[.str "down" 337,.str "up" 338,.str "near" 339])]
def as_:List Addr:=[3,51,50,58,57,65,64,111,110,118,117,125,124,132,131,139,138,144,143,149,148,156,155,163,162,168,167,175,174,182,181,189,188,196,195,203,202,210,209,217,216,224,223,229,228,236,235,243,242,248,247,255,254,260,259,265,264,272,271,279,278,284,283,291,290,298,297,305,304,312,311,317,316,322,321,327,326,334,333,2,100,99,97,96,66,67,68,69,70,71,72,73,74,75,76,77,78,79,80,81,82,83]
def hook:Hook:=kHook K as_ (λ_=>rfl)
def xt(s:Shared):Bool:=xlAt view [] s&&recOk (RowW.records (OpenRow.toRowW (OpenLaw.row PySem.Challenge.rw_dosehouse_k07_shown_and_read))) s
abbrev sn(s:Shared):=(openSeen view ["BEHIND","CAP_LOWS"] (importedModules p0.main.body) xt true s,hook.obs s)
theorem w0:Way p0 view ["BEHIND","CAP_LOWS"] xt hook.obs hook.val 4794 11 (some (.ref 6)) "special-get-raises" false:=λ_ _=>by kernel_rfl
theorem w1:Way p0 view ["BEHIND","CAP_LOWS"] xt hook.obs hook.val 4794 11 (some (.ref 6)) "special-get-raises" true:=λ_ _=>by kernel_rfl
theorem left:LeftO p0 view ["BEHIND","CAP_LOWS"] xt hook.obs hook.val 4794:=DF (row:="special-get-raises") rfl (λ_=>rfl) rfl (λ_ _=>by kernel_rfl) (λ_=>by kernel_rfl) w0 w1
end
end Hd
namespace DL
open PySem
abbrev Key:=Sum Int Str
set_option genInjectivity true in
inductive D where
 |non
 |bl (b:Bool)
 |int (i:Int)
 |str (x:Str)
 |tup (ds:List D)
 |lst (ds:List D)
 |dK (kvs:List (Key×D))
 |dT (kvs:List (List Key×D))
 |scr (ns:List Int)
 |exc (C:Nat) (n:Str) (d:D)
 |obj (C:Nat) (ns:List Str) (ds:List D)
 |kid (ds:List D)
 |kt (ks:List Key)
 deriving Inhabited
mutual
@[simp] def D.imm:D->Bool
 | .non=>true
 | .bl _=>true
 | .int _=>true
 | .str _=>true
 | .tup ds=>ag ds
 | .lst _=>false
 | .dK _=>false
 | .dT _=>false
 | .scr _=>true
 | .exc _ _ d=>d.imm
 | .obj _ _ _=>false
 | .kid _=>false
 | .kt _=>true
@[simp] def ag:List D->Bool
 |[]=>true
 |d::ds=>d.imm&&ag ds
end
def D.ba:D->Bool
 | .lst ds=>ag ds
 | .dK kvs=>ag (kvs.map (·.2))
 | .dT kvs=>ag (kvs.map (·.2))
 |d=>d.imm
noncomputable def D.top:D->Bool
 | .lst _=>true
 | .dK _=>true
 | .dT _=>true
 | .obj _ _ _=>true
 |_=>false
noncomputable def a7:Nat:=16777216
set_option genInjectivity true in
inductive Slot where
 |sh (d:D)
 |own (d:D)
 |lok (d:D)
 |bor (d:D)
abbrev Env:=List (Option Slot)
set_option genInjectivity true in
inductive Cls where
 |c|tn|to|tb
 deriving DecidableEq
set_option genInjectivity true in
structure RV where
 k:Cls
 d:D
abbrev SpF:=List D->Option D
abbrev SpX:=List D->Option (D×List D)
abbrev SpV:=List D->Option RV
abbrev DE:=Env->Option RV
abbrev DT:=Env->Option Bool
abbrev DA:=Env->Option (List RV)
abbrev DG:=D->Env->Option Env
set_option genInjectivity true in
inductive Out where
 |nx (e:Env)
 |ret (d:D)
 |bk (e:Env)
 |ct (e:Env)
abbrev DS:=Env->Option Out
def gV(d:D):RV:=⟨if d.top then .tn else .c,d⟩
noncomputable def RV.free(r:RV):Bool:=match r.k with
 | .c=>true
 | .tn=>true
 |_=>false
@[simp] noncomputable def vE(i:Nat):DE:=λenv=>match env[i]? with
 |some (some (.sh d))=>some ⟨.c,d⟩
 |some (some (.own d))=>some ⟨.to,d⟩
 |some (some (.lok d))=>some ⟨.tb,d⟩
 |some (some (.bor d))=>some ⟨.tb,d⟩
 |_=>none
@[simp] noncomputable def kE(d:D):DE:=λ_=>some ⟨.c,d⟩
@[simp] noncomputable def opE(o:D->D->Option RV)(f g:DE):DE:=λenv=>(f env).bind λx=>(g env).bind λy=>o x.d y.d
@[simp] noncomputable def unE(o:D->Option RV)(f:DE):DE:=λenv=>(f env).bind λx=>o x.d
def pH:D->D->Option RV
 | .int i,.int j=>some ⟨.c,.int (i+j)⟩
 | .str x,.str y=>if x.length+y.length<=a7 then some ⟨.c,.str (x++y)⟩ else none
 | .tup x,.tup y=>if x.length+y.length<=a7/\0<x.length then some ⟨.c,.tup (x++y)⟩ else none
 | .lst x,.lst y=>if x.length+y.length<=a7 then some ⟨.tn,.lst (x++y)⟩ else none
 |_,_=>none
noncomputable def kA:D->D->Option RV
 | .int i,.int j=>some ⟨.c,.int (i -j)⟩
 |_,_=>none
noncomputable def bp(i j:Int):Bool:=decide (i.natAbs<18446744073709551616)||decide (j.natAbs<18446744073709551616)
def ck:D->D->Option RV
 | .int i,.int j=>if bp i j then some ⟨.c,.int (i*j)⟩ else none
 |_,_=>none
noncomputable def jN:D->D->Option RV
 | .int i,.int j=>if 0<j/\j<1073741824 then some ⟨.c,.int (i/j)⟩ else none
 |_,_=>none
noncomputable def dE:D->D->Option RV
 | .int i,.int j=>if 0<j then some ⟨.c,.int (i%j)⟩ else none
 |_,_=>none
noncomputable def jd:D->Option RV
 | .int i=>some ⟨.c,.int (-i)⟩
 |_=>none
@[simp] noncomputable def aG:Nat->D->Bool
 |_,.non=>true
 |_,.bl _=>true
 |_,.int _=>true
 |_,.str _=>true
 |n+1,.tup ds=>ds.all (aG n)
 |n+1,.lst ds=>ds.all (aG n)
 |_,_=>false
@[simp] def D.plain(d:D):Bool:=aG 20 d
mutual
def eqD:D->D->Bool
 | .non,.non=>true
 | .bl a,.bl b=>a==b
 | .bl a,.int b=>(if a then 1 else 0)==b
 | .int a,.bl b=>a==(if b then 1 else 0)
 | .int a,.int b=>a==b
 | .str a,.str b=>a==b
 | .tup a,.tup b=>iP a b
 | .lst a,.lst b=>iP a b
 |_,_=>false
@[simp] def iP:List D->List D->Bool
 |[],[]=>true
 |a::as,b::bs=>eqD a b&&iP as bs
 |_,_=>false
end
@[simp] theorem Nn:eqD .non .non=true:=rfl
@[simp] theorem Oj{a b:Bool}:eqD (.bl a) (.bl b)=(a==b):=rfl
@[simp] theorem Ol{a:Bool}{b:Int}:eqD (.bl a) (.int b)=((if a then 1 else 0)==b):=rfl
@[simp] theorem Om{a:Int}{b:Bool}:eqD (.int a) (.bl b)=(a==(if b then 1 else 0)):=rfl
@[simp] theorem Oo{a b:Int}:eqD (.int a) (.int b)=(a==b):=rfl
@[simp] theorem Oq{a b:Str}:eqD (.str a) (.str b)=(a==b):=rfl
@[simp] theorem Ot{a b:List D}:eqD (.tup a) (.tup b)=iP a b:=rfl
@[simp] theorem Ou{a b:List D}:eqD (.lst a) (.lst b)=iP a b:=rfl
@[simp] theorem G0{b:Int}:eqD .non (.int b)=false:=rfl
@[simp] theorem G1{a:Int}:eqD (.int a) .non=false:=rfl
@[simp] theorem G3{a:Int}{b:Str}:eqD (.int a) (.str b)=false:=rfl
@[simp] theorem G4{a:Str}{b:Int}:eqD (.str a) (.int b)=false:=rfl
@[simp] theorem G5{b:Str}:eqD .non (.str b)=false:=rfl
@[simp] theorem G6{a:Str}:eqD (.str a) .non=false:=rfl
@[simp] theorem G7{a:Int}{b:List D}:eqD (.int a) (.tup b)=false:=rfl
@[simp] theorem G8{a:List D}{b:Int}:eqD (.tup a) (.int b)=false:=rfl
@[simp] theorem G9{a:Str}{b:List D}:eqD (.str a) (.tup b)=false:=rfl
@[simp] theorem Ga{a:List D}{b:Str}:eqD (.tup a) (.str b)=false:=rfl
@[simp] theorem Gb{b:List D}:eqD .non (.tup b)=false:=rfl
@[simp] theorem Gd{a:List D}:eqD (.tup a) .non=false:=rfl
@[simp] theorem Ho{b:Bool}:eqD .non (.bl b)=false:=rfl
@[simp] theorem Hq{a:Bool}:eqD (.bl a) .non=false:=rfl
def eqB(x y:D):Option Bool:=if x.plain&&y.plain then some (eqD x y) else none
def neB(x y:D):Option Bool:=if x.plain&&y.plain then some (!eqD x y) else none
noncomputable def cN:D->Bool
 | .non=>true
 |_=>false
def f7(x y:D):Option Bool:=if cN y then some (cN x) else none
def qC(x y:D):Option Bool:=if cN y then some (!cN x) else none
noncomputable def ltB:D->D->Option Bool
 | .int i,.int j=>some (decide (i<j))
 |_,_=>none
noncomputable def leB:D->D->Option Bool
 | .int i,.int j=>some (decide (i<=j))
 |_,_=>none
noncomputable def gtB:D->D->Option Bool
 | .int i,.int j=>some (decide (j<i))
 |_,_=>none
noncomputable def geB:D->D->Option Bool
 | .int i,.int j=>some (decide (j<=i))
 |_,_=>none
@[simp] noncomputable def av(o:D->D->Option Bool)(f g:DE):DT:=λenv=>(f env).bind λx=>(g env).bind λy=>o x.d y.d
@[simp] noncomputable def bE(t:DT):DE:=λenv=>(t env).map λb=> ⟨.c,.bl b⟩
@[simp] noncomputable def dO(f:DE):DT:=λenv=>(f env).bind λx=>match x.d with
 | .bl b=>some b
 |_=>none
@[simp] noncomputable def dF(t u:DT):DT:=λenv=>(t env).bind λb=>if b then u env else some false
@[simp] noncomputable def orT(t u:DT):DT:=λenv=>(t env).bind λb=>if b then some true else u env
@[simp] noncomputable def jO(t:DT):DT:=λenv=>(t env).map (!·)
@[simp] noncomputable def kB(o p:D->D->Option Bool)(f g h:DE):DT:=λenv=>(f env).bind λx=>(g env).bind λy=>(o x.d y.d).bind λb=>if b then(h env).bind λz=>p y.d z.d else some false
@[simp] noncomputable def ifE(t:DT)(f g:DE):DE:=λenv=>(t env).bind λb=>if b then f env else g env
noncomputable def atD{α:Type}(xs:List α)(i:Int):Option α:=if 0<=i then xs[i.toNat]? else if -(xs.length:Int)<=i then xs[(i+xs.length).toNat]? else none
noncomputable def keyOf:D->Option Key
 | .int i=>some (.inl i)
 | .str x=>some (.inr x)
 |_=>none
@[simp] def keysOf:List D->Option (List Key)
 |[]=>some []
 |d::ds=>(keyOf d).bind λk=>(keysOf ds).map (k:: ·)
section
variable{Y:Type} [DecidableEq Y]
def look(kvs:List (Y×D))(k:Y):Option D:=(kvs.find? λkv=>decide (kv.1=k)).map (·.2)
def put(kvs:List (Y×D))(k:Y)(v:D):List (Y×D):=
 if(kvs.any λkv=>decide (kv.1=k))=true then kvs.map (λkv=>if kv.1=k then(kv.1,v) else kv) else kvs++[(k,v)]
end
def ixD:D->D->Option D
 | .lst xs,.int i=>atD xs i
 | .tup xs,.int i=>atD xs i
 | .str x,.int i=>if x.length<=a7 then(atD x.cps.toList i).map λc=> .str ⟨#[c]⟩ else none
 | .dK kvs,k=>(keyOf k).bind λk=>look kvs k
 | .dT kvs,.tup ds=>(keysOf ds).bind λk=>look kvs k
 | .scr ns,.int i=>(atD ns i).map .int
 |_,_=>none
@[simp] def ixE(f g:DE):DE:=λenv=>(f env).bind λx=>(g env).bind λy=>(ixD x.d y.d).map λd=> ⟨.c,d⟩
@[simp] noncomputable def az:DA:=λ_=>some []
@[simp] noncomputable def af(f:DE)(r:DA):DA:=λenv=>(f env).bind λx=>(r env).bind λxs=>some (x::xs)
@[simp] def dq(a:DA):DE:=λenv=>(a env).bind λrs=>if rs.all (·.free)&&decide (rs.length<=a7) then some ⟨.c,.tup (rs.map (·.d))⟩ else none
@[simp] def gK(a:DA):DE:=λenv=>(a env).bind λrs=>if rs.all (·.free)&&decide (rs.length<=a7) then some ⟨.tn,.lst (rs.map (·.d))⟩ else none
@[simp] def aQ(sp:SpF)(a:DA):DE:=λenv=>(a env).bind λrs=>(sp (rs.map (·.d))).map gV
@[simp] noncomputable def je(o:SpV)(a:DA):DE:=λenv=>(a env).bind λrs=>o (rs.map (·.d))
def gL:SpV
 |[.lst xs]=>some ⟨.c,.int xs.length⟩
 |[.tup xs]=>some ⟨.c,.int xs.length⟩
 |[.str x]=>if x.length<=a7 then some ⟨.c,.int x.length⟩ else none
 |[.dK kvs]=>some ⟨.c,.int kvs.length⟩
 |[.scr ns]=>some ⟨.c,.int ns.length⟩
 |[.kt ks]=>some ⟨.c,.int ks.length⟩
 |_=>none
noncomputable def lK:SpV
 |[.int i,.int j]=>some ⟨.c,.int (if j<i then j else i)⟩
 |_=>none
noncomputable def uc:SpV
 |[.int i,.int j]=>some ⟨.c,.int (if j>i then j else i)⟩
 |_=>none
noncomputable def aP:SpV
 |[.lst xs]=>some ⟨.c,.tup xs⟩
 |[.tup xs]=>some ⟨.c,.tup xs⟩
 |_=>none
noncomputable def listS:SpV
 |[.lst xs]=>some ⟨.tn,.lst xs⟩
 |[.tup xs]=>some ⟨.tn,.lst xs⟩
 |_=>none
@[simp] noncomputable def pI:List D->Option (List Bool)
 |[]=>some []
 | .bl b::ds=>(pI ds).map (b:: ·)
 |_=>none
@[simp] noncomputable def ox:List D->Option (List Int)
 |[]=>some []
 | .int i::ds=>(ox ds).map (i:: ·)
 |_=>none
def qE:D->Option (List D)
 | .lst xs=>some xs
 | .tup xs=>some xs
 | .scr ns=>some (ns.map .int)
 |_=>none
def one(o:SpV):SpV
 |[d]=>(qE d).bind o
 |_=>none
def qF:SpV:=one λds=>(pI ds).map λbs=> ⟨.c,.bl (bs.all id)⟩
def Lk:SpV:=one λds=>(ox ds).map λns=> ⟨.c,.int ns.sum⟩
def nS(i:Int)(ns:List Int):Int:=ns.foldl (λa b=>if b>a then b else a) i
def oy:SpV:=one λds=>(ox ds).bind λns=>match ns with
 |[]=>none
 |n::ns=>some ⟨.c,.int (nS n ns)⟩
noncomputable def iQ(T:String):D->Bool
 | .non=>T=="NoneType"
 | .bl _=>T=="bool"||T=="int"
 | .int _=>T=="int"
 | .str _=>T=="str"
 | .tup _=>T=="tuple"
 | .lst _=>T=="list"
 | .dK _=>T=="dict"
 | .dT _=>T=="dict"
 | .scr _=>T=="list"
 | .exc _ _ _=>false
 | .obj _ _ _=>false
 | .kid _=>false
 | .kt _=>false
noncomputable def jP:D->Bool
 | .scr _=>true
 | .exc _ _ _=>true
 | .obj _ _ _=>true
 | .kid _=>true
 | .kt _=>true
 |_=>false
@[simp] def jf(T:String)(f:DE):DT:=λenv=>(f env).bind λx=>if jP x.d then none else some (iQ T x.d)
noncomputable def sIx(n d:Nat):Option Int->Nat
 |none=>d
 |some v=>if v<0 then(v+(n:Int)).toNat else min v.toNat n
def cutD{α:Type}(xs:List α)(lo hi:Option Int):List α:=(xs.drop (sIx xs.length 0 lo)).take (sIx xs.length xs.length hi -sIx xs.length 0 lo)
abbrev DO:=Env->Option (Option Int)
@[simp] noncomputable def noO:DO:=λ_=>some none
@[simp] noncomputable def bK(f:DE):DO:=λenv=>(f env).bind λx=>match x.d with
 | .int i=>some (some i)
 |_=>none
def slD(lo hi:Option Int):D->Option RV
 | .lst xs=>some ⟨.tn,.lst (cutD xs lo hi)⟩
 | .tup xs=>if sIx xs.length 0 lo=0/\sIx xs.length xs.length hi=xs.length then none else some ⟨.c,.tup (cutD xs lo hi)⟩
 | .scr ns=>some ⟨.tn,.lst (cutD (ns.map .int) lo hi)⟩
 |_=>none
@[simp] def slE(f:DE)(lo hi:DO):DE:=λenv=>(f env).bind λx=>(lo env).bind λl=>(hi env).bind λh=>slD l h x.d
@[simp] noncomputable def gN(i:Nat):DG:=λd env=>some (env.set i (some (.sh d)))
@[simp] noncomputable def gNs:List Nat->List D->Env->Option Env
 |[],[],env=>some env
 |i::is,d::ds,env=>gNs is ds (env.set i (some (.sh d)))
 |_,_,_=>none
@[simp] def gT(is:List Nat):DG:=λd env=>match d with
 | .tup ds=>gNs is ds env
 |_=>none
@[simp] noncomputable def aD:DS:=λenv=>some (.nx env)
@[simp] noncomputable def dP:DS:=λ_=>none
@[simp] noncomputable def ak(f g:DS):DS:=λenv=>(f env).bind λo=>match o with
 | .nx e=>g e
 |o=>some o
noncomputable def stored(i:Nat)(r:RV)(env:Env):Option Env:=match r.k with
 | .c=>some (env.set i (some (.sh r.d)))
 | .tn=>some (env.set i (some (.own r.d)))
 |_=>none
@[simp] def aq(i:Nat)(f:DE):DS:=λenv=>(f env).bind λr=>(stored i r env).map .nx
@[simp] noncomputable def Ax(g:DG)(f:DE):DS:=λenv=>(f env).bind λr=>match r.k with
 | .c=>(g r.d env).map .nx
 |_=>none
def ud(r:RV):Bool:=match r.k with
 | .c=>r.d.imm
 | .tn=>r.d.ba
 | .to=>r.d.ba
 | .tb=>false
@[simp] def retS(f:DE):DS:=λenv=>(f env).bind λr=>if ud r then some (.ret r.d) else none
@[simp] noncomputable def ifS(t:DT)(f g:DS):DS:=λenv=>(t env).bind λb=>if b then f env else g env
@[simp] noncomputable def forL(g:DG)(body:DS):List D->Env->Option Out
 |[],env=>some (.nx env)
 |d::ds,env=>(g d env).bind λe=>(body e).bind λo=>match o with
  | .nx e=>forL g body ds e
  | .ct e=>forL g body ds e
  | .bk e=>some (.nx e)
  | .ret d=>some (.ret d)
abbrev DI:=Env->Option (List D)
@[simp] noncomputable def b9(l:Option Nat)(env:Env):Env:=match l with
 |none=>env
 |some i=>match env[i]? with
  |some (some (.own d))=>env.set i (some (.lok d))
  |_=>env
@[simp] noncomputable def mH(l:Option Nat)(env:Env):Bool:=match l with
 |none=>false
 |some i=>match env[i]? with
  |some (some (.own _))=>true
  |_=>false
@[simp] noncomputable def f9(l:Option Nat)(env:Env):Env:=match l with
 |none=>env
 |some i=>match env[i]? with
  |some (some (.lok d))=>env.set i (some (.own d))
  |_=>env
def freed(l:Option Nat)(b:Bool):Out->Out
 | .nx e=> .nx (if b then f9 l e else e)
 |o=>o
@[simp] def cL(l:Option Nat)(src:DI)(g:DG)(body:DS):DS:=λenv=>(src (b9 l env)).bind λds=>(forL g body ds (b9 l env)).map (freed l (mH l env))
@[simp] def vL(f:DE):DI:=λenv=>(f env).bind λr=>if r.k= .to then none else match r.d with
 | .lst xs=>some xs
 | .tup xs=>some xs
 | .scr ns=>some (ns.map .int)
 |_=>none
noncomputable def aV(lo:Int)(n:Nat):List D:=(List.range n).map λ(k:Nat)=> .int (lo+(k:Int))
noncomputable def bz(i:Int):Bool:=decide (-4611686018427387904<=i)&&decide (i<4611686018427387904)
@[simp] def aZ(f:DE):DI:=λenv=>(f env).bind λr=>match r.d with
 | .int j=>if bz j then some (aV 0 j.toNat) else none
 |_=>none
@[simp] def fJ(f g:DE):DI:=λenv=>(f env).bind λx=>(g env).bind λy=>match x.d,y.d with
 | .int i,.int j=>if bz i&&bz j then some (aV i (j -i).toNat) else none
 |_,_=>none
@[simp] noncomputable def ownAt(i:Nat)(env:Env):Option D:=match env[i]? with
 |some (some (.own d))=>some d
 |_=>none
@[simp] def bA(i:Nat)(f:DE):DS:=λenv=>(f env).bind λr=>(ownAt i env).bind λd=>match d with
 | .lst xs=>if r.free&&decide (xs.length<a7) then some (.nx (env.set i (some (.own (.lst (xs++[r.d])))))) else none
 |_=>none
@[simp] def vM(i:Nat)(f:DE):DS:=λenv=>(f env).bind λr=>(ownAt i env).bind λd=>match d,r.d with
 | .lst xs,.lst ys=>if(r.k== .tn)&&decide (xs.length+ys.length<=a7) then some (.nx (env.set i (some (.own (.lst (xs++ys)))))) else none
 |_,_=>none
@[simp] def su(i:Nat):DS:=λenv=>(ownAt i env).bind λd=>match d with
 | .lst _=>some (.nx (env.set i (some (.own (.lst [])))))
 |_=>none
def putD(d k v:D):Option D:=match d with
 | .dK kvs=>if kvs.length<a7 then(keyOf k).map λk=> .dK (put kvs k v) else none
 | .dT kvs=>match k with
  | .tup ks=>if kvs.length<a7 then(keysOf ks).map λk=> .dT (put kvs k v) else none
  |_=>none
 | .lst xs=>match k with
  | .int j=>if 0<=j/\j<xs.length then some (.lst (xs.set j.toNat v)) else if j<0/\-(xs.length:Int)<=j then some (.lst (xs.set (j+xs.length).toNat v)) else none
  |_=>none
 |_=>none
@[simp] def qG(i:Nat)(k v:DE):DS:=λenv=>(v env).bind λx=>(k env).bind λy=>(ownAt i env).bind λd=>if x.free then(putD d y.d x.d).map λd=> .nx (env.set i (some (.own d))) else none
noncomputable def cG:Option Slot->Option Slot
 |some (.sh d)=>some (.sh d)
 |some (.own d)=>some (.bor d)
 |some (.lok d)=>some (.bor d)
 |some (.bor d)=>some (.bor d)
 |none=>none
def compEnv(n:Nat)(eC:List Nat)(env:Env):Env:=List.replicate n none++eC.map λi=>cG (env[i]?.getD none)
@[simp] def bN(g:DG)(t:DT)(f:DE):List D->Env->Option (List D)
 |[],_=>some []
 |d::ds,env=>(g d env).bind λe=>(t e).bind λb=>if b then(f e).bind λr=>if r.free then(bN g t f ds e).map (r.d:: ·) else none else bN g t f ds e
@[simp] def bq(l:Option Nat)(n:Nat)(eC:List Nat)(src:DI)(g:DG)(t:DT)(f:DE):DE:=λenv=>(src (b9 l env)).bind λds=>if ds.length<=a7 then(bN g t f ds (compEnv n eC env)).map λrs=> ⟨.tn,.lst rs⟩ else none
@[simp] noncomputable def aK:DT:=λ_=>some true
@[simp] noncomputable def fQ(n:Nat)(ds:List D):Env:=ds.map (λd=>some (.sh d))++List.replicate (n -ds.length) none
@[simp] def cA(n np:Nat)(body:DS):SpF:=λds=>if ds.length=np then(body (fQ n ds)).bind λo=>match o with
  | .ret d=>some d
  | .nx _=>some .non
  |_=>none
 else none
@[simp] theorem DJ{a b:String}:Str.ofString a=Str.ofString b↔a=b:=by
 constructor
 .intro h;rw[Gce,Gce] at h;have h1:a.toList.map Char.toNat=b.toList.map Char.toNat:=by
   injection h with h
   exact Array.toList_inj.mpr h|>λz=>by simpa using z
  have h2:a.toList=b.toList:=by
   have inj:∀(x y:List Char),x.map Char.toNat=y.map Char.toNat->x=y:=by
    intro x;induction x with
    |nil=>intro y e;cases y with
     |nil=>rfl
     |cons=>simp at e
    |cons c x ih=>intro y e;cases y with
     |nil=>simp at e
     |cons c' y=>
      simp only[Gau,List.cons.injEq] at e;rw[ih y e.2,Char.toNat_inj.mp e.1]
   exact inj _ _ h1
  exact String.toList_inj.mp h2
 .rintro rfl;rfl
section
variable{i j:Int}{x y:Str}{ds es:List D}{d:D}{env:Env}{n:Nat}
@[simp] theorem Ll:pH (.int i) (.int j)=some ⟨.c,.int (i+j)⟩:=rfl
@[simp] theorem Lm:pH (.str x) (.str y)=if x.length+y.length<=a7 then some ⟨.c,.str (x++y)⟩ else none:=rfl
@[simp] theorem Ln:pH (.tup ds) (.tup es)=if ds.length+es.length<=a7/\0<ds.length then some ⟨.c,.tup (ds++es)⟩ else none:=rfl
@[simp] theorem Lo:pH (.lst ds) (.lst es)=if ds.length+es.length<=a7 then some ⟨.tn,.lst (ds++es)⟩ else none:=rfl
@[simp] theorem Lp:kA (.int i) (.int j)=some ⟨.c,.int (i -j)⟩:=rfl
@[simp] theorem Lq:ck (.int i) (.int j)=if bp i j then some ⟨.c,.int (i*j)⟩ else none:=rfl
@[simp] theorem K8:jN (.int i) (.int j)=if 0<j/\j<1073741824 then some ⟨.c,.int (i/j)⟩ else none:=rfl
@[simp] theorem Lr:dE (.int i) (.int j)=if 0<j then some ⟨.c,.int (i%j)⟩ else none:=rfl
@[simp] theorem Ls:jd (.int i)=some ⟨.c,.int (-i)⟩:=rfl
@[simp] theorem Np:ltB (.int i) (.int j)=some (decide (i<j)):=rfl
@[simp] theorem Nq:leB (.int i) (.int j)=some (decide (i<=j)):=rfl
@[simp] theorem Nr:gtB (.int i) (.int j)=some (decide (j<i)):=rfl
@[simp] theorem Nt:geB (.int i) (.int j)=some (decide (j<=i)):=rfl
@[simp] theorem Nu:eqB (.int i) (.int j)=some (i==j):=rfl
@[simp] theorem DK:eqB (.str x) (.str y)=some (x==y):=rfl
@[simp] theorem Ov:eqB .non (.int j)=some false:=rfl
@[simp] theorem Ox:eqB (.int j) .non=some false:=rfl
@[simp] theorem Oy:eqB .non .non=some true:=rfl
@[simp] theorem Nv:neB (.int i) (.int j)=some (!(i==j)):=rfl
@[simp] theorem Nw:neB (.str x) (.str y)=some (!(x==y)):=rfl
@[simp] theorem Oz:neB .non (.int j)=some true:=rfl
@[simp] theorem OA:neB (.int j) .non=some true:=rfl
@[simp] theorem OB:neB .non .non=some false:=rfl
@[simp] theorem K9:cN .non=true:=rfl
@[simp] theorem Ka:cN (.int i)=false:=rfl
@[simp] theorem Kb:cN (.str x)=false:=rfl
@[simp] theorem Lu{b:Bool}:cN (.bl b)=false:=rfl
@[simp] theorem Kc:cN (.tup ds)=false:=rfl
@[simp] theorem Ke:cN (.lst ds)=false:=rfl
@[simp] theorem Lv:f7 d .non=some (cN d):=rfl
@[simp] theorem Kf:qC d .non=some (!cN d):=rfl
@[simp] theorem Lw:gL [.lst ds]=some ⟨.c,.int ds.length⟩:=rfl
@[simp] theorem Lx:gL [.tup ds]=some ⟨.c,.int ds.length⟩:=rfl
@[simp] theorem jQ:gL [.str x]=if x.length<=a7 then some ⟨.c,.int x.length⟩ else none:=rfl
@[simp] theorem Ly{ns:List Int}:gL [.scr ns]=some ⟨.c,.int ns.length⟩:=rfl
@[simp] theorem Nx{kvs:List (Key×D)}:gL [.dK kvs]=some ⟨.c,.int kvs.length⟩:=rfl
@[simp] theorem Kg:lK [.int i,.int j]=some ⟨.c,.int (if j<i then j else i)⟩:=rfl
@[simp] theorem Kh:uc [.int i,.int j]=some ⟨.c,.int (if j>i then j else i)⟩:=rfl
@[simp] theorem Hr:aP [.lst ds]=some ⟨.c,.tup ds⟩:=rfl
@[simp] theorem Hs:aP [.tup ds]=some ⟨.c,.tup ds⟩:=rfl
@[simp] theorem Ki:listS [.lst ds]=some ⟨.tn,.lst ds⟩:=rfl
@[simp] theorem Kj:listS [.tup ds]=some ⟨.tn,.lst ds⟩:=rfl
@[simp] theorem Lz{T:String}:iQ T .non=(T=="NoneType"):=rfl
@[simp] theorem Ny{T:String}{b:Bool}:iQ T (.bl b)=(T=="bool"||T=="int"):=rfl
@[simp] theorem LA{T:String}:iQ T (.int i)=(T=="int"):=rfl
@[simp] theorem LB{T:String}:iQ T (.str x)=(T=="str"):=rfl
@[simp] theorem LC{T:String}:iQ T (.tup ds)=(T=="tuple"):=rfl
@[simp] theorem LD{T:String}:iQ T (.lst ds)=(T=="list"):=rfl
@[simp] theorem Kk:jP .non=false:=rfl
@[simp] theorem LF{b:Bool}:jP (.bl b)=false:=rfl
@[simp] theorem Km:jP (.int i)=false:=rfl
@[simp] theorem Kn:jP (.str x)=false:=rfl
@[simp] theorem Ko:jP (.tup ds)=false:=rfl
@[simp] theorem Kp:jP (.lst ds)=false:=rfl
@[simp] theorem Nz{lo hi:Option Int}:slD lo hi (.lst ds)=some ⟨.tn,.lst (cutD ds lo hi)⟩:=rfl
@[simp] theorem NA{lo hi:Option Int}:slD lo hi (.tup ds)=if sIx ds.length 0 lo=0/\sIx ds.length ds.length hi=ds.length then none else some ⟨.c,.tup (cutD ds lo hi)⟩:=rfl
@[simp] theorem NC{lo hi:Option Int}{ns:List Int}:slD lo hi (.scr ns)=some ⟨.tn,.lst (cutD (ns.map .int) lo hi)⟩:=rfl
@[simp] theorem LG:stored n ⟨.c,d⟩ env=some (env.set n (some (.sh d))):=rfl
@[simp] theorem Kq:stored n ⟨.tn,d⟩ env=some (env.set n (some (.own d))):=rfl
@[simp] theorem ND:ud ⟨.c,d⟩=d.imm:=rfl
@[simp] theorem LH:ud ⟨.tn,d⟩=d.ba:=rfl
@[simp] theorem LI:ud ⟨.to,d⟩=d.ba:=rfl
@[simp] theorem Kr:(D.lst ds).ba=ag ds:=rfl
@[simp] theorem LJ{kvs:List (List Key×D)}:(D.dT kvs).ba=ag (kvs.map (·.2)):=rfl
@[simp] theorem LK{kvs:List (Key×D)}:(D.dK kvs).ba=ag (kvs.map (·.2)):=rfl
@[simp] theorem LM:gV .non=⟨.c,.non⟩:=rfl
@[simp] theorem NF{b:Bool}:gV (.bl b)=⟨.c,.bl b⟩:=rfl
@[simp] theorem LN:gV (.int i)=⟨.c,.int i⟩:=rfl
@[simp] theorem LO:gV (.str x)=⟨.c,.str x⟩:=rfl
@[simp] theorem LP:gV (.tup ds)=⟨.c,.tup ds⟩:=rfl
@[simp] theorem LQ:gV (.lst ds)=⟨.tn,.lst ds⟩:=rfl
@[simp] theorem NG{kvs:List (List Key×D)}:gV (.dT kvs)=⟨.tn,.dT kvs⟩:=rfl
@[simp] theorem NH{kvs:List (Key×D)}:gV (.dK kvs)=⟨.tn,.dK kvs⟩:=rfl
@[simp] theorem OC:RV.free ⟨.c,d⟩=true:=rfl
@[simp] theorem NI:RV.free ⟨.tn,d⟩=true:=rfl
@[simp] theorem LR{l:Option Nat}{b:Bool}:freed l b (.nx env)= .nx (if b then f9 l env else env):=rfl
@[simp] theorem Ku{l:Option Nat}{b:Bool}:freed l b (.ret d)= .ret d:=rfl
@[simp] theorem Kv:keyOf (.int i)=some (.inl i):=rfl
@[simp] theorem Kw:keyOf (.str x)=some (.inr x):=rfl
@[simp] theorem NJ:ixD (.lst ds) (.int i)=atD ds i:=rfl
@[simp] theorem NK:ixD (.tup ds) (.int i)=atD ds i:=rfl
@[simp] theorem NL{ns:List Int}:ixD (.scr ns) (.int i)=(atD ns i).map .int:=rfl
@[simp] theorem jR:ixD (.str x) (.int i)=if x.length<=a7 then(atD x.cps.toList i).map λc=> .str ⟨#[c]⟩ else none:=rfl
@[simp] theorem OD{kvs:List (List Key×D)}:ixD (.dT kvs) (.tup ds)=(keysOf ds).bind λk=>look kvs k:=rfl
theorem pJ{α:Type}{xs:List α}{k:Nat}:atD xs (k:Int)=xs[k]? :=by
 unfold atD;rw[Gak (by lia)];simp
@[simp] theorem Pl{α:Type}{xs:List α}:atD xs 0=xs[0]? :=rfl
@[simp] theorem Po{α:Type}{xs:List α}:atD xs 1=xs[1]? :=rfl
@[simp] theorem Pp{α:Type}{xs:List α}:atD xs 2=xs[2]? :=rfl
@[simp] theorem Pq{α:Type}{xs:List α}:atD xs 3=xs[3]? :=rfl
@[simp] theorem Pr{α:Type}{xs:List α}:atD xs 4=xs[4]? :=rfl
@[simp] theorem Pt{α:Type}{xs:List α}:atD xs 5=xs[5]? :=rfl
end
open PySem PySem.Spec PyProof.Rows L2
abbrev ai:=PySem.W.Frag
abbrev St:=L2.St
def isT:HO->Prop
 | .tup _=>True
 | .frz _ _=>True
 |_=>False
def Kl(K:ai)(a:Addr)(xs:List V):Prop:=∃(o:Obj) (eh:Array Value) (n:Nat),K.lookup a=some o/\o.cls= .type "list"/\o.dict=none/\o.data= .seq eh n/\eh.size<=sizeLine/\Vals xs eh.toList
def Kt(K:ai)(a:Addr)(ks:List Key):Prop:=∃(o:Obj) (eh:Array Value) (n:Nat),K.lookup a=some o/\o.cls= .type "tuple"/\o.data= .seq eh n/\eh.size<=sizeLine/\Vals (ks.map kV) eh.toList
def Scr(K:ai)(H:Hp)(a:Addr)(ns:List Int):Prop:=(∃o,H a=some (.frz o (.lst (ns.map V.int))))\/Kl K a (ns.map V.int)
def Xc(H:Hp)(a:Addr)(C:Nat)(n:Str)(v:V):Prop:=∃dx vs sl od,H a=some (.frz {cls:= .ref C,dict:=some dx,data:= .fields vs,slots:=sl} (.own a))/\H dx=some (.frz od (.xd [(n,v)]))
def Kd(ds:List D)(vs:List V):Prop:=∀(i j:Nat) l g,ds[i]? =some (.kid l)->vs[i]? =some (.ref g)->vs[j]? =some (.ref g)->i=j
inductive Rep (K:ai) (F:Addr->Prop) (H:Hp):D->V->Prop where
 |non:Rep K F H .non .non
 |bl (b:Bool):Rep K F H (.bl b) (.bl b)
 |int (i:Int):Rep K F H (.int i) (.int i)
 |str (x:Str):Rep K F H (.str x) (.str x)
 |tup {a:Addr} {vs:List V} {ds:List D} (h:H a=some (.tup vs)) (l:ds.length=vs.length) (r:∀(i:Nat) d v,ds[i]? =some d->vs[i]? =some v->Rep K F H d v):Rep K F H (.tup ds) (.ref a)
 |lst {a:Addr} {vs:List V} {ds:List D} (f:F a) (h:Rd H a (.lst vs)) (l:ds.length=vs.length) (r:∀(i:Nat) d v,ds[i]? =some d->vs[i]? =some v->Rep K F H d v):Rep K F H (.lst ds) (.ref a)
 |scr {a:Addr} {ns:List Int} (h:Scr K H a ns):Rep K F H (.scr ns) (.ref a)
 |kt {a:Addr} {ks:List Key} (h:Kt K a ks):Rep K F H (.kt ks) (.ref a)
 |exc {a:Addr} {C:Nat} {n:Str} {v:V} {d:D} (h:Xc H a C n v) (r:Rep K F H d v):Rep K F H (.exc C n d) (.ref a)
 |obj {a dx C:Addr} {ns:List Str} {vs:List V} {ds:List D} (f:F a) (h:H a=some (.ins C dx (ns.zip vs))) (ln:ns.length=vs.length) (kd:Kd ds vs) (l:ds.length=vs.length) (r:∀(i:Nat) d v,ds[i]? =some d->vs[i]? =some v->Rep K F H d v):Rep K F H (.obj C ns ds) (.ref a)
 |kid {a:Addr} {vs:List V} {ds:List D} (f:F a) (h:H a=some (.lst vs)) (l:ds.length=vs.length) (r:∀(i:Nat) d v,ds[i]? =some d->vs[i]? =some v->Rep K F H d v):Rep K F H (.kid ds) (.ref a)
 |dK {a:Addr} {ws:List (Key×V)} {kvs:List (Key×D)} (f:F a) (h:H a=some (.dK ws)) (l:kvs.map (·.1)=ws.map (·.1)) (r:∀(i:Nat) p q,kvs[i]? =some p->ws[i]? =some q->Rep K F H p.2 q.2):Rep K F H (.dK kvs) (.ref a)
 |dT {a:Addr} {ws:List (List Key×V)} {kvs:List (List Key×D)} (f:F a) (h:H a=some (.dT ws)) (l:kvs.map (·.1)=ws.map (·.1)) (r:∀(i:Nat) p q,kvs[i]? =some p->ws[i]? =some q->Rep K F H p.2 q.2):Rep K F H (.dT kvs) (.ref a)
def aH(K:ai)(F:Addr->Prop)(H:Hp)(ds:List D)(vs:List V):Prop:=ds.length=vs.length/\∀(i:Nat) d v,ds[i]? =some d->vs[i]? =some v->Rep K F H d v
def b6{Y:Type}(K:ai)(F:Addr->Prop)(H:Hp)(kvs:List (Y×D))(ws:List (Y×V)):Prop:=kvs.map (·.1)=ws.map (·.1)/\∀(i:Nat) p q,kvs[i]? =some p->ws[i]? =some q->Rep K F H p.2 q.2
inductive Inn (K:ai) (F:Addr->Prop) (H:Hp):D->V->Prop where
 |non:Inn K F H .non .non
 |bl (b:Bool):Inn K F H (.bl b) (.bl b)
 |int (i:Int):Inn K F H (.int i) (.int i)
 |str (x:Str):Inn K F H (.str x) (.str x)
 |tup {a:Addr} {vs:List V} {ds:List D} (h:H a=some (.tup vs)) (r:aH K F H ds vs):Inn K F H (.tup ds) (.ref a)
 |lst {a:Addr} {vs:List V} {ds:List D} (h:Rd H a (.lst vs)) (r:aH K F H ds vs):Inn K F H (.lst ds) (.ref a)
 |scr {a:Addr} {ns:List Int} (h:Scr K H a ns):Inn K F H (.scr ns) (.ref a)
 |kt {a:Addr} {ks:List Key} (h:Kt K a ks):Inn K F H (.kt ks) (.ref a)
 |exc {a:Addr} {C:Nat} {n:Str} {v:V} {d:D} (h:Xc H a C n v) (r:Rep K F H d v):Inn K F H (.exc C n d) (.ref a)
 |obj {a dx C:Addr} {ns:List Str} {vs:List V} {ds:List D} (h:H a=some (.ins C dx (ns.zip vs))) (ln:ns.length=vs.length) (kd:Kd ds vs) (r:aH K F H ds vs):Inn K F H (.obj C ns ds) (.ref a)
 |kid {a:Addr} {vs:List V} {ds:List D} (f:F a) (h:H a=some (.lst vs)) (r:aH K F H ds vs):Inn K F H (.kid ds) (.ref a)
 |dK {a:Addr} {ws:List (Key×V)} {kvs:List (Key×D)} (h:H a=some (.dK ws)) (r:b6 K F H kvs ws):Inn K F H (.dK kvs) (.ref a)
 |dT {a:Addr} {ws:List (List Key×V)} {kvs:List (List Key×D)} (h:H a=some (.dT ws)) (r:b6 K F H kvs ws):Inn K F H (.dT kvs) (.ref a)
section
variable{K:ai}{F F' :Addr->Prop}{H H' :Hp}{d:D}{v:V}{ds:List D}{vs:List V}
theorem Rep.inn(h:Rep K F H d v):Inn K F H d v:=by
 cases h with
 |non=>exact .non
 |bl b=>exact .bl b
 |int i=>exact .int i
 |str x=>exact .str x
 |tup h l r=>exact .tup h ⟨l,r⟩
 |lst f h l r=>exact .lst h ⟨l,r⟩
 |scr h=>exact .scr h
 |kt h=>exact .kt h
 |exc h r=>exact .exc h r
 |obj f h ln kd l r=>exact .obj h ln kd ⟨l,r⟩
 |kid f h l r=>exact .kid f h ⟨l,r⟩
 |dK f h l r=>exact .dK h ⟨l,r⟩
 |dT f h l r=>exact .dT h ⟨l,r⟩
theorem Inn.rep(h:Inn K F H d v)(hf:∀a,v= .ref a->d.top=true->F a):Rep K F H d v:=by
 cases h with
 |non=>exact .non
 |bl b=>exact .bl b
 |int i=>exact .int i
 |str x=>exact .str x
 |tup h r=>exact .tup h r.1 r.2
 |lst h r=>exact .lst (hf _ rfl rfl) h r.1 r.2
 |scr h=>exact .scr h
 |kt h=>exact .kt h
 |exc h r=>exact .exc h r
 |obj h ln kd r=>exact .obj (hf _ rfl rfl) h ln kd r.1 r.2
 |kid f h r=>exact .kid f h r.1 r.2
 |dK h r=>exact .dK (hf _ rfl rfl) h r.1 r.2
 |dT h r=>exact .dT (hf _ rfl rfl) h r.1 r.2
def gc(F:Addr->Prop)(H H' :Hp):Prop:=∀b o,H b=some o->(F b\/isT o)->H' b=some o
theorem gc.of_same(h:bu H H'):gc F H H' :=λb o e _=>h b o e
theorem gc.tup{a:Addr}(s:gc F H H')(h:H a=some (.tup vs)):H' a=some (.tup vs):=s _ _ h (.inr trivial)
theorem gc.scr{a:Addr}{ns:List Int}(s:gc F H H')(h:Scr K H a ns):Scr K H' a ns:=by
 rcases h with⟨o,h⟩|h
 .exact .inl ⟨o,s _ _ h (.inr trivial)⟩
 .exact .inr h
variable{a:Addr}
theorem gc.xc{C:Nat}{n:Str}(s:gc F H H')(h:Xc H a C n v):Xc H' a C n v:=let⟨dx,vs,sl,od,h1,h2⟩:=h;⟨dx,vs,sl,od,s _ _ h1 (.inr trivial),s _ _ h2 (.inr trivial)⟩
variable{u:HO}
theorem gc.rd(s:gc F H H')(f:F a)(h:Rd H a u):Rd H' a u:=by
 rcases h with h| ⟨o,h⟩
 .exact .inl (s _ _ h (.inl f))
 .exact .inr ⟨o,s _ _ h (.inl f)⟩
theorem Rd.there(h:Rd H a u):H a≠none:=by
 rcases h with h| ⟨o,h⟩<;>rw[h]<;>simp
theorem Rep.gen(s:gc F H H')(hF:∀b,F b->H b≠none->F' b)(h:Rep K F H d v):Rep K F' H' d v:=by
 induction h with
 |non=>exact .non
 |bl b=>exact .bl b
 |int i=>exact .int i
 |str x=>exact .str x
 |tup h l r ih=>exact .tup (s.tup h) l ih
 |lst f h l r ih=>exact .lst (hF _ f (Rd.there h)) (s.rd f h) l ih
 |scr h=>exact .scr (s.scr h)
 |kt h=>exact .kt h
 |exc h r ih=>exact .exc (s.xc h) ih
 |obj f h ln kd l r ih=>exact .obj (hF _ f (by rw[h];simp)) (s _ _ h (.inl f)) ln kd l ih
 |kid f h l r ih=>exact .kid (hF _ f (by rw[h];simp)) (s _ _ h (.inl f)) l ih
 |dK f h l r ih=>exact .dK (hF _ f (by rw[h];simp)) (s _ _ h (.inl f)) l ih
 |dT f h l r ih=>exact .dT (hF _ f (by rw[h];simp)) (s _ _ h (.inl f)) l ih
theorem Rep.same(s:bu H H')(h:Rep K F H d v):Rep K F H' d v:=h.gen (.of_same s) λ_ f _=>f
theorem Rep.imp(hF:∀b,F b->F' b)(h:Rep K F H d v):Rep K F' H d v:=h.gen (.of_same λ_ _ e=>e) λb f _=>hF b f
theorem aH.gen(s:gc F H H')(hF:∀b,F b->H b≠none->F' b)(h:aH K F H ds vs):aH K F' H' ds vs:=⟨h.1,λi d v e1 e2=>(h.2 i d v e1 e2).gen s hF⟩
theorem b6.gen{Y:Type}{kvs:List (Y×D)}{ws:List (Y×V)}(s:gc F H H')(hF:∀b,F b->H b≠none->F' b)(h:b6 K F H kvs ws):b6 K F' H' kvs ws:=⟨h.1,λi p q e1 e2=>(h.2 i p q e1 e2).gen s hF⟩
theorem Inn.gen(s:gc F H H')(hF:∀b,F b->H b≠none->F' b)(ht:∀a,v= .ref a->d.top=true->∀o,H a=some o->H' a=some o)(h:Inn K F H d v):Inn K F' H' d v:=by
 have rd:∀{a:Addr} {u:HO},(∀o,H a=some o->H' a=some o)->Rd H a u->Rd H' a u:=λk h=>by
  rcases h with h| ⟨o,h⟩
  .exact .inl (k _ h)
  .exact .inr ⟨o,k _ h⟩
 cases h with
 |non=>exact .non
 |bl b=>exact .bl b
 |int i=>exact .int i
 |str x=>exact .str x
 |tup h r=>exact .tup (s.tup h) (r.gen s hF)
 |lst h r=>exact .lst (rd (ht _ rfl rfl) h) (r.gen s hF)
 |scr h=>exact .scr (s.scr h)
 |kt h=>exact .kt h
 |exc h r=>exact .exc (s.xc h) (r.gen s hF)
 |obj h ln kd r=>exact .obj (ht _ rfl rfl _ h) ln kd (r.gen s hF)
 |kid f h r=>exact .kid (hF _ f (by rw[h];simp)) (s _ _ h (.inl f)) (r.gen s hF)
 |dK h r=>exact .dK (ht _ rfl rfl _ h) (r.gen s hF)
 |dT h r=>exact .dT (ht _ rfl rfl _ h) (r.gen s hF)
theorem Inn.same(s:bu H H')(h:Inn K F H d v):Inn K F H' d v:=h.gen (.of_same s) (λ_ f _=>f) λ_ _ _ o e=>s _ o e
theorem Inn.imp(hF:∀b,F b->F' b)(h:Inn K F H d v):Inn K F' H d v:=h.gen (.of_same λ_ _ e=>e) (λb f _=>hF b f) λ_ _ _ _ e=>e
theorem Inn.any(h:Inn K F H d v):Rep K (λ_=>True) H d v:=(h.imp (F' :=λ_=>True) λ_ _=>trivial).rep λ_ _ _=>trivial
theorem jS{ds:List D}(h:ag ds=true):∀(i:Nat) d,ds[i]? =some d->d.imm=true:=by
 induction ds with
 |nil=>intro i d e;simp at e
 |cons x xs ih=>
  unfold ag at h;rw[Gad] at h;intro i d e;cases i with
  |zero=>simp at e;subst e;exact h.1
  |succ i=>exact ih h.2 i d (by simpa using e)
theorem Rep.imm(h:Rep K F H d v)(hd:d.imm=true):Rep K F' H d v:=by
 induction h with
 |non=>exact .non
 |bl b=>exact .bl b
 |int i=>exact .int i
 |str x=>exact .str x
 |tup h l r ih=>
  unfold D.imm at hd;exact .tup h l λi d v e1 e2=>ih i d v e1 e2 (jS hd i d e1)
 |lst f h l r ih=>simp[D.imm] at hd
 |scr h=>exact .scr h
 |kt h=>exact .kt h
 |exc h r ih=>
  unfold D.imm at hd;exact .exc h (ih hd)
 |obj f h ln kd l r ih=>simp[D.imm] at hd
 |kid f h l r ih=>simp[D.imm] at hd
 |dK f h l r ih=>simp[D.imm] at hd
 |dT f h l r ih=>simp[D.imm] at hd
theorem Inn.imm(h:Inn K F H d v)(hd:d.imm=true):Rep K F' H d v:=by
 refine Rep.imm (h.rep λa _ ht=> ?_) hd;cases d<;>simp[D.top] at ht<;>simp[D.imm] at hd
theorem aH.nil:aH K F H [] []:=⟨rfl,λi d v e=>by simp at e⟩
theorem aH.bP(h:aH K F H [] vs):vs=[]:=Gbe h.1.symm
theorem aH.cons(h:Rep K F H d v)(r:aH K F H ds vs):aH K F H (d::ds) (v::vs):=by
 refine⟨by simp[r.1],λi x u e1 e2=> ?_⟩;cases i with
 |zero=>simp at e1 e2;subst e1;subst e2;exact h
 |succ i=>exact r.2 i x u (by simpa using e1) (by simpa using e2)
theorem aH.cons_inv(h:aH K F H (d::ds) vs):∃v r,vs=v::r/\Rep K F H d v/\aH K F H ds r:=by
 cases vs with
 |nil=>exact absurd h.1 (by simp)
 |cons v r=>exact⟨v,r,rfl,h.2 0 d v rfl rfl,by simpa using h.1,λi x u e1 e2=>h.2 (i+1) x u (by simpa using e1) (by simpa using e2)⟩
theorem aH.append:∀{ds es:List D} {vs us:List V},aH K F H ds vs->aH K F H es us->aH K F H (ds++es) (vs++us)
 |[],es,vs,us,h,r=>by rw[h.bP];exact r
 |d::ds,es,vs,us,h,r=>by
  obtain⟨v,w,rfl,h1,h2⟩:=h.cons_inv;exact .cons h1 (h2.append r)
theorem aH.take(n:Nat)(h:aH K F H ds vs):aH K F H (ds.take n) (vs.take n):=by
 refine⟨by simp[h.1],λi x u e1 e2=> ?_⟩;by_cases hi:i<n
 .rw[List.getElem?_take_of_lt hi] at e1 e2;exact h.2 i x u e1 e2
 .rw[GaZ (by simp;lia)] at e1;cases e1
theorem aH.drop(n:Nat)(h:aH K F H ds vs):aH K F H (ds.drop n) (vs.drop n):=by
 refine⟨by simp[h.1],λi x u e1 e2=> ?_⟩;rw[List.getElem?_drop] at e1 e2;exact h.2 _ x u e1 e2
theorem aH.set(h:aH K F H ds vs)(r:Rep K F H d v)(i:Nat):aH K F H (ds.set i d) (vs.set i v):=by
 refine⟨by simp[h.1],λj x u e1 e2=> ?_⟩;by_cases hj:i=j
 .subst hj;have hi:i<ds.length:=by have:=(Gab.mp e1).1;simpa using this
  rw[Gav hi] at e1;rw[Gav (by rw[<-h.1];exact hi)] at e2;cases e1;cases e2;exact r
 .rw[Gac hj] at e1 e2;exact h.2 j x u e1 e2
theorem aH.get{i:Nat}(h:aH K F H ds vs)(e:ds[i]? =some d):∃v,vs[i]? =some v/\Rep K F H d v:=by
 have hi:=(Gab.mp e).1;have xo :i<vs.length:=by rw[<-h.1];exact hi
 exact⟨vs[i],by simp[xo],h.2 i d _ e (by simp[xo])⟩
theorem aH.imm(h:aH K F H ds vs)(hd:ag ds=true):aH K F' H ds vs:=⟨h.1,λi d v e1 e2=>(h.2 i d v e1 e2).imm (jS hd i d e1)⟩
end
def bg:Option (Option Slot)->Prop
 |some (some (.own _))=>True
 |some (some (.lok _))=>True
 |some (some (.bor _))=>True
 |_=>False
def jT:Option (Option Slot)->Prop
 |some (some (.own _))=>True
 |some (some (.lok _))=>True
 |_=>False
def isO:Option (Option Slot)->Prop
 |some (some (.own _))=>True
 |_=>False
def lY:Option (Option Slot)->Prop
 |some (some (.lok _))=>True
 |some (some (.bor _))=>True
 |_=>False
variable{x:Option (Option Slot)}
theorem oz(h:bg x):isO x\/lY x:=by
 match x,h with
 |some (some (.own _)),_=>exact .inl trivial
 |some (some (.lok _)),_=>exact .inr trivial
 |some (some (.bor _)),_=>exact .inr trivial
theorem lY.top(h:lY x):bg x:=by
 match x,h with
 |some (some (.lok _)),_=>trivial
 |some (some (.bor _)),_=>trivial
theorem isO.ol(h:isO x):jT x:=by
 match x,h with
 |some (some (.own _)),_=>trivial
theorem jT.top(h:jT x):bg x:=by
 match x,h with
 |some (some (.own _)),_=>trivial
 |some (some (.lok _)),_=>trivial
def Cln(eg:Addr->Prop)(env:Env)(Z:St)(a:Addr):Prop:=¬eg a/\∀i:Nat,bg env[i]? ->Z[i]? ≠some (some (V.ref a))
def isW:HO->Prop
 | .lst _=>True
 | .dK _=>True
 | .dT _=>True
 | .ins _ _ _=>True
 |_=>False
def Wr(H:Hp)(a:Addr):Prop:=∃o,H a=some o/\isW o
def Ow(env:Env)(Z:St)(a:Addr):Prop:=∃i:Nat,isO env[i]? /\Z[i]? =some (some (.ref a))
structure au(K:ai)(H0:Hp)(eg:Addr->Prop)(env:Env)(Z:St)(H:Hp):Prop where
 same:bu H0 H
 len:env.length=Z.length
 bad:∀a,eg a->H a≠none
 sh:∀(i:Nat) d,env[i]? =some (some (.sh d))->∃v,Z[i]? =some (some v)/\Rep K (Cln eg env Z) H d v
 ow:∀(i:Nat) d,(env[i]? =some (some (.own d))\/env[i]? =some (some (.lok d)))->∃a,Z[i]? =some (some (.ref a))/\H0 a=none/\¬eg a/\Wr H a/\d.top=true/\Inn K (Cln eg env Z) H d (.ref a)
 bo:∀(i:Nat) d,env[i]? =some (some (.bor d))->∃a,Z[i]? =some (some (.ref a))/\Wr H a/\d.top=true/\Inn K (Cln eg env Z) H d (.ref a)
 dj:∀(i j:Nat) a,jT env[i]? ->bg env[j]? ->Z[i]? =some (some (.ref a))->Z[j]? =some (some (.ref a))->i=j
structure Stp(env:Env)(Z:St)(H:Hp)(eB :Env)(Z' :St)(H' :Hp):Prop where
 keep:∀b o,H b=some o->¬Ow env Z b->H' b=some o
 ow:∀b,Ow eB Z' b->Ow env Z b\/H b=none
 lk:∀i:Nat,lY eB[i]? ->eB[i]? =env[i]? /\Z'[i]? =Z[i]?
variable{H:Hp}{Z:St}{env:Env}
theorem Stp.refl:Stp env Z H env Z H:=⟨λ_ _ e _=>e,λ_ h=> .inl h,λ_ _=> ⟨rfl,rfl⟩⟩
theorem Stp.of_same{H' :Hp}(s:bu H H'):Stp env Z H env Z H' :=⟨λb o e _=>s b o e,λ_ h=> .inl h,λ_ _=> ⟨rfl,rfl⟩⟩
theorem Stp.trans{e1 e2 e3:Env}{s1 s2 s3:St}{H1 H2 H3:Hp}(a:Stp e1 s1 H1 e2 s2 H2)(b:Stp e2 s2 H2 e3 s3 H3):Stp e1 s1 H1 e3 s3 H3:=by
 refine⟨λc o e n=>b.keep c o (a.keep c o e n) λh=> ?_,λc h=> ?_,λi h=> ?_⟩
 .rcases a.ow c h with q|q
  .exact n q
  .rw[e] at q;cases q
 .rcases b.ow c h with q|q
  .exact a.ow c q
  .by_cases z:Ow e1 s1 c
   .exact .inl z
   .right
    cases e:H1 c with
    |none=>rfl
    |some o=>rw[a.keep c o e z] at q;cases q
 .obtain⟨h1,h2⟩:=b.lk i h;rw[h1] at h;obtain⟨h3,h4⟩:=a.lk i h;exact⟨h1.trans h3,h2.trans h4⟩
section
variable{K:ai}{H0 H H' H1:Hp}{eg:Addr->Prop}{env eB :Env}{Z Z' :St}{d:D}{v:V}{a:Addr}{i:Nat}
theorem Wr.same(s:bu H H')(w:Wr H a):Wr H' a:=let⟨o,h1,h2⟩:=w;⟨o,s a o h1,h2⟩
theorem Wr.there(w:Wr H a):H a≠none:=let⟨o,h1,_⟩:=w;by rw[h1];simp
theorem au.mono(E:au K H0 eg env Z H)(s:bu H H'):au K H0 eg env Z H' where
 same:=E.same.trans s
 len:=E.len
 bad:=λa h e=>E.bad a h (s.free e)
 sh:=λi d e=>let⟨v,h1,h2⟩:=E.sh i d e;⟨v,h1,h2.same s⟩
 ow:=λi d e=>let⟨a,h1,h2,h3,h4,h5,h6⟩:=E.ow i d e;⟨a,h1,h2,h3,h4.same s,h5,h6.same s⟩
 bo:=λi d e=>let⟨a,h1,h2,h3,h4⟩:=E.bo i d e;⟨a,h1,h2.same s,h3,h4.same s⟩
 dj:=E.dj
theorem au.iY(E:au K H0 eg env Z H)(h:bg env[i]?):∃d a,d.top=true/\Z[i]? =some (some (.ref a))/\Wr H a/\Inn K (Cln eg env Z) H d (.ref a):=by
 match e:env[i]?,h with
 |some (some (.own d)),_=>obtain⟨a,h1,_,_,h4,h5,h6⟩:=E.ow i d (.inl e);exact⟨d,a,h5,h1,h4,h6⟩
 |some (some (.lok d)),_=>obtain⟨a,h1,_,_,h4,h5,h6⟩:=E.ow i d (.inr e);exact⟨d,a,h5,h1,h4,h6⟩
 |some (some (.bor d)),_=>obtain⟨a,h1,h4,h5,h6⟩:=E.bo i d e;exact⟨d,a,h5,h1,h4,h6⟩
theorem au.ue(E:au K H0 eg env Z H)(h:bg env[i]?)(e:Z[i]? =some (some (.ref a))):Wr H a:=by
 obtain⟨d,b,h1,h2,h3,h4⟩:=E.iY h;rw[e] at h2;cases h2
 exact h3
theorem au.gW(E:au K H0 eg env Z H)(h:bg env[i]?)(e:Z[i]? =some (some (.ref a))):H a≠none:=(E.ue h e).there
theorem au.jg(E:au K H0 eg env Z H)(h:H a=none):Cln eg env Z a:=⟨λb=>E.bad a b h,λi t e=>E.gW t e h⟩
def fb(K:ai)(H0:Hp)(eg:Addr->Prop)(env:Env)(Z:St)(H H' :Hp)(r:RV)(v:V):Prop:=
 match r.k with
 | .c=>Rep K (Cln eg env Z) H' r.d v
 | .tn=>∃a,v= .ref a/\H a=none/\Wr H' a/\r.d.top=true/\Inn K (λb=>Cln eg env Z b/\b≠a) H' r.d v
 | .to=>∃a,v= .ref a/\H0 a=none/\Wr H' a/\r.d.top=true/\Inn K (Cln eg env Z) H' r.d v
 | .tb=>Inn K (Cln eg env Z) H' r.d v/\∀a,v= .ref a->r.d.top=true->¬Ow env Z a
theorem fb.inn{r:RV}(h:fb K H0 eg env Z H H' r v):Inn K (Cln eg env Z) H' r.d v:=by
 obtain⟨k,d⟩:=r;cases k with
 |c=>exact Rep.inn h
 |tn=>obtain⟨_,_,_,_,_,h⟩:=h;exact h.imp λ_ z=>z.1
 |to=>obtain⟨_,_,_,_,_,h⟩:=h;exact h
 |tb=>exact h.1
theorem fb.rep{r:RV}(h:fb K H0 eg env Z H H' r v)(E:au K H0 eg env Z H)(hf:r.free=true):Rep K (Cln eg env Z) H' r.d v:=by
 obtain⟨k,d⟩:=r;cases k with
 |c=>exact h
 |tn=>
  obtain⟨a,e,h1,_,_,h2⟩:=h;exact(h2.imp λ_ z=>z.1).rep λb eb _=>by rw[e] at eb;cases eb;exact E.jg h1
 |to=>simp[RV.free] at hf
 |tb=>simp[RV.free] at hf
theorem fb.same{r:RV}{H2:Hp}(h:fb K H0 eg env Z H H' r v)(s:bu H' H2):fb K H0 eg env Z H H2 r v:=by
 obtain⟨k,d⟩:=r;cases k with
 |c=>exact Rep.same s h
 |tn=>obtain⟨a,e,h1,w,t,h2⟩:=h;subst e;exact⟨a,rfl,h1,w.same s,t,h2.same s⟩
 |to=>obtain⟨a,e,h1,w,t,h2⟩:=h;subst e;exact⟨a,rfl,h1,w.same s,t,h2.same s⟩
 |tb=>exact⟨h.1.same s,h.2⟩
theorem fb.from{r:RV}(s:bu H H1)(h:fb K H0 eg env Z H1 H' r v):fb K H0 eg env Z H H' r v:=by
 obtain⟨k,d⟩:=r;cases k with
 |c=>exact h
 |tn=>obtain⟨a,e,h1,w,t,h2⟩:=h;exact⟨a,e,s.free h1,w,t,h2⟩
 |to=>exact h
 |tb=>exact h
def oA(K:ai)(H0 H' :Hp)(d:D)(v:V):Prop:=
 (d.top=true->∃a,v= .ref a/\H0 a=none/\Wr H' a)/\Inn K (λb=>H0 b=none/\v≠ .ref b) H' d v
theorem oA.rv(E:au K H0 eg env Z H)(h:oA K H H' d v):fb K H0 eg env Z H H' (gV d) v:=by
 obtain⟨h1,h2⟩:=h;unfold gV;by_cases t:d.top=true
 .rw[Gak t];obtain⟨a,e,n,w⟩:=h1 t;subst e;exact⟨a,rfl,n,w,t,h2.imp λb z=> ⟨E.jg z.1,λq=>z.2 (by rw[q])⟩⟩
 .rw[Gam t];exact(h2.imp λb z=>E.jg z.1).rep λ_ _ z=>absurd z t
end
open PySem PySem.Spec PyProof.Rows L2
def tE(X:Cx)(f:DE):TE:=λZ H Q=>∃H0 eg env r,au X.K H0 eg env Z H/\f env=some r/\∀v H',bu H H' ->fb X.K H0 eg env Z H H' r v->Q v H'
def tT(X:Cx)(t:DT):TT:=λZ H Q=>∃H0 eg env b,au X.K H0 eg env Z H/\t env=some b/\∀H',bu H H' ->Q b H'
def tA(X:Cx)(a:DA):TA:=λZ H Q=>∃H0 eg env rs,au X.K H0 eg env Z H/\a env=some rs/\∀vs H',bu H H' ->Paired (fb X.K H0 eg env Z H H') rs vs->Q vs H'
def Ge(X:Cx)(H0:Hp)(eg:Addr->Prop)(env:Env)(Z:St)(H:Hp)(E:Ends):Out->Prop
 | .nx e=>∀Z' H',au X.K H0 eg e Z' H' ->Stp env Z H e Z' H' ->E.nx Z' H'
 | .bk e=>∀Z' H',au X.K H0 eg e Z' H' ->Stp env Z H e Z' H' ->E.bk Z' H'
 | .ct e=>∀Z' H',au X.K H0 eg e Z' H' ->Stp env Z H e Z' H' ->E.ct Z' H'
 | .ret d=>∀v H',bu H0 H' ->oA X.K H0 H' d v->E.rt v H'
def tS(X:Cx)(f:DS):TS:=λE Z H=>∃H0 eg env o,au X.K H0 eg env Z H/\f env=some o/\Ge X H0 eg env Z H E o
def tG(X:Cx)(g:DG):TG:=λv Z H Q=>∃H0 eg env d eB,au X.K H0 eg env Z H/\g d env=some eB /\Rep X.K (Cln eg env Z) H d v/\∀Z' H',au X.K H0 eg eB Z' H' ->Stp env Z H eB Z' H' ->Q Z' H'
abbrev PEd(X:Cx)(e:Expr)(f:DE):Prop:=PE X e (tE X f)
abbrev PTd(X:Cx)(e:Expr)(t:DT):Prop:=PT X e (tT X t)
abbrev PWd(X:Cx)(e:Expr)(t:DT):Prop:=PW X e (tT X t)
abbrev PAd(X:Cx)(es:List Expr)(a:DA):Prop:=PA X es (tA X a)
abbrev PSd(X:Cx)(st:Stmt)(f:DS):Prop:=PS X st (tS X f)
abbrev nT(X:Cx)(st:List Stmt)(f:DS):Prop:=PSs X st (tS X f)
abbrev PGd(X:Cx)(e:Expr)(g:DG):Prop:=PG X e (tG X g)
section
variable{X:Cx}{e a b c:Expr}{f g h:DE}{t u:DT}{pos:Pos}
theorem _root_.L2.PE.ao{t t' :TE}(h:PE X e t')(i:∀Z H Q,t Z H Q->t' Z H Q):PE X e t:=λef s Z H Q I q=>h ef s Z H Q I (i Z H Q q)
variable{t' :TT}
theorem _root_.L2.PT.ao{t:TT}(h:PT X e t')(i:∀Z H Q,t Z H Q->t' Z H Q):PT X e t:=λef s Z H Q I q=>h ef s Z H Q I (i Z H Q q)
theorem _root_.L2.PW.ao{t:TT}(h:PW X e t')(i:∀Z H Q,t Z H Q->t' Z H Q):PW X e t:=λwh ef s Z H Q I q=>h wh ef s Z H Q I (i Z H Q q)
theorem _root_.L2.PA.ao{es:List Expr}{t t' :TA}(h:PA X es t')(i:∀Z H Q,t Z H Q->t' Z H Q):PA X es t:=λpos ef s Z H Q I q=>h pos ef s Z H Q I (i Z H Q q)
theorem _root_.L2.PS.ao{st:Stmt}{t t' :TS}(h:PS X st t')(i:∀D Z H,t D Z H->t' D Z H):PS X st t:=λef s Z H D I q=>h ef s Z H D I (i D Z H q)
theorem _root_.L2.PSs.ao{st:List Stmt}{t t' :TS}(h:PSs X st t')(i:∀D Z H,t D Z H->t' D Z H):PSs X st t:=λef s Z H D I q=>h ef s Z H D I (i D Z H q)
theorem _root_.L2.PG.ao{t t' :TG}(h:PG X e t')(i:∀v Z H Q,t v Z H Q->t' v Z H Q):PG X e t:=λef s Z H v u Q I r q=>h ef s Z H v u Q I r (i v Z H Q q)
variable{H:Hp}
theorem aT:bu H H:=λ_ _ e=>e
theorem ee{α β:Type}{o:Option α}{k:α->Option β}{y:β}(h:o.bind k=some y):∃x,o=some x/\k x=some y:=Option.bind_eq_some_iff.mp h
variable{x:Str}
theorem Ht(i:Nat)(hN:autoParam (X.N[i]? =some x) Za1._auto_1)(hv:Vis X.env.scope x:=by first|exact Or.inl rfl|exact Or.inr (Or.inl rfl)|exact Or.inr (Or.inr rfl))(hd:autoParam ((x==("__debug__":Str))=false) Za2._auto_1)
  (eQ:autoParam ((x==("__classdict__":Str))=false) Za2._auto_1):PEd X (.Name x pos) (vE i):=by
 refine(cK hN hv hd eQ).ao ?_;rintro Z H Q ⟨H0,eg,env,r,E,e,k⟩;unfold vE at e
 match q:env[i]?,e with
 |some (some (.sh d)),e=>
  cases e;obtain⟨v,h1,h2⟩:=E.sh i d q;exact⟨v,h1,k v H aT h2⟩
 |some (some (.own d)),e=>
  cases e;obtain⟨a,h1,h2,h3,h4,h5,h6⟩:=E.ow i d (.inl q);exact⟨_,h1,k _ H aT ⟨a,rfl,h2,h4,h5,h6⟩⟩
 |some (some (.lok d)),e=>
  cases e;obtain⟨a,h1,h2,h3,h4,h5,h6⟩:=E.ow i d (.inr q);refine⟨_,h1,k _ H aT ⟨h6,λb eb _ ⟨j,ho,hj⟩=> ?_⟩⟩;cases eb;have:=E.dj j i a ho.ol (by rw[q];trivial) hj h1;subst this;rw[q] at ho;exact ho
 |some (some (.bor d)),e=>
  cases e;obtain⟨a,h1,h4,h5,h6⟩:=E.bo i d q;refine⟨_,h1,k _ H aT ⟨h6,λb eb _ ⟨j,ho,hj⟩=> ?_⟩⟩;cases eb;have:=E.dj j i a ho.ol (by rw[q];trivial) hj h1;subst this;rw[q] at ho;exact ho
variable{j:Nat}
theorem Ay{i:Int}:PEd X (.Constant (.int i) j pos) (kE (.int i)):=GF.ao λZ H Q ⟨_,_,_,_,_,e,k⟩=>by cases e;exact k _ H aT (.int i)
theorem LS{b:Bool}:PEd X (.Constant (.bool b) j pos) (kE (.bl b)):=Kz.ao λZ H Q ⟨_,_,_,_,_,e,k⟩=>by cases e;exact k _ H aT (.bl b)
theorem Hu:PEd X (.Constant .none j pos) (kE .non):=GH.ao λZ H Q ⟨_,_,_,_,_,e,k⟩=>by cases e;exact k _ H aT .non
theorem Hw:PEd X (.Constant (.str x) j pos) (kE (.str x)):=rN.ao λZ H Q ⟨_,_,_,_,_,e,k⟩=>by cases e;exact k _ H aT (.str x)
def RvN(K:ai)(F:Addr->Prop)(H H' :Hp)(r:RV)(v:V):Prop:=
 match r.k with
 | .c=>Rep K F H' r.d v
 | .tn=>∃a,v= .ref a/\H a=none/\Wr H' a/\r.d.top=true/\Inn K (λb=>F b/\b≠a) H' r.d v
 |_=>False
theorem RvN.ok{K:ai}{H0 H1 H' :Hp}{eg:Addr->Prop}{env:Env}{Z:St}{r:RV}{v:V}(h:RvN K (Cln eg env Z) H1 H' r v)(s:bu H H1):fb K H0 eg env Z H H' r v:=by
 obtain⟨k,d⟩:=r;cases k with
 |c=>exact h
 |tn=>obtain⟨a,e,h1,w,t,h2⟩:=h;exact⟨a,e,s.free h1,w,t,h2⟩
 |to=>exact(show False from h).elim
 |tb=>exact(show False from h).elim
def OpD(X:Cx)(o:D->D->Option RV)(r:R2):Prop:=∀(F:Addr->Prop) (H:Hp) (dx dy:D) (x y:V) (rv:RV) (Q:VK),Inn X.K F H dx x->Inn X.K F H dy y->o dx dy=some rv->
 (∀v H',bu H H' ->RvN X.K F H H' rv v->Q v H')->r x y H Q
theorem qH{op:Operator}{o:D->D->Option RV}{r:R2}(ho:OpR X (binaryOp op) r)(hd:OpD X o r)(ha:PEd X a f)(hb:PEd X b g):PEd X (.BinOp a op b pos) (opE o f g):=by
 refine(KQ ho ha hb).ao ?_;rintro Z H Q ⟨H0,eg,env,rv,E,e,k⟩;obtain⟨x,hx,e⟩:=ee e;obtain⟨y,hy,e⟩:=ee e;exact⟨H0,eg,env,x,E,hx,λvx H1 s1 R1=> ⟨H0,eg,env,y,E.mono s1,hy,λvy H2 s2 R2=>hd _ H2 x.d y.d vx vy rv Q (R1.inn.same s2) R2.inn e λv H3 s3 R3=>
  k v H3 (s1.trans (s2.trans s3)) (R3.ok (s1.trans s2))⟩⟩
variable{gi:Int->Int->Int}
theorem Hx{o:D->D->Option RV}(h:∀dx dy rv,o dx dy=some rv->∃i j,dx= .int i/\dy= .int j/\rv=⟨.c,.int (gi i j)⟩):OpD X o (rI0 λi j=> .int (gi i j)):=by
 intro F H dx dy x y rv Q ix iy e k;obtain⟨i,j,rfl,rfl,rfl⟩:=h dx dy rv e;cases ix;cases iy
 exact⟨i,j,rfl,rfl,k _ H aT (.int _)⟩
theorem Az{o:D->D->Option RV}{C:Int->Int->Prop}(h:∀dx dy rv,o dx dy=some rv->∃i j,dx= .int i/\dy= .int j/\C i j/\rv=⟨.c,.int (gi i j)⟩):OpD X o (rI C λi j=> .int (gi i j)):=by
 intro F H dx dy x y rv Q ix iy e k;obtain⟨i,j,rfl,rfl,hc,rfl⟩:=h dx dy rv e;cases ix;cases iy
 exact⟨i,j,rfl,rfl,hc,k _ H aT (.int _)⟩
theorem DP:OpD X kA (rI0 λi j=> .int (i -j)):=Hx λdx dy rv e=>by
 unfold kA at e;split at e
 .cases e;exact⟨_,_,rfl,rfl,rfl⟩
 .cases e
theorem DQ:OpD X ck (rI Di λi j=> .int (i*j)):=Az λdx dy rv e=>by
 unfold ck at e;split at e
 .split at e
  .rename_i i j q;cases e;refine⟨i,j,rfl,rfl, ?_,rfl⟩;unfold bp at q;rw[Gbh] at q;rcases q with q|q
   .left;have:=Gas q;lia
   .right;have:=Gas q;lia
  .cases e
 .cases e
theorem AB:OpD X jN (rI KU λi j=> .int (i/j)):=Az λdx dy rv e=>by
 unfold jN at e;split at e
 .split at e
  .rename_i i j q;cases e;exact⟨i,j,rfl,rfl,q,rfl⟩
  .cases e
 .cases e
theorem DR:OpD X dE (rI (λ_ j=>0<j) λi j=> .int (i%j)):=Az λdx dy rv e=>by
 unfold dE at e;split at e
 .split at e
  .rename_i i j q;cases e;exact⟨i,j,rfl,rfl,q,rfl⟩
  .cases e
 .cases e
def Gf:R2:=λx y H Q=>∃l b xs zs,x= .ref l/\y= .ref b/\Rd H l (.lst xs)/\Rd H b (.lst zs)/\xs.length+zs.length<=sizeLine/\∀p,H p=none->Q (.ref p) (upd H p (.lst (xs++zs)))
theorem DU:OpR X (binaryOp .Add) Gf:=by
 intro ef s Z H x y v u Q I rx ry h;obtain⟨l,b,xs,zs,rfl,rfl,hH,hB,hz,q⟩:=h;cases rx;cases ry;obtain⟨z,eh,n,r,e⟩:=(show bM X.prog X.w H s.heap l (.lst xs) from hH.ok I.hok)
 obtain⟨z2,eF,n2,r2,e2⟩:=(show bM X.prog X.w H s.heap b (.lst zs) from hB.ok I.hok)
 have hl:=r.length;have PR:=r2.length;refine PySem.P.add_list e e2 ?_ (by rw[Gai,Gai];lia);have ea:eh.toArray++eF.toArray=(eh++eF).toArray:=by simp
 rw[ea];exact⟨.ref _,_,I.Lf (t' :=s.toks) (r.append r2) (by rw[Gal];lia),rfl,q _ I.fresh⟩
theorem eE:a7=sizeLine:=by rw[GbH];rfl
variable{p:Addr}
theorem aU{o:HO}(n:H p=none):bu H (upd H p o):=λb u e=>by rw[aw (bU e n)];exact e
variable{vs:List V}{ds:List D}
theorem cR{K:ai}{F:Addr->Prop}(n:H p=none)(r:aH K F H ds vs):Rep K F (upd H p (.tup vs)) (.tup ds) (.ref p):=by
 have r2:=r.gen (F' :=F) (.of_same (aU (o:= .tup vs) n)) λ_ f _=>f;exact .tup ax r2.1 r2.2
theorem dw{K:ai}{F:Addr->Prop}(n:H p=none)(r:aH K F H ds vs):Inn K (λb=>F b/\b≠p) (upd H p (.lst vs)) (.lst ds) (.ref p):=
 .lst (.inl ax) (r.gen (F' :=λb=>F b/\b≠p) (.of_same (aU (o:= .lst vs) n)) λb f hb=> ⟨f,λz=>hb (z▸n)⟩)
theorem jh{xs:List V}:Wr (upd H p (.lst xs)) p:=⟨_,ax,trivial⟩
def AD(K:ai):R2:=λx y H Q=>rI0 (λi j=> .int (i+j)) x y H Q\/(∃i j,x= .str i/\y= .str j/\i.length+j.length<=sizeLine/\Q (.str (i++j)) H)\/Gf x y H Q\/FV K x y H Q
theorem DV:OpR X (binaryOp .Add) (AD X.K):=GR.or (rS.or (DU.or Ds))
theorem aH.ne{K:ai}{F:Addr->Prop}(r:aH K F H ds vs):vs=[]↔ds=[]:=by
 constructor
 .intro z;subst z;exact Gbe r.1
 .intro z;subst z;exact r.bP
theorem DY:OpD X pH (AD X.K):=by
 intro F H dx dy x y rv Q ix iy e k;unfold pH at e;split at e
 .cases e;cases ix;cases iy
  exact .inl ⟨_,_,rfl,rfl,k _ H aT (.int _)⟩
 .split at e
  .rename_i q;cases e;cases ix;cases iy
   exact .inr (.inl ⟨_,_,rfl,rfl,by rw[<-eE];exact q,k _ H aT (.str _)⟩)
  .cases e
 .split at e
  .rename_i xs ys q;cases e;cases ix with
   |tup hx rx=>
    cases iy with
    |tup hy ry=>
     refine .inr (.inr (.inr ⟨_,_,_,_,rfl,rfl,SqT.of hx,SqT.of hy, ?_, ?_, ?_, ?_⟩))
     .intro z;have:=rx.ne.mp z;subst this;exact absurd q.2 (by simp)
     .rw[<-rx.1,<-ry.1,<-eE];exact q.1
     .intro z;have:=ry.ne.mp z;subst this;refine k _ H aT ?_;rw[GaS];exact .tup hx rx.1 rx.2
     .intro z p n;exact k _ _ (aU n) (cR n (rx.append ry))
  .cases e
 .split at e
  .rename_i xs ys q;cases e;cases ix with
   |lst hx rx=>
    cases iy with
    |lst hy ry=>
     refine .inr (.inr (.inl ⟨_,_,_,_,rfl,rfl,hx,hy,by rw[<-rx.1,<-ry.1,<-eE];exact q,λp n=> ?_⟩));exact k _ _ (aU n) ⟨p,rfl,n,jh,rfl,dw n (rx.append ry)⟩
  .cases e
 .cases e
def UnD(X:Cx)(o:D->Option RV)(r:V->Hp->VK->Prop):Prop:=∀(F:Addr->Prop) (H:Hp) (dx:D) (x:V) (rv:RV) (Q:VK),Inn X.K F H dx x->o dx=some rv->(∀v H',bu H H' ->RvN X.K F H H' rv v->Q v H')->r x H Q
theorem LU{op:UnaryOp}{o:D->Option RV}{r:V->Hp->VK->Prop}(ho:UnR X (unaryOp op) r)(hd:UnD X o r)(ha:PEd X a f):PEd X (.UnaryOp op a pos) (unE o f):=by
 refine(KR ho ha).ao ?_;rintro Z H Q ⟨H0,eg,env,rv,E,e,k⟩;obtain⟨x,hx,e⟩:=ee e;exact⟨H0,eg,env,x,E,hx,λvx H1 s1 R1=>hd _ H1 x.d vx rv Q R1.inn e λv H3 s3 R3=>k v H3 (s1.trans s3) (R3.ok s1)⟩
theorem DZ:UnD X jd (rU λi=> .int (-i)):=by
 intro F H dx x rv Q ix e k;unfold jd at e;split at e
 .cases e;cases ix;exact⟨_,rfl,k _ H aT (.int _)⟩
 .cases e
theorem Hy(ha:PEd X a f)(hb:PEd X b g):PEd X (.BinOp a .Sub b pos) (opE kA f g):=qH GS DP ha hb
theorem Hz(ha:PEd X a f)(hb:PEd X b g):PEd X (.BinOp a .Mult b pos) (opE ck f g):=qH GU DQ ha hb
theorem E5(ha:PEd X a f)(hb:PEd X b g):PEd X (.BinOp a .FloorDiv b pos) (opE jN f g):=qH Dj AB ha hb
theorem HA(ha:PEd X a f)(hb:PEd X b g):PEd X (.BinOp a .Mod b pos) (opE dE f g):=qH GV DR ha hb
theorem AE(ha:PEd X a f):PEd X (.UnaryOp .USub a pos) (unE jd f):=LU GW DZ ha
def OpB(X:Cx)(o:D->D->Option Bool)(r:R2):Prop:=∀(F:Addr->Prop) (H:Hp) (dx dy:D) (x y:V) (b:Bool) (Q:VK),Inn X.K F H dx x->Inn X.K F H dy y->o dx dy=some b->Q (.bl b) H->r x y H Q
variable{o:D->D->Option Bool}
theorem HB{op:CmpOp}{r:R2}(ho:OpR X (compareOp op) r)(hd:OpB X o r)(ha:PEd X a f)(hb:PEd X b g)(hm:behindInMarks op b=false):PTd X (.Compare a [op] [b] pos) (av o f g):=by
 refine(Dm ho ha hb hm).ao ?_;rintro Z H Q ⟨H0,eg,env,bb,E,e,k⟩;obtain⟨x,hx,e⟩:=ee e;obtain⟨y,hy,e⟩:=ee e;exact⟨H0,eg,env,x,E,hx,λvx H1 s1 R1=> ⟨H0,eg,env,y,E.mono s1,hy,λvy H2 s2 R2=>hd _ H2 x.d y.d vx vy bb _ (R1.inn.same s2) R2.inn e ⟨bb,rfl,k H2 (s1.trans s2)⟩⟩⟩
theorem HC{op:CmpOp}{r:R2}(ho:OpR X (compareOp op) r)(hd:OpB X o r)(ha:PEd X a f)(hb:PEd X b g)(hm:behindInMarks op b=false):PEd X (.Compare a [op] [b] pos) (bE (av o f g)):=by
 refine(Dl ho ha hb hm).ao ?_;rintro Z H Q ⟨H0,eg,env,rv,E,e,k⟩;obtain⟨bb,e',rfl⟩:=Gaa.mp e;clear e;have e:=e';clear e';obtain⟨x,hx,e⟩:=ee e;obtain⟨y,hy,e⟩:=ee e;exact⟨H0,eg,env,x,E,hx,λvx H1 s1 R1=> ⟨H0,eg,env,y,E.mono s1,hy,λvy H2 s2 R2=>hd _ H2 x.d y.d vx vy bb _ (R1.inn.same s2) R2.inn e (k _ H2 (s1.trans s2) (.bl bb))⟩⟩
theorem uf{gb:Int->Int->Bool}(h:∀dx dy b,o dx dy=some b->∃i j,dx= .int i/\dy= .int j/\b=gb i j):OpB X o (rI0 λi j=> .bl (gb i j)):=by
 intro F H dx dy x y b Q ix iy e q;obtain⟨i,j,rfl,rfl,rfl⟩:=h dx dy b e;cases ix;cases iy
 exact⟨i,j,rfl,rfl,q⟩
theorem HD:OpB X ltB (rI0 λi j=> .bl (decide (i<j))):=uf λdx dy b e=>by
 unfold ltB at e;split at e<;>cases e;exact⟨_,_,rfl,rfl,rfl⟩
theorem HE:OpB X leB (rI0 λi j=> .bl (decide (i<=j))):=uf λdx dy b e=>by
 unfold leB at e;split at e<;>cases e;exact⟨_,_,rfl,rfl,rfl⟩
theorem HF:OpB X gtB (rI0 λi j=> .bl (decide (j<i))):=uf λdx dy b e=>by
 unfold gtB at e;split at e<;>cases e;exact⟨_,_,rfl,rfl,rfl⟩
theorem HG:OpB X geB (rI0 λi j=> .bl (decide (j<=i))):=uf λdx dy b e=>by
 unfold geB at e;split at e<;>cases e;exact⟨_,_,rfl,rfl,rfl⟩
theorem oB{K:ai}{F:Addr->Prop}{d:D}{x:V}(h:Inn K F H d x):decide (x= .non)=cN d:=by
 cases h<;>simp[cN]
theorem E9:OpB X f7 (λx y H Q=>y= .non/\Q (.bl (decide (x= .non))) H):=by
 intro F H dx dy x y b Q ix iy e q;simp only[f7,qC] at e;split at e
 .rename_i h;cases e;cases iy<;>simp[cN] at h
  exact⟨rfl,by rw[oB ix];exact q⟩
 .cases e
theorem AF:OpB X qC (λx y H Q=>y= .non/\Q (.bl (!decide (x= .non))) H):=by
 intro F H dx dy x y b Q ix iy e q;simp only[f7,qC] at e;split at e
 .rename_i h;cases e;cases iy<;>simp[cN] at h
  exact⟨rfl,by rw[oB ix];exact q⟩
 .cases e
theorem HH(h:PEd X e f)(he:∀whole,isTrue e X.env whole=(do let v<-whole;standAt e.pos;holding [v] (truthy v)):=by intro _;rfl):PTd X e (dO f):=by
 refine(A6 h he).ao ?_;rintro Z H Q ⟨H0,eg,env,bb,E,e,k⟩;obtain⟨x,hx,e⟩:=ee e;split at e
 .rename_i b hb;cases e;refine⟨H0,eg,env,x,E,hx,λvx H1 s1 R1=> ⟨bb, ?_,k H1 s1⟩⟩;have i:=R1.inn;rw[hb] at i;cases i;rfl
 .cases e
theorem qI(h:PEd X e f):PEd X e (bE (dO f)):=by
 refine h.ao ?_;rintro Z H Q ⟨H0,eg,env,rv,E,e,k⟩;obtain⟨bb,e',rfl⟩:=Gaa.mp e;clear e;have e:=e';clear e';obtain⟨x,hx,e⟩:=ee e;split at e
 .rename_i b hb;cases e;refine⟨H0,eg,env,x,E,hx,λvx H1 s1 R1=>k _ H1 s1 ?_⟩;have i:=R1.inn;rw[hb] at i;cases i;exact .bl _
 .cases e
theorem Ea(ha:PTd X a t):PWd X (.BoolOp .And [a] pos) t:=Df ha
theorem HI(ha:PTd X a t):PWd X (.BoolOp .Or [a] pos) t:=GJ ha
theorem HJ{rest:List Expr}(ha:PTd X a t)(hb:PWd X (.BoolOp .And (b::rest) pos) u):PWd X (.BoolOp .And (a::b::rest) pos) (dF t u):=by
 refine(GK ha hb).ao ?_;rintro Z H Q ⟨H0,eg,env,bb,E,e,k⟩;obtain⟨x,hx,e⟩:=ee e;refine⟨H0,eg,env,x,E,hx,λH1 s1=> ?_⟩;cases x with
 |true=>rw[Gak rfl];rw[Gak rfl] at e;exact⟨H0,eg,env,bb,E.mono s1,e,λH2 s2=>k H2 (s1.trans s2)⟩
 |false=>rw[Gam Gaj];rw[Gam Gaj] at e;cases e;exact k H1 s1
theorem LV{rest:List Expr}(ha:PTd X a t)(hb:PWd X (.BoolOp .Or (b::rest) pos) u):PWd X (.BoolOp .Or (a::b::rest) pos) (orT t u):=by
 refine(KA ha hb).ao ?_;rintro Z H Q ⟨H0,eg,env,bb,E,e,k⟩;obtain⟨x,hx,e⟩:=ee e;refine⟨H0,eg,env,x,E,hx,λH1 s1=> ?_⟩;cases x with
 |false=>rw[Gam Gaj];rw[Gam Gaj] at e;exact⟨H0,eg,env,bb,E.mono s1,e,λH2 s2=>k H2 (s1.trans s2)⟩
 |true=>rw[Gak rfl];rw[Gak rfl] at e;cases e;exact k H1 s1
theorem HK(ha:PTd X a t):PTd X (.UnaryOp .Not a pos) (jO t):=by
 refine(A7 ha).ao ?_;rintro Z H Q ⟨H0,eg,env,bb,E,e,k⟩;obtain⟨x,hx,rfl⟩:=Gaa.mp e;exact⟨H0,eg,env,x,E,hx,λH1 s1=>k H1 s1⟩
theorem HL{op:BoolOp}(ha:PEd X a (bE t)):PEd X (.BoolOp op [a] pos) (bE t):=GL ha
theorem HM{rest:List Expr}(ha:PEd X a (bE t))(hb:PEd X (.BoolOp .And (b::rest) pos) (bE u)):PEd X (.BoolOp .And (a::b::rest) pos) (bE (dF t u)):=by
 refine(GN ha hb).ao ?_;rintro Z H Q ⟨H0,eg,env,rv,E,e,k⟩;obtain⟨bb,e',rfl⟩:=Gaa.mp e;clear e;have e:=e';clear e';obtain⟨x,hx,e⟩:=ee e;refine⟨H0,eg,env,⟨.c,.bl x⟩,E,by unfold bE;rw[hx];rfl,λv H1 s1 R=> ?_⟩;have R' :Inn X.K (Cln eg env Z) H1 (.bl x) v:=R.inn;cases R';refine⟨x,rfl, ?_⟩;cases x with
 |true=>rw[Gak rfl];rw[Gak rfl] at e;exact⟨H0,eg,env,⟨.c,.bl bb⟩,E.mono s1,by unfold bE;rw[e];rfl,λv2 H2 s2 R2=>k v2 H2 (s1.trans s2) (R2.from s1)⟩
 |false=>rw[Gam Gaj];rw[Gam Gaj] at e;cases e;exact k _ H1 s1 (.bl false)
theorem LW{rest:List Expr}(ha:PEd X a (bE t))(hb:PEd X (.BoolOp .Or (b::rest) pos) (bE u)):PEd X (.BoolOp .Or (a::b::rest) pos) (bE (orT t u)):=by
 refine(KG ha hb).ao ?_;rintro Z H Q ⟨H0,eg,env,rv,E,e,k⟩;obtain⟨bb,e',rfl⟩:=Gaa.mp e;clear e;have e:=e';clear e';obtain⟨x,hx,e⟩:=ee e;refine⟨H0,eg,env,⟨.c,.bl x⟩,E,by unfold bE;rw[hx];rfl,λv H1 s1 R=> ?_⟩;have R' :Inn X.K (Cln eg env Z) H1 (.bl x) v:=R.inn;cases R';refine⟨x,rfl, ?_⟩;cases x with
 |false=>rw[Gam Gaj];rw[Gam Gaj] at e;exact⟨H0,eg,env,⟨.c,.bl bb⟩,E.mono s1,by unfold bE;rw[e];rfl,λv2 H2 s2 R2=>k v2 H2 (s1.trans s2) (R2.from s1)⟩
 |true=>rw[Gak rfl];rw[Gak rfl] at e;cases e;exact k _ H1 s1 (.bl true)
theorem HP(ha:PEd X a (bE t)):PEd X (.UnaryOp .Not a pos) (bE (jO t)):=by
 refine(GO ha).ao ?_;rintro Z H Q ⟨H0,eg,env,rv,E,e,k⟩;obtain⟨bb,e',rfl⟩:=Gaa.mp e;clear e;have e:=e';clear e';obtain⟨x,hx,rfl⟩:=Gaa.mp e;refine⟨H0,eg,env,⟨.c,.bl x⟩,E,by unfold bE;rw[hx];rfl,λv H1 s1 R=> ?_⟩;have R' :Inn X.K (Cln eg env Z) H1 (.bl x) v:=R.inn;cases R';exact⟨x,rfl,k _ H1 s1 (.bl _)⟩
theorem AG(hc:PTd X c t)(ha:PEd X a f)(hb:PEd X b g):PEd X (.IfExp c a b pos) (ifE t f g):=by
 refine(A8 hc ha hb).ao ?_;rintro Z H Q ⟨H0,eg,env,rv,E,e,k⟩;obtain⟨x,hx,e⟩:=ee e;refine⟨H0,eg,env,x,E,hx,λH1 s1=> ?_⟩;cases x with
 |true=>rw[Gak rfl];rw[Gak rfl] at e;exact⟨H0,eg,env,rv,E.mono s1,e,λv H2 s2 R=>k v H2 (s1.trans s2) (R.from s1)⟩
 |false=>rw[Gam Gaj];rw[Gam Gaj] at e;exact⟨H0,eg,env,rv,E.mono s1,e,λv H2 s2 R=>k v H2 (s1.trans s2) (R.from s1)⟩
theorem AH{op xr :CmpOp}{p:D->D->Option Bool}{r r' :R2}(ho:OpR X (compareOp op) r)(hd:OpB X o r)(xv :OpR X (compareOp xr) r')(eX :OpB X p r')(ha:PEd X a f)(hb:PEd X b g)(hc:PEd X c h)
  (hm:lastMarks [op,xr] [b,c]=false:=by with_unfolding_all rfl):PTd X (.Compare a [op,xr] [b,c] pos) (kB o p f g h):=by
 refine(Af ho xv ha hb hc hm).ao ?_;rintro Z H Q ⟨H0,eg,env,bb,E,e,k⟩;obtain⟨x,hx,e⟩:=ee e;obtain⟨y,hy,e⟩:=ee e;obtain⟨b1,h1,e⟩:=ee e;refine⟨H0,eg,env,x,E,hx,λvx H1 s1 R1=> ⟨H0,eg,env,y,E.mono s1,hy,λvy H2 s2 R2=>hd _ H2 x.d y.d vx vy b1 _ (R1.inn.same s2) R2.inn h1 ⟨b1,rfl, ?_⟩⟩⟩;cases b1 with
 |true=>
  rw[Gak rfl];rw[Gak rfl] at e
  obtain⟨z,hz,e⟩:=ee e;exact⟨H0,eg,env,z,(E.mono s1).mono s2,hz,λvz H3 s3 R3=>eX _ H3 y.d z.d vy vz bb _ (R2.inn.same s3) R3.inn e ⟨bb,rfl,k H3 (s1.trans (s2.trans s3))⟩⟩
 |false=>
  rw[Gam Gaj];rw[Gam Gaj] at e;cases e
  exact⟨false,rfl,k H2 (s1.trans s2)⟩
end
open PySem PySem.Spec PyProof.Rows L2
section
variable{X:Cx}{e a b c:Expr}{f g h:DE}{t u:DT}{pos:Pos}
variable{H:Hp}
theorem Scr.sq{K:ai}{a:Addr}{ns:List Int}(h:Scr K H a ns):SqL K H a (ns.map V.int):=by
 rcases h with⟨o,h⟩|h
 .exact .inl (.inr ⟨o,h⟩)
 .exact .inr h
variable{d:D}{vs:List V}
theorem AI{K:ai}{F:Addr->Prop}{ds:List D}{i:Int}(r:aH K F H ds vs)(e:atD ds i=some d):∃v,atI vs i=some v/\Rep K F H d v:=by
 unfold atD at e;unfold atI ixN;rw[<-r.1];split at e
 .rename_i h0;obtain⟨v,h1,h2⟩:=r.get e;have hi:=(Gab.mp e).1;refine⟨v, ?_,h2⟩;rw[Gak h0,Gak (by lia)];exact h1
 .rename_i h0;split at e
  .rename_i h1;obtain⟨v,h2,h3⟩:=r.get e;refine⟨v, ?_,h3⟩;rw[Gam h0,Gak h1];exact h2
  .cases e
def LX:R2:=λx y H Q=>∃a v,x= .ref a/\lW H a y (some v)/\Q v H
theorem Eb(hu:X.A.units+1<cLine):IxR X LX:=by
 intro value slice ef s Z H x y v u Q I rx ry h hs;obtain⟨a,z,rfl,g,q⟩:=h;cases rx;exact tail_any (qy I g) PySem.F.slot_dict_getitem.lookup (vH hu I g ry λw' s3 I3 yd => ⟨z,H,I3,yd,q⟩) hs
def OE(K:ai):R2:=λx y H Q=>rIx K x y H Q\/LX x y H Q
theorem ug(hu:X.A.units+1<cLine):IxR X (OE X.K):=He.or (Eb hu)
theorem gX{Y:Type} [DecidableEq Y]{K:ai}{F:Addr->Prop}{H:Hp}:∀{kvs:List (Y×D)} {ws:List (Y×V)} {k:Y} {d:D},b6 K F H kvs ws->look kvs k=some d->∃v,gJ ws k=some v/\Rep K F H d v
 |[],ws,k,d,_,e=>by simp[look] at e
 |p::kvs,[],k,d,r,_=>absurd r.1 (by simp)
 |p::kvs,q::ws,k,d,r,e=>by
  have h1:p.1=q.1/\kvs.map (·.1)=ws.map (·.1):=by have:=r.1;simpa using this
  have r2:b6 K F H kvs ws:=⟨h1.2,λi x y e1 e2=>r.2 (i+1) x y (by simpa using e1) (by simpa using e2)⟩
  by_cases z:p.1=k
  .have e' :look (p::kvs) k=some p.2:=by simp[look,GaW,z]
   rw[e'] at e;cases e
   exact⟨q.2,jC (h1.1.symm.trans z),r.2 0 p q rfl rfl⟩
  .have e' :look (p::kvs) k=look kvs k:=by simp[look,GaW,z]
   rw[e'] at e;obtain⟨v,h3,h4⟩:=gX r2 e;exact⟨v,by rw[gS (λw=>z (h1.1.trans w))];exact h3,h4⟩
theorem kC{Y:Type} [DecidableEq Y]{K:ai}{F:Addr->Prop}{H:Hp}:∀{kvs:List (Y×D)} {ws:List (Y×V)} {k:Y},b6 K F H kvs ws->look kvs k=none->gJ ws k=none
 |[],[],k,_,_=>rfl
 |[],q::ws,k,r,_=>absurd r.1 (by simp)
 |p::kvs,[],k,r,_=>absurd r.1 (by simp)
 |p::kvs,q::ws,k,r,e=>by
  have h1:p.1=q.1/\kvs.map (·.1)=ws.map (·.1):=by have:=r.1;simpa using this
  have r2:b6 K F H kvs ws:=⟨h1.2,λi x y e1 e2=>r.2 (i+1) x y (by simpa using e1) (by simpa using e2)⟩
  by_cases z:p.1=k
  .have e' :look (p::kvs) k=some p.2:=by simp[look,GaW,z]
   rw[e'] at e;cases e
  .have e' :look (p::kvs) k=look kvs k:=by simp[look,GaW,z]
   rw[e'] at e;rw[gS (λw=>z (h1.1.trans w))];exact kC r2 e
theorem kF{K:ai}{F:Addr->Prop}{x:V}{k:Key}(i:Inn K F H d x)(e:keyOf d=some k):x=kV k:=by
 unfold keyOf at e;split at e<;>cases e<;>cases i<;>rfl
theorem gY{K:ai}{F:Addr->Prop}{H:Hp}:∀{ds:List D} {vs:List V} {ks:List Key},aH K F H ds vs->keysOf ds=some ks->vs=ks.map kV
 |[],vs,ks,r,e=>by cases e;rw[r.bP];rfl
 |d::ds,vs,ks,r,e=>by
  obtain⟨v,w,rfl,h1,h2⟩:=r.cons_inv;unfold keysOf at e;obtain⟨k,hk,e⟩:=ee e;obtain⟨Qm,yQ,rfl⟩:=Gaa.mp e;rw[kF h1.inn hk,gY h2 yQ]
  rfl
theorem m5{K:ai}{F:Addr->Prop}{k:D}{x y:V}(ix:Inn K F H d x)(iy:Inn K F H k y):
  (∀kvs key,d= .dK kvs->keyOf k=some key->∃a ws,x= .ref a/\b6 K F H kvs ws/\lW H a y (gJ ws key))/\
  (∀kvs ks key,d= .dT kvs->k= .tup ks->keysOf ks=some key->∃a ws,x= .ref a/\b6 K F H kvs ws/\lW H a y (gJ ws key)):=by
 refine⟨λkvs key ed ek=> ?_,λkvs ks key ed ek e=> ?_⟩
 .subst ed;cases ix with
  |dK h r=>exact⟨_,_,rfl,r,.inl ⟨_,key,.inl h,kF iy ek,rfl⟩⟩
 .subst ed ek;cases ix with
  |dT h r=>
   cases iy with
   |tup hy ry=>exact⟨_,_,rfl,r,.inr ⟨_,key,_,.inl h,rfl,by rw[<-gY ry e];exact hy,rfl⟩⟩
theorem uh(hu:X.A.units+1<cLine)(ha:PEd X a f)(hb:PEd X b g)(hs:m4 b:=by exactλ_ _=>rfl):PEd X (.Subscript a b pos) (ixE f g):=by
 refine(FW (ug hu) ha hb hs).ao ?_;rintro Z H Q ⟨H0,eg,env,rv,E,e,k⟩;obtain⟨x,hx,e⟩:=ee e;obtain⟨y,hy,e⟩:=ee e;obtain⟨d,e',rfl⟩:=Gaa.mp e;clear e;have e:=e';clear e';refine⟨H0,eg,env,x,E,hx,λvx H1 s1 R1=> ⟨H0,eg,env,y,E.mono s1,hy,λvy H2 s2 R2=> ?_⟩⟩;have ix:=R1.inn.same s2;have iy:=R2.inn;have fin:∀v,Rep X.K (Cln eg env Z) H2 d v->Q v H2:=λv r=>k v H2 (s1.trans s2) r;generalize x.d=dx at ix e;generalize y.d=dy at iy e;unfold ixD at e;split at e
 .cases iy;cases ix with
  |lst h r=>
   obtain⟨v,h1,h2⟩:=AI r e;exact .inl (.inl ⟨_,_,_,v,rfl,rfl,.inl h,h1,fin v h2⟩)
 .cases iy;cases ix with
  |tup h r=>
   obtain⟨v,h1,h2⟩:=AI r e;exact .inl (.inr (.inl ⟨_,_,_,v,rfl,rfl,SqT.of h,h1,fin v h2⟩))
 .split at e
  .rename_i hz;obtain⟨ch,e',rfl⟩:=Gaa.mp e;clear e;have e:=e';clear e';cases iy;cases ix
   refine .inl (.inr (.inr ⟨_,_,ch,rfl,rfl,by rw[<-eE];exact hz, ?_,fin _ (.str _)⟩));unfold atD at e;unfold atI ixN;split at e
   .rename_i h0;have hi:=(Gab.mp e).1;rw[Gak h0,Gak (by lia)];exact e
   .rename_i h0;split at e
    .rename_i h1;rw[Gam h0,Gak h1];exact e
    .cases e
  .cases e
 .obtain⟨key,hk,e⟩:=ee e;obtain⟨p,ws,rfl,r,dg⟩:=(m5 ix iy).1 _ key rfl hk;obtain⟨v,h1,h2⟩:=gX r e;rw[h1] at dg;exact .inr ⟨p,v,rfl,dg,fin v h2⟩
 .obtain⟨key,hk,e⟩:=ee e;obtain⟨p,ws,rfl,r,dg⟩:=(m5 ix iy).2 _ _ key rfl rfl hk;obtain⟨v,h1,h2⟩:=gX r e;rw[h1] at dg;exact .inr ⟨p,v,rfl,dg,fin v h2⟩
 .obtain⟨n,e',rfl⟩:=Gaa.mp e;clear e;have e:=e';clear e';cases iy;cases ix with
  |scr h=>
   refine .inl (.inl ⟨_,_,_,.int n,rfl,rfl,h.sq, ?_,fin _ (.int n)⟩);unfold atD at e;unfold atI ixN;rw[Gax];split at e
   .rename_i h0;have hi:=(Gab.mp e).1;rw[Gak h0,Gak (by lia)];show(List.map V.int _)[_]? =_;rw[Gap,e];rfl
   .rename_i h0;split at e
    .rename_i h1;rw[Gam h0,Gak h1];show(List.map V.int _)[_]? =_;rw[Gap,e];rfl
    .cases e
 .cases e
theorem dQ:PAd X [] az:=by
 refine g7.ao ?_;rintro Z H Q ⟨H0,eg,env,rs,E,e,k⟩;cases e;exact k [] H aT .nil
variable{rs:List RV}{Z:St}{env:Env}{H0 H' :Hp}
theorem qJ{K:ai}{H1:Hp}{eg:Addr->Prop}(s:bu H H1)(p:Paired (fb K H0 eg env Z H1 H') rs vs):Paired (fb K H0 eg env Z H H') rs vs:=L2.Paired.GD p λ_ _ h=>h.from s
variable{es:List Expr}
theorem bV{r:DA}(ha:PEd X e f)(hr:PAd X es r)(hs:autoParam (starEach (e::es) X.env=(false,eval e X.env)::starEach es X.env) Za1._auto_1):PAd X (e::es) (af f r):=by
 refine(cW ha hr hs).ao ?_;rintro Z H Q ⟨H0,eg,env,rs,E,e,k⟩;obtain⟨x,hx,e⟩:=ee e;obtain⟨xs,zw,e⟩:=ee e;cases e;exact⟨H0,eg,env,x,E,hx,λvx H1 s1 R1=> ⟨H0,eg,env,xs,E.mono s1,zw,λvs H2 s2 Rs=>k _ H2 (s1.trans s2) (.cons (R1.same s2) (qJ s1 Rs))⟩⟩
theorem oC{K:ai}{eg:Addr->Prop}(E:au K H0 eg env Z H)(p:Paired (fb K H0 eg env Z H H') rs vs):rs.all (·.free)=true->aH K (Cln eg env Z) H' (rs.map (·.d)) vs:=by
 induction p with
 |nil=>exactλ_=>aH.nil
 |cons h t ih=>
  intro f;rw[Gbu,Gad] at f;exact aH.cons (h.rep E f.1) (ih f.2)
theorem HQ{r:DA}{j:Nat}(ha:PAd X es r):PEd X (.Tuple es j pos) (dq r):=by
 refine(Ai ha).ao ?_;rintro Z H Q ⟨H0,eg,env,rv,E,e,k⟩;obtain⟨rs,hr,e⟩:=ee e;split at e
 .rename_i q;rw[Gad] at q;cases e;refine⟨H0,eg,env,rs,E,hr,λvs H1 s1 Rs=> ?_⟩;have rep:=oC E Rs q.1;refine⟨by rw[<-rep.1,Gax,<-eE];exact Gas q.2,λp n=> ?_⟩;exact k _ _ (s1.trans (aU n)) (cR n rep)
 .cases e
theorem HR{r:DA}(ha:PAd X es r):PEd X (.List es pos) (gK r):=by
 refine(se ha).ao ?_;rintro Z H Q ⟨H0,eg,env,rv,E,e,k⟩;obtain⟨rs,hr,e⟩:=ee e;split at e
 .rename_i q;rw[Gad] at q;cases e;refine⟨H0,eg,env,rs,E,hr,λvs H1 s1 Rs=> ?_⟩;have rep:=oC E Rs q.1;refine⟨by rw[<-rep.1,Gax,<-eE];exact Gas q.2,λp n=> ?_⟩;exact k _ _ (s1.trans (aU n)) ⟨p,rfl,s1.free n,jh,rfl,dw n rep⟩
 .cases e
noncomputable def spD(K:ai)(np:Nat)(sp:SpF):Sp:=λvs H Q _=>∃ds d,ds.length=np/\aH K (λ_=>True) H ds vs/\sp ds=some d/\∀v H',bu H H' ->oA K H H' d v->Q v H'
theorem vN{K:ai}{eg:Addr->Prop}(p:Paired (fb K H0 eg env Z H H') rs vs):aH K (λ_=>True) H' (rs.map (·.d)) vs:=by
 induction p with
 |nil=>exact aH.nil
 |cons h t ih=>exact aH.cons h.inn.any ih
variable{p:Pos}{x:Str}
theorem Ec{CX:CXT}{k:Nat}{fa:Addr}{fd:FuncData}{ps:List Str}{np:Nat}{sp:SpF}{r:DA}{E:XK}(F:cy X.prog X.w X.K X.mg X.base CX k fa fd ps (spD X.K np sp))(hr:cw k X.A)(hg:Gl X x)
  (hm:X.mg x=some (.ref fa))(hk:PySem.W.keepIn X.K (.ref fa)=true)(hb:Binds X.K fd ps [])(hx:Passes CX X E)(ha:PAd X (e::es) r)(hl:∀env rs,r env=some rs->rs.length=np)
  (xj:autoParam ((x==("__debug__":Str))=false) Za2._auto_1)(he:autoParam (starEach (e::es) X.env=(false,eval e X.env)::starEach es X.env) Za1._auto_1)(xf:autoParam ((backTo pos (starEach es X.env)).any (·.1)=false) Za1._auto_1):
  PEd X (.Call (.Name x p) (e::es) [] pos) (aQ sp r):=by
 refine(pD (dvs:=[]) F hr hg hm hk hb .nil hx ha xj he xf).ao ?_;rintro Z H Q ⟨H0,eg,env,rv,E,e,k⟩;obtain⟨rs,yb,e⟩:=ee e;obtain⟨d,hd,rfl⟩:=Gaa.mp e;refine⟨H0,eg,env,rs,E,yb,λvs H1 s1 Rs=> ⟨rs.map (·.d),d,by rw[Gax];exact hl env rs yb, ?_,hd,λv H2 s2 R2=>k v H2 (s1.trans s2) ((R2.rv (E.mono s1)).from s1)⟩⟩;rw[GaS];exact vN Rs
def CallD(X:Cx)(o:SpV)(r:List V->Hp->VK->Prop):Prop:=∀(F:Addr->Prop) (H:Hp) (ds:List D) (vs:List V) (rv:RV) (Q:VK),Paired (Inn X.K F H) ds vs->o ds=some rv->(∀v H',bu H H' ->RvN X.K F H H' rv v->Q v H')->r vs H Q
theorem mI{K:ai}{eg:Addr->Prop}(p:Paired (fb K H0 eg env Z H H') rs vs):Paired (Inn K (Cln eg env Z) H') (rs.map (·.d)) vs:=by
 induction p with
 |nil=>exact .nil
 |cons h t ih=>exact .cons h.inn ih
variable{ra:DA}{o:SpV}
theorem kG{id:String}{r:List V->Hp->VK->Prop}(hc:cn X (.builtin id) r)(hd:CallD X o r)(hg:Gl X x)(hm:X.mg x=none)(hv:bootBuiltins x=some (.builtin id))(ha:PAd X (e::es) ra)
  (hn:autoParam (x≠"__name__") Za2._auto_1)(xj:autoParam ((x==("__debug__":Str))=false) Za2._auto_1)(he:autoParam (starEach (e::es) X.env=(false,eval e X.env)::starEach es X.env) Za1._auto_1)(xf:autoParam ((backTo pos (starEach es X.env)).any (·.1)=false) Za1._auto_1):
  PEd X (.Call (.Name x p) (e::es) [] pos) (je o ra):=by
 refine(mq hc hg hm hv ha hn xj he xf).ao ?_;rintro Z H Q ⟨H0,eg,env,rv,E,e,k⟩;obtain⟨rs,yb,e⟩:=ee e;exact⟨H0,eg,env,rs,E,yb,λvs H1 s1 Rs=>hd _ H1 _ vs rv Q (mI Rs) e λv H2 s2 R2=>k v H2 (s1.trans s2) (R2.ok s1)⟩
theorem jU{T:String}{r:List V->Hp->VK->Prop}(hc:cn X (.type T) r)(hd:CallD X o r)(hg:Gl X x)(hm:X.mg x=none)(hv:bootBuiltins x=some (.type T))(ha:PAd X (e::es) ra)
  (hn:autoParam (x≠"__name__") Za2._auto_1)(xj:autoParam ((x==("__debug__":Str))=false) Za2._auto_1)(he:autoParam (starEach (e::es) X.env=(false,eval e X.env)::starEach es X.env) Za1._auto_1)(xf:autoParam ((backTo pos (starEach es X.env)).any (·.1)=false) Za1._auto_1):
  PEd X (.Call (.Name x p) (e::es) [] pos) (je o ra):=by
 refine(oh hc hg hm hv ha hn xj he xf).ao ?_;rintro Z H Q ⟨H0,eg,env,rv,E,e,k⟩;obtain⟨rs,yb,e⟩:=ee e;exact⟨H0,eg,env,rs,E,yb,λvs H1 s1 Rs=>hd _ H1 _ vs rv Q (mI Rs) e λv H2 s2 R2=>k v H2 (s1.trans s2) (R2.ok s1)⟩
theorem bJ{R:D->V->Prop}(h:Paired R [d] vs):∃v,vs=[v]/\R d v:=by
 cases h with
 |cons h t=>cases t;exact⟨_,rfl,h⟩
theorem uk{R:D->V->Prop}{d2:D}(h:Paired R [d,d2] vs):∃v w,vs=[v,w]/\R d v/\R d2 w:=by
 cases h with
 |cons h t=>cases t with
  |cons h2 t=>cases t;exact⟨_,_,rfl,h,h2⟩
theorem vO:cn X (.builtin "len") (λxs H Q=>∃a kvs,xs=[.ref a]/\Rd H a (.dK kvs)/\Q (.int kvs.length) H):=by
 intro ef s Z H xs us Q I r h;obtain⟨a,kvs,rfl,e,q⟩:=h;obtain⟨u,rfl,rx⟩:=vals1 r;cases rx;exact Li I e λt s' I' => ⟨.int kvs.length,H,I',⟨t,rfl⟩,q⟩
theorem vP:CallD X gL (λxs H Q=>(∃x n,xs=[x]/\L4 X.K x H n/\Q (.int n) H)\/(∃a kvs,xs=[.ref a]/\Rd H a (.dK kvs)/\Q (.int kvs.length) H)):=by
 intro F H ds vs rv Q ps e k;unfold gL at e;split at e
 .cases e;obtain⟨v,rfl,i⟩:=bJ ps;cases i with
  |lst h r=>exact .inl ⟨_,_,rfl,.inl ⟨_,.inl h,r.1⟩,k _ H aT (.int _)⟩
 .cases e;obtain⟨v,rfl,i⟩:=bJ ps;cases i with
  |tup h r=>exact .inl ⟨_,_,rfl,.inr ⟨_,SqT.of h,r.1⟩,k _ H aT (.int _)⟩
 .split at e
  .rename_i q;cases e;obtain⟨v,rfl,i⟩:=bJ ps;cases i;exact .inl ⟨_,_,rfl,⟨by rw[<-eE];exact q,rfl⟩,k _ H aT (.int _)⟩
  .cases e
 .cases e;obtain⟨v,rfl,i⟩:=bJ ps;cases i with
  |dK h r=>
   have hl:=congrArg List.length r.1;rw[Gax,Gax] at hl;exact .inr ⟨_,_,rfl,.inl h,by rw[<-hl];exact k _ H aT (.int _)⟩
 .cases e;obtain⟨v,rfl,i⟩:=bJ ps;cases i with
  |scr h=>exact .inl ⟨_,_,rfl,.inl ⟨_,h.sq,by simp⟩,k _ H aT (.int _)⟩
 .cases e;obtain⟨v,rfl,i⟩:=bJ ps;cases i with
  |kt h=>exact .inl ⟨_,_,rfl,.inr ⟨_,.inr h,by simp⟩,k _ H aT (.int _)⟩
 .cases e
theorem sv:CallD X lK (λxs H Q=>∃i j,xs=[.int i,.int j]/\Q (.int (if j<i then j else i)) H):=by
 intro F H ds vs rv Q ps e k;unfold lK at e;split at e
 .cases e;obtain⟨v,w,rfl,i1,i2⟩:=uk ps;cases i1;cases i2
  exact⟨_,_,rfl,k _ H aT (.int _)⟩
 .cases e
theorem sx:CallD X uc (λxs H Q=>∃i j,xs=[.int i,.int j]/\Q (.int (if j>i then j else i)) H):=by
 intro F H ds vs rv Q ps e k;unfold uc at e;split at e
 .cases e;obtain⟨v,w,rfl,i1,i2⟩:=uk ps;cases i1;cases i2
  exact⟨_,_,rfl,k _ H aT (.int _)⟩
 .cases e
theorem qK:CallD X aP (λxs H Q=>∃p ys,xs=[.ref p]/\((SqL X.K H p ys/\∀l,H l=none->Q (.ref l) (upd H l (.tup ys)))\/(SqT X.K H p ys/\Q (.ref p) H))):=by
 intro F H ds vs rv Q ps e k;unfold aP at e;split at e
 .cases e;obtain⟨v,rfl,i⟩:=bJ ps;cases i with
  |lst h r=>
   refine⟨_,_,rfl,.inl ⟨.inl h,λl n=> ?_⟩⟩;exact k _ _ (aU n) (cR n r)
 .cases e;obtain⟨v,rfl,i⟩:=bJ ps;cases i with
  |tup h r=>exact⟨_,_,rfl,.inr ⟨SqT.of h,k _ H aT (.tup h r.1 r.2)⟩⟩
 .cases e
theorem sy:CallD X listS (λxs H Q=>∃p ys,xs=[.ref p]/\(SqL X.K H p ys\/SqT X.K H p ys)/\∀l,H l=none->Q (.ref l) (upd H l (.lst ys))):=by
 intro F H ds vs rv Q ps e k;unfold listS at e;split at e
 .cases e;obtain⟨v,rfl,i⟩:=bJ ps;cases i with
  |lst h r=>
   refine⟨_,_,rfl,.inl (.inl h),λl n=> ?_⟩;exact k _ _ (aU n) ⟨l,rfl,n,jh,rfl,dw n r⟩
 .cases e;obtain⟨v,rfl,i⟩:=bJ ps;cases i with
  |tup h r=>
   refine⟨_,_,rfl,.inr (SqT.of h),λl n=> ?_⟩;exact k _ _ (aU n) ⟨l,rfl,n,jh,rfl,dw n r⟩
 .cases e
end
open PySem PySem.Spec PyProof.Rows L2
section
variable{K:ai}{H0 H H' :Hp}{eg:Addr->Prop}{env eB :Env}{Z Z' :St}{d:D}{v:V}{a:Addr}{i:Nat}
variable{j:Nat}
theorem eG{α:Type}{l:List α}{i:Nat}{x y:α}(e:(l.set i x)[j]? =some y):(i=j/\y=x)\/(i≠j/\l[j]? =some y):=by
 by_cases h:i=j
 .subst h;have hi:i<l.length:=by have:=(Gab.mp e).1;simpa using this
  rw[Gav hi] at e;cases e;exact .inl ⟨rfl,rfl⟩
 .rw[Gac h] at e;exact .inr ⟨h,e⟩
theorem set_same{α:Type}{l:List α}{i:Nat}{x:α}(e:l[i]? =some x):l.set i x=l:=by
 apply GcH;intro j;by_cases h:i=j
 .subst h;rw[Gav (Gab.mp e).1,e]
 .rw[Gac h]
theorem bw{α:Type}{l:List α}{i:Nat}{x:α}(h:i<l.length):(l.set i x)[i]? =some x:=Gav h
theorem fc(h:bg (env.set i (some (.sh d)))[j]?):i≠j/\bg env[j]? :=by
 by_cases q:i=j
 .subst q;by_cases z:i<env.length
  .rw[bw z] at h;exact h.elim
  .rw[GaZ (by simpa using Nat.le_of_not_lt z)] at h;exact h.elim
 .rw[Gac q] at h;exact⟨q,h⟩
theorem au.gZ(E:au K H0 eg env Z H)(r:Rep K (Cln eg env Z) H d v):au K H0 eg (env.set i (some (.sh d))) (Z.set i (some v)) H:=by
 have cln:∀b,Cln eg env Z b->Cln eg (env.set i (some (.sh d))) (Z.set i (some v)) b:=λb ⟨h1,h2⟩=> ⟨h1,λj t e=>by
  obtain⟨q,t⟩:=fc t;rw[Gac q] at e;exact h2 j t e⟩
 refine⟨E.same,by simp[E.len],E.bad,λj dj e=> ?_,λj dj e=> ?_,λj dj e=> ?_,λj k b t1 t2 e1 e2=> ?_⟩
 .rcases eG e with⟨q,e⟩| ⟨q,e⟩
  .cases e;subst q;have hi:i<env.length:=by have:=(Gab.mp e);simpa using this.1
   exact⟨v,bw (by rw[<-E.len];exact hi),r.imp cln⟩
  .obtain⟨w,h1,h2⟩:=E.sh j dj e;exact⟨w,by rw[Gac q];exact h1,h2.imp cln⟩
 .have e' :i≠j/\(env[j]? =some (some (.own dj))\/env[j]? =some (some (.lok dj))):=by
   rcases e with e|e
   .rcases eG e with⟨q,e⟩| ⟨q,e⟩
    .cases e
    .exact⟨q,.inl e⟩
   .rcases eG e with⟨q,e⟩| ⟨q,e⟩
    .cases e
    .exact⟨q,.inr e⟩
  obtain⟨b,h1,h2,h3,h4,h5,h6⟩:=E.ow j dj e'.2;exact⟨b,by rw[Gac e'.1];exact h1,h2,h3,h4,h5,h6.imp cln⟩
 .rcases eG e with⟨q,e⟩| ⟨q,e⟩
  .cases e
  .obtain⟨b,h1,hw,h2,h3⟩:=E.bo j dj e;exact⟨b,by rw[Gac q];exact h1,hw,h2,h3.imp cln⟩
 .obtain⟨q1,yK⟩:=fc t1.top;obtain⟨q2,t2⟩:=fc t2;rw[Gac q1] at e1 t1;rw[Gac q2] at e2;exact E.dj j k b t1 t2 e1 e2
theorem Stp.gZ:Stp env Z H (env.set i (some (.sh d))) (Z.set i (some v)) H:=⟨λ_ _ e _=>e,λb ⟨j,h,e⟩=>by
 have h' :bg (env.set i (some (.sh d)))[j]? :=h.ol.top;obtain⟨q,_⟩:=fc h';rw[Gac q] at h e;exact .inl ⟨j,h,e⟩,λj h=>by
 obtain⟨q,_⟩:=fc h.top;rw[Gac q,Gac q];exact⟨rfl,rfl⟩⟩
theorem fK(h:bg (env.set i (some (.own d)))[j]?)(hi:i<env.length):i=j\/(i≠j/\bg env[j]?):=by
 by_cases q:i=j
 .exact .inl q
 .rw[Gac q] at h;exact .inr ⟨q,h⟩
theorem au.AJ(E:au K H0 eg env Z H)(hi:i<env.length)(n0:H0 a=none)(nb:¬eg a)(w:Wr H' a)(t:d.top=true)(s:bu H0 H')(bd:∀b,eg b->H' b≠none)
  (ne:∀j b,j≠i->bg env[j]? ->Z[j]? =some (some (.ref b))->b≠a/\H' b=H b)
  (inn:Inn K (Cln eg (env.set i (some (.own d))) (Z.set i (some (.ref a)))) H' d (.ref a))
  (cln:∀b,Cln eg env Z b->H b≠none->Cln eg (env.set i (some (.own d))) (Z.set i (some (.ref a))) b)
  (gI:gc (Cln eg env Z) H H'):
  au K H0 eg (env.set i (some (.own d))) (Z.set i (some (.ref a))) H' :=by
 have keep:∀{j:Nat} {b:Addr} {dj:D},j≠i->bg env[j]? ->Z[j]? =some (some (.ref b))->Inn K (Cln eg env Z) H dj (.ref b)->Inn K (Cln eg (env.set i (some (.own d))) (Z.set i (some (.ref a)))) H' dj (.ref b):=λ{j b dj} hj tj ej h=>
  h.gen gI cln λb' eb _ o e=>by cases eb;rw[(ne j b hj tj ej).2];exact e
 refine⟨s,by simp[E.len],bd,λj dj e=> ?_,λj dj e=> ?_,λj dj e=> ?_,λj k b t1 t2 e1 e2=> ?_⟩
 .rcases eG e with⟨q,e⟩| ⟨q,e⟩
  .cases e
  .obtain⟨u,h1,h2⟩:=E.sh j dj e;exact⟨u,by rw[Gac q];exact h1,h2.gen gI cln⟩
 .have e' :(i=j/\dj=d)\/(i≠j/\(env[j]? =some (some (.own dj))\/env[j]? =some (some (.lok dj)))):=by
   rcases e with e|e
   .rcases eG e with⟨q,e⟩| ⟨q,e⟩
    .cases e;exact .inl ⟨q,rfl⟩
    .exact .inr ⟨q,.inl e⟩
   .rcases eG e with⟨q,e⟩| ⟨q,e⟩
    .cases e
    .exact .inr ⟨q,.inr e⟩
  rcases e' with⟨q,rfl⟩| ⟨q,e'⟩
  .subst q;exact⟨a,bw (by rw[<-E.len];exact hi),n0,nb,w,t,inn⟩
  .obtain⟨b,h1,h2,h3,h4,h5,h6⟩:=E.ow j dj e';have tj:bg env[j]? :=by rcases e' with e' |e' <;>rw[e']<;>trivial
   refine⟨b,by rw[Gac q];exact h1,h2,h3, ?_,h5,keep (GaU q) tj h1 h6⟩;unfold Wr;rw[(ne j b (GaU q) tj h1).2];exact h4
 .rcases eG e with⟨q,e⟩| ⟨q,e⟩
  .cases e
  .obtain⟨b,h1,hw,h2,h3⟩:=E.bo j dj e;have tj:bg env[j]? :=by rw[e];trivial
   refine⟨b,by rw[Gac q];exact h1, ?_,h2,keep (GaU q) tj h1 h3⟩;unfold Wr;rw[(ne j b (GaU q) tj h1).2];exact hw
 .rcases fK t1.top hi with q1| ⟨q1,yK⟩
  .rcases fK t2 hi with q2| ⟨q2,zJ⟩
   .rw[<-q1,<-q2]
   .subst q1;rw[bw (by rw[<-E.len];exact hi)] at e1;cases e1;rw[Gac q2] at e2;exact absurd rfl (ne k a (GaU q2) zJ e2).1
  .rcases fK t2 hi with q2| ⟨q2,zJ⟩
   .subst q2;rw[bw (by rw[<-E.len];exact hi)] at e2;cases e2;rw[Gac q1] at e1;exact absurd rfl (ne j a (GaU q1) yK e1).1
   .rw[Gac q1] at e1 t1;rw[Gac q2] at e2;exact E.dj j k b t1 zJ e1 e2
theorem qL(hi:i<env.length)(hs:env.length=Z.length){b:Addr}(h:Cln eg env Z b)(hb:b≠a):Cln eg (env.set i (some (.own d))) (Z.set i (some (.ref a))) b:=⟨h.1,λj t e=>by
 rcases fK t hi with q| ⟨q,t⟩
 .subst q;rw[bw (by rw[<-hs];exact hi)] at e;cases e;exact hb rfl
 .rw[Gac q] at e;exact h.2 j t e⟩
theorem au.kH(E:au K H0 eg env Z H)(s:bu H H')(hi:i<env.length)(n:H a=none)(w:Wr H' a)(t:d.top=true)(yR:Inn K (λb=>Cln eg env Z b/\b≠a) H' d (.ref a)):
  au K H0 eg (env.set i (some (.own d))) (Z.set i (some (.ref a))) H' :=by
 have cln:∀b,Cln eg env Z b->b≠a->Cln eg (env.set i (some (.own d))) (Z.set i (some (.ref a))) b:=λb h hb=>qL hi E.len h hb;have cln' :∀b,Cln eg env Z b->H b≠none->Cln eg (env.set i (some (.own d))) (Z.set i (some (.ref a))) b:=λb h hb=>cln b h λz=>hb (z▸n);refine E.AJ (H' :=H') hi (E.same.free n) (λb=>E.bad a b n) w t (E.same.trans s) (λb h e=>E.bad b h (s.free e)) (λj b hj tj ej=> ?_) (yR.imp λb h=>cln b h.1 h.2) cln' (.of_same s);have hb:=E.gW tj ej;refine⟨λz=>hb (z▸n), ?_⟩;cases q:H b with
 |none=>exact absurd q hb
 |some o=>exact s b o q
theorem Stp.kH(s:bu H H')(hi:i<env.length)(hs:env.length=Z.length)(n:H a=none):Stp env Z H (env.set i (some (.own d))) (Z.set i (some (.ref a))) H' :=⟨λb o e _=>s b o e,λb ⟨j,h,e⟩=>by
 by_cases q:i=j
 .subst q;rw[bw (by rw[<-hs];exact hi)] at e;cases e;exact .inr n
 .rw[Gac q] at h e;exact .inl ⟨j,h,e⟩,λj h=>by
 by_cases q:i=j
 .subst q;rw[bw hi] at h;exact h.elim
 .rw[Gac q,Gac q];exact⟨rfl,rfl⟩⟩
theorem au.change{d' :D}{o:HO}(E:au K H0 eg env Z H)(e:env[i]? =some (some (.own d)))(ea:Z[i]? =some (some (.ref a)))(wo:isW o)(t:d'.top=true)
  (inn:Inn K (Cln eg env Z) (upd H a o) d' (.ref a)):au K H0 eg (env.set i (some (.own d'))) Z (upd H a o)/\Stp env Z H (env.set i (some (.own d'))) Z (upd H a o):=by
 have hi:i<env.length:=(Gab.mp e).1;obtain⟨a',h1,h2,h3,h4,h5,h6⟩:=E.ow i d (.inl e);rw[ea] at h1;cases h1
 have hZ:Z.set i (some (.ref a))=Z:=set_same ea;have eV:∀j,bg (env.set i (some (.own d')))[j]? ↔bg env[j]? :=λj=>by
  by_cases q:i=j
  .subst q;rw[bw hi,e];exact⟨λ_=>trivial,λ_=>trivial⟩
  .rw[Gac q]
 have clnE:∀b,Cln eg env Z b->Cln eg (env.set i (some (.own d'))) Z b:=λb h=> ⟨h.1,λj tj ej=>h.2 j ((eV j).mp tj) ej⟩;have ca:∀b,Cln eg env Z b->b≠a:=λb h z=>by subst z;exact h.2 i (by rw[e];trivial) ea
 have gI:gc (Cln eg env Z) H (upd H a o):=λb x hb q=>by
  have:b≠a:=by
   rintro rfl;rcases q with q|q
   .exact ca b q rfl
   .obtain⟨y,hy,wy⟩:=h4;rw[hb] at hy;cases hy
    cases x<;>simp[isT] at q<;>exact wy
  rw[aw this];exact hb
 have keepA:∀b x,H b=some x->b≠a->(upd H a o) b=some x:=λb x hb hn=>by rw[aw hn];exact hb
 refine⟨?_,⟨λb x hb n=>keepA b x hb λz=>n ⟨i,by rw[e];trivial,by rw[z];exact ea⟩,λb ⟨j,h,ej⟩=> .inl ?_,λj h=> ?_⟩⟩
 .have:=E.AJ (H' :=upd H a o) (a:=a) (d:=d') hi h2 h3 ⟨o,ax,wo⟩ t (λb x hb=>keepA b x (E.same b x hb) λz=>by rw[z,h2] at hb;cases hb)
   (λb hb z=>by
    by_cases q:b=a
    .subst q;rw[ax] at z;cases z
    .rw[aw q] at z;exact E.bad b hb z)
   (λj b hj tj ej=>by
    have:b≠a:=by rintro rfl;exact hj (E.dj i j b (by rw[e];trivial) tj ea ej).symm
    exact⟨this,by rw[aw this]⟩)
   (by rw[hZ];exact inn.imp clnE) (λb h _=>by rw[hZ];exact clnE b h) gI
  rw[hZ] at this;exact this
 .by_cases q:i=j
  .subst q;exact⟨i,by rw[e];trivial,ej⟩
  .rw[Gac q] at h;exact⟨j,h,ej⟩
 .by_cases q:i=j
  .subst q;rw[bw hi] at h;exact h.elim
  .rw[Gac q];exact⟨rfl,rfl⟩
end
open PySem PySem.Spec PyProof.Rows L2
section
variable{X:Cx}{e a b c:Expr}{f g h:DE}{t u:DT}{pos:Pos}{st:Stmt}{rest:List Stmt}{s1 s2:DS}
theorem AK:nT X [] aD:=by
 refine Dg.ao ?_;rintro D Z H ⟨H0,eg,env,o,E,e,k⟩;cases e;exact k Z H E .refl
theorem Ed(h1:PSd X st s1)(h2:nT X rest s2):nT X (st::rest) (ak s1 s2):=by
 refine(qo h1 h2).ao ?_;rintro D Z H ⟨H0,eg,env,o,E,e,k⟩;obtain⟨o1,h1,e⟩:=ee e;refine⟨H0,eg,env,o1,E,h1, ?_⟩;cases o1 with
 |nx e1=>
  intro Z1 H1 E1 p1;refine⟨H0,eg,e1,o,E1,e, ?_⟩;cases o with
  |nx e2=>exactλZ2 H2 E2 p2=>k Z2 H2 E2 (p1.trans p2)
  |bk e2=>exactλZ2 H2 E2 p2=>k Z2 H2 E2 (p1.trans p2)
  |ct e2=>exactλZ2 H2 E2 p2=>k Z2 H2 E2 (p1.trans p2)
  |ret d=>exact k
 |bk e1=>cases e;exact k
 |ct e1=>cases e;exact k
 |ret d=>cases e;exact k
theorem HS(h1:PSd X st s1):nT X [st] s1:=tX h1
theorem AL:PSd X st dP:=λ_ _ _ _ _ _ ⟨_,_,_,_,_,e,_⟩=>by cases e
variable{d:D}{H0 H' :Hp}
theorem Ee{K:ai}{F:Addr->Prop}{v:V}(i:Inn K F H' d v)(hd:d.imm=true):oA K H0 H' d v:=by
 refine⟨λt=> ?_,(i.imm hd).inn⟩;cases d<;>simp[D.top] at t<;>simp[D.imm] at hd
variable{H:Hp}
theorem Ef{Y:Type}{K:ai}{F F' :Addr->Prop}{kvs:List (Y×D)}{ws:List (Y×V)}(r:b6 K F H kvs ws)(h:ag (kvs.map (·.2))=true):b6 K F' H kvs ws:=
 ⟨r.1,λi p q e1 e2=>(r.2 i p q e1 e2).imm (jS h i p.2 (by rw[Gap,e1];rfl))⟩
theorem um{K:ai}{F:Addr->Prop}{a:Addr}(i:Inn K F H' d (.ref a))(hd:d.ba=true)(n:H0 a=none)(w:Wr H' a):oA K H0 H' d (.ref a):=by
 refine⟨λ_=> ⟨a,rfl,n,w⟩, ?_⟩;cases i with
 |tup h r=>exact(Inn.imm (.tup h r) (by exact hd)).inn
 |scr h=>exact .scr h
 |kt h=>exact .kt h
 |exc h r=>exact(Inn.imm (.exc h r) (by exact hd)).inn
 |obj h ln kd r=>simp[D.ba,D.imm] at hd
 |kid f h r=>simp[D.ba,D.imm] at hd
 |lst h r=>exact .lst h (r.imm hd)
 |dK h r=>exact .dK h (Ef r hd)
 |dT h r=>exact .dT h (Ef r hd)
theorem AM(he:PEd X e f):PSd X (.Return (some e) pos) (retS f):=by
 refine(pz he).ao ?_;rintro D Z H ⟨H0,eg,env,o,E,e,k⟩;obtain⟨r,hr,e⟩:=ee e;split at e
 .rename_i ok;cases e;refine⟨H0,eg,env,r,E,hr,λv H1 s1 R=>k v H1 (E.same.trans s1) ?_⟩;obtain⟨kd,d⟩:=r;cases kd with
  |c=>exact Ee R.inn ok
  |tn=>
   have ii:=R.inn;obtain⟨a,rfl,n,w,t,i⟩:=R;exact um ii ok (E.same.free n) w
  |to=>
   have ii:=R.inn;obtain⟨a,rfl,n,w,t,i⟩:=R;exact um ii ok n w
  |tb=>exact absurd (show false=true from ok) Gaj
 .cases e
theorem LY{xs ys:List Stmt}(hc:PTd X c t)(ha:nT X xs s1)(hb:nT X ys s2):PSd X (.If c xs ys pos) (ifS t s1 s2):=by
 refine(A9 hc ha hb).ao ?_;rintro D Z H ⟨H0,eg,env,o,E,e,k⟩;obtain⟨x,hx,e⟩:=ee e;refine⟨H0,eg,env,x,E,hx,λH1 s1=> ?_⟩;have st:Stp env Z H env Z H1:= .of_same s1;have fin:∀{s:DS},s env=some o->tS X s D Z H1:=λ{s} e=> ⟨H0,eg,env,o,E.mono s1,e,by
  cases o with
  |nx e2=>exactλZ2 H2 E2 p2=>k Z2 H2 E2 (st.trans p2)
  |bk e2=>exactλZ2 H2 E2 p2=>k Z2 H2 E2 (st.trans p2)
  |ct e2=>exactλZ2 H2 E2 p2=>k Z2 H2 E2 (st.trans p2)
  |ret d=>exact k⟩
 dsimp only;cases x with
 |true=>rw[Gak rfl];rw[Gak rfl] at e;exact fin e
 |false=>rw[Gam Gaj];rw[Gam Gaj] at e;exact fin e
variable{x:Str}{i:Nat}{Z:St}{env:Env}
theorem AN{X:Cx}{eg:Addr->Prop}(E:au X.K H0 eg env Z H)(hl:Z.length=X.N.length)(hi:X.N[i]? =some x):i<env.length:=by
 rw[E.len,hl];exact(Gab.mp hi).1
theorem AO{pos' :Pos}(hN:X.N.Nodup)(hi:X.N[i]? =some x)(hx:Loc X.env.scope x)(he:PEd X e f)(hs:autoParam (swapsWith e (some (.Name x pos')) pos.line X.env=pure false) Za1._auto_1)
  (hf:autoParam (X.fn x=true\/X.env.scope.names.lookup x=some .local) Za3._auto_1):PSd X (.Assign [.Name x pos'] e pos) (aq i f):=by
 intro ef s Z H D I hw;have hl:=I.len;refine(rO hN hi hx he hs hf) ef s Z H D I ?_;obtain⟨H0,eg,env,o,E,e,k⟩:=hw;obtain⟨r,hr,e⟩:=ee e;obtain⟨e',xP,rfl⟩:=Gaa.mp e;have hie:i<env.length:=AN E hl hi;refine⟨H0,eg,env,r,E,hr,λv H1 s1 R=> ?_⟩;have st:Stp env Z H env Z H1:= .of_same s1;obtain⟨kd,d⟩:=r;unfold stored at xP;cases kd with
 |c=>
  cases xP;exact k _ H1 ((E.mono s1).gZ R) (st.trans .gZ)
 |tn=>
  cases xP;obtain⟨a,rfl,n,w,t,i⟩:=R;exact k _ H1 (E.kH s1 hie n w t i) (.kH s1 hie E.len n)
 |to=>cases xP
 |tb=>cases xP
def AQ(K:ai)(F N:Addr->Prop)(J:It)(ds:List D)(H1:Hp):Prop:=
 ∀Hi:Hp,(∀b o,H1 b=some o->N b->Hi b=some o)->(∀(i:Nat) d,ds[i]? =some d->J.go i Hi/\∀x H2,J.yld i Hi x H2->bu Hi H2/\Rep K F H2 d x)/\J.stop ds.length Hi
def tI(X:Cx)(src:DI):TI:=λZ H R=>∃H0 eg env ds,au X.K H0 eg env Z H/\src env=some ds/\∀J H',bu H H' ->AQ X.K (λb=>Cln eg env Z b/\H' b≠none) (λb=>¬Ow env Z b) J ds H' ->R J H'
abbrev PId(X:Cx)(tg iter:Expr)(src:DI):Prop:=PI X tg iter (tI X src)
theorem _root_.L2.PI.ao{tg iter:Expr}{w w' :TI}(h:PI X tg iter w')(i:∀Z H R,w Z H R->w' Z H R):PI X tg iter w:=λef s Z H R I q=>h ef s Z H R I (i Z H R q)
theorem au.lock{K:ai}{eg:Addr->Prop}(E:au K H0 eg env Z H)(l:Option Nat):au K H0 eg (b9 l env) Z H/\(∀b,Ow (b9 l env) Z b->Ow env Z b)/\∀i:Nat,bg (b9 l env)[i]? ↔bg env[i]? :=by
 cases l with
 |none=>exact⟨E,λ_ h=>h,λ_=>Iff.rfl⟩
 |some j=>
  unfold b9;dsimp only;split
  .rename_i d q;have hj:j<env.length:=(Gab.mp q).1;have eV:∀i,bg (env.set j (some (.lok d)))[i]? ↔bg env[i]? :=λi=>by
    by_cases z:j=i
    .subst z;rw[bw hj,q];exact⟨λ_=>trivial,λ_=>trivial⟩
    .rw[Gac z]
   have cln:∀b,Cln eg env Z b->Cln eg (env.set j (some (.lok d))) Z b:=λb h=> ⟨h.1,λi t e=>h.2 i ((eV i).mp t) e⟩;refine⟨⟨E.same,by simpa using E.len,E.bad,λi di e=> ?_,λi di e=> ?_,λi di e=> ?_,λi k b t1 t2 e1 e2=> ?_⟩,λb ⟨i,h,e⟩=> ?_,eV⟩
   .rcases eG e with⟨z,e⟩| ⟨z,e⟩
    .cases e
    .obtain⟨v,h1,h2⟩:=E.sh i di e;exact⟨v,h1,h2.imp cln⟩
   .have e' :env[i]? =some (some (.own di))\/env[i]? =some (some (.lok di)):=by
     rcases e with e|e
     .rcases eG e with⟨z,e⟩| ⟨z,e⟩
      .cases e
      .exact .inl e
     .rcases eG e with⟨z,e⟩| ⟨z,e⟩
      .cases e;subst z;exact .inl q
      .exact .inr e
    obtain⟨b,h1,h2,h3,h4,h5,h6⟩:=E.ow i di e';exact⟨b,h1,h2,h3,h4,h5,h6.imp cln⟩
   .rcases eG e with⟨z,e⟩| ⟨z,e⟩
    .cases e
    .obtain⟨b,h1,hw,h2,h3⟩:=E.bo i di e;exact⟨b,h1,hw,h2,h3.imp cln⟩
   .have yK :jT env[i]? :=by
     by_cases z:j=i
     .subst z;rw[q];trivial
     .rw[Gac z] at t1;exact t1
    exact E.dj i k b yK ((eV k).mp t2) e1 e2
   .by_cases z:j=i
    .subst z;rw[bw hj] at h;exact h.elim
    .rw[Gac z] at h;exact⟨i,h,e⟩
  .exact⟨E,λ_ h=>h,λ_=>Iff.rfl⟩
theorem au.free{K:ai}{eg:Addr->Prop}(E:au K H0 eg env Z H)(l:Option Nat):au K H0 eg (f9 l env) Z H:=by
 cases l with
 |none=>exact E
 |some j=>
  unfold f9;dsimp only;split
  .rename_i d q;have hj:j<env.length:=(Gab.mp q).1;have eV:∀i,bg (env.set j (some (.own d)))[i]? ↔bg env[i]? :=λi=>by
    by_cases z:j=i
    .subst z;rw[bw hj,q];exact⟨λ_=>trivial,λ_=>trivial⟩
    .rw[Gac z]
   have cln:∀b,Cln eg env Z b->Cln eg (env.set j (some (.own d))) Z b:=λb h=> ⟨h.1,λi t e=>h.2 i ((eV i).mp t) e⟩;refine⟨E.same,by simpa using E.len,E.bad,λi di e=> ?_,λi di e=> ?_,λi di e=> ?_,λi k b t1 t2 e1 e2=> ?_⟩
   .rcases eG e with⟨z,e⟩| ⟨z,e⟩
    .cases e
    .obtain⟨v,h1,h2⟩:=E.sh i di e;exact⟨v,h1,h2.imp cln⟩
   .have e' :env[i]? =some (some (.own di))\/env[i]? =some (some (.lok di)):=by
     rcases e with e|e
     .rcases eG e with⟨z,e⟩| ⟨z,e⟩
      .cases e;subst z;exact .inr q
      .exact .inl e
     .rcases eG e with⟨z,e⟩| ⟨z,e⟩
      .cases e
      .exact .inr e
    obtain⟨b,h1,h2,h3,h4,h5,h6⟩:=E.ow i di e';exact⟨b,h1,h2,h3,h4,h5,h6.imp cln⟩
   .rcases eG e with⟨z,e⟩| ⟨z,e⟩
    .cases e
    .obtain⟨b,h1,hw,h2,h3⟩:=E.bo i di e;exact⟨b,h1,hw,h2,h3.imp cln⟩
   .have yK :jT env[i]? :=by
     by_cases z:j=i
     .subst z;rw[q];trivial
     .rw[Gac z] at t1;exact t1
    exact E.dj i k b yK ((eV k).mp t2) e1 e2
  .exact E
end
open PySem PySem.Spec PyProof.Rows L2
section
variable{X:Cx}{e a b c:Expr}{f g h:DE}{t u:DT}{pos:Pos}{st:Stmt}{rest:List Stmt}{s1 s2:DS}
variable{i:Nat}{l:Option Nat}{env:Env}
theorem qM(h:∀j,l=some j->j≠i):(b9 l env)[i]? =env[i]? :=by
 unfold b9;split
 .rfl
 .rename_i j;split
  .rw[Gac (h j rfl)]
  .rfl
variable{H:Hp}{Z:St}
theorem Stp.loop{xb:Env}{ZN:St}{HN:Hp}(p:Stp (b9 l env) Z H xb ZN HN)(lo:∀b,Ow (b9 l env) Z b->Ow env Z b):Stp env Z H (if mH l env then f9 l xb else xb) ZN HN:=by
 have same:mH l env=false->b9 l env=env:=λh=>by
  unfold mH at h;unfold b9;split at h
  .rfl
  .split at h
   .cases h
   .rfl
 cases ho:mH l env with
 |false=>
  rw[Gam Gaj];rw[same ho] at p;exact p
 |true=>
  rw[Gak rfl];unfold mH at ho;split at ho
  .cases ho
  .rename_i j;split at ho
   .rename_i d q;have hj:j<env.length:=(Gab.mp q).1;have lockj:(b9 (some j) env)[j]? =some (some (.lok d)):=by unfold b9;simp only[q];exact bw hj
    have other:∀i,j≠i->(b9 (some j) env)[i]? =env[i]? :=λi hi=>qM λk e=>by cases e;exact hi
    refine⟨λb o e n=>p.keep b o e λz=>n (lo b z),λb ⟨i,h,e⟩=> ?_,λi h=> ?_⟩
    .by_cases z:j=i
     .subst z;unfold f9 at h;dsimp only at h;split at h
      .rename_i d' q';obtain⟨h1,h2⟩:=p.lk j (by rw[q'];trivial);rw[h2] at e;exact .inl ⟨j,by rw[q];trivial,e⟩
      .rcases p.ow b ⟨j,h,e⟩ with w|w
       .exact .inl (lo b w)
       .exact .inr w
     .have h' :isO xb[i]? :=by
       unfold f9 at h;dsimp only at h;split at h
       .rw[Gac z] at h;exact h
       .exact h
      rcases p.ow b ⟨i,h',e⟩ with w|w
      .exact .inl (lo b w)
      .exact .inr w
    .by_cases z:j=i
     .subst z;unfold f9 at h⊢;dsimp only at h⊢;split at h
      .rename_i d' q';have xR :j<xb.length:=(Gab.mp q').1;rw[bw xR] at h;exact h.elim
      .rename_i q';obtain⟨h1,_⟩:=p.lk j h;rw[lockj] at h1;exact absurd h1 (q' d)
     .have hN:(f9 (some j) xb)[i]? =xb[i]? :=by
       unfold f9;dsimp only;split
       .rw[Gac z]
       .rfl
      rw[hN] at h⊢;obtain⟨h1,h2⟩:=p.lk i h;rw[other i z] at h1;exact⟨h1,h2⟩
   .cases ho
theorem oE{eg:Addr->Prop}{eB :Env}{Z' :St}{H' :Hp}(p:Stp env Z H eB Z' H'){b:Addr}(h:Cln eg env Z b)(hb:H b≠none):Cln eg eB Z' b:=⟨h.1,λi t e=>by
 rcases oz t with o|o
 .rcases p.ow b ⟨i,o,e⟩ with⟨j,w,ej⟩|w
  .exact h.2 j w.ol.top ej
  .exact hb w
 .obtain⟨h1,h2⟩:=p.lk i o;rw[h1] at t;rw[h2] at e;exact h.2 i t e⟩
variable{gd:DG}{tg:Expr}
theorem HU{iter:Expr}{body:List Stmt}{src:DI}{sb:DS}(hp:PassesOwn (model X.prog X.w) X.A X.env X.xe)(hc:X.calm=true)(hi:PId X tg iter src)(hg:PGd X tg gd)(hb:nT X body sb)
  (hs:∀x,foldedSetIterable iter X.env x=pure x:=by intro _;rfl):PSd X (.For tg iter body [] pos) (cL l src gd sb):=by
 refine(Ab hp hc hi hg hb hs).ao ?_;rintro D Z H ⟨H0,eg,env,o,E,e,k⟩;obtain⟨ds,hds,e⟩:=ee e;obtain⟨o1,R4,rfl⟩:=Gaa.mp e;obtain⟨EL,lo,_⟩:=E.lock l;refine⟨H0,eg,b9 l env,ds,EL,hds,λJ H1 sH it=> ?_⟩;have E1:=EL.mono sH;have st1:Stp env Z H env Z H1:= .of_same sH;have nxOk:∀xb ZN HN,o1= .nx xb->au X.K H0 eg xb ZN HN->Stp (b9 l env) Z H1 xb ZN HN->D.nx ZN HN:=λxb ZN HN eo EN pN=>by
  subst eo;refine k ZN HN ?_ (st1.trans (pN.loop lo));show au X.K H0 eg (if mH l env then f9 l xb else xb) ZN HN;split
  .exact EN.free l
  .exact EN
 refine⟨λi m Z' H' =>m=ds.length -i/\i<=ds.length/\∃eN,au X.K H0 eg eN Z' H' /\Stp (b9 l env) Z H1 eN Z' H' /\forL gd sb (ds.drop i) eN=some o1,
  ⟨ds.length,by simp,GcC _,_,E1,.refl,by simpa using R4⟩, ?_⟩
 rintro i m Z' H' ⟨rfl,hle,eN,Ei,pi,ei⟩;obtain⟨items,stop⟩:=it H' λb o hb n=>pi.keep b o hb n;by_cases eZ:i<ds.length
 .obtain⟨go,yld⟩:=items i ds[i] (by simp[eZ]);refine .inr ⟨go,λZ2 H2=>(ds.length -(i+1))=ds.length -(i+1)/\i+1<=ds.length/\∃eN,au X.K H0 eg eN Z2 H2/\Stp (b9 l env) Z H1 eN Z2 H2/\forL gd sb (ds.drop (i+1)) eN=some o1,λZ2 H2 q=> ⟨_,by lia,q⟩,λx H2 y=> ?_⟩;obtain⟨s2,rep⟩:=yld x H2 y;have hd:ds.drop i=ds[i]::ds.drop (i+1):=List.drop_eq_getElem_cons eZ;rw[hd] at ei;unfold forL at ei;obtain⟨e2,ya,ei⟩:=ee ei;obtain⟨o2,zf,ei⟩:=ee ei;refine⟨H0,eg,eN,ds[i],e2,Ei.mono s2,ya,rep.imp λb q=>oE pi q.1 q.2,λZ3 H3 E3 p3=> ?_⟩;have p3' :Stp (b9 l env) Z H1 e2 Z3 H3:=(pi.trans (.of_same s2)).trans p3;refine⟨H0,eg,e2,o2,E3,zf, ?_⟩;cases o2 with
  |nx e4=>exactλZ4 H4 E4 p4=> ⟨rfl,eZ,e4,E4,p3'.trans p4,ei⟩
  |ct e4=>exactλZ4 H4 E4 p4=> ⟨rfl,eZ,e4,E4,p3'.trans p4,ei⟩
  |bk e4=>
   cases ei
   exactλZ4 H4 E4 p4=>nxOk e4 Z4 H4 rfl E4 (p3'.trans p4)
  |ret d=>
   cases ei;exact k
 .have hi:i=ds.length:=by lia
  subst hi;rw[List.drop_length] at ei;cases ei;exact .inl ⟨stop,nxOk eN Z' H' rfl Ei pi⟩
variable{H0:Hp}
theorem au.dA{K:ai}{eg:Addr->Prop}(E:au K H0 eg env Z H){b:Addr}{o:HO}(h:Ow env Z b)(hb:H b=some o):¬isT o:=by
 intro q;obtain⟨i,h1,h2⟩:=h;obtain⟨y,hy,wy⟩:=E.ue h1.ol.top h2;rw[hb] at hy;cases hy
 cases o<;>simp[isT] at q<;>exact wy
variable{v:V}{d:D}
theorem au.dZ{K:ai}{eg:Addr->Prop}{Hi:Hp}(E:au K H0 eg env Z H)(keep:∀b o,H b=some o->¬Ow env Z b->Hi b=some o)(r:Rep K (Cln eg env Z) H d v):
  Rep K (λb=>Cln eg env Z b/\H b≠none) Hi d v:=
 r.gen (λb o hb q=>keep b o hb (by
  rcases q with q|q
  .exactλ⟨i,h1,h2⟩=>q.2 i h1.ol.top h2
  .exactλw=>E.dA w hb q)) λb q hb=> ⟨q,hb⟩
def OF(K:ai)(tl:TE):TI:=λZ H R=>tl Z H λx H1=>∃a,x= .ref a/\(((∃xs,SqL K H1 a xs)/\R (Itl K a) H1)\/((∃xs,SqT K H1 a xs)/\R (Itt K a) H1))
theorem HV{l:Expr}{tl:TE}(hl:PE X l tl):PI X tg l (OF X.K tl):=by
 intro ef s Z H R I h;refine thn (hl ef s Z H _ I h) λv s1 ⟨x,H1,I1,r1,q1⟩=> ?_;obtain⟨a,e,q1⟩:=q1;subst e;cases r1;have fp:∀b∈[s1.heap.objs.size],gP X ef H1 b:=λb hb=>by
  have e:b=s1.heap.objs.size:=by simpa using hb
  subst e;exact I1.rP (Gar _) (I1.hok.fresh (Gar _))
 rcases q1 with⟨⟨xs,hq⟩,q⟩| ⟨⟨xs,hq⟩,q⟩
 .obtain⟨eh,rv,p,hz⟩:=I1.list hq;refine GbZ p.isList ?_;exact⟨s1.heap.objs.size,[s1.heap.objs.size],_,_,H1,rfl,I1.kept (t' :=s1.toks) λb o e=>Gae _ e,vi a _,⟨_,Gaz _ rfl,rfl,rfl⟩,fp,q⟩
 .obtain⟨eh,rv,p,hz⟩:=I1.tuple hq;refine GbF (show s1.heap.IsTuple a eh.toArray from p) ?_;exact⟨s1.heap.objs.size,[s1.heap.objs.size],_,_,H1,rfl,I1.kept (t' :=s1.toks) λb o e=>Gae _ e,rQ a _,⟨_,Gaz _ rfl,rfl,rfl⟩,fp,q⟩
variable{H1:Hp}
theorem pK{eg:Addr->Prop}{kd:Cls}(E:au X.K H0 eg env Z H)(ht:d.top=true)(hk:kd≠ .to)(Rv:fb X.K H0 eg env Z H H1 ⟨kd,d⟩ v):∀a,v= .ref a->¬Ow env Z a:=λa ea=>by
 cases kd with
 |c=>
  have Rv' :Rep X.K (Cln eg env Z) H1 d v:=Rv;have fin:∀b,Cln eg env Z b->¬Ow env Z b:=λb f ⟨i,h1,h2⟩=>f.2 i h1.ol.top h2;cases Rv' with
  |tup h l r=>simp[D.top] at ht
  |lst f h l r=>cases ea;exact fin _ f
  |dK f h l r=>cases ea;exact fin _ f
  |dT f h l r=>cases ea;exact fin _ f
  |non=>cases ea
  |bl b=>cases ea
  |int i=>cases ea
  |str x=>cases ea
  |scr h=>simp[D.top] at ht
  |kt h=>simp[D.top] at ht
  |exc _ _=>simp[D.top] at ht
  |obj f h ln kd l r=>cases ea;exact fin _ f
  |kid f h l r=>simp[D.top] at ht
 |tn=>
  obtain⟨a',e',n,_⟩:=Rv;rw[e'] at ea;cases ea
  exactλ⟨i,h1,h2⟩=>E.gW h1.ol.top h2 n
 |to=>exact absurd rfl hk
 |tb=>exact Rv.2 a ea ht
theorem AR(he:PEd X e f):PId X tg e (vL f):=by
 refine(HV he).ao ?_;rintro Z H R ⟨H0,eg,env,ds,E,hf,k⟩;obtain⟨⟨kd,d⟩,hr,hf⟩:=ee hf;split at hf
 .cases hf
 rename_i hk;refine⟨H0,eg,env,_,E,hr,λv H1 s1 Rv=> ?_⟩;have ii:=Rv.inn;have E1:=E.mono s1;split at hf
 .rename_i xs hd;cases hf;have eX :d= .lst ds:=hd;subst eX;have hno:=pK E rfl hk Rv;cases ii with
  | @lst la lv _ h r=>
   refine⟨_,rfl,.inl ⟨⟨_,.inl h⟩,k _ H1 s1 λHi keep=> ?_⟩⟩;have hh:Rd Hi la (.lst lv):=by
    rcases h with h| ⟨o,h⟩
    .exact .inl (keep _ _ h (hno _ rfl))
    .exact .inr ⟨o,keep _ _ h (hno _ rfl)⟩
   refine⟨λi d hd=> ?_,⟨_,.inl hh,by rw[r.1];exact Gar _⟩⟩;obtain⟨x,h1,h2⟩:=r.get hd;refine⟨⟨_,x,.inl hh,h1⟩,λy H2 ⟨e2,e3⟩=> ?_⟩;subst e2;refine⟨aT, ?_⟩;have:=e3 _ (.inl hh);rw[h1] at this;cases this
   exact E1.dZ keep h2
 .rename_i xs hd;cases hf;have eX :d= .tup ds:=hd;subst eX;cases ii with
  | @tup la lv _ h r=>
   refine⟨_,rfl,.inr ⟨⟨_,SqT.of h⟩,k _ H1 s1 λHi keep=> ?_⟩⟩;have hh:Hi la=some (.tup lv):=keep _ _ h λw=>E1.dA w h trivial;refine⟨λi d hd=> ?_,⟨_,SqT.of hh,by rw[r.1];exact Gar _⟩⟩;obtain⟨x,h1,h2⟩:=r.get hd;refine⟨⟨_,x,SqT.of hh,h1⟩,λy H2 ⟨e2,e3⟩=> ?_⟩;subst e2;refine⟨aT, ?_⟩;have:=e3 _ (SqT.of hh);rw[h1] at this;cases this
   exact E1.dZ keep h2
 .rename_i ns hd;cases hf;have eX :d= .scr ns:=hd;subst eX;cases ii with
  | @scr la _ h=>
   refine⟨_,rfl,.inl ⟨⟨_,h.sq⟩,k _ H1 s1 λHi keep=> ?_⟩⟩;have hh:Scr X.K Hi la ns:=by
    rcases h with⟨o,h⟩|h
    .exact .inl ⟨o,keep _ _ h λw=>E1.dA w h trivial⟩
    .exact .inr h
   refine⟨λi d hd=> ?_,⟨_,hh.sq,by simp⟩⟩;rw[Gap] at hd;cases q:ns[i]? with
   |none=>rw[q] at hd;cases hd
   |some n=>
    rw[q] at hd;cases hd
    refine⟨⟨_,.int n,hh.sq,by rw[Gap,q];rfl⟩,λy H2 ⟨e2,e3⟩=> ?_⟩;subst e2;have:=e3 _ hh.sq;rw[Gap,q] at this;cases this
    exact⟨aT,.int n⟩
 .cases hf
variable{n:Nat}
theorem gQ{lo:Int}{F N:Addr->Prop}:AQ X.K F N (Itr lo n) (aV lo n) H1:=λHi _=>by
 refine⟨λi d hd=> ?_,by show n<=(aV lo n).length;simp[aV]⟩;have hi:i<n:=by have:=(Gab.mp hd).1;simpa[aV] using this
 refine⟨hi,λx H2 ⟨e1,e2⟩=> ?_⟩;subst e1 e2;have:d= .int (lo+(i:Int)):=by
  unfold aV at hd;rw[Gap,List.getElem?_range hi] at hd;cases hd;rfl
 subst this;exact⟨aT,.int _⟩
theorem cS{i:Int}(h:bz i=true): -(2^62)<=i/\i<2^62:=by
 unfold bz at h;rw[Gad] at h;have h1:=Gas h.1;have h2:=Gas h.2;lia
variable{p:Pos}
theorem vQ(hg:Gl X "range")(hm:X.mg "range"=none)(he:PEd X e f)(hs:autoParam (starEach [e] X.env=[(false,eval e X.env)]) Za1._auto_1):PId X tg (.Call (.Name "range" p) [e] [] pos) (aZ f):=by
 refine(vk hg hm (bV he dQ hs) hs).ao ?_;rintro Z H R ⟨H0,eg,env,ds,E,hf,k⟩;obtain⟨r,hr,hf⟩:=ee hf;split at hf
 .rename_i j hd;split at hf
  .rename_i hz;cases hf;refine⟨H0,eg,env,[r],E,by unfold af az;rw[hr];rfl,λvs H1 s1 Rs=> ?_⟩;cases Rs with
   |cons R1 t=>
    cases t;have i:=R1.inn;rw[hd] at i;cases i;exact⟨j,rfl,(cS hz).1,(cS hz).2,k _ H1 s1 gQ⟩
  .cases hf
 .cases hf
theorem vS(hg:Gl X "range")(hm:X.mg "range"=none)(ha:PEd X a f)(hb:PEd X b g)(hs:autoParam (starEach [a,b] X.env=[(false,eval a X.env),(false,eval b X.env)]) Za1._auto_1)(eW:autoParam (starEach [b] X.env=[(false,eval b X.env)]) Za1._auto_1):
  PId X tg (.Call (.Name "range" p) [a,b] [] pos) (fJ f g):=by
 refine(vo hg hm (bV ha (bV hb dQ eW) (by rw[hs,eW])) hs eW).ao ?_;rintro Z H R ⟨H0,eg,env,ds,E,hf,k⟩;obtain⟨r,hr,hf⟩:=ee hf;obtain⟨r',QV,hf⟩:=ee hf;split at hf
 .rename_i i j hd eX;split at hf
  .rename_i hz;rw[Gad] at hz;cases hf;refine⟨H0,eg,env,[r,r'],E,by simp only[af,az,hr,QV];rfl,λvs H1 s1 Rs=> ?_⟩;cases Rs with
   |cons R1 t=>
    cases t with
    |cons R2 t=>
     cases t;have i1:=R1.inn;rw[hd] at i1;cases i1;have i2:=R2.inn;rw[eX] at i2;cases i2;exact⟨i,j,rfl,⟨(cS hz.1).1,(cS hz.1).2,(cS hz.2).1,(cS hz.2).2⟩,k _ H1 s1 gQ⟩
  .cases hf
 .cases hf
theorem uq{x:Str}(hN:X.N.Nodup)(hi:X.N[i]? =some x)(hx:Loc X.env.scope x)(hf:autoParam (X.fn x=true\/X.env.scope.names.lookup x=some .local) Za3._auto_1):PGd X (.Name x pos) (gN i):=by
 refine(pA hN hi hx hf).ao ?_;rintro v Z H Q ⟨H0,eg,env,d,eB,E,hg,r,k⟩;cases hg;exact k _ H (E.gZ r) .gZ
def tGs(X:Cx)(is:List Nat):TGs:=λvs Z H Q=>∃H0 eg env ds eB,au X.K H0 eg env Z H/\gNs is ds env=some eB /\aH X.K (λb=>Cln eg env Z b/\H b≠none) H ds vs/\∀Z' H',au X.K H0 eg eB Z' H' ->Stp env Z H eB Z' H' ->Q Z' H'
variable{es:List Expr}
theorem _root_.L2.PGs.ao{t t' :TGs}(h:PGs X es t')(i:∀v Z H Q,t v Z H Q->t' v Z H Q):PGs X es t:=λef s Z H v u Q I r q=>h ef s Z H v u Q I r (i v Z H Q q)
theorem Eg:PGs X [] (tGs X []):=by
 refine tY.ao ?_;rintro vs Z H Q ⟨H0,eg,env,ds,eB,E,hg,r,k⟩;cases ds with
 |nil=>cases hg;exact⟨r.bP,k Z H E .refl⟩
 |cons d ds=>cases hg
variable{is:List Nat}
theorem AS(h1:PGd X e (gN i))(h2:PGs X es (tGs X is))(hs:autoParam ((assignEach (e::es) X.env).map (·.2)=assign e X.env::(assignEach es X.env).map (·.2)) Za1._auto_1):PGs X (e::es) (tGs X (i::is)):=by
 refine(mi h1 h2 hs).ao ?_;rintro vs Z H Q ⟨H0,eg,env,ds,eB,E,hg,r,k⟩;cases ds with
 |nil=>cases hg
 |cons d ds=>
  obtain⟨v,vr,rfl,r1,r2⟩:=r.cons_inv;refine⟨v,vr,rfl,H0,eg,env,d,_,E,rfl,r1.imp λ_ q=>q.1,λZ1 H1 E1 p1=> ?_⟩;refine⟨H0,eg,_,ds,eB,E1,hg,r2.gen (λb o hb q=>p1.keep b o hb (by
   rcases q with q|q
   .exactλ⟨j,w1,w2⟩=>q.1.2 j w1.ol.top w2
   .exactλw=>E.dA w hb q)) (λb q hb=> ⟨oE p1 q.1 hb, ?_⟩),λZ2 H2 E2 p2=>k Z2 H2 E2 (p1.trans p2)⟩
  cases o:H b with
  |none=>exact absurd o hb
  |some x=>rw[p1.keep b x o λ⟨j,w1,w2⟩=>q.1.2 j w1.ol.top w2];simp
theorem ur:∀{is:List Nat} {ds:List D} {env eB :Env},gNs is ds env=some eB ->ds.length=is.length
 |[],[],_,_,_=>rfl
 |[],_::_,_,_,h=>by cases h
 |_::_,[],_,_,h=>by cases h
 |i::is,d::ds,env,eB,h=>by
  have:=ur (is:=is) (ds:=ds) h;simp[this]
theorem HW{j:Nat}(hc:X.calm=true)(h:PGs X es (tGs X is))(hn:autoParam ((assignEach es X.env).length=n) Za1._auto_1)(xP:autoParam ((assignEach es X.env).findIdx? (·.1)=none) Za1._auto_1)(hl:autoParam (is.length=n) Za1._auto_1):PGd X (.Tuple es j pos) (gT is):=by
 refine(Aa hc h hn xP).ao ?_;rintro v Z H Q ⟨H0,eg,env,d,eB,E,hg,r,k⟩;unfold gT at hg;split at hg
 .rename_i ds;cases r with
  |tup h l r=>
   refine⟨_,_,rfl,SqT.of h,by rw[<-l,ur hg,hl],H0,eg,env,ds,eB,E,hg,⟨l,λi d v e1 e2=>(r i d v e1 e2).gen (.of_same aT) λb q hb=> ⟨q,hb⟩⟩,k⟩
 .cases hg
theorem AU(he:PEd X e f)(hg:PGd X tg gd)(hs:autoParam (swapsWithSole [tg] e pos.line X.env=pure false) Za1._auto_1)(hw:autoParam (swappedStores [tg] e X.env=pure none) Za1._auto_1)(h1:autoParam ((assignEach [tg] X.env).map (·.2)=[assign tg X.env]) Za1._auto_1):PSd X (.Assign [tg] e pos) (Ax gd f):=by
 refine(GP he hg hs hw h1).ao ?_;rintro D Z H ⟨H0,eg,env,o,E,e,k⟩;obtain⟨⟨kd,d⟩,hr,e⟩:=ee e;cases kd with
 |c=>
  obtain⟨eB,yk,rfl⟩:=Gaa.mp e;exact⟨H0,eg,env,_,E,hr,λv H1 s1 R=> ⟨H0,eg,env,d,eB,E.mono s1,yk,R,λZ2 H2 E2 p2=>k Z2 H2 E2 ((Stp.of_same s1).trans p2)⟩⟩
 |tn=>cases e
 |to=>cases e
 |tb=>cases e
end
open PySem PySem.Spec PyProof.Rows L2
section
variable{X:Cx}{e a b c:Expr}{f g h:DE}{t u:DT}{pos:Pos}{st:Stmt}{rest:List Stmt}{s1 s2:DS}
variable{d:D}{i:Nat}
theorem cY{env:Env}(h:ownAt i env=some d):env[i]? =some (some (.own d)):=by
 unfold ownAt at h;split at h
 .rename_i d' q;cases h;exact q
 .cases h
variable{H:Hp}
theorem fL{K:ai}{F:Addr->Prop}{ds:List D}{a:Addr}(w:Wr H a)(i:Inn K F H (.lst ds) (.ref a)):∃vs,H a=some (.lst vs)/\aH K F H ds vs:=by
 cases i with
 |lst h r=>
  rcases h with h| ⟨o,h⟩
  .exact⟨_,h,r⟩
  .obtain⟨y,hy,wy⟩:=w;rw[h] at hy;cases hy;exact wy.elim
variable{px apos eD:Pos}{x:Str}
theorem vT(hN:X.N[i]? =some x)(hv:Vis X.env.scope x)(he:PEd X e f)(hd:autoParam ((x==("__debug__":Str))=false) Za2._auto_1)(eQ:autoParam ((x==("__classdict__":Str))=false) Za2._auto_1)
  (eU:autoParam (starEach [e] X.env=[(false,eval e X.env)]) Za1._auto_1)
  (eT:autoParam (attributeBase (.Name x px) "append" X.env (eval (.Name x px) X.env)=eval (.Name x px) X.env) Za1._auto_1)
  (xB:((backTo eD (starEach [e] X.env)).all (λx=> !x.1)&&(backToKw eD (keywordEach [] X.env)).all (λx=>x.1.isSome)
   &&decide (([e]:List Expr).length+([]:List Keyword).length+(if([]:List Keyword).isEmpty then 0 else 1)<30))=true:=by rfl)
  (eK:autoParam ((apos.endLine==eD.line)=true) Za1._auto_1)(hs:autoParam (swapsWith (.Call (.Attribute (.Name x px) "append" apos) [e] [] eD) none pos.line X.env=pure false) Za1._auto_1):
  PSd X (.Expr (.Call (.Attribute (.Name x px) "append" apos) [e] [] eD) pos) (bA i f):=by
 refine(jz (oj Gbo PySem.F.slot_list_append PySem.F.type_list_append ku (cK hN hv hd eQ) (bV he dQ eU) eT xB eK eU rfl) hs).ao ?_;rintro D Z H ⟨H0,eg,env,o,E,e,k⟩;obtain⟨r,hr,e⟩:=ee e;obtain⟨d,hd,e⟩:=ee e;have q:=cY hd;split at e
 .rename_i xs;split at e
  .rename_i z;rw[Gad] at z;cases e;obtain⟨a,h1,h2,h3,h4,h5,h6⟩:=E.ow i _ (.inl q);obtain⟨vs,hH,rp⟩:=fL h4 h6;refine⟨_,h1,.inl ⟨rfl,vs,.inl (.inl hH)⟩,H0,eg,env,[r],E,by unfold af az;rw[hr];rfl,λws H2 s2 Rs=> ?_⟩;cases Rs with
   | @cons _ v _ _ R1 tl=>
    cases tl;have xT:=s2 _ _ hH;refine⟨a,vs,v,rfl,rfl,xT,by rw[<-rp.1,<-eE];exact Gas z.2, ?_⟩;have E2:=E.mono s2;have rep1:=R1.rep E z.1;have rp2:aH X.K (Cln eg env Z) H2 (xs++[r.d]) (vs++[v]):=(rp.gen (.of_same s2) λ_ f _=>f).append (.cons rep1 .nil);obtain⟨E3,p3⟩:=E2.change (d' := .lst (xs++[r.d])) (o:= .lst (vs++[v])) q h1 trivial rfl (.lst (.inl ax) (rp2.gen (λb o hb w=>by
     have:b≠a:=by
      rintro rfl;rcases w with w|w
      .exact w.2 i (by rw[q];trivial) h1
      .rw[xT] at hb;cases hb;exact w
     rw[aw this];exact hb) λ_ f _=>f))
    exact k Z _ E3 ((Stp.of_same s2).trans p3)
  .cases e
 .cases e
theorem AV(hN:X.N[i]? =some x)(hv:Vis X.env.scope x)(hd:autoParam ((x==("__debug__":Str))=false) Za2._auto_1)(eQ:autoParam ((x==("__classdict__":Str))=false) Za2._auto_1)
  (eT:autoParam (attributeBase (.Name x px) "clear" X.env (eval (.Name x px) X.env)=eval (.Name x px) X.env) Za1._auto_1)
  (eK:autoParam ((apos.endLine==eD.line)=true) Za1._auto_1)(hs:autoParam (swapsWith (.Call (.Attribute (.Name x px) "clear" apos) [] [] eD) none pos.line X.env=pure false) Za1._auto_1):
  PSd X (.Expr (.Call (.Attribute (.Name x px) "clear" apos) [] [] eD) pos) (su i):=by
 refine(jz (Hh Gbo PySem.F.slot_list_clear PySem.F.type_list_clear Aq (cK hN hv hd eQ) eT eK) hs).ao ?_;rintro D Z H ⟨H0,eg,env,o,E,e,k⟩;obtain⟨d,hd,e⟩:=ee e;have q:=cY hd;split at e
 .rename_i xs;cases e;obtain⟨a,h1,h2,h3,h4,h5,h6⟩:=E.ow i _ (.inl q);obtain⟨vs,hH,rp⟩:=fL h4 h6;refine⟨_,h1,.inl ⟨rfl,vs,.inl (.inl hH)⟩,a,vs,rfl,rfl,hH, ?_⟩;obtain⟨E3,p3⟩:=E.change (d' := .lst []) (o:= .lst []) q h1 trivial rfl (.lst (.inl ax) .nil);exact k Z _ E3 p3
 .cases e
theorem vU(hN:X.N[i]? =some x)(hv:Vis X.env.scope x)(he:PEd X e f)(hd:autoParam ((x==("__debug__":Str))=false) Za2._auto_1)(eQ:autoParam ((x==("__classdict__":Str))=false) Za2._auto_1)
  (eU:autoParam (starEach [e] X.env=[(false,eval e X.env)]) Za1._auto_1)
  (eT:autoParam (attributeBase (.Name x px) "extend" X.env (eval (.Name x px) X.env)=eval (.Name x px) X.env) Za1._auto_1)
  (xB:((backTo eD (starEach [e] X.env)).all (λx=> !x.1)&&(backToKw eD (keywordEach [] X.env)).all (λx=>x.1.isSome)
   &&decide (([e]:List Expr).length+([]:List Keyword).length+(if([]:List Keyword).isEmpty then 0 else 1)<30))=true:=by rfl)
  (eK:autoParam ((apos.endLine==eD.line)=true) Za1._auto_1)(hs:autoParam (swapsWith (.Call (.Attribute (.Name x px) "extend" apos) [e] [] eD) none pos.line X.env=pure false) Za1._auto_1):
  PSd X (.Expr (.Call (.Attribute (.Name x px) "extend" apos) [e] [] eD) pos) (vM i f):=by
 refine(jz (oj Gbo PySem.F.slot_list_extend PySem.F.type_list_extend vG (cK hN hv hd eQ) (bV he dQ eU) eT xB eK eU rfl) hs).ao ?_;rintro D Z H ⟨H0,eg,env,o,E,e,k⟩;obtain⟨⟨kd,rd⟩,hr,e⟩:=ee e;obtain⟨d,hd,e⟩:=ee e;have q:=cY hd;split at e
 .rename_i xs ys hrd;have hrd' :rd= .lst ys:=hrd;subst hrd';split at e
  .rename_i z;rw[Gad] at z;cases e;have hk:kd= .tn:=by have:=z.1;simpa using this
   subst hk;obtain⟨a,h1,h2,h3,h4,h5,h6⟩:=E.ow i _ (.inl q);obtain⟨vs,hH,rp⟩:=fL h4 h6;refine⟨_,h1,.inl ⟨rfl,vs,.inl (.inl hH)⟩,H0,eg,env,[⟨.tn,.lst ys⟩],E,by unfold af az;rw[hr];rfl,λws H2 s2 Rs=> ?_⟩;cases Rs with
   | @cons _ v _ _ R1 tl=>
    cases tl;obtain⟨b,rfl,nb,wb,_,ib⟩:=R1;obtain⟨us,hB,ru⟩:=fL wb ib;have xT:=s2 _ _ hH;refine⟨a,b,vs,us,rfl,rfl,xT,hB,by rw[<-rp.1,<-ru.1,<-eE];exact Gas z.2, ?_⟩;have E2:=E.mono s2;have rp2:aH X.K (Cln eg env Z) H2 (xs++ys) (vs++us):=(rp.gen (.of_same s2) λ_ f _=>f).append (ru.gen (.of_same aT) λ_ f _=>f.1);obtain⟨E3,p3⟩:=E2.change (d' := .lst (xs++ys)) (o:= .lst (vs++us)) q h1 trivial rfl (.lst (.inl ax) (rp2.gen (λb o hb w=>by
     have:b≠a:=by
      rintro rfl;rcases w with w|w
      .exact w.2 i (by rw[q];trivial) h1
      .rw[xT] at hb;cases hb;exact w
     rw[aw this];exact hb) λ_ f _=>f))
    exact k Z _ E3 ((Stp.of_same s2).trans p3)
  .cases e
 .cases e
def OG(K:ai):List V->Hp->VK->Prop:=λxs H Q=>∃x T t b,xs=[x,.ty T]/\jb K H x (.type t)/\PySem.W.kitOne K (.type t) (.type T)=some b/\Q (.bl b) H
theorem AX:cn X (.builtin "isinstance") (OG X.K):=by
 intro ef s Z H xs us Q I r h;obtain⟨x,T,t,bb,rfl,ty,hk,q⟩:=h;obtain⟨u,w',rfl,r1,r2⟩:=vals2 r;cases r2;exact vD I r1 ty hk λtk=> ⟨.bl bb,H,I.tok _,rfl,q⟩
def mJ(K:ai)(T:String):Prop:=∀t∈["NoneType","bool","int","str","tuple","list","dict"],PySem.W.kitOne K (.type t) (.type T)=some (T==t||(t=="bool"&&T=="int"))
theorem Eh{K:ai}{F:Addr->Prop}{x:V}(i:Inn K F H d x)(hs:jP d=false):∃t∈["NoneType","bool","int","str","tuple","list","dict"],jb K H x (.type t)/\∀S,iQ S d=(S==t||(t=="bool"&&S=="int")):=by
 have rdl:∀{a:Addr} {vs:List V},Rd H a (.lst vs)->jb K H (.ref a) (.type "list"):=λh=>by
  rcases h with h| ⟨o,h⟩
  .exact .lst h
  .exact .frz h
 cases i with
 |non=>exact⟨"NoneType",by simp,.non,λS=>by simp[iQ]⟩
 |bl b=>exact⟨"bool",by simp,.bl b,λS=>by simp[iQ]⟩
 |int i=>exact⟨"int",by simp,.int i,λS=>by simp[iQ]⟩
 |str x=>exact⟨"str",by simp,.str x,λS=>by simp[iQ]⟩
 |tup h r=>exact⟨"tuple",by simp,.tup h,λS=>by simp[iQ]⟩
 |lst h r=>exact⟨"list",by simp,rdl h,λS=>by simp[iQ]⟩
 |dK h r=>exact⟨"dict",by simp,.dK h,λS=>by simp[iQ]⟩
 |dT h r=>exact⟨"dict",by simp,.dT h,λS=>by simp[iQ]⟩
 |scr h=>cases hs
 |kt h=>cases hs
 |exc _ _=>cases hs
 |obj _ _ _ _=>cases hs
 |kid _ _ _=>cases hs
theorem HX{T:String}{p p2:Pos}(QK:mJ X.K T)(he:PEd X e f)(hg:Gl X "isinstance")(hm:X.mg "isinstance"=none)(ya:Gl X x)(xM:X.mg x=none)(PF:bootBuiltins x=some (.type T))(yP:autoParam (x≠"__name__") Za2._auto_1)(hd2:autoParam ((x==("__debug__":Str))=false) Za2._auto_1)
  (eU:autoParam (starEach [e,.Name x p2] X.env=(false,eval e X.env)::starEach [.Name x p2] X.env) Za1._auto_1)(eW:autoParam (starEach [.Name x p2] X.env=(false,eval (.Name x p2) X.env)::starEach [] X.env) Za1._auto_1)(xf:autoParam ((backTo pos (starEach [.Name x p2] X.env)).any (·.1)=false) Za1._auto_1):
  PEd X (.Call (.Name "isinstance" p) [e,.Name x p2] [] pos) (bE (jf T f)):=by
 have ht:PE X (.Name x p2) (tC (.ty T)):=De ya xM PF rfl yP hd2;refine(mq AX hg hm (by decide+kernel) (cW he (cW ht g7 eW) eU) (by decide) (by decide) eU xf).ao ?_;rintro Z H Q ⟨H0,eg,env,rv,E,e,k⟩;obtain⟨bb,e',rfl⟩:=Gaa.mp e;clear e;have e:=e';clear e';obtain⟨r,hr,e⟩:=ee e;split at e
 .cases e
 .rename_i hs;cases e;refine⟨H0,eg,env,r,E,hr,λv H1 s1 R=> ?_⟩;obtain⟨t,ht,ty,hb⟩:=Eh R.inn (by simpa using hs);exact⟨v,T,t,_,rfl,ty,QK t ht,by rw[<-hb T];exact k _ H1 s1 (.bl _)⟩
theorem Ej:∀env rs,az env=some rs->rs.length=0:=λenv rs h=>by cases h;rfl
theorem AY{r:DA}{n:Nat}(h:∀env rs,r env=some rs->rs.length=n):∀env rs,af f r env=some rs->rs.length=n+1:=λenv rs e=>by
 obtain⟨x,_,e⟩:=ee e;obtain⟨xs,hx,e⟩:=ee e;cases e;rw[GaE,h env xs hx]
theorem au.start{K:ai}{H:Hp}{N:List Str}{ds:List D}{vs:List V}(hl:ds.length<=N.length)(r:aH K (λ_=>True) H ds vs):au K H (λ_=>False) (fQ N.length ds) (start N vs) H:=by
 have nt:∀i:Nat,¬bg (fQ N.length ds)[i]? :=λi h=>by
  unfold fQ at h;by_cases hi:i<ds.length
  .rw[GaM (by simpa using hi),Gap] at h;cases q:ds[i]? with
   |none=>rw[q] at h;exact h
   |some d=>rw[q] at h;exact h
  .rw[GaR (by simpa using hi),Gbm] at h;split at h<;>exact h
 have no:∀{i:Nat} {s:Slot},(fQ N.length ds)[i]? =some (some s)->bg (some (some s))->False:=λ{i s} e h=>nt i (by rw[e];exact h);refine⟨λ_ _ e=>e,by simp[fQ,L2.start,r.1],λ_ h=>h.elim,λi d e=> ?_,λi d e=> ?_,λi d e=> ?_,λi j a t _ _ _=>(nt i t.top).elim⟩
 .unfold fQ at e;by_cases hi:i<ds.length
  .rw[GaM (by simpa using hi),Gap] at e;cases q:ds[i]? with
   |none=>rw[q] at e;cases e
   |some d' =>
    rw[q] at e;have e' :d' =d:=by simpa using e
    subst e';obtain⟨v,h1,h2⟩:=r.get q;refine⟨v, ?_,h2.imp λb _=> ⟨λz=>z,λj t=>(nt j t).elim⟩⟩;unfold L2.start;rw[GaM (by rw[Gax,<-r.1];exact hi),Gap,h1];rfl
  .rw[GaR (by simpa using hi),Gbm] at e;split at e<;>cases e
 .rcases e with e|e
  .exact(no e trivial).elim
  .exact(no e trivial).elim
 .exact(no e trivial).elim
theorem LZ{P:Program}{w:World}{K:ai}{mg:Str->Option Value}{base:Heap}{qual:Str}{sd:Stmt}{fa:Addr}{fd:FuncData}{N ps:List Str}{k np:Nat}{body:DS}(F:Fun K x qual sd fa fd)(S:cX N ps (ay sd))(xX:ps.length=np)
  (xa:∀(eL:Value) (A:Around) (outer:List PySem.Env) (s:Shared) (H:Hp) (E:XK),cw k (A.deeper (envOfC qual (ay sd) s.heap.objs.size fa eL))->
   nT (jc CX0 P w K mg base N qual (ay sd) fa eL A outer s H E).nox (cp sd) body):cy P w K mg base CX0 (k+1) fa fd ps (spD K np (cA N.length np body)):=by
 refine F.ok S (λvs H Q E h=> ?_) λeL A outer s H vs Q E hr h=> ⟨_,xa eL A outer s H E hr, ?_⟩
 .obtain⟨ds,d,h1,h2,_⟩:=h;rw[<-h2.1,h1,xX]
 .obtain⟨ds,d,h1,h2,h3,k⟩:=h;unfold cA at h3;rw[Gak h1] at h3;obtain⟨o,ho,h3⟩:=ee h3;have hl:ds.length<=N.length:=by
   have:=congrArg List.length S.pre;rw[GaQ] at this;lia
  refine⟨H,λ_=>False,fQ N.length ds,o,au.start hl h2,ho, ?_⟩;cases o with
  |ret d' =>cases h3;exactλv H' s' R=>k v H' s' R
  |nx e=>cases h3;exactλZ' H' E' p' =>k .non H' E'.same ⟨λt=>(by cases t),.non⟩
  |bk e=>cases h3
  |ct e=>cases h3
theorem HY{K:ai}{a:Addr}{ns:List Int}{sp:SpF}{E:XK}(hO:DB H)(hS:SqL K H a (ns.map V.int))(h:sp [.scr ns]=some (.bl true)):spD K 1 sp [.ref a] H (λv _=>v= .bl true) E:=by
 refine⟨[.scr ns],.bl true,rfl,aH.cons (.scr ?_) .nil,h,λv H' _ R=> ?_⟩
 .rcases hS with(z|z)|z
  .rcases hO a with q| ⟨o,xs,q⟩<;>rw[z] at q<;>cases q
  .exact .inl z
  .exact .inr z
 .have i:=R.2;cases i;rfl
end
open PySem PySem.Spec PyProof.Rows L2
variable{d:D}{n:Nat}
theorem plain_all{ds:List D}(h:ds.all (aG n)=true){i:Nat}(e:ds[i]? =some d):aG n d=true:=Gao.mp h d (GaD e)
inductive pL (K:ai) (F:Addr->Prop) (H:Hp):D->V->Prop where
 |non:pL K F H .non .non
 |bl (b:Bool):pL K F H (.bl b) (.bl b)
 |int (i:Int):pL K F H (.int i) (.int i)
 |str (x:Str):pL K F H (.str x) (.str x)
 |tup {a:Addr} {vs:List V} {ds:List D} (h:H a=some (.tup vs)) (l:ds.length=vs.length) (r:∀(i:Nat) d v,ds[i]? =some d->vs[i]? =some v->Rep K F H d v):pL K F H (.tup ds) (.ref a)
 |lst {a:Addr} {vs:List V} {ds:List D} (f:F a) (h:Rd H a (.lst vs)) (l:ds.length=vs.length) (r:∀(i:Nat) d v,ds[i]? =some d->vs[i]? =some v->Rep K F H d v):pL K F H (.lst ds) (.ref a)
theorem br{K:ai}{F:Addr->Prop}{H:Hp}{v:V}(p:aG n d=true)(r:Rep K F H d v):pL K F H d v:=by
 cases r with
 |non=>exact .non
 |bl b=>exact .bl b
 |int i=>exact .int i
 |str x=>exact .str x
 |tup h l r=>exact .tup h l r
 |lst f h l r=>exact .lst f h l r
 |_=>cases n<;>exact(Gaj p).elim
theorem qN:∀(n:Nat) (d:D),aG n d=true->eqD d d=true:=by
 intro n;induction n with
 |zero=>intro d h;cases d<;>simp[aG] at h<;>simp
 |succ n ih=>
  have all:∀ds:List D,ds.all (aG n)=true->iP ds ds=true:=by
   intro ds;induction ds with
   |nil=>intro _;rfl
   |cons d ds ih2=>
    intro h;rw[Gbu,Gad] at h;simp[iP,ih d h.1,ih2 h.2]
  intro d h;cases d<;>simp only[aG] at h<;>first
   |(simp;done)
   |exact all _ h
   |cases h
theorem i0:∀{ds es:List D},ds.length≠es.length->iP ds es=false
 |[],[],h=>absurd rfl h
 |[],_::_,_=>rfl
 |_::_,[],_=>rfl
 |d::ds,e::es,h=>by
  unfold iP;rw[i0 (by simpa using h),GcB]
theorem fh:∀{ds es:List D},ds.length=es.length->(List.range ds.length).all (λj=>eqD (ds.getD j .non) (es.getD j .non))=iP ds es
 |[],[],_=>rfl
 |[],_::_,h=>by simp at h
 |_::_,[],h=>by simp at h
 |d::ds,e::es,h=>by
  have ih:=fh (ds:=ds) (es:=es) (by simpa using h);unfold iP;rw[GaE,List.range_succ_eq_map,Gbu,List.all_map,<-ih]
  rfl
section
variable{X:Cx}{ef:LAO}{Z:St}{H:Hp}{s:Shared}
theorem pM{K:ai}{F G:Addr->Prop}:∀(n:Nat) {d d' :D} {v:V},aG n d=true->aG n d' =true->Rep K F H d v->Rep K G H d' v->d=d' :=by
 intro n;induction n with
 |zero=>intro d d' v h1 h2 r1 r2;cases br h1 r1<;>first|exact(Gaj h1).elim|(cases br h2 r2;rfl)
 |succ n ih=>
  have all:∀{ds es:List D} {vs:List V},ds.all (aG n)=true->es.all (aG n)=true->ds.length=vs.length->es.length=vs.length->(∀(i:Nat) d v,ds[i]? =some d->vs[i]? =some v->Rep K F H d v)->(∀(i:Nat) d v,es[i]? =some d->vs[i]? =some v->Rep K G H d v)->ds=es:=by
   intro ds es vs p1 p2 l1 l2 r1 r2;apply GcH;intro i;by_cases hi:i<vs.length
   .have e1:ds[i]? =some ds[i]:=by simp[l1,hi]
    have e2:es[i]? =some es[i]:=by simp[l2,hi]
    have e3:vs[i]? =some vs[i]:=by simp[hi]
    rw[e1,e2,ih (plain_all p1 e1) (plain_all p2 e2) (r1 i _ _ e1 e3) (r2 i _ _ e2 e3)]
   .rw[GaZ (by lia),GaZ (by lia)]
  intro d d' v h1 h2 r1 r2;cases br h1 r1 with
  |non=>cases br h2 r2;rfl
  |bl b=>cases br h2 r2;rfl
  |int i=>cases br h2 r2;rfl
  |str x=>cases br h2 r2;rfl
  |tup h l r=>
   cases br h2 r2 with
   |tup h' l' r' =>
    rw[h] at h';cases h'
    rw[all (by simpa[aG] using h1) (by simpa[aG] using h2) l l' r r']
   |lst f h' l' r' =>rcases h' with h' | ⟨o,h'⟩<;>rw[h] at h' <;>cases h'
  |lst f h l r=>
   cases br h2 r2 with
   |tup h' l' r' =>rcases h with h| ⟨o,h⟩<;>rw[h] at h' <;>cases h'
   |lst f' h' l' r' =>
    have:∀{xs ys:List V} {a:Addr},Rd H a (.lst xs)->Rd H a (.lst ys)->xs=ys:=λz1 z2=>by
     rcases z1 with z1| ⟨o,z1⟩<;>rcases z2 with z2| ⟨o',z2⟩<;>rw[z1] at z2<;>cases z2<;>rfl
    cases this h h';rw[all (by simpa[aG] using h1) (by simpa[aG] using h2) l l' r r']
theorem item_at{ds:List D}{vs:List V}{eh:List Value}{K:ai}{F:Addr->Prop}(l:ds.length=vs.length)(r:∀(i:Nat) d v,ds[i]? =some d->vs[i]? =some v->Rep K F H d v)(rv:Vals vs eh){j:Nat}(h:j<eh.toArray.size):
  ∃d v,ds[j]? =some d/\ds.getD j .non=d/\Rep K F H d v/\RelV v eh.toArray[j]:=by
 have hj:j<eh.length:=by simpa using h
 have hv:j<vs.length:=by rw[rv.length];exact hj
 have hd:j<ds.length:=by rw[l];exact hv
 obtain⟨u,e1,e2⟩:=rv.get (i:=j) (x:=vs[j]) (by simp[hv]);refine⟨ds[j],vs[j],by simp[hd],by simp[hd],r j _ _ (by simp[hd]) (by simp[hv]), ?_⟩;have:eh.toArray[j]=u:=by
  have:=e1;simp[hj] at this
  simpa using this
 rw[this];exact e2
variable{n:Nat}{A:Around}
theorem in1_units(h:A.units+(n+1)<cLine):A.in1.units+n<cLine:=by
 show A.units+1+n<_;lia
theorem mK(I:Inv X ef Z H s){F G:Addr->Prop}:∀(n:Nat) {dx dy:D} {x y:V} {v u:Value} {A:Around},aG n dx=true->aG n dy=true->Rep X.K F H dx x->Rep X.K G H dy y->RelV x v->RelV y u->A.units+n<cLine->SeqAt.EqAt A s v u (eqD dx dy):=by
 have flat:∀{dx dy:D} {x y:V} {v u:Value} {A:Around},pL X.K F H dx x->pL X.K G H dy y->RelV x v->RelV y u->u7 x=true->u7 y=true->SeqAt.EqAt A s v u (eqD dx dy):=by
  intro dx dy x y v u A r1 r2 rv ru fx fy;have e:eqD dx dy=eqV x y:=by
   cases r1<;>first|exact(Gaj fx).elim|(cases r2<;>first|exact(Gaj fy).elim|rfl)
  rw[e];exact Hg rv ru fx fy
 intro n;induction n with
 |zero=>
  intro dx dy x y v u A p1 p2 r1 r2 rv ru hu;refine flat (br p1 r1) (br p2 r2) rv ru ?_ ?_
  .cases br p1 r1<;>first|rfl|exact(Gaj p1).elim
  .cases br p2 r2<;>first|rfl|exact(Gaj p2).elim
 |succ n ih=>
  intro dx dy x y v u A p1 p2 r1 r2 rv ru hu;have hu0:A.units<cLine:=by lia
  cases br p1 r1 with
  | @tup a vs1 ds1 h l r=>
   cases rv;obtain⟨eh,xC,ht,_⟩:=I.tuple (SqT.of h);cases br p2 r2 with
   |non=>cases ru;exact SeqAt.EqAt.tuple_none ht hu0
   |bl b=>cases ru;exact SeqAt.EqAt.tuple_bool b ht hu0
   |int i=>obtain⟨t,rfl⟩:=ru;exact SeqAt.EqAt.tuple_int i t ht hu0
   |str z=>obtain⟨t,rfl⟩:=ru;exact SeqAt.EqAt.tuple_str z t ht hu0
   |lst f' h' l' r' =>
    cases ru;obtain⟨eF,eO,pl,_⟩:=I.list (.inl h');exact SeqAt.EqAt.tuple_list ht pl.isList hu0
   | @tup b yI xh h' l' r' =>
    cases ru;by_cases hab:a=b
    .subst hab;have:=pM (n+1) p1 p2 (Rep.tup h l r) (Rep.tup h' l' r');rw[<-this,qN _ _ p1];exact SeqAt.EqAt.same _
    .obtain⟨eF,eO,hV,_⟩:=I.tuple (SqT.of h');have eU:eh.toArray.size=ds1.length:=by rw[Gai,<-xC.length,l]
     have eW:eF.toArray.size=xh.length:=by rw[Gai,<-eO.length,l']
     have key:=SeqAt.RcAt.tuples (e:=λj=>eqD (ds1.getD j .non) (xh.getD j .non)) ht hV hu0 λj h1 h2=>by
      obtain⟨d1,v1,q1,q2,q3,q4⟩:=item_at l r xC h1;obtain⟨d2,v2,w1,w2,w3,w4⟩:=item_at l' r' eO h2;rw[q2,w2];exact ih (plain_all (by simpa[aG] using p1) q1) (plain_all (by simpa[aG] using p2) w1) q3 w3 q4 w4 (in1_units hu)
     refine SeqAt.EqAt.of_refs hab ?_;show SeqAt.RcAt A s (.ref a) (.ref b) (iP ds1 xh);rw[eU,eW] at key;by_cases hl:ds1.length=xh.length
     .rw[<-hl,Nat.min_self,fh hl] at key
      simpa using key
     .rw[i0 hl];have:(ds1.length==xh.length)=false:=by simpa using hl
      rw[this,GcB] at key;exact key
  | @lst a vs1 ds1 f h l r=>
   cases rv;obtain⟨eh,xC,pl,_⟩:=I.list (.inl h);have ht:=pl.isList;cases br p2 r2 with
   |non=>cases ru;exact SeqAt.EqAt.list_none ht hu0
   |bl b=>cases ru;exact SeqAt.EqAt.list_bool b ht hu0
   |int i=>obtain⟨t,rfl⟩:=ru;exact SeqAt.EqAt.list_int i t ht hu0
   |str z=>obtain⟨t,rfl⟩:=ru;exact SeqAt.EqAt.list_str z t ht hu0
   |tup h' l' r' =>
    cases ru;obtain⟨eF,eO,hV,_⟩:=I.tuple (SqT.of h');exact SeqAt.EqAt.list_tuple ht hV hu0
   | @lst b yI xh f' h' l' r' =>
    cases ru;by_cases hab:a=b
    .subst hab;have:=pM (n+1) p1 p2 (Rep.lst f h l r) (Rep.lst f' h' l' r');rw[<-this,qN _ _ p1];exact SeqAt.EqAt.same _
    .obtain⟨eF,eO,xV,_⟩:=I.list (.inl h');have hV:=xV.isList;have eU:eh.toArray.size=ds1.length:=by rw[Gai,<-xC.length,l]
     have eW:eF.toArray.size=xh.length:=by rw[Gai,<-eO.length,l']
     refine SeqAt.EqAt.of_refs hab ?_;show SeqAt.RcAt A s (.ref a) (.ref b) (iP ds1 xh);by_cases hl:ds1.length=xh.length
     .have key:=SeqAt.RcAt.lists (e:=λj=>eqD (ds1.getD j .non) (xh.getD j .non)) ht hV (by rw[eU,eW,hl]) hu0 λj h1 h2=>by
       obtain⟨d1,v1,q1,q2,q3,q4⟩:=item_at l r xC h1;obtain⟨d2,v2,w1,w2,w3,w4⟩:=item_at l' r' eO h2;rw[q2,w2];exact ih (plain_all (by simpa[aG] using p1) q1) (plain_all (by simpa[aG] using p2) w1) q3 w3 q4 w4 (in1_units hu)
      rw[eU,fh hl] at key;exact key
     .rw[i0 hl];exact SeqAt.RcAt.lists_lengths ht hV (by rw[eU,eW];simpa using hl) hu0
  |non=>
   cases rv;cases br p2 r2 with
   |tup h' l' r' =>cases ru;obtain⟨eF,eO,hV,_⟩:=I.tuple (SqT.of h');exact SeqAt.EqAt.none_tuple hV hu0
   |lst f' h' l' r' =>cases ru;obtain⟨eF,eO,xV,_⟩:=I.list (.inl h');exact SeqAt.EqAt.none_list xV.isList hu0
   |_=>exact flat .non (by first|exact .non|exact .bl _|exact .int _|exact .str _) rfl ru rfl rfl
  |bl b=>
   cases br p2 r2 with
   |tup h' l' r' =>cases rv;cases ru;obtain⟨eF,eO,hV,_⟩:=I.tuple (SqT.of h');exact SeqAt.EqAt.bool_tuple b hV hu0
   |lst f' h' l' r' =>cases rv;cases ru;obtain⟨eF,eO,xV,_⟩:=I.list (.inl h');exact SeqAt.EqAt.bool_list b xV.isList hu0
   |_=>exact flat (.bl b) (by first|exact .non|exact .bl _|exact .int _|exact .str _) rv ru rfl rfl
  |int i=>
   cases br p2 r2 with
   |tup h' l' r' =>obtain⟨t,rfl⟩:=rv;cases ru;obtain⟨eF,eO,hV,_⟩:=I.tuple (SqT.of h');exact SeqAt.EqAt.int_tuple i t hV hu0
   |lst f' h' l' r' =>obtain⟨t,rfl⟩:=rv;cases ru;obtain⟨eF,eO,xV,_⟩:=I.list (.inl h');exact SeqAt.EqAt.int_list i t xV.isList hu0
   |_=>exact flat (.int i) (by first|exact .non|exact .bl _|exact .int _|exact .str _) rv ru rfl rfl
  |str z=>
   cases br p2 r2 with
   |tup h' l' r' =>obtain⟨t,rfl⟩:=rv;cases ru;obtain⟨eF,eO,hV,_⟩:=I.tuple (SqT.of h');exact SeqAt.EqAt.str_tuple z t hV hu0
   |lst f' h' l' r' =>obtain⟨t,rfl⟩:=rv;cases ru;obtain⟨eF,eO,xV,_⟩:=I.list (.inl h');exact SeqAt.EqAt.str_list z t xV.isList hu0
   |_=>exact flat (.str z) (by first|exact .non|exact .bl _|exact .int _|exact .str _) rv ru rfl rfl
theorem qO(I:Inv X ef Z H s){F G:Addr->Prop}{dx dy:D}{x y:V}{v u:Value}(p1:aG n dx=true)(p2:aG n dy=true)(r1:Rep X.K F H dx x)(r2:Rep X.K G H dy y)(rv:RelV x v)(ru:RelV y u)(hu:A.units+n<cLine):
  SeqAt.RcAt A s v u (eqD dx dy)/\SeqAt.RcNeAt A s v u (!eqD dx dy):=by
 have hu0:A.units<cLine:=by lia
 have tupAt:∀{a:Addr} {vs:List V},H a=some (.tup vs)->∃eh:List Value,s.heap.IsTuple a eh.toArray:=λh=>let⟨eh,_,ht,_⟩:=I.tuple (SqT.of h);⟨eh,ht⟩
 have lstAt:∀{a:Addr} {vs:List V},Rd H a (.lst vs)->∃eh:List Value,s.heap.IsList a eh.toArray:=λh=>let⟨eh,_,pl,_⟩:=I.list (.inl h);⟨eh,pl.isList⟩
 cases br p1 r1 with
 |non=>
  cases rv;cases br p2 r2 with
  |non=>cases ru;exact⟨.none_none,.none_none⟩
  |bl b=>cases ru;exact⟨.none_bool b,.none_bool b⟩
  |int i=>obtain⟨t,rfl⟩:=ru;exact⟨.none_int i t,.none_int i t⟩
  |str z=>obtain⟨t,rfl⟩:=ru;exact⟨.none_str z t,.none_str z t⟩
  |tup h' l' r' =>cases ru;obtain⟨eh,ht⟩:=tupAt h';exact⟨.none_tuple ht hu0,.none_tuple ht hu0⟩
  |lst f' h' l' r' =>cases ru;obtain⟨eh,ht⟩:=lstAt h';exact⟨.none_list ht hu0,.none_list ht hu0⟩
 |bl b=>
  cases rv;cases br p2 r2 with
  |non=>cases ru;exact⟨.bool_none b,.bool_none b⟩
  |bl b' =>cases ru;exact⟨.bool_bool b b',.bool_bool b b'⟩
  |int i=>obtain⟨t,rfl⟩:=ru;exact⟨.bool_int b i t,.bool_int b i t⟩
  |str z=>obtain⟨t,rfl⟩:=ru;exact⟨.bool_str b z t,.bool_str b z t⟩
  |tup h' l' r' =>cases ru;obtain⟨eh,ht⟩:=tupAt h';exact⟨.bool_tuple b ht hu0,.bool_tuple b ht hu0⟩
  |lst f' h' l' r' =>cases ru;obtain⟨eh,ht⟩:=lstAt h';exact⟨.bool_list b ht hu0,.bool_list b ht hu0⟩
 |int i=>
  obtain⟨t,rfl⟩:=rv;cases br p2 r2 with
  |non=>cases ru;exact⟨.int_none i t,.int_none i t⟩
  |bl b' =>cases ru;exact⟨.int_bool i t b',.int_bool i t b'⟩
  |int j=>obtain⟨t',rfl⟩:=ru;exact⟨.int_int i t j t',.int_int i t j t'⟩
  |str z=>obtain⟨t',rfl⟩:=ru;exact⟨.int_str i t z t',.int_str i t z t'⟩
  |tup h' l' r' =>cases ru;obtain⟨eh,ht⟩:=tupAt h';exact⟨.int_tuple i t ht hu0,.int_tuple i t ht hu0⟩
  |lst f' h' l' r' =>cases ru;obtain⟨eh,ht⟩:=lstAt h';exact⟨.int_list i t ht hu0,.int_list i t ht hu0⟩
 |str z=>
  obtain⟨t,rfl⟩:=rv;cases br p2 r2 with
  |non=>cases ru;exact⟨.str_none z t,.str_none z t⟩
  |bl b' =>cases ru;exact⟨.str_bool z t b',.str_bool z t b'⟩
  |int j=>obtain⟨t',rfl⟩:=ru;exact⟨.str_int z t j t',.str_int z t j t'⟩
  |str z' =>obtain⟨t',rfl⟩:=ru;exact⟨.str_str z t z' t',.str_str z t z' t'⟩
  |tup h' l' r' =>cases ru;obtain⟨eh,ht⟩:=tupAt h';exact⟨.str_tuple z t ht hu0,.str_tuple z t ht hu0⟩
  |lst f' h' l' r' =>cases ru;obtain⟨eh,ht⟩:=lstAt h';exact⟨.str_list z t ht hu0,.str_list z t ht hu0⟩
 | @tup a vs1 ds1 h l r=>
  cases n with
  |zero=>simp[aG] at p1
  |succ n=>
   cases rv;obtain⟨eh,xC,ht,_⟩:=I.tuple (SqT.of h);cases br p2 r2 with
   |non=>cases ru;exact⟨.tuple_none ht hu0,.tuple_none ht hu0⟩
   |bl b=>cases ru;exact⟨.tuple_bool b ht hu0,.tuple_bool b ht hu0⟩
   |int i=>obtain⟨t,rfl⟩:=ru;exact⟨.tuple_int i t ht hu0,.tuple_int i t ht hu0⟩
   |str z=>obtain⟨t,rfl⟩:=ru;exact⟨.tuple_str z t ht hu0,.tuple_str z t ht hu0⟩
   |lst f' h' l' r' =>cases ru;obtain⟨eF,hV⟩:=lstAt h';exact⟨.tuple_list ht hV hu0,.tuple_list ht hV hu0⟩
   | @tup b yI xh h' l' r' =>
    cases ru;obtain⟨eF,eO,hV,_⟩:=I.tuple (SqT.of h');have eU:eh.toArray.size=ds1.length:=by rw[Gai,<-xC.length,l]
    have eW:eF.toArray.size=xh.length:=by rw[Gai,<-eO.length,l']
    have items:∀j (h1:j<eh.toArray.size) (h2:j<eF.toArray.size),SeqAt.EqAt A.in1 s eh.toArray[j] eF.toArray[j] ((λj=>eqD (ds1.getD j .non) (xh.getD j .non)) j):=λj h1 h2=>by
     obtain⟨d1,v1,q1,q2,q3,q4⟩:=item_at l r xC h1;obtain⟨d2,v2,w1,w2,w3,w4⟩:=item_at l' r' eO h2;dsimp only;rw[q2,w2];exact mK I n (plain_all (by simpa[aG] using p1) q1) (plain_all (by simpa[aG] using p2) w1) q3 w3 q4 w4 (in1_units hu)
    have k1:=SeqAt.RcAt.tuples ht hV hu0 items;have k2:=SeqAt.RcNeAt.tuples ht hV hu0 items;have e:((List.range (min eh.toArray.size eF.toArray.size)).all (λj=>eqD (ds1.getD j .non) (xh.getD j .non))&&eh.toArray.size==eF.toArray.size)=iP ds1 xh:=by
     rw[eU,eW];by_cases hl:ds1.length=xh.length
     .rw[<-hl,Nat.min_self,fh hl];simp
     .rw[i0 hl];have:(ds1.length==xh.length)=false:=by simpa using hl
      rw[this,GcB]
    rw[e] at k1 k2;exact⟨k1,k2⟩
 | @lst a vs1 ds1 f h l r=>
  cases n with
  |zero=>simp[aG] at p1
  |succ n=>
   cases rv;obtain⟨eh,xC,pl,_⟩:=I.list (.inl h);have ht:=pl.isList;cases br p2 r2 with
   |non=>cases ru;exact⟨.list_none ht hu0,.list_none ht hu0⟩
   |bl b=>cases ru;exact⟨.list_bool b ht hu0,.list_bool b ht hu0⟩
   |int i=>obtain⟨t,rfl⟩:=ru;exact⟨.list_int i t ht hu0,.list_int i t ht hu0⟩
   |str z=>obtain⟨t,rfl⟩:=ru;exact⟨.list_str z t ht hu0,.list_str z t ht hu0⟩
   |tup h' l' r' =>cases ru;obtain⟨eF,hV⟩:=tupAt h';exact⟨.list_tuple ht hV hu0,.list_tuple ht hV hu0⟩
   | @lst b yI xh f' h' l' r' =>
    cases ru;obtain⟨eF,eO,xV,_⟩:=I.list (.inl h');have hV:=xV.isList;have eU:eh.toArray.size=ds1.length:=by rw[Gai,<-xC.length,l]
    have eW:eF.toArray.size=xh.length:=by rw[Gai,<-eO.length,l']
    have items:∀j (h1:j<eh.toArray.size) (h2:j<eF.toArray.size),SeqAt.EqAt A.in1 s eh.toArray[j] eF.toArray[j] ((λj=>eqD (ds1.getD j .non) (xh.getD j .non)) j):=λj h1 h2=>by
     obtain⟨d1,v1,q1,q2,q3,q4⟩:=item_at l r xC h1;obtain⟨d2,v2,w1,w2,w3,w4⟩:=item_at l' r' eO h2;dsimp only;rw[q2,w2];exact mK I n (plain_all (by simpa[aG] using p1) q1) (plain_all (by simpa[aG] using p2) w1) q3 w3 q4 w4 (in1_units hu)
    show SeqAt.RcAt A s (.ref a) (.ref b) (iP ds1 xh)/\SeqAt.RcNeAt A s (.ref a) (.ref b) (!iP ds1 xh);by_cases hl:ds1.length=xh.length
    .have k1:=SeqAt.RcAt.lists ht hV (by rw[eU,eW,hl]) hu0 items;have k2:=SeqAt.RcNeAt.lists ht hV (by rw[eU,eW,hl]) hu0 items;rw[eU,fh hl] at k1 k2;exact⟨k1,k2⟩
    .rw[i0 hl];exact⟨SeqAt.RcAt.lists_lengths ht hV (by rw[eU,eW];simpa using hl) hu0,SeqAt.RcNeAt.lists_lengths ht hV (by rw[eU,eW];simpa using hl) hu0⟩
end
section
variable{X:Cx}
def Ek(K:ai)(neg:Bool):R2:=λx y H Q=>∃F dx dy,Inn K F H dx x/\Inn K F H dy y/\dx.plain=true/\dy.plain=true/\Q (.bl (if neg then !eqD dx dy else eqD dx dy)) H
theorem HZ(hu:X.A.units+20<cLine):OpR X (compareOp .Eq) (Ek X.K false):=by
 intro ef s Z H x y v u Q I rx ry h;obtain⟨F,dx,dy,i1,i2,p1,p2,q⟩:=h;exact(qO I (n:=20) p1 p2 i1.any i2.any rx ry hu).1 X.prog X.w _ _ ⟨.bl (eqD dx dy),H,I,rfl,q⟩
theorem I0(hu:X.A.units+20<cLine):OpR X (compareOp .NotEq) (Ek X.K true):=by
 intro ef s Z H x y v u Q I rx ry h;obtain⟨F,dx,dy,i1,i2,p1,p2,q⟩:=h;exact(qO I (n:=20) p1 p2 i1.any i2.any rx ry hu).2 X.prog X.w _ _ ⟨.bl (!eqD dx dy),H,I,rfl,q⟩
theorem Ia:OpB X eqB (Ek X.K false):=by
 intro F H dx dy x y b Q ix iy e q;unfold eqB at e;split at e
 .rename_i z;rw[Gad] at z;cases e;exact⟨F,dx,dy,ix,iy,z.1,z.2,q⟩
 .cases e
theorem Ib:OpB X neB (Ek X.K true):=by
 intro F H dx dy x y b Q ix iy e q;unfold neB at e;split at e
 .rename_i z;rw[Gad] at z;cases e;exact⟨F,dx,dy,ix,iy,z.1,z.2,q⟩
 .cases e
theorem El{A:Around}{k:Nat}(hr:cw k A):A.units+20<cLine:=Nat.lt_of_le_of_lt (Nat.add_le_add_left (by decide:20<=64) _) hr.units
theorem Ic:bootBuiltins "len"=some (.builtin "len"):=by decide+kernel
theorem Ie:bootBuiltins "min"=some (.builtin "min"):=by decide+kernel
theorem AZ:bootBuiltins "max"=some (.builtin "max"):=by decide+kernel
theorem Ig:bootBuiltins "sum"=some (.builtin "sum"):=by decide+kernel
theorem Ih:bootBuiltins "all"=some (.builtin "all"):=by decide+kernel
theorem B3:bootBuiltins "int"=some (.type "int"):=by decide+kernel
theorem Em:bootBuiltins "bool"=some (.type "bool"):=by decide+kernel
theorem B4:bootBuiltins "str"=some (.type "str"):=by decide+kernel
theorem qP:bootBuiltins "tuple"=some (.type "tuple"):=by decide+kernel
theorem uu:bootBuiltins "list"=some (.type "list"):=by decide+kernel
theorem pO:bootBuiltins "enumerate"=some (.type "enumerate"):=by decide+kernel
theorem En{K:ai}:mJ K "int":=by
 intro t ht;simp only[Gah,GaB,GaT] at ht;rcases ht with rfl|rfl|rfl|rfl|rfl|rfl|rfl<;>rfl
theorem Eo{K:ai}:mJ K "str":=by
 intro t ht;simp only[Gah,GaB,GaT] at ht;rcases ht with rfl|rfl|rfl|rfl|rfl|rfl|rfl<;>rfl
theorem kit_tuple{K:ai}:mJ K "tuple":=by
 intro t ht;simp only[Gah,GaB,GaT] at ht;rcases ht with rfl|rfl|rfl|rfl|rfl|rfl|rfl<;>rfl
theorem B5{K:ai}:mJ K "list":=by
 intro t ht;simp only[Gah,GaB,GaT] at ht;rcases ht with rfl|rfl|rfl|rfl|rfl|rfl|rfl<;>rfl
theorem B6{K:ai}:mJ K "bool":=by
 intro t ht;simp only[Gah,GaB,GaT] at ht;rcases ht with rfl|rfl|rfl|rfl|rfl|rfl|rfl<;>rfl
end
open PySem PySem.Spec PyProof.Rows L2
open PySem PySem.Spec PyProof.Rows L2
theorem ji{env:PySem.Env}:∀(names:List (Str×NameKind)),(∀y∈names,y.2= .free->∃c,env.cells.lookup y.1=some c)->∀(cs:List (Str×Addr)),(∀n c,cs.lookup n=some c->env.cells.lookup n=some c)->
  ∃cl:List (Str×Addr),(forIn names cs λx r=>(do
    if(x.2==NameKind.free)=true then pure (ForInStep.yield ((x.1,<-cellOf env x.1)::r)) else pure (ForInStep.yield r):Sem (ForInStep (List (Str×Addr)))))=pure cl/\
   (∀n c,cl.lookup n=some c->env.cells.lookup n=some c)/\(∀y∈names,y.2= .free->∃c,cl.lookup y.1=some c)/\∀n c,cs.lookup n=some c->∃c',cl.lookup n=some c'
 |[],_,cs,h=>by
  refine⟨cs,rfl,h, ?_,λn c e=> ⟨c,e⟩⟩;intro y hy;cases hy
 |(x,k)::names,hf,cs,h=>by
  by_cases hk:k= .free
  .subst hk;obtain⟨c,hc⟩:=hf (x,.free) GaI rfl;have xg:cellOf env x=pure c:=by unfold cellOf;rw[hc]<;>rfl
   obtain⟨cl,h1,h2,h3,h4⟩:=ji names (λy hy=>hf y (Gat _ hy)) ((x,c)::cs) (λn c' e=>by
    by_cases z:n=x
    .subst z;simp[Gay] at e;subst e;exact hc
    .have z' :(n==x)=false:=by simpa using z
     simp[Gay,z'] at e;exact h n c' e)
   refine⟨cl, ?_,h2,λy hy zv=> ?_,λn c' e=> ?_⟩
   .rw[Gcn];simp only[xg];exact h1
   .rcases Gah.mp hy with rfl|hy
    .exact h4 x c (by simp[Gay])
    .exact h3 y hy zv
   .by_cases z:n=x
    .subst z;exact h4 n c (by simp[Gay])
    .have z' :(n==x)=false:=by simpa using z
     exact h4 n c' (by simp[Gay,z',e])
  .have hk' :(k==NameKind.free)=false:=by simpa using hk
   obtain⟨cl,h1,h2,h3,h4⟩:=ji names (λy hy=>hf y (Gat _ hy)) cs h;refine⟨cl, ?_,h2,λy hy zv=> ?_,h4⟩
   .rw[Gcn];simp only[hk'];exact h1
   .rcases Gah.mp hy with rfl|hy
    .exact absurd zv hk
    .exact h3 y hy zv
theorem iZ{env:PySem.Env}{scope:Scope}(hf:∀y∈scope.names,y.2= .free->∃c,env.cells.lookup y.1=some c):
  ∃cl:List (Str×Addr),closureFor scope env=pure cl/\(∀n c,cl.lookup n=some c->env.cells.lookup n=some c)/\∀y∈scope.names,y.2= .free->∃c,cl.lookup y.1=some c:=by
 obtain⟨cl,h1,h2,h3,_⟩:=ji scope.names hf [] (λn c e=>by simp at e);refine⟨cl, ?_,h2,h3⟩;unfold closureFor;exact(congrArg (λm=>m>>=pure) h1).trans (by rfl)
theorem mem_of_lookup{x:Str}{k:NameKind}:∀{l:List (Str×NameKind)},l.lookup x=some k->(x,k)∈l
 |[],h=>by simp at h
 |(n,k')::r,h=>by
  rw[Gay] at h;cases hx:x==n with
  |true=>rw[hx] at h;cases h;rw[GaK] at hx;subst hx;exact GaI
  |false=>rw[hx] at h;exact Gat _ (mem_of_lookup h)
theorem jj{env:PySem.Env}{x:Str}:∀{names:List (Str×NameKind)},(∀y∈names,y.2≠ .cell)->((names.map λ(n,k)=>if(k==NameKind.free&&env.scope.kind== .function&&env.kindOf n==some .cell) then(n,NameKind.cell) else(n,k)).lookup x=some .cell\/
   (names.map λ(n,k)=>if(k==NameKind.free&&env.scope.kind== .function&&env.kindOf n==some .cell) then(n,NameKind.cell) else(n,k)).lookup x=some .free)->(x,NameKind.free)∈names
 |[],_,h=>by simp at h
 |(n,k)::r,hc,h=>by
  have hk:k≠ .cell:=hc (n,k) GaI;rw[Gau] at h;dsimp only at h;split at h
  .rename_i q;have q1:k= .free:=by
    rw[Gad,Gad] at q
    simpa using q.1.1
   subst q1;rw[Gay] at h;cases hx:x==n with
   |true=>rw[GaK] at hx;subst hx;exact GaI
   |false=>rw[hx] at h;exact Gat _ (jj (λy hy=>hc y (Gat _ hy)) h)
  .rw[Gay] at h;cases hx:x==n with
   |true=>
    rw[hx] at h;rw[GaK] at hx;subst hx
    rcases h with h|h
    .cases h;exact absurd rfl hk
    .cases h;exact GaI
   |false=>rw[hx] at h;exact Gat _ (jj (λy hy=>hc y (Gat _ hy)) h)
theorem cZ{env:PySem.Env}{x:Str}:∀{names:List (Str×NameKind)},names.lookup x=some .free->((names.map λ(n,k)=>if(k==NameKind.free&&env.scope.kind== .function&&env.kindOf n==some .cell) then(n,NameKind.cell) else(n,k)).lookup x=some .cell\/
   (names.map λ(n,k)=>if(k==NameKind.free&&env.scope.kind== .function&&env.kindOf n==some .cell) then(n,NameKind.cell) else(n,k)).lookup x=some .free)
 |[],h=>by simp at h
 |(n,k)::r,h=>by
  rw[Gay] at h;rw[Gau];dsimp only;cases hx:x==n with
  |true=>
   rw[hx] at h;cases h
   split
   .left;rw[Gay,hx]
   .right;rw[Gay,hx]
  |false=>
   rw[hx] at h;split
   .rw[Gay,hx];exact cZ h
   .rw[Gay,hx];exact cZ h
noncomputable def blk(X:Cx)(scope:Scope)(cl:List (Str×Addr))(C:Addr)(N:List Str)(s:Shared)(H:Hp)(ex:List Addr):Cx:=
 {X with N:=N,s₀:=s,H0:=H,env:=compEnvC scope cl C X.env,outer:=X.stack,ex:=ex,fn:=λ_=>false,pn:=[],xe:=λ_ _=>False}
def nU:Option NameKind->Bool
 |some .cell=>true
 |some .free=>true
 |_=>false
structure gf(X:Cx)(scope:Scope)(N:List Str)(n:Nat)(eC:List Nat):Prop where
 cell:(scope.names.all λy=>y.2 != .cell)=true
 kind:scope.kind= .function
 names:(scope.names.all λy=>y.2 != .local||scope.names.lookup y.1==some .local)=true
 free:(scope.names.all λy=>y.2 != .free||nU (X.env.kindOf y.1))=true
 cap:N.drop n=eC.map λi=>(X.N[i]?).getD ("":Str)
 le:n<=N.length
 lt:(eC.all λi=>decide (i<X.N.length))=true
 fr:((N.drop n).all λx=>scope.names.lookup x==some .free)=true
def m6(X:Cx)(ifs:List Expr)(tt:TT):Prop:=∀(ef:LAO) (s:Shared) (Z:St) (H:Hp) (Q:Bool->Hp->Prop),Inv X ef Z H s->tt Z H Q->
 wpAny (model X.prog X.w) X.A (forIn ifs true λc r=>if r=true then do let ok<-isTrue c X.env (eval c X.env);pure (ForInStep.yield ok) else pure (ForInStep.yield r)) (TP X ef Z Q) X.xe s
variable{X:Cx}
theorem vW:m6 X [] (tT X aK):=λef s Z H Q I ⟨_,_,_,_,_,e,k⟩=>by
 cases e;exact wpAny_tests_nil ⟨H,I,k H aT⟩
theorem vX{c:Expr}{t:DT}(h:PTd X c t):m6 X [c] (tT X t):=λef s Z H Q I q=>wpAny_tests_one (h ef s Z H Q I q)
variable{n j:Nat}{eC:List Nat}
theorem m7{α:Type}{f:Nat->Option α}{y:α}(h:(List.replicate n (none:Option α)++eC.map f)[j]? =some (some y)):∃i,eC[j -n]? =some i/\n<=j/\f i=some y:=by
 by_cases hj:j<n
 .rw[GaM (by simpa using hj),Gbm] at h;rw[Gak hj] at h;cases h
 .rw[GaR (by simp;lia),Gci,Gap] at h;cases q:eC[j -n]? with
  |none=>rw[q] at h;cases h
  |some i=>rw[q] at h;simp only[Option.map_some,Option.some.injEq] at h;exact⟨i,rfl,by lia,h⟩
theorem B7{i:Nat}{α:Type}{f:Nat->Option α}(h1:eC[j -n]? =some i)(h2:n<=j):(List.replicate n (none:Option α)++eC.map f)[j]? =some (f i):=by
 rw[GaR (by simp;lia),Gci,Gap,h1];rfl
noncomputable def i7(n:Nat)(eC:List Nat)(Z:St):St:=List.replicate n none++eC.map λi=>Z[i]?.getD none
def j4(eg:Addr->Prop)(env:Env)(Z:St)(p:Addr):Addr->Prop:=λa=>a=p\/¬Cln eg env Z a
theorem getD_some{α:Type}{o:Option (Option α)}{y:α}(h:o.getD none=some y):o=some (some y):=by
 cases o with
 |none=>cases h
 |some z=>simp only[Option.getD_some] at h;rw[h]
variable{env:Env}
theorem qQ{sl:Slot}(e:(compEnv n eC env)[j]? =some (some sl)):∃i,eC[j -n]? =some i/\n<=j/\cG (env[i]?.getD none)=some sl:=m7 e
variable{Z:St}
theorem uw{a:Addr}(t:bg (compEnv n eC env)[j]?)(e:(i7 n eC Z)[j]? =some (some (.ref a))):∃i:Nat,bg env[i]? /\Z[i]? =some (some (.ref a)):=by
 cases q:(compEnv n eC env)[j]? with
 |none=>rw[q] at t;exact t.elim
 |some z=>
  cases z with
  |none=>rw[q] at t;exact t.elim
  |some sl=>
   obtain⟨i,e1,e2,e3⟩:=qQ q;obtain⟨i',zE,_,Rm⟩:=m7 e;rw[e1] at zE;cases zE
   refine⟨i, ?_,getD_some Rm⟩;rw[q] at t;cases r:env[i]? with
   |none=>rw[r] at e3;cases e3
   |some z=>cases z with
    |none=>rw[r] at e3;cases e3
    |some z=>
     rw[r] at e3;cases z with
     |sh d=>cases e3;exact t.elim
     |own d=>trivial
     |lok d=>trivial
     |bor d=>trivial
theorem Ep:¬isO (compEnv n eC env)[j]? :=λt=>by
 match q:(compEnv n eC env)[j]?,t with
 |some (some (.own d)),_=>
  obtain⟨i,_,_,e3⟩:=qQ q;cases q:env[i]?.getD none with
  |none=>rw[q] at e3;cases e3
  |some z=>rw[q] at e3;cases z<;>cases e3
variable{p:Addr}{H H0:Hp}
theorem au.block{K:ai}{eg:Addr->Prop}(E:au K H0 eg env Z H)(n:Nat)(eC:List Nat)(hp:H p=none):
  au K H (j4 eg env Z p) (compEnv n eC env) (i7 n eC Z) (upd H p (.lst [])):=by
 have sm:bu H (upd H p (.lst [])):=aU hp;have slot:∀(j:Nat) (sl:Slot),(compEnv n eC env)[j]? =some (some sl)->∃i,eC[j -n]? =some i/\n<=j/\cG (env[i]?.getD none)=some sl:=λj sl e=>m7 e;have noO:∀(j:Nat) d,(compEnv n eC env)[j]? ≠some (some (.own d))/\(compEnv n eC env)[j]? ≠some (some (.lok d)):=λj d=>by
  constructor<;>
  .intro e;obtain⟨i,_,_,e3⟩:=slot j _ e;cases q:env[i]?.getD none with
   |none=>rw[q] at e3;cases e3
   |some z=>rw[q] at e3;cases z<;>cases e3
 have topAd:∀(j:Nat) a,bg (compEnv n eC env)[j]? ->(i7 n eC Z)[j]? =some (some (.ref a))->∃i:Nat,bg env[i]? /\Z[i]? =some (some (.ref a)):=λj a t e=>uw t e;have cln:∀b,Cln eg env Z b->H b≠none->Cln (j4 eg env Z p) (compEnv n eC env) (i7 n eC Z) b:=λb h hb=>by
  refine⟨λz=> ?_,λj t e=> ?_⟩
  .rcases z with z|z
   .subst z;exact hb hp
   .exact z h
  .obtain⟨i,t',e'⟩:=topAd j b t e;exact h.2 i t' e'
 refine⟨sm, ?_, ?_, ?_, ?_, ?_, ?_⟩
 .simp[compEnv,i7]
 .intro a ha;rcases ha with ha|ha
  .subst ha;rw[ax];simp
  .intro z;refine ha ⟨λb=>E.bad a b (sm.free z),λi t e=>E.gW t e (sm.free z)⟩
 .intro j d e;obtain⟨i,e1,e2,e3⟩:=slot j _ e;have q:env[i]? =some (some (.sh d)):=by
   cases r:env[i]? with
   |none=>rw[r] at e3;cases e3
   |some z=>cases z with
    |none=>rw[r] at e3;cases e3
    |some z=>rw[r] at e3;cases z<;>cases e3;rfl
  obtain⟨v,h1,h2⟩:=E.sh i d q;refine⟨v, ?_,h2.gen (.of_same sm) cln⟩;unfold i7;rw[B7 e1 e2,h1];rfl
 .intro j d e;rcases e with e|e
  .exact absurd e (noO j d).1
  .exact absurd e (noO j d).2
 .intro j d e;obtain⟨i,e1,e2,e3⟩:=slot j _ e;have q:bg env[i]? /\(env[i]? =some (some (.own d))\/env[i]? =some (some (.lok d))\/env[i]? =some (some (.bor d))):=by
   cases r:env[i]? with
   |none=>rw[r] at e3;cases e3
   |some z=>cases z with
    |none=>rw[r] at e3;cases e3
    |some z=>
     rw[r] at e3;cases z with
     |sh d=>cases e3
     |own d=>cases e3;exact⟨trivial,.inl rfl⟩
     |lok d=>cases e3;exact⟨trivial,.inr (.inl rfl)⟩
     |bor d=>cases e3;exact⟨trivial,.inr (.inr rfl)⟩
  have fact:∃a,Z[i]? =some (some (.ref a))/\Wr H a/\d.top=true/\Inn K (Cln eg env Z) H d (.ref a):=by
   rcases q.2 with q|q|q
   .obtain⟨a,h1,_,_,h4,h5,h6⟩:=E.ow i d (.inl q);exact⟨a,h1,h4,h5,h6⟩
   .obtain⟨a,h1,_,_,h4,h5,h6⟩:=E.ow i d (.inr q);exact⟨a,h1,h4,h5,h6⟩
   .exact E.bo i d q
  obtain⟨a,h1,h4,h5,h6⟩:=fact;refine⟨a, ?_,h4.same sm,h5,h6.gen (.of_same sm) cln λ_ _ _ o e=>sm _ o e⟩;unfold i7;rw[B7 e1 e2,h1];rfl
 .intro j k a t;exfalso;cases q:(compEnv n eC env)[j]? with
  |none=>rw[q] at t;exact t
  |some z=>cases z with
   |none=>rw[q] at t;exact t
   |some z=>cases z with
    |sh d=>rw[q] at t;exact t
    |own d=>exact(noO j d).1 q
    |lok d=>exact(noO j d).2 q
    |bor d=>rw[q] at t;exact t
theorem au.grow{K:ai}{eg:Addr->Prop}{vs us:List V}(E:au K H0 eg env Z H)(hb:eg p)(h0:H0 p=none)(hp:H p=some (.lst vs))(hl:∀i:Nat,lY env[i]? ->Z[i]? ≠some (some (.ref p))):au K H0 eg env Z (upd H p (.lst us)):=by
 have gI:gc (Cln eg env Z) H (upd H p (.lst us)):=λb o e q=>by
  refine(aw ?_).trans e;rintro rfl;rcases q with q|q
  .exact q.1 hb
  .rw[hp] at e;cases e;exact q
 have wr:∀{a},Wr H a->Wr (upd H p (.lst us)) a:=λ{a} ⟨o,h1,h2⟩=>by
  by_cases z:a=p
  .subst z;exact⟨_,ax,trivial⟩
  .exact⟨o,(aw z).trans h1,h2⟩
 refine⟨λb o e=>(aw λz=>by subst z;rw[h0] at e;cases e).trans (E.same b o e),E.len,λa ha=> ?_,λi d e=> ?_,λi d e=> ?_,λi d e=> ?_,E.dj⟩
 .by_cases z:a=p
  .subst z;rw[ax];simp
  .rw[aw z];exact E.bad a ha
 .obtain⟨v,h1,h2⟩:=E.sh i d e;exact⟨v,h1,h2.gen gI λ_ f _=>f⟩
 .obtain⟨a,h1,h2,h3,h4,h5,h6⟩:=E.ow i d e;refine⟨a,h1,h2,h3,wr h4,h5,h6.gen gI (λ_ f _=>f) λb eb _ o q=> ?_⟩;cases eb;exact(aw (λz:a=p=>h3 (by rw[z];exact hb))).trans q
 .obtain⟨a,h1,h4,h5,h6⟩:=E.bo i d e;refine⟨a,h1,wr h4,h5,h6.gen gI (λ_ f _=>f) λb eb _ o q=> ?_⟩;cases eb;exact(aw (λz:a=p=>hl i (by rw[e];trivial) (by rw[<-z];exact h1))).trans q
open PySem PySem.Spec PyProof.Rows L2
theorem ex7{a b c d e f g:Type}{P:a->b->c->d->e->f->g->Prop}{G:Prop}(h:∀x1 x2 x3 x4 x5 x6 x7,P x1 x2 x3 x4 x5 x6 x7->G):(∃x1 x2 x3 x4 x5 x6 x7,P x1 x2 x3 x4 x5 x6 x7)->G:=λ⟨x1,x2,x3,x4,x5,x6,x7,q⟩=>h x1 x2 x3 x4 x5 x6 x7 q
structure CoI(X:Cx)(scope:Scope)(cl:List (Str×Addr))(C:Addr)(N:List Str)(s:Shared)(H:Hp)(fp:List Addr)(tn:Nat->Heap->Prop)(eg:Addr->Prop)(env:Env)(Z:St)(p:Addr)(gd:DG)(t:DT)(f:DE)(ds rs:List D)(m:Nat)(s' :Shared)(i:Nat)(Zi:St)(Hi:Hp)(eN:Env)(vs:List V)(done rest:List D):Prop where
 em:m=ds.length -i
 hi:i<=ds.length
 Ii:Inv (blk X scope cl C N s H fp) [] Zi Hi s'
 sti:tn i s'.heap
 fri:∀b∈fp,Hi b=none
 Ei:au X.K H (j4 eg env Z p) eN Zi Hi
 hpi:Hi p=some (.lst vs)
 ri:aH X.K (λb=>Cln eg env Z b/\b≠p) Hi done vs
 owi:∀j:Nat,¬isO eN[j]?
 lbi:∀(j:Nat) a,lY eN[j]? ->Zi[j]? =some (some (.ref a))->¬Cln eg env Z a
 dl:done.length<=i
 ci:bN gd t f (ds.drop i) eN=some rest
 eqi:done++rest=rs
section
variable{X:Cx}{pos:Pos}
variable{x:Str}{scope:Scope}
theorem fi{env:PySem.Env}(h:scope.names.lookup x=some .local):(relabel scope env).names.lookup x=some .local:=lookup_relabel_local h
variable{ex:List Addr}{H:Hp}{s:Shared}{N:List Str}{C:Addr}{cl:List (Str×Addr)}
theorem vY(h:scope.names.lookup x=some .local):Vis (blk X scope cl C N s H ex).env.scope x:= .inl (fi h)
theorem vZ(h:scope.names.lookup x=some .local):Loc (blk X scope cl C N s H ex).env.scope x:= .inl (fi h)
theorem B8(h:scope.names.lookup x=some .free):Vis (blk X scope cl C N s H ex).env.scope x:= .inr (cZ h)
variable{fp:List Addr}{Z:St}{ef:LAO}{eC:List Nat}{n:Nat}
theorem w6{h₁:Heap}{tk:Nat}(S:gf X scope N n eC)(I:Inv X ef Z H s)
  (yx:∀x c,cl.lookup x=some c->X.env.cells.lookup x=some c)(zA:∀y∈scope.names,y.2= .free->∃c,cl.lookup y.1=some c)(hf:∀b∈fp,gP X ef H b)(zB:∀b∈fp,b<s.heap.objs.size)
  (hC:s.heap.objs.size+1=C)(xW:h₁.Ns C λ_=>none)(old:∀b o,s.heap.get? b=some o->h₁.get? b=some o)(yG:h₁.get? s.heap.objs.size=some {cls:= .type "list",data:= .seq ([]:List Value).toArray}):
  Inv (blk X scope cl C N s H fp) [] (i7 n eC Z) (upd H s.heap.objs.size (.lst [])) {s with heap:=h₁,toks:=tk}:=by
 have yB:=I.fresh;have hCn:H C=none:=I.hok.fresh (by lia);have xK:C≠s.heap.objs.size:=λz=>by rw[z] at hC;exact Nat.succ_ne_self _ hC
 have xg:∀y∈scope.names,y.2≠ .cell:=λy hy z=>by
  have:=Gao.mp S.cell y hy;rw[z] at this;simp at this
 have cells:∀x c,cl.lookup x=some c->∃v,s.heap.IsCell c v:=λx c e=>I.cell x c (yx x c e);have cNe:∀x c,cl.lookup x=some c->c≠s.heap.objs.size:=λx c e z=>by
  obtain⟨v,q⟩:=cells x c e;exact absurd q.lt (by rw[z];exact Gbj _)
 refine⟨⟨I.ok.mod,S.kind,I.ok.glob,I.ok.blt,by show s.heap.objs.size<=C;lia,λx y c e1 e2=>I.ok.inj x y c (yx x c e1) (yx y c e2),λx hx=> ?_,λx c e=>(by cases e),I.ok.hd,I.ok.frames,.inl rfl,λb hb=> ⟨?_,λx c e=>(hf b hb).2.2.2.2.1 x c (yx x c e)⟩,
  I.bs,GaL I.ok.bsz I.sz,λb o e hb=> ?_,λb hb hs=> ?_,I.stack,I.tQ⟩,rfl,I.bare,Un.laid old (Gar _) yB,⟨_,xW,λj x v e1 e2 e3=> ?_⟩,λx c e=> ?_,(aw xK).trans hCn,λx c e=>(aw (cNe x c e)).trans (I.j9 x c (yx x c e)),λp hp=> ?_, ?_, ?_⟩
 .obtain⟨c,hc⟩:=zA (x,.free) (jj xg hx) rfl;exact⟨c,hc⟩
 .intro z;have:=zB b hb;have z' :b=C:=z;rw[z',<-hC] at this;exact Gbj _ (Nat.lt_of_succ_lt this)
 .rcases(hf b hb).2.2.2.1 with z|z
  .exact I.ok.D8 b o e z
  .exact absurd (GaC (Gan e) (GaL I.ok.bsz z)) (Gbj _)
 .have yu :b∈frs X.stack:=hs;rcases Gah.mp (I.rM b yu) with z|z
  .exact(hf b hb).2.1 z
  .exact(hf b hb).2.2.1 z
 ·
  obtain⟨i,f1,f2,f3⟩:=m7 e2;have f3' :=getD_some f3;have zE :N[j]? =some x:=e1;have hd:(N.drop n)[j -n]? =some x:=by rw[List.getElem?_drop];rw[show n+(j -n)=j by lia];exact zE
  have hxf:scope.names.lookup x=some .free:=by
   have:=Gao.mp S.fr x (GaD hd)
   simpa using this
  rw[S.cap,Gap,f1] at hd;have hi:i<X.N.length:=Gas (Gao.mp S.lt i (GaD f1));have hXN:X.N[i]? =some x:=by
   simp only[Option.map_some,Option.some.injEq] at hd;rw[Gaf hi] at hd⊢
   simpa using hd
  have hk:nU (X.env.kindOf x)=true:=by
   have:=Gao.mp S.free (x,.free) (mem_of_lookup hxf)
   simpa using this
  have hk' :X.env.kindOf x=some .cell\/X.env.kindOf x=some .free:=by
   cases q:X.env.kindOf x with
   |none=>rw[q] at hk;cases hk
   |some z=>rw[q] at hk;cases z<;>first|(cases hk;done)|exact .inl rfl|exact .inr rfl
  obtain⟨m,hm,look⟩:=I.loc;have hv:Vis X.env.scope x:= .inr hk';obtain⟨u,ru,l⟩:=look i x v hXN f3' hv;refine⟨u,ru,.inr ⟨?_, ?_⟩⟩
  .exact cZ hxf
  .rcases l with⟨l,_⟩| ⟨_,c,hc,o,ho,PZ⟩
   .rcases hk' with z|z<;>rw[l] at z<;>cases z
   .obtain⟨c',ym⟩:=zA (x,.free) (mem_of_lookup hxf) rfl;have:=yx x c' ym;rw[hc] at this;cases this
    exact⟨c,ym,o,old _ _ ho,PZ⟩
 .obtain⟨v,o,ho,PZ⟩:=cells x c e;exact⟨v,o,old _ _ ho,PZ⟩
 .cases hp
 .exact I.hok.laid old (Gar _) ⟨GcC _,[],0,.nil,yG⟩
 .show(i7 n eC Z).length=N.length;have:=congrArg List.length S.cap;rw[GbA,Gax] at this;have:=S.le;simp[i7];lia
theorem Er{xE :LAO}{Z' :St}{H' :Hp}{s' :Shared}(I:Inv X ef Z H s)(hf:∀b∈fp,gP X ef H b)
  (I' :Inv (blk X scope cl C N s H fp) xE Z' H' s'):Inv X ef Z H' s' :=
 I.A5 I'.os I'.base I'.hok I'.bare λb hb=> ⟨(hf b hb).2.2.2.1,(hf b hb).2.1,(hf b hb).2.2.2.2.1,(hf b hb).2.2.2.2.2⟩
def M0(K:ai)(H H' :Hp)(F:Addr->Prop)(p:Addr)(rs:List D):Prop:=bu H H' /\H p=none/\∃vs,H' p=some (.lst vs)/\aH K (λb=>F b/\b≠p) H' rs vs
def oF(gd:DG):Prop:=∀d e e',gd d e=some e' ->(∀j:Nat,¬isO e[j]?)->∀j:Nat,¬isO e'[j]?
variable{i:Nat}
theorem ux{e:Env}{d:D}(h:∀j:Nat,¬isO e[j]?):∀j:Nat,¬isO (e.set i (some (.sh d)))[j]? :=λj z=>by
 by_cases q:i=j
 .subst q;by_cases hl:i<e.length
  .rw[Gav hl] at z;exact z
  .rw[GaZ (by simp;lia)] at z;exact z
 .rw[Gac q] at z;exact h j z
theorem B9:oF (gN i):=λd e e' h n=>by cases h;exact ux n
theorem oG:∀(is:List Nat) (ds:List D) (e e' :Env),gNs is ds e=some e' ->(∀j:Nat,¬isO e[j]?)->∀j:Nat,¬isO e'[j]?
 |[],[],e,e',h,n=>by cases h;exact n
 |i::is,d::ds,e,e',h,n=>oG is ds _ e' h (ux n)
 |[],_::_,_,_,h,_=>by cases h
 |_::_,[],_,_,h,_=>by cases h
theorem Ba{is:List Nat}:oF (gT is):=λd e e' h n=>by
 unfold gT at h;split at h
 .exact oG is _ e e' h n
 .cases h
theorem oH{H0:Hp}{it:Addr}{tn:Nat->Heap->Prop}{J:It}{tg iter elt:Expr}{ifs:List Expr}{E:VSP}
  {gd:DG}{t:DT}{f:DE}{ds rs:List D}{eg:Addr->Prop}{env:Env}{RR:Value->Addr->Result->Shared->Prop}(hc:X.calm=true)(S:gf X scope N n eC)(I:Inv X ef Z H s)
  (yx:∀x c,cl.lookup x=some c->X.env.cells.lookup x=some c)(zA:∀y∈scope.names,y.2= .free->∃c,cl.lookup y.1=some c)(hf:∀b∈fp,gP X ef H b)(T:Turn X.prog X.w X.K tg J fp it tn)(st:tn 0 s.heap)
  (hg:∀C s' H',PGd (blk X scope cl C N s' H' fp) tg gd)(ht:∀C s' H',m6 (blk X scope cl C N s' H' fp) ifs (tT X t))(he:∀C s' H',PEd (blk X scope cl C N s' H' fp) elt f)
  (EE:au X.K H0 eg env Z H)(io:AQ X.K (λb=>Cln eg env Z b/\H b≠none) (λb=>¬Ow env Z b) J ds H)(za:oF gd)(hz:ds.length<=a7)(hl:bN gd t f ds (compEnv n eC env)=some rs)
  (Rl:∀p C s' H' m,Inv X ef Z H' s' ->s'.heap.Ns C m->s.heap.objs.size<=C->gP X ef H' C->M0 X.K H H' (Cln eg env Z) p rs->RR (.ref p) C (.ok .next) s'):
  wpAny (model X.prog X.w) X.A (newList []) (λacc s₃=>wpAny (model X.prog X.w) X.A (newFunctionEnv scope X.env.globals cl [] X.env.qual none .none (some X.env)) (λzj s₄=>
   codeAny (model X.prog X.w) X.A (.compStart (.ListComp elt [⟨tg,iter,ifs,0⟩] scope pos) 0 (.ref it) acc {zj with scope:=relabel scope X.env}) (RR acc zj.locals) s₄) E s₃) E s:=by
 have xg:∀y∈scope.names,y.2≠ .cell:=λy hy z=>by
  have:=Gao.mp S.cell y hy;rw[z] at this;simp at this
 refine Gbv (wpAny_newFunctionEnv xg (by intro y hy;simp at hy) (λh₁ hns₁ hsb₁=> ?_) S.kind);dsimp only at hns₁ hsb₁⊢;generalize xT:s.heap.push {cls:= .type "list",dict:=none,data:= .seq ([]:List Value).toArray}=H2 at hns₁ hsb₁⊢;have hC:s.heap.objs.size+1=H2.objs.size:=by rw[<-xT,Gbc]
 have hDC:s.heap.objs.size≠H2.objs.size:=by rw[<-hC];exact GaF (GbM _)
 have hCle:s.heap.objs.size<=H2.objs.size:=by rw[<-hC];exact Gbi _
 have old:∀b o,s.heap.get? b=some o->h₁.get? b=some o:=λb o e=>hsb₁.extBut b o (by rw[<-hC];exact GaF (Gbw (Gan e))) (Gae _ (xT▸Gae _ e));have yG:h₁.get? s.heap.objs.size=some {cls:= .type "list",data:= .seq ([]:List Value).toArray}:=hsb₁.extBut _ _ hDC (Gae _ (xT▸Gaz _ rfl));have zB:∀b∈fp,b<s.heap.objs.size:=λb hb=>by obtain⟨o,e,_⟩:=T.obj 0 _ st b hb;exact Gan e
 have st₁:tn 0 h₁:=T.keep 0 _ _ st λb _ o e=>old b o e;have yB:=I.fresh;generalize hC' :H2.objs.size=C at*;have I1:Inv (blk X scope cl C N s H fp) [] (i7 n eC Z) (upd H s.heap.objs.size (.lst [])) {s with heap:=h₁,toks:=s.toks+([]:List (Str×Value)).length}:=w6 S I yx zA hf zB hC (by
  have z:(λx:Str=>([]:List (Str×Value)).reverse.lookup x)=λ_=>none:=by funext x;rfl
  rw[z] at hns₁;exact hns₁) old yG
 have E1:=EE.block n eC yB;generalize hp:s.heap.objs.size=p at*;have loop:codeAny (model X.prog X.w) X.A (.compLoop (.ListComp elt [⟨tg,iter,ifs,0⟩] scope pos) 0 (.ref it) (.ref p) (compEnvC scope cl C X.env)) (RR (.ref p) C) {s with heap:=h₁,toks:=s.toks+([]:List (Str×Value)).length}:=by
  refine codeAny_loop rfl (λm s' =>∃i Zi Hi eN vs done rest,CoI X scope cl C N s H fp tn eg env Z p gd t f ds rs m s' i Zi Hi eN vs done rest) ?_ ds.length ?_
  .refineλm s' =>ex7 λi Zi Hi eN vs done rest J0=> ?_
   have e0:=J0.em;subst e0;have hi:=J0.hi;have Ii:=J0.Ii;have sti:=J0.sti;have fri:=J0.fri;have Ei:=J0.Ei;have hpi:=J0.hpi;have ri:=J0.ri;have owi:=J0.owi;have lbi:=J0.lbi;have dl:=J0.dl;have ci:=J0.ci;have eqi:=J0.eqi;have hfi:∀{H' :Hp},(∀b∈fp,H' b=none)->∀b∈fp,gP (blk X scope cl C N s H fp) [] H' b:=λhn b hb=>by
    refine⟨hn b hb,(Ii.ok.exf b hb).1,Ii.ok.D9 b hb,.inl hb,(Ii.ok.exf b hb).2,λq hq=>(by cases hq)⟩
   have xF:∀b o,H b=some o->Hi b=some o:=Ei.same;obtain⟨items,stop⟩:=io Hi λb o hb _=>xF b o hb;show wpAny _ X.A ((compTurn (.ListComp elt [⟨tg,iter,ifs,0⟩] scope pos) 0 (.ref it) (.ref p) (compEnvC scope cl C X.env)).onRaise (λx=>do noteFrame x (compEnvC scope cl C X.env);theTreesLotGoes x)) _ _ s';refine wpAny_noted ?_;rw[compTurn_list];refine Gag (wpAny_standAt (Gag ?_));by_cases eZ:i<ds.length
   .obtain⟨go,yld⟩:=items i ds[i] (by simp[eZ]);refine thn (T.item (blk X scope cl C N s H fp) rfl rfl rfl hc i [] s' Zi Hi _ Ii (hfi fri) sti go) λr s4 ⟨u,hr,h4⟩=> ?_;subst hr;refine Gag (thn h4 λ_ s5 ⟨x,H5,I5,r5,y5,yy,Q6⟩=> ?_);obtain⟨s2,rep⟩:=yld x H5 y5;have I5' :=I5.pinned (hfi Q6) (T.obj _ _ yy);have hd:ds.drop i=ds[i]::ds.drop (i+1):=List.drop_eq_getElem_cons eZ;rw[hd] at ci;unfold bN at ci;obtain⟨e2,ya,ci⟩:=ee ci;obtain⟨bb,hV,ci⟩:=ee ci;have clnIn:∀b,Cln eg env Z b/\H b≠none->Cln (j4 eg env Z p) eN Zi b:=λb ⟨q1,q2⟩=>by
     refine⟨λz=>z.elim (λz=>q2 (by rw[z];exact yB)) λz=>z q1,λj tj ej=> ?_⟩;rcases oz tj with o|o
     .exact owi j o
     .exact lbi j b o ej q1
    refine Gag (thn (Gbd (hg C s H _ s5 Zi H5 x u (λZ6 H6=>au X.K H (j4 eg env Z p) e2 Z6 H6/\Stp eN Zi H5 e2 Z6 H6) I5' r5 ⟨H,j4 eg env Z p,eN,ds[i],e2,Ei.mono s2,ya,rep.imp clnIn,λZ' H' E' p' => ⟨E',p'⟩⟩) (λ_ _ q=>q) λ_ _ q=>q.elim) λ_ s6 ⟨Z6,H6,I6,E6,p6⟩=> ?_);have zQ:=za _ _ _ ya owi;have s56:bu H5 H6:=λb o e=>p6.keep b o e λ⟨j,z,_⟩=>owi j z;have Qk:∀(j:Nat) a,lY e2[j]? ->Z6[j]? =some (some (.ref a))->¬Cln eg env Z a:=λj a z ej=>by
     obtain⟨q1,q2⟩:=p6.lk j z;rw[q1] at z;rw[q2] at ej
     exact lbi j a z ej
    have again:∀{H7:Hp} {s7:Shared} {yJ :List V} {xw xq :List D},Inv (blk X scope cl C N s H fp) ([]++mj fp s5.heap) Z6 H7 s7->au X.K H (j4 eg env Z p) e2 Z6 H7->H7 p=some (.lst yJ)->aH X.K (λb=>Cln eg env Z b/\b≠p) H7 xw yJ ->
      xw.length<=i+1->bN gd t f (ds.drop (i+1)) e2=some xq ->xw ++xq =rs->
      ∃m,m<ds.length -i/\∃i Zi Hi eN vs done rest,CoI X scope cl C N s H fp tn eg env Z p gd t f ds rs m s7 i Zi Hi eN vs done rest:=by
     intro H7 s7 yJ xw xq I7 E7 zy r7 Rn c7 q7;refine⟨ds.length -(i+1),by lia,i+1,Z6,H7,e2,yJ,xw,xq,⟨rfl,eZ,I7.jA,T.keep _ _ _ yy λb hb o e=>(I7.pin (b,o) (GaO _ (GaO _ (g5 hb e)))).1,λb hb=> ?_,E7,zy,r7,zQ,Qk,Rn,c7,q7⟩⟩;obtain⟨o,e,d⟩:=T.obj _ _ yy b hb;exact(I7.pin (b,o) (GaO _ (GaO _ (g5 hb e)))).2.1
    refine Gag (thn (Gbd (ht C s H _ s6 Z6 H6 (λb' H7=>b' =bb/\bu H6 H7) I6 ⟨H,j4 eg env Z p,e2,bb,E6,hV,λH' s' => ⟨rfl,s'⟩⟩) (λ_ _ q=>q) λ_ _ q=>q.elim) λok s7 ⟨H7,I7,hok,Qd⟩=> ?_);subst hok;have sAll:bu Hi H7:=s2.trans (s56.trans Qd);have E7:=E6.mono Qd;have zy:H7 p=some (.lst vs):=sAll _ _ hpi;have r7:=ri.gen (F' :=λb=>Cln eg env Z b/\b≠p) (.of_same sAll) λ_ q _=>q;cases ok with
    |false=>
     rw[Gam Gaj] at ci;exact Gaq ⟨rfl,again I7 E7 zy r7 (Nat.le_succ_of_le dl) ci eqi⟩
    |true=>
     rw[Gak rfl] at ci;obtain⟨r,hr,ci⟩:=ee ci;split at ci
     .rename_i xp;obtain⟨xq,c8,rfl⟩:=Gaa.mp ci;refine Gag (Gag (thn (Gbd (he C s H _ s7 Z6 H7 (λv H8=>bu H7 H8/\fb X.K H (j4 eg env Z p) e2 Z6 H7 H8 r v) I7 ⟨H,j4 eg env Z p,e2,r,E7,hr,λv H' s' R=> ⟨s',R⟩⟩) (λ_ _ q=>q) λ_ _ q=>q.elim) λy s8 ⟨v,H8,I8,ry,zO,R⟩=> ?_));have E8:=E7.mono zO;have PK:H8 p=some (.lst vs):=zO _ _ zy;have r8:=(r7.gen (F' :=λb=>Cln eg env Z b/\b≠p) (.of_same zO) λ_ q _=>q)
      have vr:Rep X.K (λb=>Cln eg env Z b/\b≠p) H8 r.d v:=(R.rep E7 xp).imp λb q=> ⟨Classical.byContradiction λz=>q.1 (.inr z),λz=>q.1 (.inl z)⟩;have eJ:vs.length<sizeLine:=by
       rw[<-eE,<-ri.1];lia
      refine Gag (thn (Gbd (ku (X:=blk X scope cl C N s H fp) _ s8 Z6 H8 (.ref p) [v] (.ref p) [y] (λ_ H9=>H9=upd H8 p (.lst (vs++[v]))) I8 rfl (.cons ry .nil) ⟨p,vs,v,rfl,rfl,PK,eJ,rfl⟩) (λ_ _ q=>q) λ_ _ q=>q.elim) λ_ s9 ⟨_,H9,I9,_,h9⟩=> ?_);subst h9;have lbp:∀j:Nat,lY e2[j]? ->Z6[j]? ≠some (some (.ref p)):=λj z ej=>Qk j p z ej (EE.jg yB);have gI:gc (λb=>Cln eg env Z b/\b≠p) H8 (upd H8 p (.lst (vs++[v]))):=λb o e q=>by
       refine(aw ?_).trans e;rintro rfl;rcases q with q|q
       .exact q.2 rfl
       .rw[PK] at e;cases e;exact q
      refine Gaq (Gaq ⟨rfl,again I9 (E8.grow (.inl rfl) yB PK lbp) ax ((r8.append (aH.cons vr .nil)).gen gI λ_ q _=>q) (by simp;lia) c8 ?_⟩);rw[<-eqi,GaH];rfl
     .cases ci
   .have xo :i=ds.length:=by lia
    subst xo;rw[List.drop_length] at ci;cases ci;rw[GaS] at eqi;subst eqi;refine thn (T.done (blk X scope cl C N s H fp) rfl rfl rfl hc ds.length [] s' Zi Hi _ Ii (hfi fri) sti stop) λr s4 ⟨hr,I4⟩=> ?_;subst hr;obtain⟨m,hm,_⟩:=I4.loc;have IX:=Er I hf I4;exact Gaq (Rl p C s4 Hi m IX hm hCle ⟨I4.free,(I.rP (by rw[hp];exact hCle) (I.hok.fresh (by rw[hp];exact hCle))).2⟩ ⟨xF,yB,vs,hpi,ri⟩)
  .exact⟨0,_,_,_,[],[],rs,⟨by simp,GcC _,I1,st₁,λb hb=>(aw (by rintro rfl;exact Gbj _ (zB _ hb))).trans (hf b hb).1,E1,ax,aH.nil,λj=>Ep,λj a z e=>by
    obtain⟨i,t1,t2⟩:=uw z.top e
    exactλq=>q.2 i t1 t2,Gar _,by simpa using hl,rfl⟩⟩
 exact codeAny_compStart_list loop (T.self X.A 0 _ _ _ st₁ loop)
end
open PySem PySem.Spec PyProof.Rows L2
section
variable{X:Cx}{pos:Pos}
variable{l:Option Nat}{eC:List Nat}{n:Nat}
theorem jV{env:Env}:compEnv n eC (b9 l env)=compEnv n eC env:=by
 cases l with
 |none=>rfl
 |some j=>
  unfold b9;dsimp only;split
  .rename_i d q;unfold compEnv;congr 1;apply List.map_congr_left;intro i _;by_cases z:j=i
   .subst z;rw[Gav (Gab.mp q).1,q];rfl
   .rw[Gac z]
  .rfl
theorem gf.cells{scope:Scope}{N:List Str}{n:Nat}{eC:List Nat}{ef:LAO}{Z:St}{H:Hp}{s:Shared}(S:gf X scope N n eC)(I:Inv X ef Z H s):∀y∈scope.names,y.2= .free->∃c,X.env.cells.lookup y.1=some c:=λy hy hf=>by
 have hk:=Gao.mp S.free y hy;rw[hf] at hk;simp only[bne_self_eq_false,Bool.false_or] at hk;refine I.ok.has y.1 ?_;cases q:X.env.kindOf y.1 with
 |none=>rw[q] at hk;cases hk
 |some z=>rw[q] at hk;cases z<;>first|(cases hk;done)|exact .inl rfl|exact .inr rfl
variable{N:List Str}{scope:Scope}
theorem gf.Bb(S:gf X scope N n eC):∀y∈scope.names,y.2= .local->scope.names.lookup y.1=some .local:=λy hy hl=>by
 have:=Gao.mp S.names y hy;rw[hl] at this
 simpa using this
structure Blk(X:Cx)(scope:Scope)(N:List Str)(tg elt:Expr)(ifs:List Expr)(gd:DG)(t:DT)(f:DE):Prop where
 g:∀cl C s H ex,PGd (blk X scope cl C N s H ex) tg gd
 t:∀cl C s H ex,m6 (blk X scope cl C N s H ex) ifs (tT X t)
 e:∀cl C s H ex,PEd (blk X scope cl C N s H ex) elt f
theorem _root_.L2.Inv.Gg{ef:LAO}{Z:St}{H:Hp}{s:Shared}{C:Addr}{h' :Heap}(I:Inv X ef Z H s)(F:gP X ef H C)(hs:Heap.SameBut C s.heap h'):Inv X ef Z H {s with heap:=h' }:=
 I.turned (t' :=s.toks) (λb o hb e=>(hs.2 b hb).trans e) F.1 F.2.1 F.2.2.2.1 F.2.2.2.2.1 F.2.2.2.2.2
variable{f:DE}{gd:DG}{ifs:List Expr}{tg iter elt:Expr}
theorem Es{src:DI}{t:DT}(hc:X.calm=true)(S:gf X scope N n eC)(hi:PId X tg iter src)(za:oF gd)(B:Blk X scope N tg elt ifs gd t f)
  (hs:∀x,foldedSetIterable iter X.env x=pure x:=by intro _;rfl):PEd X (.ListComp elt [⟨tg,iter,ifs,0⟩] scope pos) (bq l n eC src gd t f):=by
 intro ef s Z H Q I hw;obtain⟨H0,eg,env,r,E,e,k⟩:=hw;unfold bq at e;obtain⟨ds,hds,e⟩:=ee e;split at e
 .rename_i hz;obtain⟨rs,yb,rfl⟩:=Gaa.mp e;obtain⟨EL,lo,eV⟩:=E.lock l;obtain⟨cl,h1,h2,h3⟩:=iZ (S.cells I);rw[eval_ListComp];refine wpAny_comprehension_free (use:=none) rfl hs h1 S.kind S.Bb ?_;refine thn (hi ef s Z H (λJ H' =>bu H H' /\AQ X.K (λb=>Cln eg (b9 l env) Z b/\H' b≠none) (λb=>¬Ow (b9 l env) Z b) J ds H') I ⟨H0,eg,b9 l env,ds,EL,hds,λJ H' s' io=> ⟨s',io⟩⟩) λv s1 q1=>thn q1 λzu s2 q2=> ?_;obtain⟨it,fp,tn,J,H2,e,I2,T,st2,f2,sH,io⟩:=q2;subst e;refine oH (RR:=λacc C=>compPost (model X.prog X.w) X.A X.xe none (EP X ef Z Q) acc C) hc S I2 h2 h3 f2 T st2 (λC s' H' =>B.g cl C s' H' fp) (λC s' H' =>B.t cl C s' H' fp) (λC s' H' =>B.e cl C s' H' fp) (EL.mono sH) io za hz (by rw[jV];exact yb) ?_;intro p C s' H' m IX hm hC hF G;refine⟨m,hm,λh' yu => ⟨.ref p,H',IX.Gg hF yu,rfl, ?_⟩⟩;obtain⟨g1,g2,vs,g3,g4⟩:=G;exact k _ H' (sH.trans g1) ⟨p,rfl,sH.free g2,⟨_,g3,trivial⟩,rfl,.lst (.inl g3) (g4.gen (.of_same aT) λb q _=> ⟨⟨q.1.1,λi ti ei=>q.1.2 i ((eV i).mpr ti) ei⟩,q.2⟩)⟩
 .cases e
theorem Et{i:Nat}{x:Str}{pos' yA:Pos}{src:DI}{t:DT}(hN:X.N.Nodup)(xo :X.N[i]? =some x)(hx:Loc X.env.scope x)(hc:X.calm=true)(S:gf X scope N n eC)
  (hi:PId X tg iter src)(za:oF gd)(B:Blk X scope N tg elt ifs gd t f)
  (QR:autoParam (swapsWith (.ListComp elt [⟨tg,iter,ifs,0⟩] scope yA) (some (.Name x pos')) pos.line X.env=pure true) Za1._auto_1)(hs:∀x,foldedSetIterable iter X.env x=pure x:=by intro _;rfl)
  (hf:autoParam (X.fn x=true\/X.env.scope.names.lookup x=some .local) Za3._auto_1):PSd X (.Assign [.Name x pos'] (.ListComp elt [⟨tg,iter,ifs,0⟩] scope yA) pos) (aq i (bq l n eC src gd t f)):=by
 intro ef s Z H D I hw;have hl:=I.len;obtain⟨H0,eg,env,o,E,e,k⟩:=hw;obtain⟨r,hr,e⟩:=ee e;obtain⟨e',xP,rfl⟩:=Gaa.mp e;have hie:i<env.length:=AN E hl xo;unfold bq at hr;obtain⟨ds,hds,hr⟩:=ee hr;split at hr
 .rename_i hz;obtain⟨rs,yb,rfl⟩:=Gaa.mp hr;cases xP;obtain⟨EL,lo,eV⟩:=E.lock l;obtain⟨cl,h1,h2,h3⟩:=iZ (S.cells I);rw[exec_Assign_Name_used _ _ _ _ QR];refine Gag (wpAny_standAt (Gag ?_));show wpAny _ X.A (do let _<-comprehension (.ListComp elt [⟨tg,iter,ifs,0⟩] scope yA) scope X.env _ (newList []) false (eval iter X.env) (some (assign (.Name x pos') X.env))) _ _ s;refine Gag (Gbd (wpAny_comprehension_free (use:=some (assign (.Name x pos') X.env)) (Q:=λ_ s' =>SP X ef D .next s') rfl hs h1 S.kind S.Bb ?_) (λ_ s' hq=>Gaq (Gaq hq)) λ_ _ e=>e);refine thn (hi ef s Z H (λJ H' =>bu H H' /\AQ X.K (λb=>Cln eg (b9 l env) Z b/\H' b≠none) (λb=>¬Ow (b9 l env) Z b) J ds H') I ⟨H0,eg,b9 l env,ds,EL,hds,λJ H' s' io=> ⟨s',io⟩⟩) λv s1 q1=>thn q1 λzu s2 q2=> ?_;obtain⟨it,fp,tn,J,H2,e,I2,T,st2,f2,sH,io⟩:=q2;subst e;refine oH (RR:=λacc C=>compPost (model X.prog X.w) X.A X.xe (some (assign (.Name x pos') X.env)) (λ_ s' =>SP X ef D .next s') acc C) hc S I2 h2 h3 f2 T st2 (λC s' H' =>B.g cl C s' H' fp) (λC s' H' =>B.t cl C s' H' fp) (λC s' H' =>B.e cl C s' H' fp) (EL.mono sH) io za hz (by rw[jV];exact yb) ?_;intro p C s' H' m IX hm hC hF G;obtain⟨g1,g2,vs,g3,g4⟩:=G;show wpAny _ X.A (assign (.Name x pos') X.env (.ref p)) _ _ _;refine wpAny_assign_Name (o7 IX hN xo hx (v:= .ref p) rfl (λyL I'' ⟨a,QT,ha⟩=> ?_) hf);have hCa:C≠a:=by
   rcases ha with ha|ha
   .rw[ha];exact hF.2.1
   .exactλz=>hF.2.2.2.2.1 x a ha z.symm
  refine⟨m,hm.sameBut QT hCa,λh' yu => ⟨_,H',I''.Gg hF yu, ?_⟩⟩;exact k _ H' (E.kH (sH.trans g1) hie (sH.free g2) ⟨_,g3,trivial⟩ rfl (.lst (.inl g3) (g4.gen (.of_same aT) λb q _=> ⟨⟨q.1.1,λi ti ei=>q.1.2 i ((eV i).mpr ti) ei⟩,q.2⟩))) (.kH (sH.trans g1) hie E.len (sH.free g2))
 .cases hr
end
open PySem PySem.Spec PyProof.Rows L2
theorem jk{env:PySem.Env}{x:Str}:∀{names:List (Str×NameKind)},names.lookup x=some .globalImplicit->(names.map λ(n,k)=>if(k==NameKind.free&&env.scope.kind== .function&&env.kindOf n==some .cell) then(n,NameKind.cell) else(n,k)).lookup x=some .globalImplicit
 |[],h=>by simp at h
 |(n,k)::r,h=>by
  rw[Gay] at h;rw[Gau];dsimp only;cases hx:x==n with
  |true=>
   rw[hx] at h;cases h
   rw[Gam (by simp),Gay,hx]
  |false=>
   rw[hx] at h;split
   .rw[Gay,hx];exact jk h
   .rw[Gay,hx];exact jk h
section
variable{X:Cx}{scope:Scope}{cl:List (Str×Addr)}{C:Addr}{N:List Str}{s:Shared}{H:Hp}{ex:List Addr}{x:Str}
theorem Ij(h:scope.names.lookup x=some .globalImplicit):Gl (blk X scope cl C N s H ex) x:=jk h
theorem Ik(h:scope.names.lookup x=some .local):(blk X scope cl C N s H ex).fn x=true\/(blk X scope cl C N s H ex).env.scope.names.lookup x=some .local:= .inr (fi h)
end
open PySem PySem.Spec PyProof.Rows L2
section
variable{X:Cx}{e a b c:Expr}{f g h:DE}{pos:Pos}
def tO(X:Cx)(o:DO):TO:=λZ H Q=>∃H0 eg env i,au X.K H0 eg env Z H/\o env=some i/\∀H',bu H H' ->Q i H'
theorem _root_.L2.PO.ao{e:Option Expr}{t t' :TO}(h:PO X e t')(i:∀Z H Q,t Z H Q->t' Z H Q):PO X e t:=λef s Z H Q I q=>h ef s Z H Q I (i Z H Q q)
theorem w8:PO X none (tO X noO):=u0.ao λZ H Q ⟨_,_,_,_,_,e,k⟩=>by cases e;exact k H aT
theorem w9(he:PEd X e f):PO X (some e) (tO X (bK f)):=by
 refine(u5 he).ao ?_;rintro Z H Q ⟨H0,eg,env,o,E,ho,k⟩;obtain⟨r,hr,ho⟩:=ee ho;split at ho
 .rename_i i hd;cases ho;refine⟨H0,eg,env,r,E,hr,λv H1 s1 R=> ?_⟩;have q:=R.inn;rw[hd] at q;cases q;exact⟨i,rfl,k H1 s1⟩
 .cases ho
theorem pP(n d:Nat)(o:Option Int):HT.sIx n d o=sIx n d o:=by
 cases o<;>rfl
variable{ds:List D}{H:Hp}
theorem mL{K:ai}{F:Addr->Prop}{vs:List V}{lo hi:Option Int}(r:aH K F H ds vs):aH K F H (cutD ds lo hi) (qu vs lo hi):=by
 unfold cutD qu;rw[pP,pP,<-r.1];exact(r.drop _).take _
theorem qR{K:ai}{F:Addr->Prop}{H:Hp}:∀{ns:List Int},aH K F H (ns.map .int) (ns.map V.int)
 |[]=> .nil
 |n::ns=> .cons (.int n) qR
theorem Bc{lo hi:Option Expr}{l u:DO}{p2:Pos}(he:PEd X e f)(hl:PO X lo (tO X l))(hu:PO X hi (tO X u)):PEd X (.Subscript e (.Slice lo hi none p2) pos) (slE f l u):=by
 refine(qr (Du.or Ha) he hl hu).ao ?_;rintro Z H Q ⟨H0,eg,env,rv,E,hf,k⟩;obtain⟨r,hr,hf⟩:=ee hf;obtain⟨lv,R6,hf⟩:=ee hf;obtain⟨uv,QQ,hf⟩:=ee hf;refine⟨H0,eg,env,r,E,hr,λv H1 s1 R=> ⟨H0,eg,env,lv,E.mono s1,R6,λH2 s2=> ⟨H0,eg,env,uv,(E.mono s1).mono s2,QQ,λH3 s3=> ?_⟩⟩⟩;have i3:=(R.inn.same s2).same s3;have s13:=s1.trans (s2.trans s3);unfold slD at hf;split at hf
 .rename_i xs hd;cases hf;rw[hd] at i3;cases i3 with
  |lst hh rr=>exact .inl ⟨_,_,rfl,.inl hh,λp n=>k _ _ (s13.trans (aU n)) ⟨p,rfl,s13.free n,jh,rfl,dw n (mL rr)⟩⟩
 .rename_i xs hd;split at hf
  .cases hf
  .rename_i hw;cases hf;rw[hd] at i3;cases i3 with
   |tup hh rr=>exact .inr ⟨_,_,rfl,SqT.of hh,by rw[pP,pP,<-rr.1];exact hw,λp n=>k _ _ (s13.trans (aU n)) (cR n (mL rr))⟩
 .rename_i ns hd;cases hf;rw[hd] at i3;cases i3 with
  |scr hh=>exact .inl ⟨_,_,rfl,hh.sq,λp n=>k _ _ (s13.trans (aU n)) ⟨p,rfl,s13.free n,jh,rfl,dw n (mL qR)⟩⟩
 .cases hf
theorem mM{ef:LAO}{Z:St}{s:Shared}{p:Addr}{ys:List V}{Q:VSP}{E:VSP}(hc:X.calm=true)(I:Inv X ef Z H s)(h:SqL X.K H p ys\/SqT X.K H p ys)
  (k:∀(It:Addr) fp wr P St (s₂:Shared),Walks X.prog X.w X.A.in1 It fp wr ys.length P St->St 0 s₂.heap->(∀b∈fp,b<s₂.heap.objs.size)->(∀(i:Nat) v,P i v->∃y,ys[i]? =some y/\RelV y v)->
   (∀h' tk,(∀b o,b∉wr->s₂.heap.get? b=some o->h'.get? b=some o)->Inv X ef Z H {s₂ with heap:=h',toks:=tk})->Q (.ref It) s₂):wpAny (model X.prog X.w) X.A.in1 (pyIter (.ref p)) Q E s:=by
 have hh:X.A.in1.handled=none:=I.ok.hd hc;have kept:∀{oi:Obj} {h' :Heap} {tk:Nat},(∀b o,b∉[s.heap.objs.size]->(s.heap.push oi).get? b=some o->h'.get? b=some o)->Inv X ef Z H {s with heap:=h',toks:=tk}:=λ{oi h' tk} hk=>
  I.kept λb o e=>hk b o (by simp only[GcD];exact GaF (Gan e)) (Gae _ e)
 have get:∀{eh:List Value},Vals ys eh->∀(i:Nat) v,eh.toArray[i]? =some v->∃y,ys[i]? =some y/\RelV y v:=λ{eh} r i v e=>by
  have e' :eh[i]? =some v:=by simpa using e
  obtain⟨hi,_⟩:=Gab.mp e';have xo :i<ys.length:=by rw[r.length];exact hi
  obtain⟨u,hu,ru⟩:=r.get (x:=ys[i]) (i:=i) (by simp[xo]);rw[e'] at hu;cases hu
  exact⟨ys[i],by simp[xo],ru⟩
 have lts:∀{oi:Obj},p<s.heap.objs.size->∀b∈[s.heap.objs.size,p],b<(s.heap.push oi).objs.size:=λ{oi} hp b hb=>by
  rw[Gbc];rcases Gah.mp hb with rfl|hb
  .exact GbM _
  .rcases Gah.mp hb with rfl|hb
   .exact Gbw hp
   .cases hb
 rcases h with hq|hq
 .obtain⟨eh,rv,pl,hz⟩:=I.list hq;have eZ:p<s.heap.objs.size:=by obtain⟨_,e,_⟩:=pl.isList;exact Gan e
  have W:=Walks.list (prog:=X.prog) (w:=X.w) hh s.heap.objs.size p (GaF eZ) eh.toArray;have hsz:eh.toArray.size=ys.length:=by rw[Gai,rv.length]
  rw[hsz] at W;exact GbZ pl.isList (k _ _ _ _ _ _ W ⟨⟨_,Gaz _ rfl,rfl,rfl⟩,pl.isList.push _⟩ (lts eZ) (get rv) λh' tk hk=>kept hk)
 .obtain⟨eh,rv,pl,hz⟩:=I.tuple hq;have pl' :s.heap.IsTuple p eh.toArray:=pl;have eZ:p<s.heap.objs.size:=by obtain⟨_,e,_⟩:=pl';exact Gan e
  have W:=Walks.tuple (prog:=X.prog) (w:=X.w) hh s.heap.objs.size p (GaF eZ) eh.toArray;have hsz:eh.toArray.size=ys.length:=by rw[Gai,rv.length]
  rw[hsz] at W;exact GbF pl' (k _ _ _ _ _ _ W ⟨⟨_,Gaz _ rfl,rfl,rfl⟩,pl'.at λo e=>Gae _ e⟩ (lts eZ) (get rv) λh' tk hk=>kept hk)
theorem range_all(bs:List Bool):(List.range bs.length).all (λi=>bs[i]?.getD false)=bs.all id:=by
 rw[Gco];simp only[Gao,Gbp,id];constructor
 .intro h b hb;obtain⟨i,hi,rfl⟩:=List.getElem_of_mem hb;have:=h i hi;rw[Gaf hi] at this;exact this
 .intro h i hi;rw[Gaf hi];exact h _ (Gbk hi)
theorem qS{A:Around}{P:Nat->Value->Prop}{bs:List Bool}(hP:∀(i:Nat) v,P i v->∃y,(bs.map V.bl)[i]? =some y/\RelV y v):TruthOf X.prog X.w A P (λi=>bs[i]?.getD false):=by
 intro i v s Q E p q;obtain⟨y,hy,r⟩:=hP i v p;rw[Gap] at hy;cases hb:bs[i]? with
 |none=>rw[hb] at hy;cases hy
 |some b=>
  rw[hb] at hy;cases hy
  cases r;refine GaY ?_;have q' :Q (bs[i]?.getD false) s:=q;rw[hb] at q';exact q'
theorem wa(hc:X.calm=true):cn X (.builtin "all") (λxs H Q=>∃(p:Addr) (bs:List Bool),xs=[.ref p]/\(SqL X.K H p (bs.map V.bl)\/SqT X.K H p (bs.map V.bl))/\Q (.bl (bs.all id)) H):=by
 intro ef s Z H xs us Q I rv h;obtain⟨p,bs,rfl,hq,q⟩:=h;obtain⟨u,rfl,ru⟩:=rv.one;cases ru;refine call_all_walk (mM hc I hq λIt fp wr P St s₂ W st lt hP kept=> ⟨It,fp,wr,_,P,St,_,rfl,W,st,qS hP,λh' tk hk=> ?_⟩);rw[Gax,range_all];exact⟨.bl (bs.all id),H,kept h' tk hk,rfl,q⟩
def i8(ns:List Int)(i:Nat):Int:=ns[i]?.getD 0
theorem mO{P:Nat->Value->Prop}{ns:List Int}(hP:∀(i:Nat) v,P i v->∃y,(ns.map V.int)[i]? =some y/\RelV y v):∀i v,P i v->∃t,v= .int (i8 ns i) t:=by
 intro i v p;obtain⟨y,hy,r⟩:=hP i v p;rw[Gap] at hy;cases hb:ns[i]? with
 |none=>rw[hb] at hy;cases hy
 |some n=>
  rw[hb] at hy;cases hy
  obtain⟨t,rfl⟩:=r;exact⟨t,by unfold i8;rw[hb];rfl⟩
theorem lL(n:Int)(ns:List Int):∀k,preSum (i8 (n::ns)) (k+1)=n+preSum (i8 ns) k
 |0=>by simp[preSum,i8]
 |k+1=>by
  rw[preSum,lL n ns k,preSum];have:i8 (n::ns) (k+1)=i8 ns k:=by simp[i8]
  rw[this];lia
theorem mP:∀ns:List Int,preSum (i8 ns) ns.length=ns.sum
 |[]=>rfl
 |n::ns=>by rw[GaE,lL,mP ns,List.sum_cons]
theorem wc(hc:X.calm=true):cn X (.builtin "sum") (λxs H Q=>∃(p:Addr) (ns:List Int),xs=[.ref p]/\(SqL X.K H p (ns.map V.int)\/SqT X.K H p (ns.map V.int))/\Q (.int ns.sum) H):=by
 intro ef s Z H xs us Q I rv h;obtain⟨p,bs,rfl,hq,q⟩:=h;obtain⟨u,rfl,ru⟩:=rv.one;cases ru;refine call_sum_walkG (mM hc I hq λIt fp wr P St s₂ W st lt hP kept=> ⟨It,fp,wr,_,P,St,i8 bs,rfl,W,st,lt,mO hP,λh' tk t hk=> ?_⟩);rw[Gax,mP];exact⟨.int bs.sum,H,kept h' tk hk,⟨t,rfl⟩,q⟩
theorem we{f:Int->Int->Int}{i:Int}{ns:List Int}{k:Nat}(hk:k<ns.length):(ns.take (k+1)).foldl f i=f ((ns.take k).foldl f i) (ns[k]):=by
 rw[List.take_succ_eq_append_getElem hk,Gca];rfl
theorem Bd{n:Int}{ns:List Int}:∀k,k<=ns.length->i8 (n::ns) (argBest (λi j=>decide (i8 (n::ns) i>i8 (n::ns) j)) k)=(ns.take k).foldl (λa b=>if b>a then b else a) n
 |0,_=>by simp[argBest,i8]
 |k+1,hk=>by
  have ih:= @Bd n ns k (by lia);rw[we (by lia),argBest];have e:i8 (n::ns) (k+1)=ns[k]:=by simp[i8,show k<ns.length by lia]
  rw[ih,e];simp only[decide_eq_true_eq];split
  .exact e
  .exact ih
theorem wj(hc:X.calm=true):cn X (.builtin "max") (λxs H Q=>∃(p:Addr) (n:Int) (ns:List Int),xs=[.ref p]/\(SqL X.K H p ((n::ns).map V.int)\/SqT X.K H p ((n::ns).map V.int))/\Q (.int (nS n ns)) H):=by
 intro ef s Z H xs us Q I rv h;obtain⟨p,n,ns,rfl,hq,q⟩:=h;obtain⟨u,rfl,ru⟩:=rv.one;cases ru;refine call_max_walk (mM hc I hq λIt fp wr P St s₂ W st lt hP kept=> ⟨It,fp,wr,_,P,St,_,rfl,W,st,lt,by simp,CmpOf.ints_gt (i8 (n::ns)) (mO hP),λv h' tk hv hk=> ?_⟩);obtain⟨t,rfl⟩:=mO hP _ _ hv;rw[show((n::ns).map V.int).length -1=ns.length by simp,Bd _ (Gar _),List.take_length];exact⟨.int (nS n ns),H,kept h' tk hk,⟨t,rfl⟩,q⟩
theorem qT{K:ai}{F:Addr->Prop}{H:Hp}:∀{ds:List D} {vs:List V} {bs:List Bool},aH K F H ds vs->pI ds=some bs->vs=bs.map V.bl
 |[],vs,bs,r,e=>by cases e;exact r.bP
 |d::ds,vs,bs,r,e=>by
  obtain⟨v,w,rfl,h1,h2⟩:=r.cons_inv;cases d<;>try (cases e;done)
  obtain⟨xn,e',rfl⟩:=Gaa.mp e;cases h1;rw[qT h2 e'];rfl
theorem pQ{K:ai}{F:Addr->Prop}{H:Hp}:∀{ds:List D} {vs:List V} {bs:List Int},aH K F H ds vs->ox ds=some bs->vs=bs.map V.int
 |[],vs,bs,r,e=>by cases e;exact r.bP
 |d::ds,vs,bs,r,e=>by
  obtain⟨v,w,rfl,h1,h2⟩:=r.cons_inv;cases d<;>try (cases e;done)
  obtain⟨xn,e',rfl⟩:=Gaa.mp e;cases h1;rw[pQ h2 e'];rfl
theorem sA{K:ai}{F:Addr->Prop}{d:D}{v:V}(i:Inn K F H d v)(e:qE d=some ds):∃p vs,v= .ref p/\(SqL K H p vs\/SqT K H p vs)/\aH K F H ds vs:=by
 unfold qE at e;split at e
 .cases e;cases i with
  |lst h r=>exact⟨_,_,rfl,.inl (.inl h),r⟩
 .cases e;cases i with
  |tup h r=>exact⟨_,_,rfl,.inr (SqT.of h),r⟩
 .rename_i ns;cases e;cases i with
  |scr h=>
   refine⟨_,_,rfl,.inl h.sq,by simp,λi d v e1 e2=> ?_⟩;rw[Gap] at e1 e2;cases q:ns[i]? with
   |none=>rw[q] at e1;cases e1
   |some n=>rw[q] at e1 e2;cases e1;cases e2;exact .int n
 .cases e
theorem sC{o:SpV}{rv:RV}(h:one o ds=some rv):∃d xs,ds=[d]/\qE d=some xs/\o xs=some rv:=by
 unfold one at h;split at h
 .obtain⟨xs,h1,h2⟩:=ee h;exact⟨_,xs,rfl,h1,h2⟩
 .cases h
theorem wm:CallD X qF (λxs H Q=>∃(p:Addr) (bs:List Bool),xs=[.ref p]/\(SqL X.K H p (bs.map V.bl)\/SqT X.K H p (bs.map V.bl))/\Q (.bl (bs.all id)) H):=by
 intro F H ds vs rv Q ps e k;obtain⟨d,xs,rfl,h1,h2⟩:=sC e;obtain⟨bs,hb,rfl⟩:=Gaa.mp h2;obtain⟨v,rfl,i⟩:=bJ ps;obtain⟨p,vs,rfl,hs,r⟩:=sA i h1;rw[qT r hb] at hs;exact⟨p,bs,rfl,hs,k _ H aT (.bl _)⟩
theorem wq:CallD X Lk (λxs H Q=>∃(p:Addr) (ns:List Int),xs=[.ref p]/\(SqL X.K H p (ns.map V.int)\/SqT X.K H p (ns.map V.int))/\Q (.int ns.sum) H):=by
 intro F H ds vs rv Q ps e k;obtain⟨d,xs,rfl,h1,h2⟩:=sC e;obtain⟨bs,hb,rfl⟩:=Gaa.mp h2;obtain⟨v,rfl,i⟩:=bJ ps;obtain⟨p,vs,rfl,hs,r⟩:=sA i h1;rw[pQ r hb] at hs;exact⟨p,bs,rfl,hs,k _ H aT (.int _)⟩
theorem sF:CallD X oy (λxs H Q=>∃(p:Addr) (n:Int) (ns:List Int),xs=[.ref p]/\(SqL X.K H p ((n::ns).map V.int)\/SqT X.K H p ((n::ns).map V.int))/\Q (.int (nS n ns)) H):=by
 intro F H ds vs rv Q ps e k;obtain⟨d,xs,rfl,h1,h2⟩:=sC e;obtain⟨bs,hb,h2⟩:=ee h2;cases bs with
 |nil=>cases h2
 |cons n ns=>
  cases h2;obtain⟨v,rfl,i⟩:=bJ ps;obtain⟨p,vs,rfl,hs,r⟩:=sA i h1;rw[pQ r hb] at hs;exact⟨p,n,ns,rfl,hs,k _ H aT (.int _)⟩
theorem Be{op xr :CmpOp}{o p:D->D->Option Bool}{r r' :R2}(ho:OpR X (compareOp op) r)(hd:OpB X o r)(xv :OpR X (compareOp xr) r')(eX :OpB X p r')(ha:PEd X a f)(hb:PEd X b g)(hc:PEd X c h)
  (hm:lastMarks [op,xr] [b,c]=false:=by with_unfolding_all rfl):PEd X (.Compare a [op,xr] [b,c] pos) (bE (kB o p f g h)):=by
 refine(Ae ho xv ha hb hc hm).ao ?_;rintro Z H Q ⟨H0,eg,env,rv,E,e,k⟩;obtain⟨bb,e',rfl⟩:=Gaa.mp e;clear e;have e:=e';clear e';obtain⟨x,hx,e⟩:=ee e;obtain⟨y,hy,e⟩:=ee e;obtain⟨b1,h1,e⟩:=ee e;refine⟨H0,eg,env,x,E,hx,λvx H1 s1 R1=> ⟨H0,eg,env,y,E.mono s1,hy,λvy H2 s2 R2=>hd _ H2 x.d y.d vx vy b1 _ (R1.inn.same s2) R2.inn h1 ⟨b1,rfl, ?_⟩⟩⟩;cases b1 with
 |true=>
  rw[Gak rfl];rw[Gak rfl] at e
  obtain⟨z,hz,e⟩:=ee e;exact⟨H0,eg,env,z,(E.mono s1).mono s2,hz,λvz H3 s3 R3=>eX _ H3 y.d z.d vy vz bb _ (R2.inn.same s3) R3.inn e (k _ H3 (s1.trans (s2.trans s3)) (.bl bb))⟩
 |false=>
  rw[Gam Gaj];rw[Gam Gaj] at e;cases e
  exact k _ H2 (s1.trans s2) (.bl false)
end
open PySem PySem.Spec PyProof.Rows L2
section
variable{X:Cx}{e a b c:Expr}{f g h:DE}{pos:Pos}
theorem b6.cons{Y:Type}{K:ai}{F:Addr->Prop}{H:Hp}{kvs:List (Y×D)}{ws:List (Y×V)}{k:Y}{d:D}{v:V}(h:Rep K F H d v)(r:b6 K F H kvs ws):b6 K F H ((k,d)::kvs) ((k,v)::ws):=by
 refine⟨by simp[r.1],λi x u e1 e2=> ?_⟩;cases i with
 |zero=>simp at e1 e2;subst e1;subst e2;exact h
 |succ i=>exact r.2 i x u (by simpa using e1) (by simpa using e2)
variable{d:D}{H:Hp}
theorem b6.cons_inv{Y:Type}{K:ai}{F:Addr->Prop}{kvs:List (Y×D)}{ws:List (Y×V)}{k:Y}(h:b6 K F H ((k,d)::kvs) ws):∃v r,ws=(k,v)::r/\Rep K F H d v/\b6 K F H kvs r:=by
 cases ws with
 |nil=>exact absurd h.1 (by simp)
 |cons q r=>
  obtain⟨k',v⟩:=q;have h1:k=k' /\kvs.map (·.1)=r.map (·.1):=by have:=h.1;simpa using this
  obtain⟨rfl,h2⟩:=h1;exact⟨v,r,rfl,h.2 0 (k,d) (k,v) rfl rfl,h2,λi x y e1 e2=>h.2 (i+1) x y (by simpa using e1) (by simpa using e2)⟩
theorem b6.nil{Y:Type}{K:ai}{F:Addr->Prop}:b6 K F H ([]:List (Y×D)) []:=⟨rfl,λi p q e=>by simp at e⟩
theorem b6.bP{Y:Type}{K:ai}{F:Addr->Prop}{ws:List (Y×V)}(h:b6 K F H [] ws):ws=[]:=by
 cases ws with
 |nil=>rfl
 |cons q r=>exact absurd h.1 (by simp)
theorem b6.len{Y:Type}{K:ai}{F:Addr->Prop}{kvs:List (Y×D)}{ws:List (Y×V)}(h:b6 K F H kvs ws):kvs.length=ws.length:=by
 have:=congrArg List.length h.1
 simpa using this
theorem b6.over{Y:Type} [DecidableEq Y]{K:ai}{F:Addr->Prop}{H:Hp}{k:Y}{d:D}{v:V}(hv:Rep K F H d v):∀{kvs:List (Y×D)} {ws:List (Y×V)},b6 K F H kvs ws->
  b6 K F H (kvs.map λkv=>if kv.1=k then(kv.1,d) else kv) (ws.map λkv=>if kv.1=k then(kv.1,v) else kv)
 |[],ws,r=>by rw[r.bP];exact .nil
 |(k',d')::kvs,ws,r=>by
  obtain⟨v',w,rfl,h1,h2⟩:=r.cons_inv;rw[Gau,Gau];dsimp only;split
  .exact .cons hv (b6.over hv h2)
  .exact .cons h1 (b6.over hv h2)
theorem b6.snoc{Y:Type}{K:ai}{F:Addr->Prop}{H:Hp}{k:Y}{d:D}{v:V}(hv:Rep K F H d v):∀{kvs:List (Y×D)} {ws:List (Y×V)},b6 K F H kvs ws->b6 K F H (kvs++[(k,d)]) (ws++[(k,v)])
 |[],ws,r=>by rw[r.bP];exact .cons hv .nil
 |(k',d')::kvs,ws,r=>by
  obtain⟨v',w,rfl,h1,h2⟩:=r.cons_inv;exact .cons h1 (b6.snoc hv h2)
theorem b6.any{Y:Type} [DecidableEq Y]{K:ai}{F:Addr->Prop}{H:Hp}{k:Y}:∀{kvs:List (Y×D)} {ws:List (Y×V)},b6 K F H kvs ws->(kvs.any λkv=>decide (kv.1=k))=(ws.any λkv=>decide (kv.1=k))
 |[],ws,r=>by rw[r.bP];rfl
 |(k',d')::kvs,ws,r=>by
  obtain⟨v',w,rfl,h1,h2⟩:=r.cons_inv;rw[Gcg,Gcg,b6.any h2]
theorem b6.put{Y:Type} [DecidableEq Y]{K:ai}{F:Addr->Prop}{H:Hp}{kvs:List (Y×D)}{ws:List (Y×V)}{k:Y}{d:D}{v:V}(r:b6 K F H kvs ws)(hv:Rep K F H d v):b6 K F H (put kvs k d) (putK ws k v):=by
 unfold DL.put putK;rw[r.any];split
 .exact r.over hv
 .exact r.snoc hv
theorem Il{K:ai}{F:Addr->Prop}{kvs:List (Key×D)}{a:Addr}(i:Inn K F H (.dK kvs) (.ref a)):∃ws,H a=some (.dK ws)/\b6 K F H kvs ws:=by
 cases i with
 |dK h r=>exact⟨_,h,r⟩
theorem Im{K:ai}{F:Addr->Prop}{kvs:List (List Key×D)}{a:Addr}(i:Inn K F H (.dT kvs) (.ref a)):∃ws,H a=some (.dT ws)/\b6 K F H kvs ws:=by
 cases i with
 |dT h r=>exact⟨_,h,r⟩
def Gh:V->V->V->Hp->(Hp->Prop)->Prop:=λo i v H Q=>FY o i v H Q\/∃a H4,o= .ref a/\qx H a i v H4/\Q H4
theorem Eu(hu:X.A.units+1<cLine):KJ X Gh:=by
 intro ef s Z H o i v ov iv u Q I ro ri rv h;rcases h with h| ⟨a,H4,rfl,g,q⟩
 .exact set_list ef s Z H o i v ov iv u Q I ro ri rv h
 .cases ro;exact vI hu I g ri rv λs4 I4=> ⟨H4,I4,q⟩
def OH(td ty tv:TE):TS:=λD Z H=>tv Z H λv H1=>td Z H1 λx H2=>ty Z H2 λy H3=>Gh x y v H3 λH4=>D.nx Z H4
variable{pos' :Pos}{value:Expr}
theorem Bf{o i:Expr}{td ty tv:TE}(hu:X.A.units+1<cLine)(ho:PE X o td)(hi:PE X i ty)(hv:PE X value tv)(hs:swapsWith value (some (.Subscript o i pos')) pos.line X.env=pure false):PS X (.Assign [.Subscript o i pos'] value pos) (OH td ty tv):=by
 intro ef s Z H D I h;refine wpAny_Assign_Subscript (thn (hv ef s Z H _ I h) λr s1 ⟨v,H1,I1,rv,q1⟩=>thn (ho ef s1 Z H1 _ I1 q1) λu s2 ⟨x,H2,I2,rx,q2⟩=>thn (hi ef s2 Z H2 _ I2 q2) λiv s3 ⟨y,H3,I3,ry,q3⟩=> ?_) hs;exact thn (Eu hu ef s3 Z H3 x y v u iv r _ I3 rx ry rv q3) λ_ s4 ⟨H4,I4,q4⟩=> ⟨Z,H4,I4,q4⟩
variable{i:Nat}
theorem jW{eg:Addr->Prop}{env:Env}{Z:St}{a:Addr}{o o' :HO}(q:env[i]? =some (some (.own d)))(h1:Z[i]? =some (some (.ref a)))(hH:H a=some o')(hw:isW o'):gc (Cln eg env Z) H (upd H a o):=λb x hb w=>by
 have:b≠a:=by
  rintro rfl;rcases w with w|w
  .exact w.2 i (by rw[q];trivial) h1
  .rw[hH] at hb;cases hb
   cases o' <;>simp[isT] at w<;>exact hw
 rw[aw this];exact hb
theorem Io{x:Str}{px:Pos}{k:Expr}{fk fv:DE}(hu:X.A.units+1<cLine)(hN:X.N[i]? =some x)(hv:Vis X.env.scope x)(hk:PEd X k fk)(he:PEd X value fv)(hd:autoParam ((x==("__debug__":Str))=false) Za2._auto_1)(eQ:autoParam ((x==("__classdict__":Str))=false) Za2._auto_1)
  (hs:autoParam (swapsWith value (some (.Subscript (.Name x px) k pos')) pos.line X.env=pure false) Za1._auto_1):PSd X (.Assign [.Subscript (.Name x px) k pos'] value pos) (qG i fk fv):=by
 refine(Bf hu (cK hN hv hd eQ) hk he hs).ao ?_;rintro D Z H ⟨H0,eg,env,o,E,e,kk⟩;obtain⟨r,hr,e⟩:=ee e;obtain⟨y,hy,e⟩:=ee e;obtain⟨d,hd,e⟩:=ee e;have q:=cY hd;split at e
 .rename_i xp;obtain⟨d',hp,rfl⟩:=Gaa.mp e;refine⟨H0,eg,env,r,E,hr,λv H1 s1 R=> ?_⟩;have E1:=E.mono s1;obtain⟨a,h1,h2,h3,h4,h5,h6⟩:=E1.ow i _ (.inl q);refine⟨_,h1,H0,eg,env,y,E1,hy,λvy H3 s3 Ry=> ?_⟩;have E3:=E1.mono s3;have rep:=(R.rep E xp).same s3;have i6:=h6.same s3;have iy:=Ry.inn;have fin:∀(o' :HO) (zP :HO),H3 a=some zP ->isW zP ->isW o' ->d'.top=true->Inn X.K (Cln eg env Z) (upd H3 a o') d' (.ref a)->D.nx Z (upd H3 a o'):=λo' zP hH hw QP ht inn=>by
   obtain⟨E4,p4⟩:=E3.change (d' :=d') (o:=o') q h1 QP ht inn;exact kk Z _ E4 (((Stp.of_same s1).trans (.of_same s3)).trans p4)
  unfold putD at hp;split at hp
  .rename_i kvs;split at hp
   .rename_i hz;obtain⟨key,xY,rfl⟩:=Gaa.mp hp;obtain⟨ws,hH,rp⟩:=Il i6;have hy' :=kF iy xY;subst hy';refine .inr ⟨a,_,rfl,qx.k hH (by rw[<-rp.len,<-eE];exact hz),fin _ _ hH trivial trivial rfl ?_⟩;exact .dK ax ((rp.put rep).gen (jW q h1 hH trivial) λ_ f _=>f)
   .cases hp
  .rename_i kvs;split at hp
   .rename_i ks yQ;split at hp
    .rename_i hz;obtain⟨key,xY,rfl⟩:=Gaa.mp hp;obtain⟨ws,hH,rp⟩:=Im i6;rw[yQ] at iy;cases iy with
     |tup hb rb=>
      have:=gY rb xY;subst this;refine .inr ⟨a,_,rfl,qx.t hH hb (by rw[<-rp.len,<-eE];exact hz),fin _ _ hH trivial trivial rfl ?_⟩;exact .dT ax ((rp.put rep).gen (jW q h1 hH trivial) λ_ f _=>f)
    .cases hp
   .cases hp
  .rename_i xs;split at hp
   .rename_i j hj;rw[hj] at iy;cases iy;obtain⟨vs,hH,rp⟩:=fL (h4.same s3) i6;split at hp
    .rename_i hb;cases hp;refine .inl ⟨a,vs,j,j.toNat,rfl,rfl,hH, ?_,fin _ _ hH trivial trivial rfl ?_⟩
     .unfold ixN;rw[Gak hb.1,Gak (by rw[<-rp.1];exact hb.2)]
     .exact .lst (.inl ax) ((rp.set rep j.toNat).gen (jW q h1 hH trivial) λ_ f _=>f)
    .split at hp
     .rename_i hb;cases hp;refine .inl ⟨a,vs,j,(j+xs.length).toNat,rfl,rfl,hH, ?_,fin _ _ hH trivial trivial rfl ?_⟩
      .unfold ixN;rw[Gam (by lia),Gak (by rw[<-rp.1];lia),rp.1]
      .exact .lst (.inl ax) ((rp.set rep _).gen (jW q h1 hH trivial) λ_ f _=>f)
     .cases hp
   .cases hp
  .cases hp
 .cases e
end
open PySem PySem.Spec PyProof.Rows L2
inductive jX where
 |nx (e:Env)
 |bk (e:Env)
 |ct (e:Env)
 |ret (d:D) (e:Env)
 |ex (C:Nat) (n:Str) (d:D)
abbrev DW:=Env->Option jX
noncomputable def jX.of:Out->Option jX
 | .nx e=>some (.nx e)
 | .bk e=>some (.bk e)
 | .ct e=>some (.ct e)
 | .ret _=>none
@[simp] def aJ(f:DS):DW:=λenv=>(f env).bind jX.of
@[simp] noncomputable def aI(f g:DW):DW:=λenv=>(f env).bind λo=>match o with
 | .nx e=>g e
 |o=>some o
@[simp] noncomputable def ifW(t:DT)(f g:DW):DW:=λenv=>(t env).bind λb=>if b then f env else g env
@[simp] def Ip(f:DE):DW:=λenv=>(f env).bind λr=>if r.d.imm then some (.ret r.d env) else none
def Pnd(Pn:Nat->V->Prop)(env:Env)(Z:St):Prop:=∀p v,Pn p v->lY env[p]? ->Z[p]? =some (some v)
def lZ(H0 H:Hp)(env:Env)(Z:St):Prop:=∀(i:Nat) C ns ds,env[i]? =some (some (.lok (.obj C ns ds)))->∀a dx vs,Z[i]? =some (some (.ref a))->H a=some (.ins C dx (ns.zip vs))->ns.length=vs.length->∀(k:Nat) l g,ds[k]? =some (.kid l)->vs[k]? =some (.ref g)->H0 g=none
def bj(K:ai)(H0:Hp)(Pn:Nat->V->Prop)(env:Env)(Z:St)(H:Hp):Prop:=∃eg,au K H0 eg env Z H/\Pnd Pn env Z/\lZ H0 H env Z
section
variable{K:ai}{H0 H H' :Hp}{eg:Addr->Prop}{Pn:Nat->V->Prop}{env eB :Env}{Z Z' :St}{i:Nat}{a:Addr}{d d' :D}
variable{ds:List D}
theorem au.lM{C:Nat}{ns:List Str}(E:au K H0 eg env Z H)(e:env[i]? =some (some (.lok (.obj C ns ds)))):∃a dx vs,Z[i]? =some (some (.ref a))/\H0 a=none/\¬eg a/\H a=some (.ins C dx (ns.zip vs))/\ns.length=vs.length/\Kd ds vs/\aH K (Cln eg env Z) H ds vs:=by
 obtain⟨a,h1,h2,h3,h4,h5,h6⟩:=E.ow i _ (.inr e);cases h6 with
 |obj h ln kd r=>exact⟨a,_,_,h1,h2,h3,h,ln,kd,r⟩
theorem au.Iq(E:au K H0 eg env Z H)(e:env[i]? =some (some (.lok d)))(ea:Z[i]? =some (some (.ref a))):¬Ow env Z a:=λ⟨j,h,q⟩=>by
 have:=E.dj j i a h.ol (by rw[e];trivial) q ea;subst this;rw[e] at h;exact h
theorem Pnd.stp(h:Pnd Pn env Z)(s:Stp env Z H eB Z' H'):Pnd Pn eB Z' :=λp v z l=>by
 obtain⟨e1,e2⟩:=s.lk p l;rw[e2];rw[e1] at l;exact h p v z l
theorem zip_inj{ns:List Str}:∀{vs us:List V},ns.length=vs.length->ns.length=us.length->ns.zip vs=ns.zip us->vs=us:=by
 induction ns with
 |nil=>intro vs us h1 h2 _;rw[Gbe h1.symm,Gbe h2.symm]
 |cons n ns ih=>
  intro vs us h1 h2 h;cases vs with
  |nil=>cases h1
  |cons v vs=>
   cases us with
   |nil=>cases h2
   |cons u us=>
    simp only[Gbb,List.cons.injEq,GcE,true_and] at h;rw[h.1,ih (by simpa using h1) (by simpa using h2) h.2]
theorem bj.stp(k:lZ H0 H env Z)(p:Pnd Pn env Z)(E:au K H0 eg env Z H)(E' :au K H0 eg eB Z' H')(s:Stp env Z H eB Z' H'):bj K H0 Pn eB Z' H' :=by
 refine⟨eg,E',p.stp s,λi C ns ds e a dx vs ea h ln=> ?_⟩;obtain⟨e1,e2⟩:=s.lk i (by rw[e];trivial);rw[e1] at e;rw[e2] at ea
 obtain⟨a',zF,yJ,q1,_,_,q4,q5,_⟩:=E.lM e;rw[ea] at q1;cases q1
 have:=s.keep a _ q4 (E.Iq e ea);rw[h] at this;injection this with this
 injection this with _ z1 z2
 rw[zip_inj ln q5 z2];exact k i C ns ds e a zF yJ ea q4 q5
theorem bj.mono(E:bj K H0 Pn env Z H)(s:bu H H'):bj K H0 Pn env Z H' :=let⟨_,E,p,k⟩:=E;bj.stp k p E (E.mono s) (.of_same s)
def i9(J:List Nat)(env:Env):Bool:=(List.range env.length).all λj=>J.contains j||match env[j]? with
 |some (some (.sh d))=>d.imm
 |some (some (.own d))=>d.ba
 |some (some (.lok d))=>d.ba
 |some (some (.bor d))=>d.ba
 |_=>true
variable{J:List Nat}
theorem jY{j:Nat}{s:Slot}(h:i9 J env=true)(hj:j∉J)(e:env[j]? =some (some s)):(match s with
  | .sh d=>d.imm
  | .own d=>d.ba
  | .lok d=>d.ba
  | .bor d=>d.ba)=true:=by
 have hl:j<env.length:=(Gab.mp e).1;have:=Gao.mp h j (Gbp.mpr hl);rw[Gbh,e] at this;rcases this with q|q
 .exact absurd (by simpa using q) hj
 .cases s<;>exact q
theorem aH.bQ{F F' :Addr->Prop}{vs:List V}(s:∀b o,H b=some o->isT o->H' b=some o)(r:aH K F H ds vs)(im:ag ds=true):aH K F' H' ds vs:=
 (r.imm (F' :=λ_=>False) im).gen (λb o e q=>s b o e (q.resolve_left λz=>z)) λ_ z _=>z.elim
theorem Rep.bQ{F F' :Addr->Prop}{v:V}(s:∀b o,H b=some o->isT o->H' b=some o)(r:Rep K F H d v)(im:d.imm=true):Rep K F' H' d v:=
 (r.imm (F' :=λ_=>False) im).gen (λb o e q=>s b o e (q.resolve_left λz=>z)) λ_ z _=>z.elim
theorem Inn.bQ{F F' :Addr->Prop}(s:∀b o,H b=some o->isT o->H' b=some o)(h:Inn K F H d (.ref a))(t:d.top=true)(fl:d.ba=true)(e:H' a=H a):Inn K F' H' d (.ref a):=by
 have rk:∀{Y:Type} {kvs:List (Y×D)} {ws:List (Y×V)},b6 K F H kvs ws->ag (kvs.map (·.2))=true->b6 K F' H' kvs ws:=λr im=>
  ⟨r.1,λi p q e1 e2=>(r.2 i p q e1 e2).bQ s (jS im i p.2 (by rw[Gap,e1];rfl))⟩
 cases h with
 |lst h r=>exact .lst (h.imp (λh=>by rw[e];exact h) λ⟨o,h⟩=> ⟨o,by rw[e];exact h⟩) (r.bQ s fl)
 |dK h r=>exact .dK (by rw[e];exact h) (rk r fl)
 |dT h r=>exact .dT (by rw[e];exact h) (rk r fl)
 |obj h ln kd r=>simp[D.ba,D.imm] at fl
 |_=>simp[D.top] at t
noncomputable def Slot.put(d:D):Slot->Slot
 | .sh _=> .sh d
 | .own _=> .own d
 | .lok _=> .lok d
 | .bor _=> .bor d
structure ReE(J:List Nat)(nw:Nat->D)(env eB :Env):Prop where
 len:eB.length=env.length
 old:∀j,j∉J->eB[j]? =env[j]?
 new:∀j∈J,∃d,(env[j]? =some (some (.own d))/\eB[j]? =some (some (.own (nw j))))\/(env[j]? =some (some (.lok d))/\eB[j]? =some (some (.lok (nw j))))
variable{nw:Nat->D}
theorem au.flat{A:Addr->Prop}(E:au K H0 eg env Z H)(fl:i9 J env=true)(re:ReE J nw env eB)(hH:∀b o,H b=some o->H' b=some o\/A b)
  (hA:∀b,A b->H0 b=none/\((∃j∈J,Z[j]? =some (some (.ref b)))\/Cln eg env Z b)/\∀o,H b=some o->isW o)(hJ:∀j∈J,∀a,Z[j]? =some (some (.ref a))->Wr H' a/\(nw j).top=true/\Inn K (Cln eg env Z) H' (nw j) (.ref a)):au K H0 eg eB Z H' :=by
 have tj:∀j∈J,jT env[j]? :=λj hj=>by obtain⟨d,⟨q,_⟩| ⟨q,_⟩⟩:=re.new j hj<;>rw[q]<;>trivial
 have tj' :∀j∈J,jT eB[j]? :=λj hj=>by obtain⟨d,⟨_,q⟩| ⟨_,q⟩⟩:=re.new j hj<;>rw[q]<;>trivial
 have eV:∀j,bg eB[j]? ->bg env[j]? :=λj t=>by
  by_cases q:j∈J
  .exact(tj j q).top
  .rw[re.old j q] at t;exact t
 have ols:∀j,jT eB[j]? ->jT env[j]? :=λj t=>by
  by_cases q:j∈J
  .exact tj j q
  .rw[re.old j q] at t;exact t
 have cln:∀b,Cln eg env Z b->Cln eg eB Z b:=λb h=> ⟨h.1,λj t ej=>h.2 j (eV j t) ej⟩;have isT' :∀b o,H b=some o->isT o->H' b=some o:=λb o eb t=>(hH b o eb).resolve_right λz=>by
  have:=(hA b z).2.2 o eb;cases o<;>first|exact t.elim|exact this
 have other:∀j b,j∉J->bg env[j]? ->Z[j]? =some (some (.ref b))->H' b=H b:=λj b hj t ej=>by
  obtain⟨o,ho,_⟩:=E.ue t ej;rw[ho];refine(hH b o ho).resolve_right λz=> ?_;rcases(hA b z).2.1 with⟨i,hi,q⟩|q
  .have:=E.dj i j b (tj i hi) t q ej;subst this;exact hj hi
  .exact q.2 j t ej
 refine⟨λb o eb=>(hH b o (E.same b o eb)).resolve_right λz=>absurd ((hA b z).1.symm.trans eb) (by simp),by rw[re.len];exact E.len,λb hb z=> ?_,λj dj ej=> ?_,λj dj ej=> ?_,λj dj ej=> ?_,λj k b t1 t2 e1 e2=>E.dj j k b (ols j t1) (eV k t2) e1 e2⟩
 .cases q:H b with
  |none=>exact E.bad b hb q
  |some o=>
   rcases hH b o q with y|y
   .rw[y] at z;cases z
   .rcases(hA b y).2.1 with⟨i,hi,w⟩|w
    .obtain⟨d,hd⟩:=re.new i hi;obtain⟨a,q1,_,q3,_⟩:=E.ow i d (hd.imp (λz=>z.1) λz=>z.1);rw[w] at q1;cases q1;exact q3 hb
    .exact w.1 hb
 .by_cases q:j∈J
  .have:=tj' j q;rw[ej] at this;exact this.elim
  .rw[re.old j q] at ej;obtain⟨v,v1,v2⟩:=E.sh j dj ej;exact⟨v,v1,v2.bQ isT' (jY fl q ej)⟩
 .by_cases q:j∈J
  .obtain⟨d,hd⟩:=re.new j q;obtain⟨a,q1,q2,q3,_⟩:=E.ow j d (hd.imp (λz=>z.1) λz=>z.1);obtain⟨w,t,inn⟩:=hJ j q a q1;have:dj=nw j:=by
    rcases hd with⟨_,hd⟩| ⟨_,hd⟩<;>rcases ej with ej|ej<;>rw[hd] at ej<;>cases ej<;>rfl
   subst this;exact⟨a,q1,q2,q3,w,t,inn.imp cln⟩
  .rw[re.old j q] at ej;obtain⟨b,q1,q2,q3,q4,q5,q6⟩:=E.ow j dj ej;have eq:=other j b q (by rcases ej with q|q<;>rw[q]<;>trivial) q1;obtain⟨o,o1,o2⟩:=q4;exact⟨b,q1,q2,q3,⟨o,by rw[eq];exact o1,o2⟩,q5,q6.bQ isT' q5 (ej.elim (λy=>jY fl q y) λy=>jY fl q y) eq⟩
 .by_cases q:j∈J
  .have:=tj' j q;rw[ej] at this;exact this.elim
  .rw[re.old j q] at ej;obtain⟨b,q1,q4,q5,q6⟩:=E.bo j dj ej;have eq:=other j b q (by rw[ej];trivial) q1;obtain⟨o,o1,o2⟩:=q4;exact⟨b,q1,⟨o,by rw[eq];exact o1,o2⟩,q5,q6.bQ isT' q5 (jY fl q ej) eq⟩
theorem bj.flat{A:Addr->Prop}(E:au K H0 eg env Z H)(pn:Pnd Pn env Z)(kn:lZ H0 H env Z)(E' :au K H0 eg eB Z H')(re:ReE J nw env eB)(hH:∀b o,H b=some o->H' b=some o\/A b)
  (hA:∀b,A b->(∃j∈J,Z[j]? =some (some (.ref b)))\/Cln eg env Z b)(hk:∀j∈J,∀C ns ds,nw j= .obj C ns ds->∀a dx vs,Z[j]? =some (some (.ref a))->H' a=some (.ins C dx (ns.zip vs))->ns.length=vs.length->∀(k:Nat) l g,ds[k]? =some (.kid l)->vs[k]? =some (.ref g)->H0 g=none):bj K H0 Pn eB Z H' :=by
 refine⟨eg,E',λp v z q=>pn p v z ?_,λj C ns ds ej a dx vs ea h ln=> ?_⟩
 .by_cases y:p∈J
  .obtain⟨d,⟨_,w⟩| ⟨w,_⟩⟩:=re.new p y
   .rw[w] at q;exact q.elim
   .rw[w];trivial
  .rw[re.old p y] at q;exact q
 .by_cases y:j∈J
  .obtain⟨d,⟨_,w⟩| ⟨_,w⟩⟩:=re.new j y
   .rw[ej] at w;cases w
   .rw[ej] at w;injection w with w;injection w with w;injection w with w
    exact hk j y C ns ds w.symm a dx vs ea h ln
  .rw[re.old j y] at ej;obtain⟨a3,zi,zI,q1,_,_,q4,q5,_⟩:=E.lM ej;rw[ea] at q1;cases q1
   have:H' a=some (.ins C zi (ns.zip zI)):=(hH a _ q4).resolve_right λz=>by
    rcases hA a z with⟨i,hi,w⟩|w
    .have ti:jT env[i]? :=by obtain⟨d,⟨q,_⟩| ⟨q,_⟩⟩:=re.new i hi<;>rw[q]<;>trivial
     have:=E.dj i j a ti (by rw[ej];trivial) w ea;subst this;exact y hi
    .exact w.2 j (by rw[ej];trivial) ea
   rw[h] at this;injection this with this;injection this with _ _ this
   have:=zip_inj ln q5 this;subst this;exact kn j C ns ds ej a zi vs ea q4 q5
end
open PySem PySem.Spec PyProof.Rows L2
def Ir:D->Option RV
 | .kid l=>some ⟨.c,.lst l⟩
 |d=>if d.imm then some ⟨.c,d⟩ else none
def sG(C:Nat)(n:Str):D->Option RV
 | .obj C' ns ds=>if C' =C then((ns.zip ds).lookup n).bind Ir else none
 |_=>none
@[simp] def cM(C:Nat)(n:Str)(f:DE):DE:=λenv=>(f env).bind λx=>sG C n x.d
def fU(ds:List D):Bool:=ds.all λd=>match d with
 | .kid l=>ag l
 |d=>d.imm
def ft(C:Nat)(n:Str)(g:List D->Option (List D)):D->Option D
 | .obj C' ns ds=>if C' =C/\fU ds=true then(ns.findIdx? λm=>m==n).bind λk=>match ds[k]? with
  |some (.kid l)=>(g l).bind λl' =>if ag l' =true then some (.obj C ns (ds.set k (.kid l'))) else none
  |_=>none
  else none
 |_=>none
noncomputable def jZ(i:Nat)(env:Env):Option D:=match env[i]? with
 |some (some (.lok d))=>some d
 |_=>none
def jl(d:D)(l:List D):Option (List D):=if l.length<a7 then some (l++[d]) else none
noncomputable def fM(d:D)(l:List D):Option (List D):=if l.length=0 then none else some (l.set (l.length -1) d)
@[simp] def Ew(i:Nat)(p:D->D->Option D)(f:DE):DW:=λenv=>(f env).bind λr=>if r.d.imm=true/\i9 [i] env=true then((jZ i env).bind (p r.d)).map λd' => .nx (env.set i (some (.lok d'))) else none
@[simp] def wt(i C:Nat)(n:Str)(f:DE):DW:=Ew i (λd=>ft C n (jl d)) f
@[simp] def lN(i C:Nat)(n:Str)(f:DE):DW:=Ew i (λd=>ft C n (fM d)) f
def Bg(X:Cx)(H0:Hp)(Pn:Nat->V->Prop)(E:XK)(D:Ends):jX->Prop
 | .nx e=>∀Z H,bj X.K H0 Pn e Z H->D.nx Z H
 | .bk e=>∀Z H,bj X.K H0 Pn e Z H->D.bk Z H
 | .ct e=>∀Z H,bj X.K H0 Pn e Z H->D.ct Z H
 | .ret d e=>∀v Z H,bj X.K H0 Pn e Z H->Rep X.K (λ_=>False) H d v->D.rt v H
 | .ex C n d=>∀v dx H,bu H0 H->H0 dx=none->H dx=some (.xd [(n,v)])->d.imm=true->Rep X.K (λ_=>False) H d v->E (.ref C) (some dx) H
def tW(X:Cx)(H0:Hp)(Pn:Nat->V->Prop)(E:XK)(f:DW):TS:=λD Z H=>∃env o,bj X.K H0 Pn env Z H/\f env=some o/\Bg X H0 Pn E D o
theorem _root_.L2.PS.nox{X:Cx}{st:Stmt}{t:TS}(h:PS X.nox st t):PS X st t:=λef s Z H D I hw=>
 Gbd (h ef s Z H D (I.jy _) hw) (λ_ _ q=>q.dN) λ_ _ z=>False.elim z
section
variable{X:Cx}{H0:Hp}{Pn:Nat->V->Prop}{E:XK}{st:Stmt}{zK rest:List Stmt}{f:DS}{g g1 g2:DW}{c e:Expr}{t:DT}{h:DE}{pos:Pos}
theorem qU{D:Ends}{env:Env}{Z:St}{H:Hp}{eg:Addr->Prop}{o:jX}{o1:Out}(EO:au X.K H0 eg env Z H)(p:Pnd Pn env Z)(k:lZ H0 H env Z)(h2:jX.of o1=some o)(ok:Bg X H0 Pn E D o):Ge X H0 eg env Z H D o1:=by
 cases o1 with
 |nx e' =>cases h2;exactλZ' H' E' st=>ok Z' H' (bj.stp k p EO E' st)
 |bk e' =>cases h2;exactλZ' H' E' st=>ok Z' H' (bj.stp k p EO E' st)
 |ct e' =>cases h2;exactλZ' H' E' st=>ok Z' H' (bj.stp k p EO E' st)
 |ret d=>cases h2
theorem uy(h:PSd X.nox st f):PS X st (tW X H0 Pn E (aJ f)):=by
 refine(PS.nox h).ao ?_;rintro D Z H ⟨env,o,⟨eg,EO,p,k⟩,e,ok⟩;obtain⟨o1,h1,h2⟩:=ee e;exact⟨H0,eg,env,o1,EO,h1,qU EO p k h2 ok⟩
theorem Bh(h:nT X.nox zK f):PSs X zK (tW X H0 Pn E (aJ f)):=by
 refine(PSs.nox h).ao ?_;rintro D Z H ⟨env,o,⟨eg,EO,p,k⟩,e,ok⟩;obtain⟨o1,h1,h2⟩:=ee e;exact⟨H0,eg,env,o1,EO,h1,qU EO p k h2 ok⟩
theorem Bi(h1:PS X st (tW X H0 Pn E g1))(h2:PSs X rest (tW X H0 Pn E g2)):PSs X (st::rest) (tW X H0 Pn E (aI g1 g2)):=by
 refine(qo h1 h2).ao ?_;rintro D Z H ⟨env,o,EW,e,ok⟩;obtain⟨o1,h1,h2⟩:=ee e;refine⟨env,o1,EW,h1, ?_⟩;cases o1 with
 |nx e' =>exactλZ' H' E' => ⟨e',o,E',h2,ok⟩
 |bk e' =>cases h2;exact ok
 |ct e' =>cases h2;exact ok
 |ret d e' =>cases h2;exact ok
 |ex C n d=>cases h2;exact ok
theorem Ex(h1:PS X st (tW X H0 Pn E g)):PSs X [st] (tW X H0 Pn E g):=tX h1
theorem M1{xs ys:List Stmt}(hc:PTd X.nox c t)(ha:PSs X xs (tW X H0 Pn E g1))(hb:PSs X ys (tW X H0 Pn E g2)):PS X (.If c xs ys pos) (tW X H0 Pn E (ifW t g1 g2)):=by
 refine(A9 (PT.nox hc) ha hb).ao ?_;rintro D Z H ⟨env,o,⟨eg,EO,p,k⟩,e,ok⟩;obtain⟨b,h1,h2⟩:=ee e;refine⟨H0,eg,env,b,EO,h1,λH1 s1=> ?_⟩;have EW:bj X.K H0 Pn env Z H1:=bj.mono ⟨eg,EO,p,k⟩ s1;dsimp only;cases b with
 |true=>rw[Gak rfl];rw[Gak rfl] at h2;exact⟨env,o,EW,h2,ok⟩
 |false=>rw[Gam Gaj];rw[Gam Gaj] at h2;exact⟨env,o,EW,h2,ok⟩
theorem Iu(he:PEd X.nox e h):PS X (.Return (some e) pos) (tW X H0 Pn E (Ip h)):=by
 refine(pz (PE.nox he)).ao ?_;rintro D Z H ⟨env,o,⟨eg,EO,p,k⟩,e,ok⟩;obtain⟨r,h1,h2⟩:=ee e;split at h2
 .rename_i im;cases h2;exact⟨H0,eg,env,r,EO,h1,λv H1 s1 R=>ok v Z H1 (bj.mono ⟨eg,EO,p,k⟩ s1) (R.inn.imm im)⟩
 .cases h2
end
section
variable{n:Str}
theorem mQ{K:ai}{F:Addr->Prop}{H:Hp}:∀{ns:List Str} {ds:List D} {vs:List V} {d:D},aH K F H ds vs->(ns.zip ds).lookup n=some d->∃v,(ns.zip vs).lookup n=some v/\Rep K F H d v
 |[],ds,vs,d,_,e=>by simp at e
 |m::ns,[],vs,d,_,e=>by simp at e
 |m::ns,x::ds,vs,d,r,e=>by
  obtain⟨v,us,rfl,h1,h2⟩:=r.cons_inv;rw[Gbb,Gay] at e⊢;cases q:n==m with
  |true=>rw[q] at e;cases e;exact⟨v,rfl,h1⟩
  |false=>rw[q] at e;exact mQ h2 e
theorem qV:∀{ns:List Str} {vs:List V} {k:Nat} {v:V},(ns.findIdx? λm=>m==n)=some k->vs[k]? =some v->(ns.zip vs).lookup n=some v
 |[],vs,k,v,h,_=>by simp at h
 |m::ns,[],k,v,_,e=>by simp at e
 |m::ns,u::us,k,v,h,e=>by
  rw[Gbq] at h;rw[Gbb,Gay];cases q:m==n with
  |true=>
   rw[q] at h;cases h
   have:(n==m)=true:=by rw[GaK] at q⊢;exact q.symm
   rw[this];simpa using e
  |false=>
   rw[q] at h;have:(n==m)=false:=by rw[GaX] at q⊢;exact GaU q
   rw[this];obtain⟨j,hj,rfl⟩:=Gaa.mp h;exact qV hj (by simpa using e)
end
section
variable{X:Cx}{H0:Hp}{Pn:Nat->V->Prop}{E:XK}{C:Addr}{n:Str}{e o:Expr}{f g:DE}{pos p:Pos}
theorem Ey{K:ai}{F:Addr->Prop}{H:Hp}{d:D}{v:V}{r:RV}(h:Ir d=some r)(R:Rep K F H d v):r.k= .c/\Rep K F H r.d v:=by
 unfold Ir at h;split at h
 .cases h;cases R with
  |kid f h l r=>exact⟨rfl,.lst f (.inl h) l r⟩
 .split at h
  .cases h;exact⟨rfl,R⟩
  .cases h
theorem Iv(cl:L2.Cls X.K C)(na:bO X.K C n)(he:PEd X e f)(hb:autoParam (attributeBase e n X.env (eval e X.env)=eval e X.env) Za1._auto_1):PEd X (.Attribute e n pos) (cM C n f):=by
 refine(rW he hb).ao ?_;rintro Z H Q ⟨H0,eg,env,r,EO,h0,k⟩;obtain⟨x,hx,h⟩:=ee h0;clear h0;refine⟨H0,eg,env,x,EO,hx,λv H1 s1 R=> ?_⟩;have ii:=R.inn;obtain⟨xk,xd⟩:=x;cases ii with
 | @obj _ _ C' _ _ _ h1 ln kd r1=>
  unfold sG at h;dsimp only at h;by_cases q:C' =C
  .rw[Gak q] at h;subst q
   obtain⟨d,hd,hk⟩:=ee h;obtain⟨v,hv,rv⟩:=mQ r1 hd;obtain⟨k1,k2⟩:=Ey hk rv;refine⟨_,_,_,_,v,rfl,h1,cl,na,hv,k v H1 s1 ?_⟩;obtain⟨rk,rd⟩:=r;cases k1;exact k2
  .rw[Gam q] at h;cases h
 |_=>cases h
theorem bj.kid{K:ai}{H:Hp}{env:Env}{Z:St}{i:Nat}{d d' :D}{gl:List D->Option (List D)}{eg:Addr->Prop}(EO:au K H0 eg env Z H)(pn:Pnd Pn env Z)(kn:lZ H0 H env Z)(fl:i9 [i] env=true)(e:env[i]? =some (some (.lok d)))(hp:ft C n gl d=some d'):
  ∃a dx fs g us l l',Z[i]? =some (some (.ref a))/\H a=some (.ins C dx fs)/\fs.lookup n=some (.ref g)/\H g=some (.lst us)/\aH K (Cln eg env Z) H l us/\gl l=some l' /\ag l' =true/\∀xI,aH K (Cln eg env Z) H l' xI ->bj K H0 Pn (env.set i (some (.lok d'))) Z (upd H g (.lst xI)):=by
 unfold ft at hp;split at hp
 .rename_i C' ns ds;split at hp
  .rename_i q;obtain⟨rfl,hf⟩:=q;obtain⟨k,hk,hp⟩:=ee hp;split at hp
   .rename_i l hl;obtain⟨l',hg,hp⟩:=ee hp;split at hp
    .rename_i im;cases hp;obtain⟨a,dx,vs,ea,z0,zb,ha,ln,kd,rs⟩:=EO.lM e;obtain⟨v,hv,rv⟩:=rs.get hl;cases rv with
     | @kid g us _ fg yw l1 r1=>
      refine⟨a,dx,_,g,us,l,l',ea,ha,qV hk hv,yw,⟨l1,r1⟩,hg,im,λxI R0=> ?_⟩;have ne:a≠g:=λz=>by subst z;rw[ha] at yw;cases yw
      have hk' :k<ds.length:=(Gab.mp hl).1;have stT:∀b o,H b=some o->isT o->upd H g (.lst xI) b=some o:=λb o eb t=>by
       rw[aw];exact eb
       rintro rfl;rw[yw] at eb;cases eb;exact t
      have R' :aH K (λ_=>False) (upd H g (.lst xI)) l' xI :=R0.bQ stT im;have inn:Inn K (Cln eg env Z) (upd H g (.lst xI)) (.obj C' ns (ds.set k (.kid l'))) (.ref a):=by
       refine .obj (vs:=vs) (by rw[aw ne];exact ha) ln (λx y l2 g2 e1 e2 e3=> ?_) ⟨by simpa using rs.1,λj dj vj e1 e2=> ?_⟩
       .by_cases q:k=x
        .subst q;rw[hv] at e2;cases e2
         exact kd k y l g hl hv e3
        .rw[Gac q] at e1;exact kd x y l2 g2 e1 e2 e3
       .by_cases q:k=j
        .subst q;rw[Gav hk'] at e1;cases e1
         rw[hv] at e2;cases e2
         exact .kid fg ax R'.1 λi d v e1 e2=>(R'.2 i d v e1 e2).imp λ_ z=>z.elim
        .rw[Gac q] at e1;have fj:=Gao.mp hf dj (GaD e1);have rj:=rs.2 j dj vj e1 e2;cases rj with
         | @kid g2 us2 l2 f2 h2 ll r2=>
          have n2:g2≠g:=λz=>by subst z;exact q (kd k j l g2 hl hv e2)
          have im2:ag l2=true:=fj;have:=aH.bQ (K:=K) (F:=Cln eg env Z) (F' :=Cln eg env Z) (ds:=l2) (vs:=us2) stT ⟨ll,r2⟩ im2;exact .kid f2 (by rw[aw n2];exact h2) this.1 this.2
         |obj f h ln kd l r=>simp[D.imm] at fj
         |lst f h l r=>simp[D.imm] at fj
         |dK f h l r=>simp[D.imm] at fj
         |dT f h l r=>simp[D.imm] at fj
         |non=>exact .non
         |bl b=>exact .bl b
         |int i=>exact .int i
         |str x=>exact .str x
         |tup h l r=>exact(Rep.tup h l r).bQ stT fj
         |scr h=>exact(Rep.scr (F:=Cln eg env Z) h).bQ stT fj
         |kt h=>exact .kt h
         |exc h r=>exact(Rep.exc h r).bQ stT fj
      have hi:i<env.length:=(Gab.mp e).1;have re:ReE [i] (λ_=> .obj C' ns (ds.set k (.kid l'))) env (env.set i (some (.lok (.obj C' ns (ds.set k (.kid l')))))):=⟨by simp,λj hj=>Gac (by rintro rfl;simp at hj),λj hj=>by
       obtain rfl:j=i:=by simpa using hj
       exact⟨_,.inr ⟨e,bw hi⟩⟩⟩
      have hH:∀b o,H b=some o->upd H g (.lst xI) b=some o\/b=g:=λb o eb=>by
       by_cases z:b=g
       .exact .inr z
       .left;rw[aw z];exact eb
      refine bj.flat EO pn kn (EO.flat (A:=(· =g)) fl re hH (λb hb=> ?_) λj hj a' e' => ?_) re hH (λb hb=>by subst hb;exact .inr fg) λj hj C2 Qf xh z a' QA yI e' h2 ln2 k2 l2 g2 e3 e4=> ?_
      .subst hb;exact⟨kn i C' ns ds e a dx vs ea ha ln k l b hl hv,.inr fg,λo eo=>by rw[yw] at eo;cases eo;trivial⟩
      .obtain rfl:j=i:=by simpa using hj
       rw[ea] at e';cases e'
       exact⟨⟨.ins C' dx (ns.zip vs),by rw[aw ne];exact ha,trivial⟩,rfl,inn⟩
      .obtain rfl:j=i:=by simpa using hj
       cases z;rw[ea] at e';cases e'
       rw[aw ne,ha] at h2;injection h2 with h2;injection h2 with _ _ h2
       have:=zip_inj ln ln2 h2;subst this;by_cases q:k=k2
       .subst q;exact kn j C' ns ds e a dx vs ea ha ln k l _ hl e4
       .rw[Gac q] at e3;exact kn j C' ns ds e a dx vs ea ha ln k2 l2 g2 e3 e4
    .cases hp
   .cases hp
  .cases hp
 .cases hp
end
open PySem PySem.Spec PyProof.Rows L2
open PySem.W (KasT kas_rev kas_asc kas_desc kas_tail3 kas_descPart kas_count kas_place kas_bin kas_sort)
section
variable{rk:Nat->Int}{N:Nat}
def Ord(N:Nat)(p:Array Nat):Prop:=p.toList.Perm (List.range N)
theorem Ord.lt{p:Array Nat}(h:Ord N p){i:Nat}(hN:0<N):p.getD i 0<N:=by
 by_cases hi:i<p.size
 .have e:p.getD i 0=p[i]:=by simp[Array.getD,hi]
  rw[e];have m:p[i]∈p.toList:=by simp
  exact Gbp.mp (h.mem_iff.mp m)
 .have e:p.getD i 0=0:=by simp[Array.getD,hi]
  rw[e];exact hN
noncomputable def M3(rk:Nat->Int)(p:Array Nat)(i:Nat):Int:=rk (p.getD i 0)
def Up(rk:Nat->Int)(p:Array Nat)(k:Nat):Prop:=∀u v,u<=v->v<k->M3 rk p u<=M3 rk p v
end
open PySem PySem.Spec PyProof.Rows L2
def FO(h:Heap)(a:Addr)(T:String)(vs:Array Value):Prop:=∃o,h.get? a=some o/\o.cls= .type T/\o.data= .fields vs
section
variable{prog:Program}{w:World}{A:Around}{E:VSP}{z:Shared}
variable{vs:Array Value}{T:String}{a:Addr}
theorem FO.ty(x:FO z.heap a T vs):z.TypeIs (.ref a) T:=let⟨o,ho,hc,_⟩:=x;⟨o,ho,hc⟩
variable{x:Value}
theorem Bj{k:Nat}{Q:Unit->Shared->Prop}(f:FO z.heap a T vs)(h:∀h',FO h' a T (vs.setIfInBounds k x)/\Heap.SameBut a z.heap h' ->Q () {z with heap:=h' })(hk:k<vs.size):
  wpAny (model prog w) A (setField (.ref a) k x) Q E z:=by
 obtain⟨⟨c,dc,dt,sl⟩,ho,hc,hd⟩:=f;cases hc;cases hd
 exact wpAny_setField ho rfl hk (h _ ⟨⟨_,Heap.get?_update_self _ ho rfl,rfl,rfl⟩,Heap.SameBut.update ..⟩)
theorem FO.lt{h:Heap}(x:FO h a T vs):a<h.objs.size:=let⟨_,q,_⟩:=x;Gan q
theorem fu{i:Nat}{Q:VSP}(f:FO z.heap a T vs)(e:vs[i]? =some x)(h:Q x z):wpAny (model prog w) A (field (.ref a) i) Q E z:=let⟨_,ho,_,hd⟩:=f;wpAny_field ho hd e h
theorem M4{α:Type}{Q:α->Shared->Prop}(hh:A.handled=none)(h:∀h' a,(∀b o,z.heap.get? b=some o->h'.get? b=some o)/\(∃o,h'.get? a=some o/\o.cls= .type "StopIteration")->E (.ref a) {z with heap:=h' }):
  wpAny (model prog w) A (newExc (.type "StopIteration") []>>=λe=>(raiseNew e:Sem α)) Q E z:=by
 obtain⟨hp,g,dr,tk,os⟩:=z
 wp_walk using Gbv
 .unfold raiseNew
  wp_walk
  exact h _ _ ⟨λb o e=>Gae _ (Gae _ e),_,Gaz _ rfl,rfl⟩
 all_goals size_fits
theorem uz{e:Addr}{Q:Bool->Shared->Prop}(x:∃o,z.heap.get? e=some o/\o.cls= .type "StopIteration")(h:Q true z):wpAny (model prog w) A (isInstance (.ref e) (.type "StopIteration")) Q E z:=
 wpAny_isInstance (T:="StopIteration") x isSubtype_stop h
end
open PySem
noncomputable def Gi:D->List Int
 | .non=>[0]
 | .int i=>[1,i]
 | .str x=>2::x.cps.toList.map Int.ofNat
 |_=>[3]
noncomputable def Iw{α:Type} [DecidableEq α](lt:α->α->Bool):List α->List α->Bool
 |[],[]=>false
 |[],_::_=>true
 |_::_,[]=>false
 |a::as,b::bs=>if a=b then Iw lt as bs else lt a b
noncomputable def ltI(a b:Int):Bool:=decide (a<b)
def ltC:List (List Int)->List (List Int)->Bool:=Iw (Iw ltI)
def code:D->List (List Int)
 | .tup ds=>ds.map Gi
 |d=>[Gi d]
noncomputable def tyD:D->Nat
 | .non=>0
 | .int _=>1
 | .str _=>2
 |_=>3
def Pz(d:D):Bool:=tyD d !=3
def rank(cs:List (List (List Int)))(i:Nat):Int:=((cs.filter λc=>ltC c (cs[i]?.getD [])).length:Nat)
open PySem
@[simp] noncomputable def mR:Nat->List D->List D
 |_,[]=>[]
 |i,x::xs=> .tup [.int i,x]::mR (i+1) xs
@[simp] def oJ(f:DE):DI:=λenv=>(f env).bind λr=>if r.k= .to then none else match r.d with
 | .lst xs=>some (mR 0 xs)
 | .tup xs=>some (mR 0 xs)
 |_=>none
theorem kJ:∀(i:Nat) (xs:List D),(mR i xs).length=xs.length
 |_,[]=>rfl
 |i,x::xs=>by simp[kJ (i+1) xs]
theorem kK:∀(k:Nat) (xs:List D) (i:Nat),(mR k xs)[i]? =(xs[i]?).map λx=> .tup [.int ((k+i:Nat)),x]
 |_,[],i=>by simp
 |k,x::xs,i=>by
  cases i with
  |zero=>simp
  |succ i=>
   simp only[mR,List.getElem?_cons_succ];rw[kK (k+1) xs i,show k+1+i=k+(i+1) by lia]
open PySem
def uA(x:D)(ds:List D):Option Bool:=if aG 10 x&&ds.all (aG 10) then some (ds.any λy=>eqD y x) else none
def inB(x y:D):Option Bool:=match y with
 | .dK kvs=>(keyOf x).map λk=>(look kvs k).isSome
 | .dT kvs=>match x with
  | .tup ks=>(keysOf ks).map λk=>(look kvs k).isSome
  |_=>none
 | .lst ds=>uA x ds
 | .tup ds=>uA x ds
 |_=>none
@[simp] theorem OI{x:D}{kvs:List (Key×D)}:inB x (.dK kvs)=(keyOf x).map λk=>(look kvs k).isSome:=rfl
@[simp] theorem OJ{ks:List D}{kvs:List (List Key×D)}:inB (.tup ks) (.dT kvs)=(keysOf ks).map λk=>(look kvs k).isSome:=rfl
open PySem
noncomputable def mS:SpV
 |[.int i]=>some ⟨.c,.int i⟩
 |[.bl b]=>some ⟨.c,.int (if b then 1 else 0)⟩
 |_=>none
@[simp] theorem M5{i:Int}:mS [.int i]=some ⟨.c,.int i⟩:=rfl
@[simp] theorem NM{b:Bool}:mS [.bl b]=some ⟨.c,.int (if b then 1 else 0)⟩:=rfl
noncomputable def fV{α:Type}(xs:List α)(i:Int)(y:α):List α:=xs.take (if i<0 then(i+(xs.length:Int)).toNat else min i.toNat xs.length)++y::xs.drop (if i<0 then(i+(xs.length:Int)).toNat else min i.toNat xs.length)
theorem wu{α:Type}(xs:List α)(i:Int)(y:α):(fV xs i y).length=xs.length+1:=by
 unfold fV;rw[Gal,GaE,GaQ,GbA];lia
@[simp] def Ez(i:Nat)(k v:DE):DS:=λenv=>(k env).bind λx=>(v env).bind λr=>(ownAt i env).bind λd=>match d,x.d with
 | .lst xs,.int j=>if r.free&&(decide (xs.length<a7)&&bz j) then some (.nx (env.set i (some (.own (.lst (fV xs j r.d)))))) else none
 |_,_=>none
open PySem
open PySem
noncomputable def isInt:D->Bool
 | .int _=>true
 |_=>false
noncomputable def unI:D->Int
 | .int i=>i
 |_=>0
open PySem
open PySem
open PySem
open PySem
open PySem
open PySem
open PySem
noncomputable def ia(x:Str):List D:=x.cps.toList.map λc=> .str ⟨#[c]⟩
@[simp] def Iy(f:DE):DI:=λenv=>(f env).bind λr=>match r.d with
 | .str x=>some (ia x)
 |_=>none
noncomputable def sI(x:Str):Option Nat:=match x.cps.toList with
 |[c]=>some c
 |_=>none
@[simp] theorem NN{c:Nat}:sI ⟨#[c]⟩=some c:=rfl
theorem uB{x:Str}{c:Nat}(h:sI x=some c):x=⟨#[c]⟩:=by
 unfold sI at h;split at h
 .rename_i c' e;cases h;obtain⟨⟨l⟩⟩:=x;have e' :l=[c]:=e;subst e'
  rfl
 .cases h
def pR:D->D->Option Bool
 | .str a,.str b=>(sI a).map λc=>decide (c∈b.cps.toList)
 |_,_=>none
def oK:D->D->Option Bool
 | .str a,.str b=>(sI a).map λc=> !decide (c∈b.cps.toList)
 |_,_=>none
@[simp] theorem M6{a b:Str}:pR (.str a) (.str b)=(sI a).map λc=>decide (c∈b.cps.toList):=rfl
@[simp] theorem Kx{a b:Str}:oK (.str a) (.str b)=(sI a).map λc=> !decide (c∈b.cps.toList):=rfl
@[simp] noncomputable def k6:List D->Option (List Str)
 |[]=>some []
 | .str x::ds=>(k6 ds).map (x:: ·)
 |_=>none
noncomputable def iR:SpV
 |[.int i]=>if i.natAbs<1000000000000000000 then some ⟨.c,.str (Str.ofString (toString i))⟩ else none
 |_=>none
@[simp] theorem M7{i:Int}:iR [.int i]=if i.natAbs<1000000000000000000 then some ⟨.c,.str (Str.ofString (toString i))⟩ else none:=rfl
noncomputable def mT(c:Nat):Bool:=decide (48<=c)&&decide (c<=57)
noncomputable def sJ(cs:List Nat):Nat:=cs.foldl (λacc c=>acc*10+(c -48)) 0
def lO:SpV
 |[.str x]=>if decide (x.length<=640)&&(decide (x.cps.toList≠[])&&x.cps.toList.all mT) then some ⟨.c,.int (sJ x.cps.toList)⟩ else none
 |_=>none
@[simp] theorem oM{x:Str}:lO [.str x]=if decide (x.length<=640)&&(decide (x.cps.toList≠[])&&x.cps.toList.all mT) then some ⟨.c,.int (sJ x.cps.toList)⟩ else none:=rfl
open PySem
abbrev DN:=Env->List (List D)->Option (Env×List (List D))
open PySem
open PySem
open PySem
abbrev Rws:=List (List Key×D)
abbrev DM:=Env->Rws->Option (Env×Rws)
open PySem PySem.Spec PyProof.Rows L2
open PySem.W (KatLex KatTups kas_sort kas_ask kat_kind kat_lt kat_one kat_run kat_snds BoolBack kat_lt_int)
def FlV:D->Value->Prop
 | .non,v=>v= .none
 | .int i,v=>∃t,v= .int i t
 | .str x,v=>∃t,v= .str x t
 |_,_=>False
def PB(h:Heap):D->Value->Prop
 | .int i,v=>∃t,v= .int i t
 | .tup fs,v=>∃a o n us,v= .ref a/\h.get? a=some o/\o.cls= .type "tuple"/\o.data= .seq (List.toArray us) n/\Paired FlV fs us
 |_,_=>False
section
variable{prog:Program}{w:World}{A:Around}{E:VSP}{s:Shared}
def uC(cs:List (List (List Int)))(vs:List Value)(out:Array Value):Prop:=∃p:Array Nat,Ord vs.length p/\Up (rank cs) p vs.length/\out=List.toArray (p.toList.map λi=>vs.getD i Value.none)
theorem uC.one{cs:List (List (List Int))}{vs:List Value}(c:vs.length<2):uC cs vs vs.toArray:=by
 refine⟨List.toArray (List.range vs.length),List.Perm.refl _,λu v q r=> ?_, ?_⟩
 .rw[show u=v by lia];exact Int.le_refl _
 .rcases vs with _| ⟨x,_| ⟨y,t⟩⟩
  .rfl
  .rfl
  .exact absurd c (by simp)
end
open PySem PySem.Spec PyProof.Rows L2
section
variable{X:Cx}{e a b c:Expr}{f g h:DE}{pos:Pos}
theorem _root_.L2.Inv.mU{ef:LAO}{Z:St}{H:Hp}{s s' :Shared}{ch:List Addr}{T:Addr}{o:HO}(I:Inv X ef Z H s)(hf:∀b∈ch,gP X ef H b)(yD:s'.os=s.os)(hg:s'.gens=s.gens)
  (k:∀b u,b∉ch->s.heap.get? b=some u->s'.heap.get? b=some u)(hT:s.heap.objs.size<=T)(new:bM X.prog X.w (upd H T o) s'.heap T o):Inv X ef Z (upd H T o) s' :=by
 have hn:H T=none:=I.hok.fresh hT;have ne:∀{b u},H b=some u->b≠T:=λ{b u} q=>bU q hn;refine I.A5 (ch:=ch) yD ⟨λb ob q _ _ hx=>k b ob hx q,λb ob q _ _ hx=> ⟨ob.slots,k b ob hx q⟩,λb ob q n _=> ?_,λb ob q hx=> ⟨ob,k b ob hx q⟩,λb xs q=> ?_,λb ob u q=> ?_,λb ps q=> ⟨#[], ?_⟩⟩ ?_ (by rw[hg];exact I.bare) λb hb=> ⟨(hf b hb).2.2.2.1,(hf b hb).2.1,(hf b hb).2.2.2.2.1,(hf b hb).2.2.2.2.2⟩
 .rw[aw (GaF (GaC (Gan q) hT))];exact n
 .rw[aw (ne q)];exact q
 .rw[aw (ne q)];exact q
 .rw[aw (ne q),q];simp
 .intro b u q;by_cases hb:b=T
  .subst hb;rw[ax] at q;cases q;exact new
  .rw[aw hb] at q;have tr:∀{c v},H c=some v->c∉ch:=λ{c v} z hc=>by rw[(hf c hc).1] at z;cases z
   refine(I.hok b u q).gI (λc v hc z=>k c v ?_ z) (λc z=>by rw[aw (ne z)];exact z) λc xs z=>by rw[aw (ne z)];exact z
   rcases hc with hc|hc
   .rw[hc];exact tr q
   .exact tr hc
def Ite(K:ai)(l:Addr):It:=
 ⟨λi H=>∃xs x,SqL K H l xs/\xs[i]? =some x,λi H x H' =>∃p y,H p=none/\x= .ref p/\H' =upd H p (.tup [.int i,y])/\∀xs,SqL K H l xs->xs[i]? =some y,λi H=>∃xs,SqL K H l xs/\xs.length<=i⟩
variable{tp:Pos}{elts:List Expr}{w:World}{P:Program}
theorem wx{K:ai}{x1}(en it l:Addr)(xK:en≠it):Turn P w K (.Tuple elts x1 tp) (Ite K l) [en,it] en (λi h=>(∃old,IsEnum h en it i old)/\h.IsListIter it l i) where
 mem:=by simp
 obj:=λi h st b hb=>by
  obtain⟨⟨old,he⟩,o,e,c,d⟩:=st;rcases Gah.mp hb with z|z
  .subst z;exact⟨_,he,λv z=>by
    have z' :Data.fields _=Data.cell v:=z;cases z'⟩
  .have z' :b=it:=by simpa using z
   subst z';exact⟨o,e,λv z=>by rw[d] at z;cases z⟩
 keep:=λi h h' st k=> ⟨let⟨old,he⟩:=st.1;⟨old,k en (by simp) _ he⟩,st.2.at λo e=>k it (by simp) o e⟩
 item:=by
  intro X hP hw hK hc i ef s Z H E I hf st hg;subst hP hw hK;obtain⟨⟨old,he⟩,hit⟩:=st;obtain⟨xs,x,hq,hx⟩:=hg;obtain⟨eh,rv,p,hz⟩:=I.list hq;obtain⟨u,hu,ru⟩:=rv.get hx;refine wpAny_pyNext_enum_item he hit p.isList (x:=u) (by simpa using hu) xK λh' ho xZ hT hsz kk=> ⟨_,rfl, ?_⟩;refine wpAny_letOwnedTupleGo_enum (s:={s with heap:=h',toks:=s.toks+1}) ho λh2 PY sb=> ?_;have hltE:en<s.heap.objs.size:=Gan he;have kept:∀b o,b∉[en,it]->s.heap.get? b=some o->h2.get? b=some o:=λb o hb e=>by
   have b1:b≠en:=λz=>hb (by simp[z]);have b2:b≠it:=λz=>hb (by simp[z]);exact(sb.2 b b1).trans (kk b o b1 b2 e)
  have zg:h2.get? s.heap.objs.size=some {cls:= .type "tuple",data:= .seq #[.int i s.toks,u]}:=(sb.2 _ (Gbz hltE)).trans hT;have I1:Inv X ef Z (upd H s.heap.objs.size (.tup [.int i,x])) {s with heap:=h2,toks:=s.toks+1}:=I.mU (ch:=[en,it]) hf rfl rfl kept (Gar _) (by
   refine⟨by simp[GbH],[.int i s.toks,u],.cons ⟨_,rfl⟩ (.cons ru .nil),_,zg,rfl,0,rfl⟩)
  refine⟨.ref s.heap.objs.size,_,I1,rfl,⟨_,x,I.fresh,rfl,rfl,λys hy=>by rw[I.mh hy hq];exact hx⟩,⟨⟨u,by simpa using PY⟩,xZ.at λo e=>(sb.2 it (GaU xK)).trans e⟩,λb hb=> ?_⟩;obtain⟨o,ob,_⟩:∃o,s.heap.get? b=some o/\True:=by
   rcases Gah.mp hb with z|z
   .subst z;exact⟨_,he,trivial⟩
   .have z' :b=it:=by simpa using z
    subst z';obtain⟨o,e,_⟩:=hit;exact⟨o,e,trivial⟩
  rw[aw (GaF (Gan ob))];exact(hf b hb).1
 done:=by
  intro X hP hw hK hc i ef s Z H E I hf st hg;subst hP hw hK;obtain⟨⟨old,he⟩,hit⟩:=st;obtain⟨xs,hq,hx⟩:=hg;obtain⟨eh,rv,p,hz⟩:=I.list hq;obtain⟨f0,f1,f2,f3,f4,f5⟩:=hf it (by simp);have hl:=rv.length;exact wpAny_pyNext_enum_end (I.ok.hd hc) he hit p.isList (by simp;lia) λh' eb=> ⟨rfl,I.turned (t' :=s.toks) (λb o hb e=>eb b o hb e) f0 f1 f3 f4 f5⟩
 self:=λ_ _ _ _ _ st h=>let⟨old,he⟩:=st.1;Gcb he h
variable{z:Shared}{A:Around}{prog:Program}
theorem mV{E:VSP}{it t:Addr}{i:Nat}{eh:Array Value}{Q:VSP}(hh:A.handled=none)(hit:z.heap.IsTupleIter it t i)(ht:z.heap.IsTuple t eh)
  (hQ:∀x h',eh[i]? =some x->h'.IsTupleIter it t (i+1)->Heap.SameBut it z.heap h' ->Q x {z with heap:=h' })
  (hE:∀h' e,eh[i]? =none->Heap.ExtBut it z.heap h' ->(∃o,h'.get? e=some o/\o.cls= .type "StopIteration")->E (.ref e) {z with heap:=h' }):wpAny (model prog w) A (Builtin.SmallTypes.nextOf (.ref it)) Q E z:=by
 have f:FO z.heap it _ _:=hit;obtain⟨ol,QX,_,nl,hdl⟩:=ht
 wp_walk using Gbn f.ty F.slot_tuple_iterator_next,GbN F.slot_tuple_iterator_next f.ty F.entry_tuple_iterator_next (ha:=F.args_tuple_iterator_next_1 _),fu (i:=0) (x:= .ref t) f rfl,fu (i:=1) (x:= .int i 0) f rfl,Gby QX hdl
 rw[show eh[(i:Int).toNat]? =eh[i]? by simp];cases h:eh[i]? with
 |some x=>
  wp_walk using Bj f
  .exactλh' k=>Gaq ⟨_,rfl,Gaq (hQ x h' h k.1 k.2)⟩
  .show _<2;decide
 |none=>
  wp_walk using Bj f
  .exactλh1 k=>M4 hh λh' a q=>hE h' a h (λb o n e=>q.1 b o (k.2.extBut b o n e)) q.2
  .show _<2;decide
theorem oO(hh:A.handled=none)(it l:Addr)(xK:l≠it)(eh:Array Value):Draws prog w A it [it,l] eh.size (λi v=>eh[i]? =some v) (λi h=>h.IsTupleIter it l i/\h.IsTuple l eh) where
 live:=λ_ _ st=>let⟨o,ho,_⟩:=st.1;⟨o,ho⟩
 frame:=λ_ _ _ st hk=> ⟨st.1.at λo e=>hk it (by simp) o e,let⟨o,ho,r⟩:=st.2;⟨o,hk l (by simp) _ ho,r⟩⟩
 item:=λi z Q E hi st hQ=>mV hh st.1 st.2 (λx h' hx xZ yu =>hQ x h' z.toks hx ⟨xZ,let⟨o,ho,r⟩:=st.2;⟨o,yu.extBut _ _ xK ho,r⟩⟩ yu) λ_ _ q=>absurd hi (by simpa using q)
 done:=λz Q E st hE=>mV hh st.1 st.2 (λ_ _ q=>absurd (Array.getElem?_eq_some_iff.mp q).1 (Gbj _)) λh' e _=>hE h' e
def M8(K:ai)(l:Addr):It:=
 ⟨λi H=>∃xs x,SqT K H l xs/\xs[i]? =some x,λi H x H' =>∃p y,H p=none/\x= .ref p/\H' =upd H p (.tup [.int i,y])/\∀xs,SqT K H l xs->xs[i]? =some y,λi H=>∃xs,SqT K H l xs/\xs.length<=i⟩
theorem sL{K:ai}{x1}(en it l:Addr)(xK:en≠it)(hle:l≠en)(R7:l≠it):Turn P w K (.Tuple elts x1 tp) (M8 K l) [en,it] en (λi h=>(∃old,IsEnum h en it i old)/\h.IsTupleIter it l i) where
 mem:=by simp
 obj:=λi h st b hb=>by
  obtain⟨⟨old,he⟩,o,e,c,d⟩:=st;rcases Gah.mp hb with z|z
  .subst z;exact⟨_,he,λv z=>by
    have z' :Data.fields _=Data.cell v:=z;cases z'⟩
  .have z' :b=it:=by simpa using z
   subst z';exact⟨o,e,λv z=>by rw[d] at z;cases z⟩
 keep:=λi h h' st k=> ⟨let⟨old,he⟩:=st.1;⟨old,k en (by simp) _ he⟩,st.2.at λo e=>k it (by simp) o e⟩
 item:=by
  intro X hP hw hK hc i ef s Z H E I hf st hg;subst hP hw hK;obtain⟨⟨old,he⟩,hit⟩:=st;obtain⟨xs,x,hq,hx⟩:=hg;obtain⟨eh,rv,p,hz⟩:=I.tuple hq;obtain⟨u,hu,ru⟩:=rv.get hx;have hi:i<eh.toArray.size:=by
   have:=(Gab.mp hu).1
   simpa using this
  refine wpAny_pyNext_enum_itemD (oO (A:=X.A.in1) (I.ok.hd hc) it l R7 eh.toArray) he ⟨hit,p⟩ hi xK (by simp[xK,GaU hle]) λu' h' tk Qq ho xZ hT hsz kk=> ⟨_,rfl, ?_⟩;have hit1:=xZ.1;have eu:u' =u:=by
   have PH:eh.toArray[i]? =some u:=by simpa using hu
   rw[PH] at Qq;cases Qq;rfl
  subst eu;refine wpAny_letOwnedTupleGo_enum (s:={s with heap:=h',toks:=tk+1}) ho λh2 PY sb=> ?_;have hltE:en<s.heap.objs.size:=Gan he;have kept:∀b o,b∉[en,it]->s.heap.get? b=some o->h2.get? b=some o:=λb o hb e=>by
   have b1:b≠en:=λz=>hb (by simp[z]);have b2:b≠it:=λz=>hb (by simp[z]);exact(sb.2 b b1).trans (kk b o b1 b2 e)
  have zg:h2.get? s.heap.objs.size=some {cls:= .type "tuple",data:= .seq #[.int i tk,u']}:=(sb.2 _ (Gbz hltE)).trans hT;have I1:Inv X ef Z (upd H s.heap.objs.size (.tup [.int i,x])) {s with heap:=h2,toks:=tk+1}:=I.mU (ch:=[en,it]) hf rfl rfl kept (Gar _) (by
   refine⟨by simp[GbH],[.int i tk,u'],.cons ⟨_,rfl⟩ (.cons ru .nil),_,zg,rfl,0,rfl⟩)
  refine⟨.ref s.heap.objs.size,_,I1,rfl,⟨_,x,I.fresh,rfl,rfl,λys hy=>by rw[I.ko hy hq];exact hx⟩,⟨⟨u',by simpa using PY⟩,hit1.at λo e=>(sb.2 it (GaU xK)).trans e⟩,λb hb=> ?_⟩;obtain⟨o,ob,_⟩:∃o,s.heap.get? b=some o/\True:=by
   rcases Gah.mp hb with z|z
   .subst z;exact⟨_,he,trivial⟩
   .have z' :b=it:=by simpa using z
    subst z';obtain⟨o,e,_⟩:=hit;exact⟨o,e,trivial⟩
  rw[aw (GaF (Gan ob))];exact(hf b hb).1
 done:=by
  intro X hP hw hK hc i ef s Z H E I hf st hg;subst hP hw hK;obtain⟨⟨old,he⟩,hit⟩:=st;obtain⟨xs,hq,hx⟩:=hg;obtain⟨eh,rv,p,hz⟩:=I.tuple hq;obtain⟨f0,f1,f2,f3,f4,f5⟩:=hf it (by simp);have hl:=rv.length;have fe:FO s.heap en "enumerate" _:=⟨_,he,rfl,rfl⟩
  have pt:s.heap.IsTuple l eh.toArray:=p
  wp_walk using Gbn fe.ty F.slot_enumerate_next,GbN F.slot_enumerate_next fe.ty F.entry_enumerate_next (ha:=F.args_enumerate_next_1 _),fu (i:=2) (x:= .ref it) fe rfl,mV (A:=X.A.in1) (I.ok.hd hc) hit pt
  .exactλx h' q=>absurd (Array.getElem?_eq_some_iff.mp q).1 (by simp;lia)
  .exactλh' e _ eb q=>Gag (uz q (Gaq ⟨rfl,I.turned (t' :=s.toks) (λb o hb e=>eb b o hb e) f0 f1 f3 f4 f5⟩))
 self:=λ_ _ _ _ _ st h=>let⟨old,he⟩:=st.1;Gcb he h
theorem Bk{E:VSP}{b:Bool}{Q:Bool->Shared->Prop}(h:∀b,Q b z):wpAny (model prog w) A (pure b) Q E z:=Gaq (h b)
theorem qW(l:Addr)(items:Array Value):
  Meets (Builtin.«enumerate.__new__» ⟨[.type "enumerate",.ref l],[]⟩) (λ_ R s=>s.heap.IsTuple l items/\
   R (.ok (.ret (.ref (s.heap.objs.size+1)))) {s with heap:=(s.heap.push {cls:= .type "tuple_iterator",data:= .fields #[.ref l,.int 0 0]}).push {cls:= .type "enumerate",data:= .fields #[.none,.bool false,.ref s.heap.objs.size,rawInt 0,.none,.none]}}):=by
 apply Meets.of_wp;rintro prog w A R s ⟨hl,h⟩;have sub:=sub_enumerate
 wp_walk using GbF hl,wpAny_stack_any
 intro st;refine Bk λshort=> ?_;have sz:(s.heap.push {cls:= .type "tuple_iterator",data:= .fields #[.ref l,.int 0 0]}).objs.size=s.heap.objs.size+1:=Gbc ..;rw[<-sz] at h;cases short<;>wp_walk using GbF hl<;>exact⟨_,rfl,h⟩
theorem sM{E:VSP}{l:Addr}{items:Array Value}{Q:VSP}(hL:z.heap.IsTuple l items)
  (h:∀h',IsEnum h' (z.heap.objs.size+1) z.heap.objs.size 0 .none->h'.IsTupleIter z.heap.objs.size l 0->(∀b o,z.heap.get? b=some o->h'.get? b=some o)->Q (.ref (z.heap.objs.size+1)) {z with heap:=h' }):
  wpAny (model prog w) A (call (.type "enumerate") [.ref l]) Q E z:=by
 have sz:(z.heap.push {cls:= .type "tuple_iterator",data:= .fields #[.ref l,.int 0 0]}).objs.size=z.heap.objs.size+1:=Gbc ..;have en:IsEnum ((z.heap.push {cls:= .type "tuple_iterator",data:= .fields #[.ref l,.int 0 0]}).push {cls:= .type "enumerate",data:= .fields #[.none,.bool false,.ref z.heap.objs.size,rawInt 0,.none,.none]}) (z.heap.objs.size+1) z.heap.objs.size 0 .none:=sz▸Gaz _ rfl;exact callType_new F.called_enumerate (by decide) (F.typeCall_enumerate_1 _) (F.newCall_enumerate_1 _) (λ_=>F.args_object_init_2 _ _) F.entry_enumerate_new (qW l items) ⟨hL,⟨_,en,rfl⟩,h _ en ⟨_,Gae _ (Gaz _ rfl),rfl,rfl⟩ λb o q=>Gae _ (Gae _ q)⟩
def M9(K:ai)(tl:TA):TI:=λZ H R=>tl Z H λvs H1=>∃l,vs=[.ref l]/\(((∃xs,SqL K H1 l xs)/\R (Ite K l) H1)\/((∃xs,SqT K H1 l xs)/\R (M8 K l) H1))
variable{p:Pos}
theorem uD{x1}{ta:TA}(hg:Gl X "enumerate")(hm:X.mg "enumerate"=none)(ha:PA X [a] ta)(hs:autoParam (starEach [a] X.env=[(false,eval a X.env)]) Za1._auto_1):PI X (.Tuple elts x1 tp) (.Call (.Name "enumerate" p) [a] [] pos) (M9 X.K ta):=by
 intro ef s Z H R I h;refine Call_ (ja I hg hm pO (Gbg (thn (ha pos ef s Z H _ I h) λus s1 ⟨vs,H1,I1,r1,q1⟩=> ?_) hs rfl));obtain⟨l,e,q1⟩:=q1;subst e;cases r1 with
 |cons r rr=>
  cases rr;cases r;have zD:∀b∈[s1.heap.objs.size+1,s1.heap.objs.size],gP X ef H1 b:=λb hb=>by
   rcases Gah.mp hb with z|z
   .subst z;exact I1.rP (Gbi _) (I1.hok.fresh (Gbi _))
   .have z' :b=s1.heap.objs.size:=by simpa using z
    subst z';exact I1.rP (Gar _) (I1.hok.fresh (Gar _))
  rcases q1 with⟨⟨xs,hq⟩,q⟩| ⟨⟨xs,hq⟩,q⟩
  .obtain⟨eh,rv,pl,hz⟩:=I1.list hq;refine call_enumerate_list pl.isList λh' he hit hsz kk=> ?_;refine Gcb (s:={s1 with heap:=h' }) he ?_;exact⟨s1.heap.objs.size+1,[s1.heap.objs.size+1,s1.heap.objs.size],_,_,H1,rfl,I1.kept (t' :=s1.toks) kk,wx _ _ l (Nat.succ_ne_self _),⟨⟨.none,he⟩,hit⟩,zD,q⟩
  .obtain⟨eh,rv,pl,hz⟩:=I1.tuple hq;have eZ:l<s1.heap.objs.size:=pl.lt;refine sM (show s1.heap.IsTuple l eh.toArray from pl) λh' he hit kk=> ?_;refine Gcb (s:={s1 with heap:=h' }) he ?_;exact⟨s1.heap.objs.size+1,[s1.heap.objs.size+1,s1.heap.objs.size],_,_,H1,rfl,I1.kept (t' :=s1.toks) kk,sL _ _ l (Nat.succ_ne_self _) (GaF (Gbw eZ)) (GaF eZ),⟨⟨.none,he⟩,hit⟩,zD,q⟩
theorem EA{x1}(hg:Gl X "enumerate")(hm:X.mg "enumerate"=none)(he:PEd X e f)(hs:autoParam (starEach [e] X.env=[(false,eval e X.env)]) Za1._auto_1):PId X (.Tuple elts x1 tp) (.Call (.Name "enumerate" p) [e] [] pos) (oJ f):=by
 refine(uD hg hm (bV he dQ hs) hs).ao ?_;rintro Z H R ⟨H0,eg,env,ds,E,hf,k⟩;obtain⟨⟨kd,d⟩,hr,hf⟩:=ee hf;split at hf
 .cases hf
 rename_i hk;split at hf
 .rename_i xs hd;have eX :d= .lst xs:=hd;subst eX;cases hf;refine⟨H0,eg,env,[⟨kd,.lst xs⟩],E,by unfold af az;rw[hr];rfl,λvs H1 s1 Rs=> ?_⟩;cases Rs with
  |cons Rv tl=>
   cases tl;have ii:=Rv.inn;have hno:=pK E rfl hk Rv;have E1:=E.mono s1;cases ii with
   | @lst la lv _ h r=>
    refine⟨_,rfl,.inl ⟨⟨_,.inl h⟩,k _ H1 s1 λHi keep=> ?_⟩⟩;have hh:Rd Hi la (.lst lv):=by
     rcases h with h| ⟨o,h⟩
     .exact .inl (keep _ _ h (hno _ rfl))
     .exact .inr ⟨o,keep _ _ h (hno _ rfl)⟩
    refine⟨λi d hd=> ?_,⟨_,.inl hh,by rw[kJ,r.1];exact Gar _⟩⟩;rw[kK] at hd;obtain⟨y,hy,rfl⟩:=Gaa.mp hd;obtain⟨v,h1,h2⟩:=r.get hy;refine⟨⟨_,v,.inl hh,h1⟩,λz H2 ⟨p,w,hp,ez,eH,ew⟩=> ?_⟩;subst ez eH;have:=ew _ (.inl hh);rw[h1] at this;cases this
    refine⟨aU hp, ?_⟩;have rp:=E1.dZ keep h2;rw[show(((0+i:Nat)):Int)=(i:Int) by simp];exact cR hp (.cons (.int _) (.cons rp .nil))
 .rename_i xs hd;have eX :d= .tup xs:=hd;subst eX;cases hf;refine⟨H0,eg,env,[⟨kd,.tup xs⟩],E,by unfold af az;rw[hr];rfl,λvs H1 s1 Rs=> ?_⟩;cases Rs with
  |cons Rv tl=>
   cases tl;have ii:=Rv.inn;have E1:=E.mono s1;cases ii with
   | @tup la lv _ h r=>
    refine⟨_,rfl,.inr ⟨⟨_,SqT.of h⟩,k _ H1 s1 λHi keep=> ?_⟩⟩;have hh:Hi la=some (.tup lv):=keep _ _ h λw=>E1.dA w h trivial;refine⟨λi d hd=> ?_,⟨_,SqT.of hh,by rw[kJ,r.1];exact Gar _⟩⟩;rw[kK] at hd;obtain⟨y,hy,rfl⟩:=Gaa.mp hd;obtain⟨v,h1,h2⟩:=r.get hy;refine⟨⟨_,v,SqT.of hh,h1⟩,λz H2 ⟨p,w,hp,ez,eH,ew⟩=> ?_⟩;subst ez eH;have:=ew _ (SqT.of hh);rw[h1] at this;cases this
    refine⟨aU hp, ?_⟩;have rp:=E1.dZ keep h2;rw[show(((0+i:Nat)):Int)=(i:Int) by simp];exact cR hp (.cons (.int _) (.cons rp .nil))
 .cases hf
end
open PySem PySem.Spec PyProof.Rows L2
section
variable{X:Cx}{e a b c:Expr}{f g h:DE}{pos:Pos}
def Iz(neg:Bool):R2:=λx y H Q=>∃a o,y= .ref a/\lW H a x o/\Q (.bl (if neg then !o.isSome else o.isSome)) H
theorem wz(hu:X.A.units+1<cLine):OpR X (compareOp .In) (Iz false):=by
 intro ef s Z H x y v u Q I rx ry h;obtain⟨p,o,rfl,g,q⟩:=h;cases ry;exact Oi hu I g rx λs' I' => ⟨.bl o.isSome,H,I',rfl,q⟩
theorem sO(hu:X.A.units+1<cLine):OpR X (compareOp .NotIn) (Iz true):=by
 intro ef s Z H x y v u Q I rx ry h;obtain⟨p,o,rfl,g,q⟩:=h;cases ry;exact Dy hu I g rx λs' I' => ⟨.bl (!o.isSome),H,I',rfl,q⟩
variable{v:V}{H:Hp}
theorem EB{K:ai}{F:Addr->Prop}(n:Nat){d d' :D}(p:aG n d=true)(q:aG n d' =true)(r:Rep K F H d v)(t:Rep K F H d' v):d=d' :=pM n p q r t
noncomputable def Ma:Value->V
 | .bool b=> .bl b
 | .int i _=> .int i
 | .str x _=> .str x
 | .bytes b _=> .byt b
 | .float b _=> .flt b
 | .ref a=> .ref a
 | .type n=> .ty n
 |_=> .non
variable{u:Value}
theorem qX(h:RelV v u):Ma u=v:=by
 cases v<;>first|(obtain⟨t,rfl⟩:=h;rfl)|(have h' :=h;unfold RelV at h';subst h';rfl)
theorem Bl{v' :V}(h:RelV v u)(h' :RelV v' u):v=v' :=(qX h).symm.trans (qX h')
def IA(K:ai)(neg:Bool):R2:=λx y H Q=>∃p xs dx ds,y= .ref p/\(SqL K H p xs\/SqT K H p xs)/\aG 10 dx=true/\ds.all (aG 10)=true/\Rep K (λ_=>True) H dx x/\aH K (λ_=>True) H ds xs/\Q (.bl (if neg then !ds.any (λy=>eqD y dx) else ds.any (λy=>eqD y dx))) H
variable{x:V}{dx:D}
theorem k7{ef:LAO}{Z:L2.St}{z:Shared}(I:Inv X ef Z H z)(hu:X.A.units+20<cLine){xs:List V}{eh:List Value}{ds:List D}{v:Value}(r:Vals xs eh)(hx:aG 10 dx=true)(hs:ds.all (aG 10)=true)
  (rx:Rep X.K (λ_=>True) H dx x)(rs:aH X.K (λ_=>True) H ds xs)(rv:RelV x v):∃ev:Value->Bool,(∀w∈eh,SeqAt.EqAt X.A.in1 z w v (ev w))/\eh.any ev=ds.any λy=>eqD y dx:=by
 classical
 have hll:=r.length;have tri:∀(i:Nat) (w:Value),eh[i]? =some w->∃d u,ds[i]? =some d/\xs[i]? =some u/\RelV u w/\Rep X.K (λ_=>True) H d u/\aG 10 d=true:=λi w hw=>by
  have hi:i<eh.length:=(Gab.mp hw).1;have hd:ds[i]? =some (ds[i]'(by rw[rs.1,hll];exact hi)):=Gaf _;obtain⟨u,hu1,PH⟩:=rs.get hd;obtain⟨w',zx,zY⟩:=r.get hu1;rw[hw] at zx;cases zx
  exact⟨_,u,hd,hu1,zY,PH,Gao.mp hs _ (GaD hd)⟩
 refine⟨λw=>decide (∃(i:Nat) (d:D),eh[i]? =some w/\ds[i]? =some d/\eqD d dx=true),λw hw=> ?_, ?_⟩
 .obtain⟨i,hi⟩:=GaN hw;obtain⟨d,u,h1,h2,h3,h4,h5⟩:=tri i w hi;have key:decide (∃(i:Nat) (d:D),eh[i]? =some w/\ds[i]? =some d/\eqD d dx=true)=eqD d dx:=by
   cases q:eqD d dx with
   |true=>exact Gbl ⟨i,d,hi,h1,q⟩
   |false=>
    refine GaV ?_;rintro⟨j,d',g1,g2,g3⟩;obtain⟨d2,u2,k1,k2,k3,k4,k5⟩:=tri j w g1;rw[g2] at k1;cases k1
    have eu:=Bl h3 k3;subst eu;rw[EB 10 h5 k5 h4 k4] at q;rw[q] at g3;cases g3
  show SeqAt.EqAt X.A.in1 z w v (decide _);rw[key];exact mK I 10 h5 hx h4 rx h3 rv (by show X.A.units+1+10<_;lia)
 .rw[Gco,List.any_eq_true,List.any_eq_true];constructor
  .rintro⟨w,hw,e⟩;obtain⟨i,d,_,h2,h3⟩:=Gas e;exact⟨d,GaD h2,h3⟩
  .rintro⟨d,hd,e⟩;obtain⟨i,hi⟩:=GaN hd;have hl:i<eh.length:=by rw[<-hll,<-rs.1];exact(Gab.mp hi).1
   exact⟨eh[i],Gbk hl,Gbl ⟨i,d,Gaf hl,hi,e⟩⟩
theorem IB(hu:X.A.units+20<cLine):OpR X (compareOp .In) (IA X.K false):=by
 intro ef z Z H x y v u Q I rx ry h;obtain⟨p,xs,dx,ds,rfl,hq,fx,fs,r1,r2,q⟩:=h;cases ry;rcases hq with hq|hq
 .obtain⟨eh,r,pl,hz⟩:=I.list hq;obtain⟨ev,e1,e2⟩:=k7 I hu r fx fs r1 r2 rx;refine SeqAt.in_listAt ev pl.isList (λw hw=>e1 w (by simpa using hw)) ⟨.bl _,H,I,rfl, ?_⟩;rw[show eh.toArray.any ev=eh.any ev by simp,e2];exact q
 .obtain⟨eh,r,pl,hz⟩:=I.tuple hq;obtain⟨ev,e1,e2⟩:=k7 I hu r fx fs r1 r2 rx;refine SeqAt.in_tupleAt ev pl (λw hw=>e1 w (by simpa using hw)) ⟨.bl _,H,I,rfl, ?_⟩;rw[show eh.toArray.any ev=eh.any ev by simp,e2];exact q
theorem EC(hu:X.A.units+20<cLine):OpR X (compareOp .NotIn) (IA X.K true):=by
 intro ef z Z H x y v u Q I rx ry h;obtain⟨p,xs,dx,ds,rfl,hq,fx,fs,r1,r2,q⟩:=h;cases ry;rcases hq with hq|hq
 .obtain⟨eh,r,pl,hz⟩:=I.list hq;obtain⟨ev,e1,e2⟩:=k7 I hu r fx fs r1 r2 rx;refine SeqAt.notIn_listAt ev pl.isList (λw hw=>e1 w (by simpa using hw)) ⟨.bl _,H,I,rfl, ?_⟩;rw[show eh.toArray.any ev=eh.any ev by simp,e2];exact q
 .obtain⟨eh,r,pl,hz⟩:=I.tuple hq;obtain⟨ev,e1,e2⟩:=k7 I hu r fx fs r1 r2 rx;refine SeqAt.notIn_tupleAt ev pl (λw hw=>e1 w (by simpa using hw)) ⟨.bl _,H,I,rfl, ?_⟩;rw[show eh.toArray.any ev=eh.any ev by simp,e2];exact q
def sP(K:ai)(neg:Bool):R2:=λx y H Q=>IA K neg x y H Q\/Iz neg x y H Q
theorem IC(hu:X.A.units+20<cLine):OpR X (compareOp .In) (sP X.K false):=(IB hu).or (wz (by lia))
theorem ED(hu:X.A.units+20<cLine):OpR X (compareOp .NotIn) (sP X.K true):=(EC hu).or (sO (by lia))
theorem EG{neg:Bool}{F:Addr->Prop}{dy:D}{y:V}{b:Bool}{Q:VK}(ix:Inn X.K F H dx x)(iy:Inn X.K F H dy y)(e:inB dx dy=some b)(q:Q (.bl (if neg then !b else b)) H):sP X.K neg x y H Q:=by
 have seq:∀{ds:List D} {p:Addr} {vs:List V},y= .ref p->(SqL X.K H p vs\/SqT X.K H p vs)->aH X.K F H ds vs->uA dx ds=some b->sP X.K neg x y H Q:=λ{ds p vs} ey hs r hb=>by
  unfold uA at hb;split at hb
  .rename_i c;rw[Gad] at c;cases hb;exact .inl ⟨p,vs,dx,ds,ey,hs,c.1,c.2,ix.any,⟨r.1,λi d v e1 e2=>(r.2 i d v e1 e2).inn.any⟩,q⟩
  .cases hb
 unfold inB at e;split at e
 .obtain⟨k,hk,rfl⟩:=Gaa.mp e;obtain⟨g1,g2⟩:=m5 iy ix;obtain⟨p,ws,ey,r,g⟩:=g1 _ k rfl hk;refine .inr ⟨p,_,ey,g, ?_⟩;rename_i kvs;have:(gJ ws k).isSome=(look kvs k).isSome:=by
   cases z:look kvs k with
   |none=>rw[kC r z];rfl
   |some d=>obtain⟨v,h1,_⟩:=gX r z;rw[h1];rfl
  rw[this];exact q
 .split at e
  .rename_i _ kvs _ ks;obtain⟨k,hk,rfl⟩:=Gaa.mp e;obtain⟨g1,g2⟩:=m5 iy ix;obtain⟨p,ws,ey,r,g⟩:=g2 _ _ k rfl rfl hk;refine .inr ⟨p,_,ey,g, ?_⟩;have:(gJ ws k).isSome=(look kvs k).isSome:=by
    cases z:look kvs k with
    |none=>rw[kC r z];rfl
    |some d=>obtain⟨v,h1,_⟩:=gX r z;rw[h1];rfl
   rw[this];exact q
  .cases e
 .cases iy with
  |lst h r=>exact seq rfl (.inl (.inl h)) r e
 .cases iy with
  |tup h r=>exact seq rfl (.inr (SqT.of h)) r e
 .cases e
end
open PySem PySem.Spec PyProof.Rows L2
namespace Fr
end Fr
open PySem PySem.Spec PyProof.Rows L2
section
variable{X:Cx}{e a b c:Expr}{f g h:DE}{pos:Pos}
theorem wA:CallD X mS (λxs H Q=>(∃i,xs=[.int i]/\Q (.int i) H)\/∃k,xs=[.bl k]/\Q (.int (if k then 1 else 0)) H):=by
 intro F H ds vs rv Q ps e k;unfold mS at e;split at e
 .cases e;obtain⟨v,rfl,i⟩:=bJ ps;cases i;exact .inl ⟨_,rfl,k _ H aT (.int _)⟩
 .cases e;obtain⟨v,rfl,i⟩:=bJ ps;cases i;exact .inr ⟨_,rfl,k _ H aT (.int _)⟩
 .cases e
theorem Bm{xs:List V}{eh:List Value}(r:Vals xs eh){x:V}{u:Value}(hx:RelV x u)(j:Int):Vals (fV xs j x) (PySem.W.kl_ins eh j u):=by
 have hl:=r.length;unfold fV PySem.W.kl_ins;rw[hl];have tk:∀{xs:List V} {eh:List Value} (r:Vals xs eh) (n:Nat),Vals (xs.take n) (eh.take n):=by
  intro xs eh r;induction r with
  |nil=>intro n;simp;exact .nil
  |cons h t ih=>intro n;cases n with
   |zero=>exact .nil
   |succ n=>exact .cons h (ih n)
 have dr:∀{xs:List V} {eh:List Value} (r:Vals xs eh) (n:Nat),Vals (xs.drop n) (eh.drop n):=by
  intro xs eh r;induction r with
  |nil=>intro n;simp;exact .nil
  |cons h t ih=>intro n;cases n with
   |zero=>exact .cons h t
   |succ n=>exact ih n
 exact(tk r _).append (.cons hx (dr r _))
def EH:V->List V->Hp->VK->Prop:=λx vs H Q=>∃l xs j y,x= .ref l/\vs=[.int j,y]/\H l=some (.lst xs)/\xs.length<sizeLine/\-(2^62)<=j/\j<2^62/\Q .non (upd H l (.lst (fV xs j y)))
theorem wB:MtM X "list.insert" EH:=by
 intro ef z Z H x vs v us Q I rx rv h;obtain⟨l,xs,j,y,rfl,rfl,hH,hz,h1,h2,q⟩:=h;cases rx;cases rv with
 |cons r1 t1=>
  cases t1 with
  |cons r2 t2=>
   cases t2;obtain⟨t,rfl⟩:=r1;rename_i u;obtain⟨_,eh,n,r,hl,e⟩:=I.Ao hH;have hfit:Builtin.List.listFitsIndex j=true:=by simp[Builtin.List.listFitsIndex];lia
   refine GbO F.slot_list_insert ⟨_,e,rfl⟩ F.entry_list_insert (F.args_list_insert_3 _ _ _) (PySem.AutoSeq1.list_insert_list_int_val_1 l eh.toArray n j t u (by simp[hfit]) (by rw[Gai];lia)) ⟨e, ?_⟩;refine⟨.non,_,I.Dv (its' :=PySem.W.kl_ins eh j u) hH e ?_ (Bm r r2 j) ?_,rfl,q⟩
   .show(eh.toArray.extract 0 _).push u++eh.toArray.extract _=_;rw[PySem.W.kl_ins_eq];simp only[Gai]
    rfl
   .rw[wu];lia
theorem wC{i:Nat}{x:Str}{px apos eD:Pos}(hN:X.N[i]? =some x)(hv:Vis X.env.scope x)(he:PEd X e f)(ha:PEd X a g)(hd:autoParam ((x==("__debug__":Str))=false) Za2._auto_1)(eQ:autoParam ((x==("__classdict__":Str))=false) Za2._auto_1)
  (eU:autoParam (starEach [e,a] X.env=(false,eval e X.env)::starEach [a] X.env) Za1._auto_1)(eW:autoParam (starEach [a] X.env=[(false,eval a X.env)]) Za1._auto_1)
  (eT:autoParam (attributeBase (.Name x px) "insert" X.env (eval (.Name x px) X.env)=eval (.Name x px) X.env) Za1._auto_1)
  (xB:((backTo eD (starEach [e,a] X.env)).all (λx=> !x.1)&&(backToKw eD (keywordEach [] X.env)).all (λx=>x.1.isSome)
   &&decide (([e,a]:List Expr).length+([]:List Keyword).length+(if([]:List Keyword).isEmpty then 0 else 1)<30))=true:=by rfl)
  (eK:autoParam ((apos.endLine==eD.line)=true) Za1._auto_1)(hs:autoParam (swapsWith (.Call (.Attribute (.Name x px) "insert" apos) [e,a] [] eD) none pos.line X.env=pure false) Za1._auto_1):
  PSd X (.Expr (.Call (.Attribute (.Name x px) "insert" apos) [e,a] [] eD) pos) (Ez i f g):=by
 refine(jz (oj Gbo PySem.F.slot_list_insert PySem.F.type_list_insert wB (cK hN hv hd eQ) (bV he (bV ha dQ eW) eU) eT xB eK eU (by rw[eW];rfl)) hs).ao ?_;rintro D Z H ⟨H0,eg,env,o,E,e,k⟩;obtain⟨r,hr,e⟩:=ee e;obtain⟨r2,QU,e⟩:=ee e;obtain⟨d,hd,e⟩:=ee e;have q:=cY hd;obtain⟨kd,rd⟩:=r;split at e
 .rename_i xs j hj;have xR :rd= .int j:=hj;split at e
  .rename_i z;rw[Gad,Gad] at z;obtain⟨z1,z2,z3⟩:=z;cases e;subst xR;obtain⟨a,h1,h2,h3,h4,h5,h6⟩:=E.ow i _ (.inl q);obtain⟨vs,hH,rp⟩:=fL h4 h6;refine⟨_,h1,.inl ⟨rfl,vs,.inl (.inl hH)⟩,H0,eg,env,[⟨kd,.int j⟩,r2],E,by unfold af az;rw[hr,QU];rfl,λws H2 s2 Rs=> ?_⟩;cases Rs with
   | @cons _ v _ _ R1 tl=>
    cases tl with
    | @cons _ v2 _ _ R2 tl=>
    cases tl;have i1:=R1.inn;cases i1;have xT:=s2 _ _ hH;have sj:=cS z3;refine⟨a,vs,j,v2,rfl,rfl,xT,by rw[<-rp.1,<-eE];exact Gas z2,sj.1,sj.2, ?_⟩;have E2:=E.mono s2;have rep1:=R2.rep E z1;have rp1:aH X.K (Cln eg env Z) H2 xs vs:=rp.gen (.of_same s2) λ_ f _=>f;have rp2:aH X.K (Cln eg env Z) H2 (fV xs j r2.d) (fV vs j v2):=by
     unfold fV;rw[<-rp1.1];exact(rp1.take _).append (.cons rep1 (rp1.drop _))
    obtain⟨E3,p3⟩:=E2.change (d' := .lst (fV xs j r2.d)) (o:= .lst (fV vs j v2)) q h1 trivial rfl (.lst (.inl ax) (rp2.gen (λb o hb w=>by
     have:b≠a:=by
      rintro rfl;rcases w with w|w
      .exact w.2 i (by rw[q];trivial) h1
      .rw[xT] at hb;cases hb;exact w
     rw[aw this];exact hb) λ_ f _=>f))
    exact k Z _ E3 ((Stp.of_same s2).trans p3)
  .cases e
 .cases e
end
section
variable{prog:Program}{w:World}{A:Around}{E:VSP}{s:Shared}{es:Array DictEntry}{ep:Nat}
def Prs(es:Array DictEntry)(lo:Addr)(h:Heap)(as:List Addr):Prop:=as.Nodup/\∀(j:Nat) (a:Addr),as[j]? =some a->lo<a/\∃en,es[j]? =some en/\h.get? a=some {cls:= .type "tuple",data:= .seq #[en.key,en.val]}
theorem Prs.lt{lo a:Addr}{h:Heap}{as:List Addr}(x:Prs es lo h as)(m:a∈as):a<h.objs.size:=by
 obtain⟨j,hj⟩:=List.mem_iff_getElem?.mp m;obtain⟨_,_,_,q⟩:=x.2 j a hj;exact Gan q
end
open PySem.W (KatLex KatTups kas_sort kas_ask kat_kind kat_lt kat_one kat_run kat_snds BoolBack kat_lt_int)
noncomputable def Itx(x:Str):It:=⟨λi _=>i<x.length,λi H v H' =>H' =H/\∃c,x.cps[i]? =some c/\v= .str ⟨#[c]⟩,λi _=>x.length<=i⟩
theorem Bn{P:Program}{w:World}{K:ai}{tg:Expr}(it:Addr)(x:Str)(t:Tok)(ty:String)(yg:ty="str_ascii_iterator"\/ty="str_iterator"):Turn P w K tg (Itx x) [it] it (λi h=>h.IsStrIter it ty x t i) where
 mem:=by simp
 obj:=λi h st b hb=>by
  have e:b=it:=by simpa using hb
  subst e;obtain⟨o,e,c,d⟩:=st;exact⟨o,e,λv z=>by rw[d] at z;cases z⟩
 keep:=λi h h' st k=>by
  obtain⟨o,e,r⟩:=st;exact⟨o,k it (by simp) o e,r⟩
 item:=by
  intro X hP hw hK hc i ef z Z H E I hf st hg;subst hP hw hK;obtain⟨f0,f1,f2,f3,f4,f5⟩:=hf it (by simp);have yk :i<x.cps.size:=hg;have hx:x.cps[i]? =some x.cps[i]:=Array.getElem?_eq_getElem yk;rcases yg with rfl|rfl
  .refine wpAny_pyNext_ascii_item st hx λh' xx sb=> ?_;have I1:Inv X ef Z H {z with heap:=h',toks:=z.toks+1}:=I.turned (t' :=z.toks+1) (λb o hb e=>(sb.2 b hb).trans e) f0 f1 f3 f4 f5;obtain⟨o,e,c,d⟩:=id xx;exact⟨_,rfl,qp (s:={z with heap:=h',toks:=z.toks+1}) e c d (by decide) ⟨.str _,H,I1,⟨_,rfl⟩,⟨rfl,_,hx,rfl⟩,xx,λb hb=>(hf b hb).1⟩⟩
  .refine wpAny_pyNext_wide_item st hx λh' xx sb=> ?_;have I1:Inv X ef Z H {z with heap:=h',toks:=z.toks+1}:=I.turned (t' :=z.toks+1) (λb o hb e=>(sb.2 b hb).trans e) f0 f1 f3 f4 f5;obtain⟨o,e,c,d⟩:=id xx;exact⟨_,rfl,qp (s:={z with heap:=h',toks:=z.toks+1}) e c d (by decide) ⟨.str _,H,I1,⟨_,rfl⟩,⟨rfl,_,hx,rfl⟩,xx,λb hb=>(hf b hb).1⟩⟩
 done:=by
  intro X hP hw hK hc i ef z Z H E I hf st hg;subst hP hw hK;obtain⟨f0,f1,f2,f3,f4,f5⟩:=hf it (by simp);have hx:x.cps[i]? =none:=Array.getElem?_eq_none hg;rcases yg with rfl|rfl
  .exact wpAny_pyNext_ascii_end (I.ok.hd hc) st hx λh' eb=> ⟨rfl,I.turned (t' :=z.toks) (λb o hb e=>eb b o hb e) f0 f1 f3 f4 f5⟩
  .exact wpAny_pyNext_wide_end (I.ok.hd hc) st hx λh' eb=> ⟨rfl,I.turned (t' :=z.toks) (λb o hb e=>eb b o hb e) f0 f1 f3 f4 f5⟩
 self:=λ_ _ _ _ _ st h=>by
  rcases yg with rfl|rfl
  .exact wpAny_pyIter_striter_ascii st h
  .exact wpAny_pyIter_striter_wide st h
section
variable{X:Cx}{e a b c:Expr}{f g h:DE}{pos:Pos}
def OK(tl:TE):TI:=λZ H R=>tl Z H λv H1=>∃x,v= .str x/\R (Itx x) H1
variable{tg:Expr}
theorem ID{l:Expr}{tl:TE}(hl:PE X l tl):PI X tg l (OK tl):=by
 intro ef z Z H R I h;refine thn (hl ef z Z H _ I h) λv s1 ⟨y,H1,I1,r1,q1⟩=> ?_;obtain⟨x,e,q⟩:=q1;subst e;obtain⟨t,rfl⟩:=r1;have fin:∀ty,(ty="str_ascii_iterator"\/ty="str_iterator")->PIE X ef Z tg R (.ref s1.heap.objs.size) {s1 with heap:=s1.heap.push {cls:= .type ty,data:= .fields #[.str x t,.int 0 0]}}:=by
  intro ty yg;refine⟨s1.heap.objs.size,[s1.heap.objs.size],_,_,H1,rfl,I1.kept (t' :=s1.toks) λb o e=>Gae _ e,Bn _ x t ty yg,⟨_,Gaz _ rfl,rfl,rfl⟩,λb hb=> ?_,q⟩;have e:b=s1.heap.objs.size:=by simpa using hb
  subst e;exact I1.rP (Gar _) (I1.hok.fresh (Gar _))
 cases ha:x.cps.all (· <128) with
 |true=>exact wpAny_pyIter_ascii ha (fin _ (.inl rfl))
 |false=>exact wpAny_pyIter_wide ha (fin _ (.inr rfl))
theorem IE(he:PEd X e f):PId X tg e (Iy f):=by
 refine(ID he).ao ?_;rintro Z H R ⟨H0,eg,env,ds,E,hf,k⟩;obtain⟨⟨kd,d⟩,hr,hf⟩:=ee hf;split at hf
 .rename_i x hd;have eX :d= .str x:=hd;subst eX;cases hf;refine⟨H0,eg,env,_,E,hr,λv H1 s1 Rv=> ?_⟩;have ii:Inn X.K (Cln eg env Z) H1 (.str x) v:=Rv.inn;cases ii;refine⟨x,rfl,k _ H1 s1 λHi keep=> ⟨λi d hd=> ?_, ?_⟩⟩
  .unfold ia at hd;rw[Gap] at hd;obtain⟨c,hc,rfl⟩:=Gaa.mp hd;have ym :x.cps[i]? =some c:=by simpa using hc
   have hi:i<x.cps.size:=by
    rcases Nat.lt_or_ge i x.cps.size with h|h
    .exact h
    .rw[Array.getElem?_eq_none h] at ym;cases ym
   refine⟨hi,λy H2 ⟨e2,c2,h2,e3⟩=> ?_⟩;subst e2;rw[ym] at h2;cases h2;subst e3;exact⟨aT,.str _⟩
  .show x.length<=(ia x).length;simp[ia,Str.length]
 .cases hf
theorem IF:OpR X (compareOp .In) (λx y H Q=>∃c b,x= .str ⟨#[c]⟩/\y= .str b/\Q (.bl (decide (c∈b.cps.toList))) H):=by
 intro ef z Z H x y v u Q I rx ry h;obtain⟨c,b,rfl,rfl,q⟩:=h;obtain⟨t,rfl⟩:=rx;obtain⟨t2,rfl⟩:=ry;refine PySem.P.in_str ?_;rw[StrLaws.found_one];exact⟨.bl _,H,I,rfl,q⟩
theorem EI:OpR X (compareOp .NotIn) (λx y H Q=>∃c b,x= .str ⟨#[c]⟩/\y= .str b/\Q (.bl (!decide (c∈b.cps.toList))) H):=by
 intro ef z Z H x y v u Q I rx ry h;obtain⟨c,b,rfl,rfl,q⟩:=h;obtain⟨t,rfl⟩:=rx;obtain⟨t2,rfl⟩:=ry;refine PySem.P.notIn_str ?_;rw[StrLaws.found_one];exact⟨.bl _,H,I,rfl,q⟩
theorem EJ:OpB X pR (λx y H Q=>∃c b,x= .str ⟨#[c]⟩/\y= .str b/\Q (.bl (decide (c∈b.cps.toList))) H):=by
 intro F H dx dy x y b Q ix iy e q;unfold pR at e;split at e
 .obtain⟨c,hc,rfl⟩:=Gaa.mp e;have:=uB hc;subst this;cases ix;cases iy
  exact⟨c,_,rfl,rfl,q⟩
 .cases e
theorem Bo:OpB X oK (λx y H Q=>∃c b,x= .str ⟨#[c]⟩/\y= .str b/\Q (.bl (!decide (c∈b.cps.toList))) H):=by
 intro F H dx dy x y b Q ix iy e q;unfold oK at e;split at e
 .obtain⟨c,hc,rfl⟩:=Gaa.mp e;have:=uB hc;subst this;cases ix;cases iy
  exact⟨c,_,rfl,rfl,q⟩
 .cases e
theorem kL:∀{ts:List Str} {us:List Value},Vals (ts.map V.str) us->∃l:List (Str×Tok),l.map (·.1)=ts/\us=strValues l
 |[],us,h=>by
  cases h;exact⟨[],rfl,rfl⟩
 |x::ts,us,h=>by
  cases h with
  |cons r t=>
   obtain⟨k,rfl⟩:=r;obtain⟨l,h1,h2⟩:=kL t;exact⟨(x,k)::l,by rw[Gau,h1],by rw[h2];rfl⟩
theorem pS{K:ai}{F:Addr->Prop}{H:Hp}:∀{ds:List D} {ts:List Str} {vs:List V},k6 ds=some ts->aH K F H ds vs->vs=ts.map V.str
 |[],ts,vs,e,r=>by
  cases e;exact r.bP
 |d::ds,ts,vs,e,r=>by
  obtain⟨v,w,rfl,h1,h2⟩:=r.cons_inv;cases d<;>simp only[k6] at e<;>try cases e
  obtain⟨l,hl,rfl⟩:=Gaa.mp e;cases h1;rw[pS hl h2]
  rfl
theorem wD:CallD X iR (λxs H Q=>∃i,xs=[.int i]/\i.natAbs.log2<1920/\Q (.str (toString i)) H):=by
 intro F H ds vs rv Q ps e k;unfold iR at e;split at e
 .rename_i i;split at e
  .rename_i hz;cases e;obtain⟨v,rfl,ii⟩:=bJ ps;cases ii;refine⟨_,rfl, ?_,k _ H aT (.str _)⟩;by_cases h0:i.natAbs=0
   .rw[h0];decide
   .exact GaC ((Nat.log2_lt (k:=60) h0).mpr (GaC hz (by decide))) (by decide)
  .cases e
 .cases e
theorem nV:cn X (.type "int") (λxs H Q=>∃x,xs=[.str x]/\x.length<=640/\x.cps.toList≠[]/\x.cps.toList.all mT=true/\Q (.int (sJ x.cps.toList)) H):=by
 intro ef z Z H xs us Q I r h;obtain⟨x,rfl,h1,h2,h3,q⟩:=h;obtain⟨u,rfl,t,rfl⟩:=vals1 r;have ad:NumText.AllDigits x.cps.toList:=λc hc=>by
  have:=Gao.mp h3 c hc
  simpa[mT] using this
 exact PySem.W.KIN.call_text (intText_digits ad h2 (GaL h1 (by decide))) h1 ⟨.int _,H,I.tok _,⟨_,rfl⟩,q⟩
theorem sQ:CallD X lO (λxs H Q=>∃x,xs=[.str x]/\x.length<=640/\x.cps.toList≠[]/\x.cps.toList.all mT=true/\Q (.int (sJ x.cps.toList)) H):=by
 intro F H ds vs rv Q ps e k;unfold lO at e;split at e
 .split at e
  .rename_i x hz;rw[Gad,Gad] at hz;cases e;obtain⟨v,rfl,ii⟩:=bJ ps;cases ii;exact⟨_,rfl,Gas hz.1,Gas hz.2.1,hz.2.2,k _ H aT (.int _)⟩
  .cases e
 .cases e
variable{x:Str}
theorem Bp{i:Int}{t:Tok}(hg:Gl X x)(hm:X.mg x=some (.int i t))(hd:autoParam ((x==("__debug__":Str))=false) Za2._auto_1):PEd X (.Name x pos) (kE (.int i)):=
 (tU (v:= .int i) hg hm ⟨t,rfl⟩ hd).ao λZ H Q ⟨_,_,_,_,_,e,k⟩=>by cases e;exact k _ H aT (.int i)
theorem Bq{y:Str}{t:Tok}(hg:Gl X x)(hm:X.mg x=some (.str y t))(hd:autoParam ((x==("__debug__":Str))=false) Za2._auto_1):PEd X (.Name x pos) (kE (.str y)):=
 (tU (v:= .str y) hg hm ⟨t,rfl⟩ hd).ao λZ H Q ⟨_,_,_,_,_,e,k⟩=>by cases e;exact k _ H aT (.str y)
end
open PySem PyProof.Rows
abbrev SM:=StateT SortSt Sem
open PySem.W (kas_item)
def Mb(it:Array Keyed)(a:Array Keyed)(p:List Nat):Prop:=a=(p.map (kas_item it)).toArray/\∀i∈p,i<it.size
section
variable{it:Array Keyed}{a b:Array Keyed}{p q:List Nat}
theorem Mb.lt{k i:Nat}(R:Mb it a p)(h:p[k]? =some i):i<it.size:=R.2 i (GaD h)
end
open PySem.W (kas_item kas_swaps_map)
structure SS(Y:SortKind)(it:Array Keyed)(z:SortSt)(p:Array Nat):Prop where
 kind:kindOf z=Y
 arr:arrOf z=p.map (kas_item it)
 fail:failedOf z=none
 ok:∀i∈p.toList,i<it.size
open PySem
def Ris(xs:Array Nat):Prop:=∀i j:Nat,i<j->∀x y,xs[i]? =some x->xs[j]? =some y->x<y
open PySem PySem.Spec PyProof.Rows
section
variable{prog:Program}{w:World}{A:Around}{R:Result->Shared->Prop}
theorem oP{S I:Addr}{n:Nat}(J:Nat->Shared->Prop)
  (step:∀i s Q E,i<n->J i s->(∀v s',(∀(Q' :Bool->Shared->Prop) E',(∀b y,J (i+1) y->Q' b y)->wpAny (model prog w) A.in1 (setAdd S v) Q' E' s')->Q (some v) s')->wpAny (model prog w) A.in1 (pyNext (.ref I)) Q E s)
  (stop:∀s Q E,J n s->(∀s',R (.ok (.ret .none)) s' ->Q none s')->wpAny (model prog w) A.in1 (pyNext (.ref I)) Q E s):
  ∀k i s,i+k=n->J i s->codeAny (model prog w) A (.builtin "set.update.loop" ⟨[.ref S,.ref I],[]⟩) R s
 |0,i,s,hk,j=>by
  subst hk;apply Gcp GbV;rw[Gcq Gbr];exact Gag (stop s _ _ j λs' r=>Gaq r)
 |k+1,i,s,hk,j=>by
  apply Gcp GbV;rw[Gcq Gbr];exact Gag (step i s _ _ (by lia) j λv s' add=>Gag (wpAny_holding (add _ _ λb y q=>Gaq ⟨plainId_quiet Gbr _,oP J step stop k (i+1) y (by lia) q⟩)))
end
noncomputable def IG(w:World):Bool:=w.params.followText "set-order"
section
variable{prog:Program}{w:World}{A:Around}{E:VSP}{z:Shared}
abbrev mW(w:World):Obj:={cls:= .type "set",dict:=none,data:= .set #[] 0 (.fresh 0 0 (!IG w))}
theorem after{c:Code}{Q:VSP}{R:Result->Shared->Prop}(h:codeAny (model prog w) A c (wants Q E) z)(k:∀v s',Q v s' ->R (.ok (.ret v)) s')(e:∀x s',E x s' ->R (.error x) s'):codeAny (model prog w) A c R z:=by
 refine Gck h ?_;rintro(x|(v|_|_|_)) s' q
 .exact e x s' q
 all_goals first|exact k _ s' q|exact q.elim
theorem Bs(a:Value){R:VSP}(h:R (.ref z.heap.objs.size) {z with heap:=z.heap.push (mW w)}):codeAny (model prog w) A (.call (.builtin "set.__new__") ⟨[.type "set",a],[]⟩) (wants R E) z:=by
 have c:=PySem.F.newCall_set_1 a;have q:Code.quiet (.builtin "set.__new__" ⟨[.type "set",a],[]⟩)=true:=plainId_quiet PySem.F.plain_set_new _;have sub:=PySem.sub_set_self;apply codeAny_of_tree;refine Gag (wpAny_of_eq c (Gaq ⟨q,Gcp PySem.F.entry_set_new ?_⟩));rw[Gcq PySem.F.plain_set_new]
 wp_walk using wpAny_askSetting
 exact h
theorem IH{l:Addr}{items:Array Value}{R:VSP}(hl:z.heap.IsList l items)
  (h:∀h1:Heap,h1.get? z.heap.objs.size=some (mW w)->h1.IsListIter (z.heap.objs.size+1) l 0->(∀b o,z.heap.get? b=some o->h1.get? b=some o)->
   codeAny (model prog w) A.in1.in1 (.builtin "set.update.loop" ⟨[.ref z.heap.objs.size,.ref (z.heap.objs.size+1)],[]⟩) (wants (λ_ s' =>R (.ref z.heap.objs.size) s') E) {z with heap:=h1}):
  wpAny (model prog w) A (call (.type "set") [.ref l]) R E z:=by
 obtain⟨c,tl,mro⟩:=Gbf.mro;have made:=Gbf.made;have sub:=Gbf.sub;have nt:=Gbf.notType;have cc:=Gbf.canCreate;have ct:=PySem.F.typeCall_set_1 (.ref l);apply wpAny_call;apply codeAny_of_tree;refine Gaq ⟨Code.quiet_builtin _ (by decide+kernel), ?_⟩;apply Gcp PySem.F.entry_type_call;rw[Around.under_plain (weight_type_call_type "set" [.ref l] []) rfl]
 wp_walk
 refine after (Bs (.ref l) (R:=λo y=>o= .ref z.heap.objs.size/\y={z with heap:=z.heap.push (mW w)}) ⟨rfl,rfl⟩) ?_ λ_ _ q=>q;rintro _ _ ⟨rfl,rfl⟩;have eS:(z.heap.push (mW w)).get? z.heap.objs.size=some (mW w):=Gaz _ rfl;have tS:Shared.TypeIs {z with heap:=z.heap.push (mW w)} (.ref z.heap.objs.size) "set":=⟨_,eS,rfl⟩
 have lo:=Gbf.init.lookup;have bi:=Gbf.init.bind (.ref z.heap.objs.size)
 wp_walk
 refine after (Q:=λr s' =>r= .none/\R (.ref z.heap.objs.size) s') (E:=E) ?_ (λv s' q=> ?_) λ_ _ q=>q
 .apply codeAny_call_builtin Gbf.init.plain PySem.F.entry_set_init;apply PySem.check_set_init_1 tS;obtain⟨⟨oc,od,dt,sl⟩,ho,hc,n,hd⟩:=hl;cases hc;cases hd
  have el:=Gae (mW w) ho;have s1:=PySem.F.sub_list_set;have s2:=PySem.F.sub_list_frozenset;have nd:(Value.type "list"==Value.type "dict")=false:=rfl;have il:(z.heap.push (mW w)).IsList l items:=⟨_,el,rfl,n,rfl⟩
  clear mro made nt cc ct lo bi
  wp_walk using GbZ il
  have sz:(z.heap.push (mW w)).objs.size=z.heap.objs.size+1:=Gbc ..;rw[show Shared.heap {z with heap:=z.heap.push (mW w)}=z.heap.push (mW w) from rfl,sz];exact after (h _ (Gae _ eS) ⟨_,sz▸Gaz _ rfl,rfl,rfl⟩ λb o q=>Gae _ (Gae _ q)) (λv s' q=>Gaq (Gaq ⟨rfl,q⟩)) λ_ _ q=>q
 .obtain⟨rfl,q⟩:=q
  wp_walk
  exact q
end
namespace Fr
end Fr
section
variable{prog:Program}{w:World}{A:Around}{E:VSP}{z:Shared}
inductive Way(w:World)(a:Addr)(es:Array (Int×Value))(ep:Nat)(t:SetTable)(h:Heap)(tp:Addr):Value->Nat->List (Int×Value)->Prop
 |text {i:Nat}:IG w=true->Way w a es ep t h tp (rawInt 0) i (pickOrder (w.params.setOrder a ep) es).toList
 |drawn {i:Nat} {ps:List Nat}:IsTup h tp (ps.map λ(j:Nat)=>rawInt j).toArray->ps.Perm (List.range es.size)->Way w a es ep t h tp (.ref tp) i (ps.map λj=>es.getD j (0,.none))
 |plain {i:Nat} {s:Nat}:IG w=false->¬(t.plain=false/\es.size>1)->Ris t.place->t.led=true->(s=if i=0 then 0 else t.place.getD (i -1) 0+1)->Way w a es ep t h tp (rawInt s) i es.toList
end
open PySem PySem.Spec PyProof.Rows
open PySem PySem.Spec PyProof.Rows L2
section
variable{X:Cx}{e a b c:Expr}{f g h:DE}{pos:Pos}{ef:LAO}{Z:St}{H:Hp}{s:Shared}
theorem kz:∀{ns:List Int} {us:List Value},Vals (ns.map V.int) us->IntsAre us ns
 |[],_,.nil=> .nil
 |n::ns,_,.cons h t=>by
  obtain⟨k,rfl⟩:=h;exact .cons n k (kz t)
end
namespace Fr
end Fr
open PySem PySem.Spec PyProof.Rows L2
theorem bS{N P:List Str}{sc:Scope}(a:autoParam (sc.kind= .function) Za1._auto_1)(b:autoParam (sc.isCoroutine=false) Za1._auto_1)(c:autoParam (sc.isGenerator=false) Za1._auto_1)(d:N.Nodup:=by decide+kernel)(e:autoParam (N.take P.length=P) Za1._auto_1)(f:∀x∈P,sc.names.lookup x=some .local\/sc.names.lookup x=some .cell:=by decide+kernel)(g:∀y∈sc.names,y.2≠ .free:=by decide+kernel):cX N P sc:=⟨a,b,c,d,e,f,g⟩
open PySem
def ae:D->D->Option RV
 | .tup [],.tup y=>some ⟨.c,.tup y⟩
 |x,y=>pH x y
noncomputable def II:Key->Option Int
 | .inl i=>some (hashInt i)
 | .inr _=>none
def uE:List Key->Option (List Int)
 |[]=>some []
 |k::ks=>match II k,uE ks with
  |some h,some hs=>some (h::hs)
  |_,_=>none
def keyHash(ks:List Key):Option Int:=(uE ks).map λhs=>reduceHash (Builtin.Tuple.tupleHashOf hs)
section
variable{X:Cx}{e a b c:Expr}{f g h:DE}{pos:Pos}
theorem Bt{prog:Program}{w:World}{A:Around}{E:VSP}{z:Shared}{t b:Addr}{ws:List Value}{Q:VSP}(ht:IsTup z.heap t #[])(hb:IsTup z.heap b ws.toArray)(h:Q (.ref b) z):wpAny (model prog w) A (binaryOp .Add (.ref t) (.ref b)) Q E z:=by
 obtain⟨⟨cls,dd,data,sl⟩,ho,hc,n,hd⟩:=id ht;obtain⟨⟨Q9,zG,data2,zq⟩,yj,zd,n2,hd2⟩:=id hb;simp only at hc hd zd hd2;subst hc hd zd hd2;exact concat_meets ⟨_,ho,rfl⟩ ⟨_,yj,rfl⟩ noFill_tuple_add seq_tuple_add Gcc GbY (GbT _ _)
  (tuple_addW0 t b #[] ws.toArray n n2 dd zG sl zq (by simp)) ⟨ho,yj,h⟩
def Gj(K:ai):R2:=λx y H Q=>∃a b ys,x= .ref a/\y= .ref b/\SqT K H a []/\SqT K H b ys/\Q (.ref b) H
theorem EK:OpR X (binaryOp .Add) (Gj X.K):=by
 intro ef s Z H x y v u Q I rx ry h;obtain⟨a,b,ys,rfl,rfl,ha,hb,q⟩:=h;cases rx;cases ry;obtain⟨eh,r1,p1,_⟩:=I.tuple ha;obtain⟨eF,r2,p2,_⟩:=I.tuple hb;have e:eh=[]:=r1.bP.mpr rfl;subst e;exact Bt p1 p2 ⟨.ref b,H,I,rfl,q⟩
theorem Bu:OpD X ae (λx y H Q=>Gj X.K x y H Q\/AD X.K x y H Q):=by
 intro F H dx dy x y rv Q ix iy e k;unfold ae at e;split at e
 .cases e;cases ix with
  |tup hx rx=>
   cases iy with
   |tup hy ry=>
    have:=rx.ne.mpr rfl;subst this;exact .inl ⟨_,_,_,rfl,rfl,SqT.of hx,SqT.of hy,k _ H aT (.tup hy ry.1 ry.2)⟩
 .exact .inr (DY F H dx dy x y rv Q ix iy e k)
theorem EM(ha:PEd X a f)(hb:PEd X b g):PEd X (.BinOp a .Add b pos) (opE ae f g):=qH (EK.or DV) Bu ha hb
end
def FX(h:Heap)(a:Addr)(cls:Value)(dx:Option Addr)(vs:Array Value):Prop:=∃sl,h.get? a=some {cls:=cls,dict:=dx,data:= .fields vs,slots:=sl}
section
variable{prog:Program}{w:World}{A:Around}{E:VSP}{z:Shared}
theorem FX.lt{h:Heap}{a:Addr}{cls:Value}{dx:Option Addr}{vs:Array Value}(x:FX h a cls dx vs):a<h.objs.size:=let⟨_,q⟩:=x;Gan q
end
open PySem.W (findIn clsIn mroIn looks_findIn looks_clsIn looks_mroIn InstAt set_plain check_slot osa_eq Looks)
section
variable{prog:Program}{w:World}{A:Around}{E:VSP}{z:Shared}{K:PySem.W.Frag}
theorem lk{α:Type}{t:Sem α}{r:α}{Q:α->Shared->Prop}{n:Nat}(x:Looks (model prog w) z.heap t r)(q:Q r {z with toks:=n}):wpAny (model prog w) A t Q E {z with toks:=n}:=x _ _ _ _ (λ_ _ e=>e) q
end
open PySem.W (findIn clsIn mroIn looks_findIn looks_clsIn looks_mroIn InstAt check_slot Looks handedIn handedOut_of)
open PySem.W (findIn clsIn mroIn looks_findIn looks_clsIn looks_mroIn InstAt check_slot Looks handedIn handedOut_of keepIn readsIn findCls specialIn cls_value method_cls)
noncomputable abbrev bmV:List Value:=[.type "ValueError",.type "Exception",.type "BaseException",.type "object"]
structure XCl(K:PySem.W.Frag)(B C f:Addr)(n:Str):Prop where
 obj:∀h,K.In h->∃nm q N bs hd sn sub ab col dd k0 k1 k2 k3 k5 mN oI,h.get? C=some (excClassObj nm q C N bs (.ref B::bmV) hd sn sub ab col dd k0 k1 k2 k3 k5 "ValueError.__new__")/\OwnTail h bmV (.ref B::bmV)/\h.Ns N mN/\mN "__init__"=some (.ref f)/\h.get? f=some oI/\oI.cls= .type "function"
 st:findIn K (.ref C) "__setattr__"=some (some (.builtin "object.__setattr__"))
 ob:mroIn K C (.type "object")=some true
 cd:∃cd,clsIn K C=some cd/\cd.mro= .ref C:: .ref B::bmV/\cd.hasDict=true
 nf:findIn K (.ref C) n=some none
 ga:findIn K (.ref C) "__getattribute__"=some (some (.builtin "BaseException.__getattribute__"))
 gt:findIn K (.ref C) "__getattr__"=some none
 be:mroIn K C (.type "BaseException")=some true
 kp:keepIn K (.ref C)=true
def X1(a C dx:Addr):Heap->Prop:=λh=>∃t0,FX h a (.ref C) (some dx) #[.ref t0,.none,.none,.none,.bool false,.none]
open PySem.W (findIn clsIn mroIn looks_findIn looks_clsIn looks_mroIn InstAt check_slot Looks)
def X2(a C dx T:Addr):Heap->Prop:=λh=>∃t0,FX h a (.ref C) (some dx) #[.ref t0,.ref T,.none,.none,.bool false,.none]
inductive RX where
 |ok (d:D)
 |exc (C:Nat) (n:Str) (d:D)
inductive OX where
 |o (x:Out)
 |x (C:Nat) (n:Str) (d:D)
abbrev DX:=Env->Option OX
theorem _root_.L2.PA.nox{X:Cx}{es:List Expr}{t:TA}(h:PA X.nox es t):PA X es t:=λpos ef s Z H Q I hw=>
 Gbd (h pos ef s Z H Q (I.jy _) hw) (λ_ _ ⟨v,H',I',r,q⟩=> ⟨v,H',I'.dN,r,q⟩) λ_ _ z=>False.elim z
section
variable{X:Cx}{E:XK}{st:Stmt}{zK rest:List Stmt}{f:DS}{g g1 g2:DX}{c:Expr}{t:DT}{pos:Pos}
def XL(X:Cx)(E:XK):Prop:=∀(ef:LAO) (Z:L2.St) (H:Hp) (s:Shared) (a B C f dx:Addr) (n:Str) (v:V),Inv X ef Z H s->XCl X.K B C f n->X.s₀.heap.objs.size<=a->H a=some (.ext (X1 a C dx))->H dx=some (.xd [(n,v)])->(∀T,E (.ref C) (some dx) (upd H a (.ext (X2 a C dx T))))->X.xe (.ref a) s
end
theorem lZ.mono{K:ai}{H0 H H' :Hp}{eg:Addr->Prop}{env:Env}{Z:St}(k:lZ H0 H env Z)(EO:au K H0 eg env Z H)(s:bu H H'):lZ H0 H' env Z:=λj C ns ds ej a dx vs ea h ln=>by
 obtain⟨a3,zi,zI,q1,_,_,q4,q5,_⟩:=EO.lM ej;rw[ea] at q1;cases q1
 have:=s _ _ q4;rw[h] at this;injection this with this;injection this with _ _ this
 have:=zip_inj ln q5 this;subst this;exact k j C ns ds ej a zi vs ea q4 q5
section
variable{X:Cx}{H0:Hp}{Pn:Nat->V->Prop}{E:XK}{C:Addr}{n:Str}{e o:Expr}{f g:DE}{pos p:Pos}{i:Nat}{x:Str}
theorem dB{env:Env}{d:D}(h:jZ i env=some d):env[i]? =some (some (.lok d)):=by
 unfold jZ at h;split at h
 .rename_i q;cases h;exact q
 .cases h
variable{px fp:Pos}
theorem ER{apos eD:Pos}(cl:L2.Cls X.K C)(na:bO X.K C n)(hN:X.N[i]? =some x)(hv:Vis X.env.scope x)(hd:(x==("__debug__":Str))=false)(eQ:(x==("__classdict__":Str))=false)(he:PEd X.nox e f)(eU:starEach [e] X.env=[(false,eval e X.env)])(eK:(apos.endLine==eD.line)=true):
  PS X (.Expr (.Call (.Attribute (.Attribute (.Name x px) n fp) "append" apos) [e] [] eD) pos) (tW X H0 Pn E (wt i C n f)):=by
 refine(jz (oj Gbo PySem.F.slot_list_append PySem.F.type_list_append ku (rW (cK hN hv hd eQ) rfl) (PA.nox (bV he dQ eU)) rfl (by rw[eU];rfl) eK eU rfl) rfl).ao ?_;rintro D Z H ⟨env,o,⟨eg,EO,p,k⟩,e,ok⟩;obtain⟨r,hr,e⟩:=ee e;split at e
 .rename_i q;obtain⟨d',eX,rfl⟩:=Gaa.mp e;obtain⟨d,hl,hp⟩:=ee eX;have el:=dB hl;obtain⟨a,dx,fs,g0,us,l,l',ea,ha,hg,yw,_⟩:=bj.kid (Pn:=Pn) EO p k q.2 el hp;refine⟨_,ea,a,C,dx,fs,.ref g0,rfl,ha,cl,na,hg,.inl ⟨rfl,us,.inl (.inl yw)⟩,H0,eg,env,[r],EO,by unfold af az;rw[hr];rfl,λws H2 s2 Rs=> ?_⟩;cases Rs with
  | @cons _ v _ _ R1 tl=>
   cases tl;have E2:=EO.mono s2;have k2:=k.mono EO s2;obtain⟨a',zF,Q5,g',xI,l2,zU,yH,Q2,yk,yF,rs,yn,im,fin⟩:=bj.kid (Pn:=Pn) E2 p k2 q.2 el hp;rw[ea] at yH;cases yH
   have:=s2 _ _ ha;rw[Q2] at this;cases this
   rw[hg] at yk;cases yk
   unfold jl at yn;split at yn
   .rename_i sz;cases yn;refine⟨g0,xI,v,rfl,rfl,yF,by rw[<-rs.1,<-eE];exact sz, ?_⟩;exact ok Z _ (fin _ (rs.append (.cons (R1.inn.imm q.1) .nil)))
   .cases yn
 .cases e
theorem Bv{p2:Pos}{k:Expr}(cl:L2.Cls X.K C)(na:bO X.K C n)(hu:X.A.units+1<cLine)(hN:X.N[i]? =some x)(hv:Vis X.env.scope x)(hd:(x==("__debug__":Str))=false)(eQ:(x==("__classdict__":Str))=false)(he:PEd X.nox e f)(hk:PEd X.nox k (kE (.int (-1))))(hs:swapsWith e (some (.Subscript (.Attribute (.Name x px) n fp) k p2)) pos.line X.env=pure false):
  PS X (.Assign [.Subscript (.Attribute (.Name x px) n fp) k p2] e pos) (tW X H0 Pn E (lN i C n f)):=by
 refine(Bf hu (rW (cK hN hv hd eQ) rfl) (PE.nox hk) (PE.nox he) hs).ao ?_;rintro D Z H ⟨env,o,⟨eg,EO,p,kn⟩,e,ok⟩;obtain⟨r,hr,e⟩:=ee e;split at e
 .rename_i q;obtain⟨d',eX,rfl⟩:=Gaa.mp e;obtain⟨d,hl,hp⟩:=ee eX;have el:=dB hl;refine⟨H0,eg,env,r,EO,hr,λv H2 s2 R1=> ?_⟩;have E2:=EO.mono s2;have k2:=kn.mono EO s2;obtain⟨a,dx,fs,g0,us,l,l',ea,ha,hg,yw,_⟩:=bj.kid (Pn:=Pn) E2 p k2 q.2 el hp;refine⟨_,ea,a,C,dx,fs,.ref g0,rfl,ha,cl,na,hg,H0,eg,env,_,E2,rfl,λw H3 s3 R3=> ?_⟩;have E3:=E2.mono s3;have k3:=k2.mono E2 s3;obtain⟨a',zF,Q5,g',xI,l2,zU,yH,Q2,yk,yF,rs,yh,im,fin⟩:=bj.kid (Pn:=Pn) E3 p k3 q.2 el hp;rw[ea] at yH;cases yH
  have:=s3 _ _ ha;rw[Q2] at this;cases this
  rw[hg] at yk;cases yk
  have iw:=R3.inn;cases iw;unfold fM at yh;split at yh
  .cases yh
  .rename_i nz;cases yh;have lz:=rs.1;refine .inl ⟨g0,xI,-1,xI.length -1,rfl,rfl,yF, ?_, ?_⟩
   .unfold ixN;rw[Gam (by lia),Gak (by lia)];exact congrArg some (by lia)
   .have:=fin _ (rs.set (Rep.imp (λ_ z=>z.elim) ((R1.inn.same s3).imm (F' :=λ_=>False) q.1)) (l2.length -1));rw[lz] at this;exact ok Z _ (lz▸this)
 .cases e
end
def pT(C:Nat)(n:Str)(d:D):D->Option D
 | .obj C' ns ds=>if C' =C/\fU ds=true/\ns.length<1000/\jP d=false then(ns.findIdx? λm=>m==n).bind λk=>match ds[k]? with
  |some (.kid _)=>none
  |some _=>some (.obj C ns (ds.set k d))
  |none=>none
  else none
 |_=>none
@[simp] def ES(i C:Nat)(n:Str)(f:DE):DW:=Ew i (pT C n) f
theorem qY{n:Str}{y:V}:∀{ns:List Str} {vs:List V} {k:Nat},ns.length=vs.length->(ns.findIdx? λm=>m==n)=some k->fG n y (ns.zip vs)=ns.zip (vs.set k y)
 |[],vs,k,_,h=>by simp at h
 |m::ns,[],k,l,_=>by simp at l
 |m::ns,v::vs,k,l,h=>by
  rw[Gbq] at h;rw[Gbb];unfold fG;cases q:m==n with
  |true=>rw[q] at h;cases h;rw[Gak (GaK.mp q)];rfl
  |false=>
   rw[q] at h;obtain⟨j,hj,rfl⟩:=Gaa.mp h;rw[Gam (GaX.mp q),qY (by simpa using l) hj]
   rfl
theorem bj.fld{K:ai}{H0 H:Hp}{Pn:Nat->V->Prop}{C:Nat}{n:Str}{env:Env}{Z:St}{i:Nat}{d d' x:D}{v:V}{eg:Addr->Prop}(EO:au K H0 eg env Z H)(pn:Pnd Pn env Z)(kn:lZ H0 H env Z)(fl:i9 [i] env=true)(e:env[i]? =some (some (.lok d)))(im:x.imm=true)(rx:Rep K (Cln eg env Z) H x v)(hp:pT C n x d=some d'):
  ∃a dx fs,Z[i]? =some (some (.ref a))/\H a=some (.ins C dx fs)/\fs.length<1000/\bj K H0 Pn (env.set i (some (.lok d'))) Z (upd H a (.ins C dx (fG n v fs))):=by
 unfold pT at hp;split at hp
 .rename_i C' ns ds;split at hp
  .rename_i q;obtain⟨rfl,hf,hn,sc⟩:=q;obtain⟨k,hk,hp⟩:=ee hp;have:∃d0,ds[k]? =some d0/\(∀l,d0≠ .kid l)/\d' = .obj C' ns (ds.set k x):=by
    split at hp
    .cases hp
    .rename_i d0 nk e0;cases hp;exact⟨d0,e0,λl z=>nk l z,rfl⟩
    .cases hp
   obtain⟨d0,hl,nk,rfl⟩:=this;obtain⟨a,dx,vs,ea,z0,zb,ha,ln,kd,rs⟩:=EO.lM e;refine⟨a,dx,_,ea,ha,by rw[List.length_zip,<-ln];lia, ?_⟩;rw[qY ln hk];have hk' :k<ds.length:=(Gab.mp hl).1;have hkv:k<vs.length:=by rw[<-rs.1];exact hk'
   have hi:i<env.length:=(Gab.mp e).1;generalize hu:HO.ins C' dx (ns.zip (vs.set k v))=u;have stT:∀b o,H b=some o->isT o->upd H a u b=some o:=λb o eb t=>by
    rw[aw];exact eb
    rintro rfl;rw[ha] at eb;cases eb;exact t
   have xim:∀l,x≠ .kid l:=λl z=>by subst z;simp[D.imm] at im
   have inn:Inn K (Cln eg env Z) (upd H a u) (.obj C' ns (ds.set k x)) (.ref a):=by
    refine .obj (vs:=vs.set k v) (by rw[ax,hu]) (by simpa using ln) (λy z l2 g2 e1 e2 e3=> ?_) ⟨by simpa using rs.1,λj dj vj e1 e2=> ?_⟩
    .have ny:k≠y:=λw=>by subst w;rw[Gav hk'] at e1;cases e1;exact xim _ rfl
     rw[Gac ny] at e1 e2;by_cases w:k=z
     .subst w;rw[Gav hkv] at e3;cases e3
      exfalso;cases rx with
      |tup h l r=>obtain⟨vv,q1,q2⟩:=rs.get e1;rw[e2] at q1;cases q1;cases q2 with|kid f h2 l2 r2=>rw[h] at h2;cases h2
      |scr h=>cases sc
      |kt h=>cases sc
      |exc h r=>cases sc
      |lst f h l r=>simp[D.imm] at im
      |dK f h l r=>simp[D.imm] at im
      |dT f h l r=>simp[D.imm] at im
      |obj f h ln kd l r=>simp[D.imm] at im
      |kid f h l r=>simp[D.imm] at im
     .rw[Gac w] at e3;exact kd y z l2 g2 e1 e2 e3
    .by_cases w:k=j
     .subst w;rw[Gav hk'] at e1;cases e1
      rw[Gav hkv] at e2;cases e2
      exact rx.bQ stT im
     .rw[Gac w] at e1 e2;have fj:=Gao.mp hf dj (GaD e1);have rj:=rs.2 j dj vj e1 e2;cases rj with
      | @kid g2 us2 l2 f2 h2 ll r2=>
       have n2:g2≠a:=λz=>by subst z;rw[ha] at h2;cases h2
       have:=aH.bQ (K:=K) (F:=Cln eg env Z) (F' :=Cln eg env Z) (ds:=l2) (vs:=us2) stT ⟨ll,r2⟩ fj;exact .kid f2 (by rw[aw n2];exact h2) this.1 this.2
      |obj f h ln kd l r=>simp[D.imm] at fj
      |lst f h l r=>simp[D.imm] at fj
      |dK f h l r=>simp[D.imm] at fj
      |dT f h l r=>simp[D.imm] at fj
      |non=>exact .non
      |bl b=>exact .bl b
      |int i=>exact .int i
      |str x=>exact .str x
      |tup h l r=>exact(Rep.tup h l r).bQ stT fj
      |scr h=>exact(Rep.scr (F:=Cln eg env Z) h).bQ stT fj
      |kt h=>exact .kt h
      |exc h r=>exact(Rep.exc h r).bQ stT fj
   have re:ReE [i] (λ_=> .obj C' ns (ds.set k x)) env (env.set i (some (.lok (.obj C' ns (ds.set k x))))):=⟨by simp,λj hj=>Gac (by rintro rfl;simp at hj),λj hj=>by
    obtain rfl:j=i:=by simpa using hj
    exact⟨_,.inr ⟨e,bw hi⟩⟩⟩
   have hH:∀b o,H b=some o->upd H a u b=some o\/b=a:=λb o eb=>by
    by_cases z:b=a
    .exact .inr z
    .left;rw[aw z];exact eb
   refine bj.flat EO pn kn (EO.flat (A:=(· =a)) fl re hH (λb hb=> ?_) λj hj a' e' => ?_) re hH (λb hb=> .inl ⟨i,by simp,by rw[hb];exact ea⟩) λj hj C2 Qf xh z a' QA yI e' h2 ln2 k2 l2 g2 e3 e4=> ?_
   .subst hb;exact⟨z0,.inl ⟨i,by simp,ea⟩,λo eo=>by rw[ha] at eo;cases eo;trivial⟩
   .obtain rfl:j=i:=by simpa using hj
    rw[ea] at e';cases e'
    exact⟨⟨u,ax,by rw[<-hu];trivial⟩,rfl,inn⟩
   .obtain rfl:j=i:=by simpa using hj
    cases z;rw[ea] at e';cases e'
    rw[ax,<-hu] at h2;injection h2 with h2;injection h2 with _ _ h2
    have:=zip_inj (by simpa using ln) ln2 h2;subst this;have ny:k≠k2:=λw=>by subst w;rw[Gav hk'] at e3;cases e3;exact xim _ rfl
    rw[Gac ny] at e3 e4;exact kn j C' ns ds e a dx vs ea ha ln k2 l2 g2 e3 e4
  .cases hp
 .cases hp
section
variable{X:Cx}{H0:Hp}{Pn:Nat->V->Prop}{E:XK}{C:Addr}{n:Str}{e:Expr}{f:DE}{pos:Pos}{i:Nat}{x:Str}
theorem ET{px fp:Pos}(cl:L2.Cls X.K C)(na:bO X.K C n)(hN:X.N[i]? =some x)(hv:Vis X.env.scope x)(hd:(x==("__debug__":Str))=false)(eQ:(x==("__classdict__":Str))=false)(he:PEd X.nox e f)(hs:swapsWith e (some (.Attribute (.Name x px) n fp)) pos.line X.env=pure false):
  PS X (.Assign [.Attribute (.Name x px) n fp] e pos) (tW X H0 Pn E (ES i C n f)):=by
 refine(rX (cK hN hv hd eQ) (PE.nox he) hs).ao ?_;rintro D Z H ⟨env,o,⟨eg,EO,p,kn⟩,e,ok⟩;obtain⟨r,hr,e⟩:=ee e;split at e
 .rename_i q;obtain⟨d',eX,rfl⟩:=Gaa.mp e;obtain⟨d,hl,hp⟩:=ee eX;have el:=dB hl;refine⟨H0,eg,env,r,EO,hr,λv H2 s2 R1=> ?_⟩;obtain⟨a,dx,fs,ea,ha,hz,fin⟩:=bj.fld (Pn:=Pn) (EO.mono s2) p (kn.mono EO s2) q.2 el q.1 (R1.inn.imm q.1) hp;exact⟨_,ea,a,C,dx,fs,rfl,ha,cl,na,hz,ok Z _ fin⟩
 .cases e
end
def k9(J:List Nat)(k:Nat)(d:D):Slot:=if J.contains k then .lok d else if d.top then .bor d else .sh d
def bX(J:List Nat)(n:Nat)(ds:List D):Env:=(ds.mapIdx λk d=>some (k9 J k d))++List.replicate (n -ds.length) none
def argsOk(J:List Nat)(ds:List D):Bool:=(List.range ds.length).all λk=>J.contains k||match ds[k]? with
 |some d=>d.ba
 |none=>true
def flK:D->Bool
 | .obj _ _ ds=>fU ds
 |d=>d.ba
def j5(e:Env):List Nat->Option (List D)
 |[]=>some []
 |j::J=>(jZ j e).bind λd=>if flK d then(j5 e J).map λls=>d::ls else none
def sS(J:List Nat):jX->Option (D×List D)
 | .ret d e=>(j5 e J).map λls=>(d,ls)
 | .nx e=>(j5 e J).map λls=>(.non,ls)
 |_=>none
def fH(n np:Nat)(J:List Nat)(body:DW):SpX:=λds=>if ds.length=np/\argsOk J ds=true then(body (bX J n ds)).bind (sS J) else none
def sT(K:ai)(A:Addr->Prop)(J:List Nat)(vs:List V)(H:Hp)(d:D)(v:V):Prop:=∃a,v= .ref a/\A a/\Wr H a/\d.top=true/\Inn K (λb=>A b/\∀j∈J,vs[j]? ≠some (.ref b)) H d v
def Bw(K:ai)(A:Addr->Prop)(H:Hp)(d:D)(v:V):Prop:=(d.top=true/\∃a,v= .ref a/\¬A a/\Wr H a/\Inn K (λb=>¬A b) H d v)\/(d.top=false/\Rep K (λb=>¬A b) H d v)
def Bx(K:ai)(A:Addr->Prop)(J:List Nat)(vs:List V)(H H' :Hp)(ls:List D):Prop:=∀(m j:Nat) l,J[m]? =some j->ls[m]? =some l->∃a,vs[j]? =some (.ref a)/\Wr H' a/\l.top=true/\flK l=true/\Inn K (λb=>(A b\/H b=none)/\∀j∈J,vs[j]? ≠some (.ref b)) H' l (.ref a)
noncomputable def spW(K:ai)(np:Nat)(J:List Nat)(sp:SpX):Sp:=λvs H Q _=>∃ds d ls A,ds.length=np/\ds.length=vs.length/\sp ds=some (d,ls)/\(∀b,A b->H b≠none)/\
 (∀(k:Nat) d v,ds[k]? =some d->vs[k]? =some v->(k∈J/\sT K A J vs H d v)\/(k∉J/\Bw K A H d v))/\(∀i∈J,∀j∈J,∀v,vs[i]? =some v->vs[j]? =some v->i=j)/\
 ∀v H',(∀b o,H b=some o->¬A b->H' b=some o)->Rep K (λ_=>False) H' d v->ls.length=J.length->Bx K A J vs H H' ls->Q v H'
open Classical in
noncomputable def hole(A:Addr->Prop)(H:Hp):Hp:=λb=>if A b then none else H b
variable{b:Addr}{H:Hp}
theorem uF{A:Addr->Prop}(h:A b):hole A H b=none:=by unfold hole;rw[Gak h]
theorem mX{A:Addr->Prop}(h:¬A b):hole A H b=H b:=by unfold hole;rw[Gam h]
theorem By{A:Addr->Prop}{o:HO}(e:hole A H b=some o):H b=some o:=by
 unfold hole at e;split at e
 .cases e
 .exact e
theorem mY{e:Env}:∀{J:List Nat} {ls:List D},j5 e J=some ls->ls.length=J.length/\∀(m j:Nat) l,J[m]? =some j->ls[m]? =some l->e[j]? =some (some (.lok l))/\flK l=true
 |[],ls,h=>by cases h;exact⟨rfl,λm j l q=>by simp at q⟩
 |j::J,ls,h=>by
  unfold j5 at h;obtain⟨d,hd,h⟩:=ee h;split at h
  .rename_i fk;obtain⟨r,hr,rfl⟩:=Gaa.mp h;obtain⟨a1,a2⟩:=mY hr;refine⟨by simp[a1],λm i l q1 q2=> ?_⟩;cases m with
   |zero=>simp at q1 q2;subst q1;subst q2;exact⟨dB hd,fk⟩
   |succ m=>exact a2 m i l (by simpa using q1) (by simpa using q2)
  .cases h
section
variable{K:ai}{A:Addr->Prop}{J:List Nat}{N:List Str}{ds:List D}{vs:List V}{H:Hp}
theorem wF{n k:Nat}{s:Slot}(e:(bX J n ds)[k]? =some (some s)):∃d,ds[k]? =some d/\s=k9 J k d:=by
 unfold bX at e;by_cases hk:k<ds.length
 .rw[GaM (by simpa using hk),List.getElem?_mapIdx] at e;obtain⟨d,h1,h2⟩:=Gaa.mp e;exact⟨d,h1,by injection h2 with h2;exact h2.symm⟩
 .rw[GaR (by simpa using hk),Gbm] at e;split at e<;>cases e
theorem qZ{k:Nat}{v:V}(h:vs[k]? =some v):(start N vs)[k]? =some (some v):=by
 have hk:=(Gab.mp h).1;unfold L2.start;rw[GaM (by simpa using hk),Gap,h];rfl
theorem mZ(hl:ds.length<=N.length)(l:ds.length=vs.length)(ha:argsOk J ds=true)(hA:∀b,A b->H b≠none)
  (yR:∀(k:Nat) d v,ds[k]? =some d->vs[k]? =some v->(k∈J/\sT K A J vs H d v)\/(k∉J/\Bw K A H d v))(hd:∀i∈J,∀j∈J,∀v,vs[i]? =some v->vs[j]? =some v->i=j):
  au K (hole A H) (λ_=>False) (bX J N.length ds) (start N vs) H/\lZ (hole A H) H (bX J N.length ds) (start N vs):=by
 have okr:∀{k d},ds[k]? =some d->k∉J->d.ba=true:=λ{k d} e nj=>by
  have hk:=(Gab.mp e).1;have:=Gao.mp ha k (Gbp.mpr hk);rw[Gbh,e] at this;exact this.resolve_left λz=>nj (by simpa using z)
 have at_:∀{k s},(bX J N.length ds)[k]? =some (some s)->∃d v,ds[k]? =some d/\vs[k]? =some v/\(start N vs)[k]? =some (some v)/\s=k9 J k d/\((k∈J/\s= .lok d/\sT K A J vs H d v)\/(k∉J/\d.top=true/\s= .bor d/\∃a,v= .ref a/\¬A a/\Wr H a/\Inn K (λb=>¬A b) H d v)\/(k∉J/\d.top=false/\s= .sh d/\Rep K (λb=>¬A b) H d v)):=λ{k s} e=>by
  obtain⟨d,h1,rfl⟩:=wF e;have hk:=(Gab.mp h1).1;have hv:vs[k]? =some vs[k]:=Gaf (by rw[<-l];exact hk);refine⟨d,_,h1,hv,qZ hv,rfl, ?_⟩;rcases yR k d _ h1 hv with⟨h,z⟩| ⟨h,⟨t,z⟩| ⟨t,z⟩⟩
  .exact .inl ⟨h,by unfold k9;rw[Gak (by simpa using h)],z⟩
  .exact .inr (.inl ⟨h,t,by unfold k9;rw[Gam (by simpa using h),Gak t],z⟩)
  .exact .inr (.inr ⟨h,t,by unfold k9;rw[Gam (by simpa using h),Gam (by rw[t];simp)],z⟩)
 have eV:∀{j b},bg (bX J N.length ds)[j]? ->(start N vs)[j]? =some (some (.ref b))->vs[j]? =some (.ref b)/\((j∈J/\A b)\/¬A b):=λ{j b} t ej=>by
  match e:(bX J N.length ds)[j]?,t with
  |some (some s),t=>
   obtain⟨d,v,_,q2,q3,_,q⟩:=at_ e;rw[q3] at ej;cases ej
   refine⟨q2, ?_⟩;rcases q with⟨h,_,a,z,aa,_⟩| ⟨_,_,_,a,z,aa,_⟩| ⟨_,_,rfl,_⟩
   .cases z;exact .inl ⟨h,aa⟩
   .cases z;exact .inr aa
   .exact t.elim
 have cln:∀b,A b/\(∀j∈J,vs[j]? ≠some (.ref b))->Cln (λ_=>False) (bX J N.length ds) (start N vs) b:=λb h=> ⟨λz=>z,λj t ej=>by
  obtain⟨q1,⟨q2,_⟩|q2⟩:=eV t ej
  .exact h.2 j q2 q1
  .exact q2 h.1⟩
 refine⟨⟨λb o e=>By e,by simp[DL.bX,L2.start,l],λ_ h=>h.elim,λk d e=> ?_,λk d e=> ?_,λk d e=> ?_,λi j b t1 t2 e1 e2=> ?_⟩,λk C ns ks e a dx us ea h ln m l g e1 e2=> ?_⟩
 .obtain⟨d0,v,q1,q2,q3,_,q⟩:=at_ e;rcases q with⟨_,z,_⟩| ⟨_,_,z,_⟩| ⟨nj,t,z,r⟩
  .cases z
  .cases z
  .cases z;have:=okr q1 nj;have im:d.imm=true:=by cases d<;>first|exact this|cases t
   exact⟨v,q3,r.imm im⟩
 .have e' :∃s,(bX J N.length ds)[k]? =some (some s)/\(s= .own d\/s= .lok d):=e.elim (λe=> ⟨_,e,.inl rfl⟩) λe=> ⟨_,e,.inr rfl⟩;obtain⟨s,e',hs⟩:=e';obtain⟨d0,v,q1,q2,q3,_,q⟩:=at_ e';rcases q with⟨_,z,a,rfl,aa,w,t,i⟩| ⟨_,_,z,_⟩| ⟨_,_,z,_⟩
  .rcases hs with hs|hs
   .rw[z] at hs;cases hs
   .rw[z] at hs;cases hs
    exact⟨a,q3,uF aa,λz=>z,w,t,i.imp cln⟩
  .rcases hs with hs|hs<;>rw[z] at hs<;>cases hs
  .rcases hs with hs|hs<;>rw[z] at hs<;>cases hs
 .obtain⟨d0,v,q1,q2,q3,_,q⟩:=at_ e;rcases q with⟨_,z,_⟩| ⟨nj,t,z,a,rfl,na,w,i⟩| ⟨_,_,z,_⟩
  .cases z
  .cases z;exact⟨a,q3,w,t,i.bQ (λ_ _ q _=>q) t (okr q1 nj) rfl⟩
  .cases z
 .obtain⟨q1,z1⟩:=eV t1.top e1;obtain⟨q2,z2⟩:=eV t2 e2
  match e:(bX J N.length ds)[i]?,t1 with
  |some (some s),t1=>
   obtain⟨d,v,p1,p2,_,_,q⟩:=at_ e;rcases q with⟨h,_,a,z,aa,_⟩| ⟨_,_,rfl,_⟩| ⟨_,_,rfl,_⟩
   .rw[q1] at p2;cases p2;cases z
    rcases z2 with⟨hj,_⟩|na
    .exact hd i h j hj _ q1 q2
    .exact absurd aa na
   .exact t1.elim
   .exact t1.elim
 .obtain⟨d0,v,q1,q2,q3,_,q⟩:=at_ e;rcases q with⟨_,z,a',rfl,aa,w,t,i⟩| ⟨_,_,z,_⟩| ⟨_,_,z,_⟩
  .cases z;rw[q3] at ea;cases ea
   cases i with
   |obj h' ln' kd r=>
    rw[h] at h';injection h' with h';injection h' with _ _ h'
    have:=zip_inj ln ln' h';subst this;obtain⟨vv,w1,w2⟩:=r.get e1;rw[e2] at w1;cases w1
    cases w2 with
    |kid f _ _ _=>exact uF f.1
  .cases z
  .cases z
end
theorem n6{K:ai}{F F' :Addr->Prop}{H:Hp}{l:D}{a:Addr}(h:Inn K F H l (.ref a))(t:l.top=true)(fk:flK l=true)(hk:∀C ns ds,l= .obj C ns ds->∀dx vs,H a=some (.ins C dx (ns.zip vs))->ns.length=vs.length->∀(k:Nat) q g,ds[k]? =some (.kid q)->vs[k]? =some (.ref g)->F g->H g≠none->F' g):Inn K F' H l (.ref a):=by
 cases h with
 |lst h r=>exact .lst h (r.imm fk)
 |dK h r=>exact .dK h (Ef r fk)
 |dT h r=>exact .dT h (Ef r fk)
 | @obj _ dx C ns vs ds h ln kd r=>
  refine .obj h ln kd ⟨r.1,λj dj vj e1 e2=> ?_⟩;have fj:=Gao.mp fk dj (GaD e1);have rj:=r.2 j dj vj e1 e2;cases rj with
  | @kid g us l2 f2 h2 ll r2=>exact .kid (hk C ns ds rfl dx vs h ln j l2 g e1 e2 f2 (by rw[h2];simp)) h2 ll λi d v q1 q2=>(r2 i d v q1 q2).imm (jS fj i d q1)
  |obj f h ln kd l r=>simp[D.imm] at fj
  |lst f h l r=>simp[D.imm] at fj
  |dK f h l r=>simp[D.imm] at fj
  |dT f h l r=>simp[D.imm] at fj
  |non=>exact .non
  |bl b=>exact .bl b
  |int i=>exact .int i
  |str x=>exact .str x
  |tup h l r=>exact(Rep.tup h l r).imm fj
  |scr h=>exact .scr h
  |kt h=>exact .kt h
  |exc h r=>exact(Rep.exc h r).imm fj
 |_=>simp[D.top] at t
section
variable{P:Program}{w:World}{K:ai}{mg:Str->Option Value}{base:Heap}{x qual:Str}{sd:Stmt}{fa:Addr}{fd:FuncData}{N ps:List Str}{k np:Nat}{J:List Nat}{body:DW}
theorem IJ(F:Fun K x qual sd fa fd)(S:cX N ps (ay sd))(xX:ps.length=np)(hJ:∀j∈J,j<np)
  (xa:∀(eL:Value) (A:Around) (outer:List PySem.Env) (s:Shared) (H:Hp) (E:XK),cw k (A.deeper (envOfC qual (ay sd) s.heap.objs.size fa eL))->∀(H0:Hp) (Pn:Nat->V->Prop) (E' :XK),
   PSs (jc CX0 P w K mg base N qual (ay sd) fa eL A outer s H E) (cp sd) (tW (jc CX0 P w K mg base N qual (ay sd) fa eL A outer s H E) H0 Pn E' body)):cy P w K mg base CX0 (k+1) fa fd ps (spW K np J (fH N.length np J body)):=by
 obtain⟨oc,od,kV,doc,pm,an,eL,ct,ye,rfl,lk,eQ⟩:=F.ex;refine Al lk eQ S (λvs H Q E h=> ?_) λA outer s H vs Q E hr h=> ?_
 .obtain⟨ds,_,_,_,h1,h2,_⟩:=h;rw[<-h2,h1,xX]
 .obtain⟨ds,d,ls,AA,h1,h2,h3,h4,h5,h6,fin⟩:=h;unfold fH at h3;split at h3
  .rename_i q;obtain⟨o,ho,h3⟩:=ee h3;have hl:ds.length<=N.length:=by
    have:=congrArg List.length S.pre;rw[GaQ] at this;lia
   obtain⟨EO,kn⟩:=mZ (N:=N) hl h2 q.2 h4 h5 h6;refine⟨_,xa eL A outer s H E hr (hole AA H) (λk v=>k∈J/\vs[k]? =some v) (λ_ _ _=>False),bX J N.length ds,o,⟨_,EO,λp v z _=>qZ z.2,kn⟩,ho, ?_⟩;have back:∀{e:Env} {Z:L2.St} {H' :Hp} {ls:List D},bj K (hole AA H) (λk v=>k∈J/\vs[k]? =some v) e Z H' ->j5 e J=some ls->(∀b o,H b=some o->¬AA b->H' b=some o)/\ls.length=J.length/\Bx K AA J vs H H' ls:=λ{e Z H' ls} EW yv=>by
    obtain⟨eg,E1,pn,kn⟩:=EW;obtain⟨z1,z2⟩:=mY yv;refine⟨λb o eb na=>E1.same b o (by rw[mX na];exact eb),z1,λm j l e1 e2=> ?_⟩;obtain⟨z3,z4⟩:=z2 m j l e1 e2;have Qo:j∈J:=GaD e1;obtain⟨a,q1,_,_,q4,q5,q6⟩:=E1.ow j l (.inr z3);have pin:∀i∈J,∀b,vs[i]? =some (V.ref b)->lY e[i]? /\Z[i]? =some (some (.ref b)):=λi hi b hb=>by
     obtain⟨m',hm⟩:=GaN hi;have eZ:m' <ls.length:=by rw[z1];exact(Gab.mp hm).1
     obtain⟨z5,_⟩:=z2 m' i _ hm (Gaf eZ);have lb:lY e[i]? :=by rw[z5];trivial
     exact⟨lb,pn i _ ⟨hi,hb⟩ lb⟩
    have hjl:j<vs.length:=by rw[<-h2,h1];exact hJ j Qo
    have hv:vs[j]? =some vs[j]:=Gaf hjl;have lb:lY e[j]? :=by rw[z3];trivial
    have:=pn j _ ⟨Qo,hv⟩ lb;rw[q1] at this;injection this with this;injection this with this
    rw[<-this] at hv;refine⟨a,hv,q4,q5,z4,n6 q6 q5 z4 λC ns ds z dx us ha ln k q g w1 w2 cg _=> ⟨?_,λi hi y=> ?_⟩⟩
    .subst z;have:=kn j C ns ds z3 a dx us q1 ha ln k q g w1 w2;by_cases y:AA g
     .exact .inl y
     .rw[mX y] at this;exact .inr this
    .obtain⟨y1,y2⟩:=pin i hi g y;exact cg.2 i y1.top y2
   cases o with
   |ret d' e=>
    obtain⟨QJ,yv,z⟩:=Gaa.mp h3;cases z
    exactλv Z H' EW r=>let⟨b1,b2,b3⟩:=back EW yv;fin v H' b1 r b2 b3
   |nx e=>
    obtain⟨QJ,yv,z⟩:=Gaa.mp h3;cases z
    exactλZ H' EW=>let⟨b1,b2,b3⟩:=back EW yv;fin .non H' b1 .non b2 b3
   |bk e=>cases h3
   |ct e=>cases h3
   |ex C n d=>cases h3
  .cases h3
end
inductive AW where
 |lent (j:Nat)
 |name (j:Nat)
 |val (f:DE)
noncomputable def iY(j:Nat)(env:Env):Option D:=match env[j]? with
 |some (some (.own d))=>some d
 |some (some (.lok d))=>some d
 |some (some (.bor d))=>some d
 |_=>none
def ic(j:Nat)(env:Env):Option D:=match env[j]? with
 |some (some (.own d))=>if d.ba then some d else none
 |some (some (.lok d))=>if flK d then some d else none
 |_=>none
def Bz(env:Env):AW->Option D
 | .lent j=>ic j env
 | .name j=>(iY j env).bind λd=>if d.ba then some d else none
 | .val f=>(f env).bind λr=>if r.d.imm then some r.d else none
def n9(env:Env):List AW->Option (List D)
 |[]=>some []
 |a::as=>(Bz env a).bind λd=>(n9 env as).map λds=>d::ds
noncomputable def cq(k:Nat):List AW->List Nat
 |[]=>[]
 | .lent _::as=>k::cq (k+1) as
 |_::as=>cq (k+1) as
noncomputable def bx:List AW->List Nat
 |[]=>[]
 | .lent j::as=>j::bx as
 |_::as=>bx as
noncomputable def ka:List AW->List Nat
 |[]=>[]
 | .name j::as=>j::ka as
 |_::as=>ka as
def ng:List Nat->List D->Env->Env
 |j::js,l::ls,env=>ng js ls (env.set j ((env[j]?.getD none).map (Slot.put l)))
 |_,_,env=>env
def cT(sp:SpX)(as:List AW)(env:Env):Option (D×Env):=if i9 (bx as) env=true/\(bx as).Nodup/\∀j∈ka as,j∉bx as then
  (n9 env as).bind λds=>(sp ds).bind λr=>if r.1.imm then some (r.1,ng (bx as) r.2 env) else none
 else none
abbrev DXW:=Env->Option (D×Env)
def tXw(X:Cx)(H0:Hp)(Pn:Nat->V->Prop)(m:DXW):TE:=λZ H Q=>∃env d eB,bj X.K H0 Pn env Z H/\m env=some (d,eB)/\∀v H',bj X.K H0 Pn eB Z H' ->d.imm=true->Rep X.K (λ_=>False) H' d v->Q v H'
def Mc(K:ai)(Z:St)(H:Hp)(d:D)(v:V):AW->Prop
 | .lent j=>Z[j]? =some (some v)
 | .name j=>Z[j]? =some (some v)
 | .val _=>d.imm=true/\Rep K (λ_=>False) H d v
def BA(K:ai)(Z:St)(H:Hp):List AW->List D->List V->Prop
 |[],[],[]=>True
 |a::as,d::ds,v::vs=>Mc K Z H d v a/\BA K Z H as ds vs
 |_,_,_=>False
def tAw(X:Cx)(as:List AW):TA:=λZ H Q=>∃H0 eg env ds,au X.K H0 eg env Z H/\n9 env as=some ds/\∀vs H',bu H H' ->BA X.K Z H' as ds vs->Q vs H'
section
variable{X:Cx}{e:Expr}{es:List Expr}{as:List AW}{f:DE}{j:Nat}{x:Str}{p:Pos}
theorem IK:PA X [] (tAw X []):=g7.ao λZ H Q ⟨_,_,_,ds,_,h,k⟩=>by cases h;exact k [] H aT trivial
theorem IL(he:PEd X.nox e f)(hr:PA X es (tAw X as))(hs:starEach (e::es) X.env=(false,eval e X.env)::starEach es X.env):PA X (e::es) (tAw X (.val f::as)):=by
 refine(cW (PE.nox he) hr hs).ao ?_;rintro Z H Q ⟨H0,eg,env,ds,EO,h,k⟩;obtain⟨d,hd,h⟩:=ee h;obtain⟨r,hr,rfl⟩:=Gaa.mp h;obtain⟨u,hu,hd⟩:=ee hd;split at hd
 .rename_i im;cases hd;refine⟨H0,eg,env,u,EO,hu,λv H1 s1 R=> ⟨H0,eg,env,r,EO.mono s1,hr,λvs H2 s2 A=>k _ H2 (s1.trans s2) ⟨⟨im,(R.inn.same s2).imm im⟩,A⟩⟩⟩
 .cases hd
theorem BC{a:AW}(ha:a= .lent j\/a= .name j)(hN:X.N[j]? =some x)(hv:Vis X.env.scope x)(hd:(x==("__debug__":Str))=false)(eQ:(x==("__classdict__":Str))=false)(hr:PA X es (tAw X as))(hs:starEach (.Name x p::es) X.env=(false,eval (.Name x p) X.env)::starEach es X.env):PA X (.Name x p::es) (tAw X (a::as)):=by
 refine(cW (cK hN hv hd eQ) hr hs).ao ?_;rintro Z H Q ⟨H0,eg,env,ds,EO,h,k⟩;obtain⟨d,hd,h⟩:=ee h;obtain⟨r,hr,rfl⟩:=Gaa.mp h;have:∃v,Z[j]? =some (some v):=by
  have top:bg env[j]? :=by
   rcases ha with rfl|rfl
   .have hd:ic j env=some d:=hd;unfold ic at hd;split at hd
    .rename_i q;rw[q];trivial
    .rename_i q;rw[q];trivial
    .cases hd
   .obtain⟨d',eX,_⟩:=ee hd;unfold iY at eX;split at eX
    .rename_i q;rw[q];trivial
    .rename_i q;rw[q];trivial
    .rename_i q;rw[q];trivial
    .cases eX
  obtain⟨_,a,_,h,_⟩:=EO.iY top;exact⟨_,h⟩
 obtain⟨v,hv⟩:=this;refine⟨v,hv,H0,eg,env,r,EO,hr,λvs H2 s2 A=>k _ H2 s2 ⟨?_,A⟩⟩;rcases ha with rfl|rfl<;>exact hv
end
theorem uG{K:ai}{Z:St}{H:Hp}{env:Env}:∀{as:List AW} {ds:List D} {vs:List V},BA K Z H as ds vs->n9 env as=some ds->as.length=ds.length/\ds.length=vs.length/\∀(k:Nat) d v,ds[k]? =some d->vs[k]? =some v->∃a,as[k]? =some a/\Mc K Z H d v a/\Bz env a=some d
 |[],[],[],_,_=> ⟨rfl,rfl,λk d v e=>by simp at e⟩
 |a::as,d::ds,v::vs,h,q=>by
  obtain⟨d',hd,q⟩:=ee q;obtain⟨r,hr,z⟩:=Gaa.mp q;cases z;obtain⟨a1,a2,a3⟩:=uG h.2 hr;refine⟨by simp[a1],by simp[a2],λk d v e1 e2=> ?_⟩;cases k with
  |zero=>simp at e1 e2;subst e1;subst e2;exact⟨a,rfl,h.1,hd⟩
  |succ k=>exact a3 k d v (by simpa using e1) (by simpa using e2)
theorem iL:∀{as:List AW} {o k:Nat},k∈cq o as↔∃i j,k=o+i/\as[i]? =some (.lent j)
 |[],o,k=>by simp[cq]
 |a::as,o,k=>by
  have ih:= @iL as (o+1) k;have st:(∃i j,k=o+1+i/\as[i]? =some (.lent j))↔∃i j,k=o+(i+1)/\(a::as)[i+1]? =some (.lent j):=by
   constructor
   .rintro⟨i,j,h1,h2⟩;exact⟨i,j,by lia,by simpa using h2⟩
   .rintro⟨i,j,h1,h2⟩;exact⟨i,j,by lia,by simpa using h2⟩
  cases a with
  |lent j0=>
   unfold cq;rw[Gah,ih,st];constructor
   .rintro(rfl| ⟨i,j,h1,h2⟩)
    .exact⟨0,j0,rfl,rfl⟩
    .exact⟨i+1,j,h1,h2⟩
   .rintro⟨i,j,h1,h2⟩;cases i with
    |zero=>exact .inl h1
    |succ i=>exact .inr ⟨i,j,h1,h2⟩
  |name j0=>
   unfold cq;rw[ih,st];constructor
   .rintro⟨i,j,h1,h2⟩;exact⟨i+1,j,h1,h2⟩
   .rintro⟨i,j,h1,h2⟩;cases i with
    |zero=>simp at h2
    |succ i=>exact⟨i,j,h1,h2⟩
  |val f=>
   unfold cq;rw[ih,st];constructor
   .rintro⟨i,j,h1,h2⟩;exact⟨i+1,j,h1,h2⟩
   .rintro⟨i,j,h1,h2⟩;cases i with
    |zero=>simp at h2
    |succ i=>exact⟨i,j,h1,h2⟩
theorem ie:∀{as:List AW} {o m k:Nat},(cq o as)[m]? =some k->∃i j,k=o+i/\as[i]? =some (.lent j)/\(bx as)[m]? =some j
 |[],o,m,k,h=>by simp[cq] at h
 |a::as,o,m,k,h=>by
  cases a with
  |lent j0=>
   unfold cq at h;cases m with
   |zero=>simp at h;exact⟨0,j0,by lia,rfl,rfl⟩
   |succ m=>
    obtain⟨i,j,h1,h2,h3⟩:=ie (as:=as) (o:=o+1) (m:=m) (by simpa using h);exact⟨i+1,j,by lia,by simpa using h2,by unfold bx;simpa using h3⟩
  |name j0=>
   obtain⟨i,j,h1,h2,h3⟩:=ie (as:=as) (o:=o+1) (m:=m) (by simpa[cq] using h);exact⟨i+1,j,by lia,by simpa using h2,by unfold bx;exact h3⟩
  |val f=>
   obtain⟨i,j,h1,h2,h3⟩:=ie (as:=as) (o:=o+1) (m:=m) (by simpa[cq] using h);exact⟨i+1,j,by lia,by simpa using h2,by unfold bx;exact h3⟩
theorem fW:∀{as:List AW} {o:Nat},(cq o as).length=(bx as).length
 |[],o=>rfl
 | .lent j::as,o=>by unfold cq bx;rw[GaE,GaE,fW]
 | .name j::as,o=>by unfold cq bx;exact fW
 | .val f::as,o=>by unfold cq bx;exact fW
theorem fX:∀{as:List AW} {i j:Nat},as[i]? =some (.lent j)->j∈bx as
 |a::as,0,j,h=>by simp at h;subst h;unfold bx;exact GaI
 |a::as,i+1,j,h=>by
  have:=fX (as:=as) (i:=i) (by simpa using h);cases a<;>unfold bx<;>first|exact this|exact Gat _ this
theorem oQ:∀{as:List AW} {i j:Nat},as[i]? =some (.name j)->j∈ka as
 |a::as,0,j,h=>by simp at h;subst h;unfold ka;exact GaI
 |a::as,i+1,j,h=>by
  have:=oQ (as:=as) (i:=i) (by simpa using h);cases a<;>unfold ka<;>first|exact this|exact Gat _ this
theorem uH:∀{js:List Nat} {ls:List D} {env:Env},js.Nodup->ls.length=js.length->(∀j∈js,jT env[j]?)->ReE js (λj=>((js.zip ls).lookup j).getD .non) env (ng js ls env)
 |[],ls,env,_,_,_=>by
  have:ng [] ls env=env:=by unfold ng;rfl
  rw[this];exact⟨rfl,λ_ _=>rfl,λj h=>by simp at h⟩
 |j::js,[],env,_,l,_=>by simp at l
 |j::js,d::ls,env,nd,l,h=>by
  have nd' :=GaP.mp nd;have hj:=h j GaI;have:∃s,env[j]? =some (some s)/\∃d0,s= .own d0\/s= .lok d0:=by
   match e:env[j]?,hj with
   |some (some (.own d0)),_=>exact⟨_,rfl,d0,.inl rfl⟩
   |some (some (.lok d0)),_=>exact⟨_,rfl,d0,.inr rfl⟩
  obtain⟨s,es,d0,hs⟩:=this;have eZ:j<env.length:=(Gab.mp es).1;have e1:ng (j::js) (d::ls) env=ng js ls (env.set j (some (s.put d))):=by
   conv=>lhs;unfold ng
   rw[es];rfl
  have ne:∀i∈js,j≠i:=λi hi z=>by subst z;exact nd'.1 hi
  have ih:=uH (js:=js) (ls:=ls) (env:=env.set j (some (s.put d))) nd'.2 (by simpa using l) λi hi=>by
   rw[Gac (ne i hi)];exact h i (Gat _ hi)
  rw[e1];refine⟨by rw[ih.len];simp,λi hi=> ?_,λi hi=> ?_⟩
  .rw[Gah,not_or] at hi;rw[ih.old i hi.2,Gac (GaU hi.1)]
  .by_cases q:i=j
   .subst q;rw[ih.old i nd'.1,bw eZ,es];refine⟨d0, ?_⟩;have:(((i::js).zip (d::ls)).lookup i).getD .non=d:=by simp[Gbb,Gay]
    rw[this];rcases hs with rfl|rfl
    .exact .inl ⟨rfl,rfl⟩
    .exact .inr ⟨rfl,rfl⟩
   .have xo :i∈js:=(Gah.mp hi).resolve_left q;have:(((j::js).zip (d::ls)).lookup i).getD .non=((js.zip ls).lookup i).getD .non:=by
     rw[Gbb,Gay,GaX.mpr q]
    rw[this];obtain⟨d1,z⟩:=ih.new i xo;rw[Gac (GaU q)] at z;exact⟨d1,z⟩
theorem uI:∀{js:List Nat} {ls:List D} {m j:Nat} {l:D},js.Nodup->js[m]? =some j->ls[m]? =some l->((js.zip ls).lookup j).getD .non=l
 |[],ls,m,j,l,_,h,_=>by simp at h
 |i::js,[],m,j,l,_,_,h=>by simp at h
 |i::js,d::ls,0,j,l,_,h1,h2=>by simp at h1 h2;subst h1;subst h2;simp[Gbb,Gay]
 |i::js,d::ls,m+1,j,l,nd,h1,h2=>by
  have nd' :=GaP.mp nd;have zh :js[m]? =some j:=by simpa using h1
  have ne:j≠i:=λz=>by subst z;exact nd'.1 (GaD zh)
  rw[Gbb,Gay,GaX.mpr ne];exact uI nd'.2 zh (by simpa using h2)
def oR(S:List Nat)(env:Env)(Z:St)(H:Hp)(b:Addr):Prop:=∃j∈S,∃(C:Nat) (ns:List Str) (ds:List D) (a dx:Addr) (us:List V) (k:Nat) (l:List D),env[j]? =some (some (.lok (.obj C ns ds)))/\Z[j]? =some (some (.ref a))/\H a=some (.ins C dx (ns.zip us))/\ns.length=us.length/\ds[k]? =some (D.kid l)/\us[k]? =some (.ref b)
section
variable{K:ai}{H0 H:Hp}{eg:Addr->Prop}{env:Env}{Z:St}{S:List Nat}{b:Addr}
theorem oR.cln(E:au K H0 eg env Z H)(h:oR S env Z H b):Cln eg env Z b/\∃us,H b=some (.lst us):=by
 obtain⟨j,_,C,ns,ds,a,dx,us,k,l,e,ea,ha,ln,h1,h2⟩:=h;obtain⟨a3,zi,zI,q1,_,_,q4,q5,_,r⟩:=E.lM e;rw[ea] at q1;cases q1
 rw[ha] at q4;injection q4 with q4;injection q4 with _ _ q4
 have:=zip_inj ln q5 q4;subst this;obtain⟨v,w1,w2⟩:=r.get h1;rw[h2] at w1;cases w1
 cases w2 with
 |kid f hb _ _=>exact⟨f,_,hb⟩
theorem oR.none(kn:lZ H0 H env Z)(h:oR S env Z H b):H0 b=none:=by
 obtain⟨j,_,C,ns,ds,a,dx,us,k,l,e,ea,ha,ln,h1,h2⟩:=h;exact kn j C ns ds e a dx us ea ha ln k l b h1 h2
variable{d:D}{j:Nat}
theorem wG(h:ic j env=some d):(env[j]? =some (some (.own d))/\d.ba=true)\/(env[j]? =some (some (.lok d))/\flK d=true):=by
 unfold ic at h;split at h
 .rename_i q;split at h
  .rename_i z;cases h;exact .inl ⟨q,z⟩
  .cases h
 .rename_i q;split at h
  .rename_i z;cases h;exact .inr ⟨q,z⟩
  .cases h
 .cases h
theorem wH(h:d.ba=true):flK d=true:=by
 cases d<;>first|exact h|simp[D.ba,D.imm] at h
theorem BD(h:iY j env=some d):bg env[j]? /\∀(E:au K H0 eg env Z H),∃a,Z[j]? =some (some (.ref a))/\Wr H a/\d.top=true/\Inn K (Cln eg env Z) H d (.ref a):=by
 unfold iY at h;split at h
 .rename_i q;cases h
  exact⟨by rw[q];trivial,λE=>let⟨a,h1,_,_,h4,h5,h6⟩:=E.ow j d (.inl q);⟨a,h1,h4,h5,h6⟩⟩
 .rename_i q;cases h
  exact⟨by rw[q];trivial,λE=>let⟨a,h1,_,_,h4,h5,h6⟩:=E.ow j d (.inr q);⟨a,h1,h4,h5,h6⟩⟩
 .rename_i q;cases h
  exact⟨by rw[q];trivial,λE=>E.bo j d q⟩
 .cases h
end
theorem r9:∀{as:List AW} {i j n:Nat},(bx as).Nodup->as[i]? =some (.lent n)->as[j]? =some (.lent n)->i=j
 |[],i,j,n,_,h,_=>by simp at h
 |a::as,0,0,n,_,_,_=>rfl
 |a::as,0,j+1,n,nd,h1,h2=>by
  simp at h1;subst h1
  unfold bx at nd;exact absurd (fX (as:=as) (i:=j) (by simpa using h2)) (GaP.mp nd).1
 |a::as,i+1,0,n,nd,h1,h2=>by
  simp at h2;subst h2
  unfold bx at nd;exact absurd (fX (as:=as) (i:=i) (by simpa using h1)) (GaP.mp nd).1
 |a::as,i+1,j+1,n,nd,h1,h2=>by
  have nd' :(bx as).Nodup:=by
   cases a<;>unfold bx at nd<;>first|exact nd|exact(GaP.mp nd).2
  rw[r9 nd' (i:=i) (j:=j) (by simpa using h1) (by simpa using h2)]
section
variable{X:Cx}{H0:Hp}{Pn:Nat->V->Prop}{k np:Nat}{fa:Addr}{fd:FuncData}{ps:List Str}{sp:SpX}{x:Str}{p pos:Pos}{e:Expr}{es:List Expr}{as:List AW}
theorem EU(F:cy X.prog X.w X.K X.mg X.base CX0 k fa fd ps (spW X.K np (cq 0 as) sp))(hr:cw k X.A)(hg:Gl X x)(hm:X.mg x=some (.ref fa))(hk:PySem.W.keepIn X.K (.ref fa)=true)(hb:Binds X.K fd ps [])(ha:PA X (e::es) (tAw X as))(hl:as.length=np)(xj:(x==("__debug__":Str))=false)(he:starEach (e::es) X.env=(false,eval e X.env)::starEach es X.env)(xf:(backTo pos (starEach es X.env)).any (·.1)=false):
  PE X (.Call (.Name x p) (e::es) [] pos) (tXw X H0 Pn (cT sp as)):=by
 refine(pD (dvs:=[]) F hr hg hm hk hb .nil ua ha xj he xf).ao ?_;rintro Z H Q ⟨env,d,eB,⟨eg,EO,pn,kn⟩,h,fin⟩;unfold cT at h;split at h
 .rename_i q;obtain⟨fl,nd,nn⟩:=q;obtain⟨ds,hds,h⟩:=ee h;obtain⟨⟨d',ls⟩,xQ,h⟩:=ee h;split at h
  .rename_i im;cases h;refine⟨H0,eg,env,ds,EO,hds,λvs H1 s1 R=> ?_⟩;show spW X.K np (cq 0 as) sp (vs++[]) H1 Q E0;rw[GaS];have E1:=EO.mono s1;have k1:=kn.mono EO s1;obtain⟨l1,l2,at_⟩:=uG R hds
   let A:Addr->Prop:=λb=>(∃j∈bx as,Z[j]? =some (some (V.ref b)))\/oR (bx as) env Z H1 b
   have lentV:∀{k j:Nat} {v:V},as[k]? =some (.lent j)->vs[k]? =some v->Z[j]? =some (some v)/\∃d,ds[k]? =some d/\((env[j]? =some (some (.own d))/\d.ba=true)\/(env[j]? =some (some (.lok d))/\flK d=true)):=λ{k j v} ea ev=>by
    have hk:k<ds.length:=by rw[<-l1];exact(Gab.mp ea).1
    obtain⟨a,q1,q2,q3⟩:=at_ k ds[k] v (Gaf hk) ev;rw[ea] at q1;cases q1
    exact⟨q2,ds[k],Gaf hk,wG q3⟩
   have inJ:∀{k:Nat},k∈cq 0 as->∃j,as[k]? =some (.lent j):=λ{k} hk=>by
    obtain⟨i,j,q1,q2⟩:=iL.mp hk;exact⟨j,by rw[q1,GaG];exact q2⟩
   have olS:∀{k j:Nat} {v:V},as[k]? =some (.lent j)->vs[k]? =some v->jT env[j]? :=λea ev=>by
    obtain⟨_,d,_,⟨q,_⟩| ⟨q,_⟩⟩:=lentV ea ev<;>rw[q]<;>trivial
   have vsAt:∀{k j:Nat},as[k]? =some (.lent j)->∃v,vs[k]? =some v:=λ{k j} ea=> ⟨_,Gaf (by rw[<-l2,<-l1];exact(Gab.mp ea).1)⟩;have slotOf:∀{j:Nat},j∈bx as->∃(k:Nat),as[k]? =some (.lent j):=λ{j} hj=>by
    obtain⟨m,hm⟩:=GaN hj;have eZ:m<(cq 0 as).length:=by rw[fW];exact(Gab.mp hm).1
    obtain⟨i,j',q1,q2,q3⟩:=ie (as:=as) (o:=0) (m:=m) (Gaf eZ);rw[hm] at q3;cases q3
    exact⟨i,q2⟩
   have olJ:∀j∈bx as,jT env[j]? :=λj hj=>by
    obtain⟨k,hk⟩:=slotOf hj;obtain⟨v,hv⟩:=vsAt hk;exact olS hk hv
   have kidS:∀{k j:Nat} {d:D} {a:Addr},as[k]? =some (.lent j)->(env[j]? =some (some (.own d))/\d.ba=true)\/(env[j]? =some (some (.lok d))/\flK d=true)->Z[j]? =some (some (.ref a))->∀C ns ks,d= .obj C ns ks->∀dx us,H1 a=some (.ins C dx (ns.zip us))->ns.length=us.length->∀(m:Nat) q g,ks[m]? =some (.kid q)->us[m]? =some (.ref g)->oR (bx as) env Z H1 g:=λ{k j d a} ek hd ea C ns ks z dx us h ln m q g w1 w2=>by
    subst z;rcases hd with⟨_,y⟩| ⟨y,_⟩
    .simp[D.ba,D.imm] at y
    .exact⟨j,fX ek,C,ns,ks,a,dx,us,m,q,y,ea,h,ln,w1,w2⟩
   have ndA:∀{b:Addr},A b->H0 b=none:=λ{b} h=>by
    rcases h with⟨j,hj,ej⟩|h
    .obtain⟨k,hk⟩:=slotOf hj;obtain⟨v,hv⟩:=vsAt hk;obtain⟨_,d,_,hd⟩:=lentV hk hv;obtain⟨a,q1,q2,_⟩:=E1.ow j d (hd.imp (λz=>z.1) λz=>z.1);rw[ej] at q1;cases q1;exact q2
    .exact h.none k1
   have notTop:∀{j:Nat} {b:Addr},bg env[j]? ->j∉bx as->Z[j]? =some (some (.ref b))->¬A b:=λ{j b} t nj ej h=>by
    rcases h with⟨i,hi,ei⟩|h
    .have:=E1.dj i j b (olJ i hi) t ei ej;subst this;exact nj hi
    .exact(h.cln E1).1.2 j t ej
   refine⟨ds,d',ls,A,by rw[<-l1];exact hl,l2,xQ,λb h=> ?_,λm dm vm e1 e2=> ?_,λi hi j hj v e1 e2=> ?_,λv H' keep rv len back=> ?_⟩
   .rcases h with⟨j,hj,ej⟩|h
    .exact E1.gW (olJ j hj).top ej
    .obtain⟨us,hb⟩:=(h.cln E1).2;rw[hb];simp
   .obtain⟨a,q1,q2,q3⟩:=at_ m dm vm e1 e2;cases a with
    |lent j=>
     obtain⟨_,d0,p1,hd⟩:=lentV q1 e2;rw[e1] at p1;cases p1
     obtain⟨a,r1,r2,r3,r4,r5,r6⟩:=E1.ow j dm (hd.imp (λz=>z.1) λz=>z.1);have q2:Z[j]? =some (some vm):=q2;rw[q2] at r1;cases r1
     refine .inl ⟨iL.mpr ⟨m,j,(GaG m).symm,q1⟩,a,rfl,.inl ⟨j,fX q1,q2⟩,r4,r5,n6 r6 r5 (hd.elim (λz=>wH z.2) λz=>z.2) λC ns ks z dx us h ln n q g w1 w2 cg _=> ⟨.inr (kidS q1 hd q2 C ns ks z dx us h ln n q g w1 w2),λi hi y=> ?_⟩⟩;obtain⟨j',xR⟩:=inJ hi;obtain⟨y1,_⟩:=lentV xR y;exact cg.2 j' (olS xR y).top y1
    |name j=>
     refine .inr ⟨λhi=> ?_, ?_⟩
     .obtain⟨j',xR⟩:=inJ hi;rw[q1] at xR;cases xR
     .obtain⟨d0,Rg,q3⟩:=ee q3;split at q3
      .rename_i okr;cases q3;obtain⟨t,ff⟩:=BD (K:=X.K) (H0:=H0) (H:=H1) (eg:=eg) (Z:=Z) Rg;obtain⟨a,r1,r2,r3,r4⟩:=ff E1;have q2:Z[j]? =some (some vm):=q2;rw[q2] at r1;cases r1
       exact .inl ⟨r3,a,rfl,notTop t (nn j (oQ q1)) q2,r2,r4.bQ (λ_ _ z _=>z) r3 okr rfl⟩
      .cases q3
    |val f=>
     refine .inr ⟨λhi=> ?_,.inr ⟨?_,q2.2.imp λ_ z=>z.elim⟩⟩
     .obtain⟨j',xR⟩:=inJ hi;rw[q1] at xR;cases xR
     .have:=q2.1;cases dm<;>first|rfl|simp[D.imm] at this
   .obtain⟨j1,h1⟩:=inJ hi;obtain⟨j2,h2⟩:=inJ hj;obtain⟨y1,d1,_⟩:=lentV h1 e1;obtain⟨y2,d2,_⟩:=lentV h2 e2;obtain⟨_,a,_,z,_⟩:=E1.iY (olS h1 e1).top;rw[y1] at z;cases z
    have ej:j1=j2:=E1.dj j1 j2 a (olS h1 e1) (olS h2 e2).top y1 y2;subst ej;exact r9 nd h1 h2
   .have lz:ls.length=(bx as).length:=by rw[len,fW]
    have re:=uH nd lz olJ;have hH:∀b o,H1 b=some o->H' b=some o\/A b:=λb o eb=>by
     by_cases z:A b
     .exact .inr z
     .exact .inl (keep b o eb z)
    have backJ:∀j∈bx as,∀a,Z[j]? =some (some (.ref a))->∃l,(((bx as).zip ls).lookup j).getD .non=l/\Wr H' a/\l.top=true/\flK l=true/\Inn X.K (λb=>(A b\/H1 b=none)/\∀j∈cq 0 as,vs[j]? ≠some (.ref b)) H' l (.ref a):=λj hj a ea=>by
     obtain⟨m,hm⟩:=GaN hj;have eZ:m<(cq 0 as).length:=by rw[fW];exact(Gab.mp hm).1
     obtain⟨i,j',q1,q2,q3⟩:=ie (as:=as) (o:=0) (m:=m) (Gaf eZ);rw[hm] at q3;cases q3
     have yv:m<ls.length:=by rw[len];exact eZ
     obtain⟨a',w1,w2,w3,w4,w5⟩:=back m _ ls[m] (Gaf eZ) (Gaf yv);rw[q1,GaG] at w1;have:=(lentV q2 w1).1;rw[ea] at this;cases this
     exact⟨ls[m],uI nd hm (Gaf yv),w2,w3,w4,w5⟩
    have clnOf:∀{b:Addr},(A b\/H1 b=none)/\(∀j∈cq 0 as,vs[j]? ≠some (.ref b))->Cln eg env Z b/\H0 b=none:=λ{b} h=>by
     rcases h.1 with(⟨j,hj,ej⟩|z)|z
     .exfalso;obtain⟨k,hk⟩:=slotOf hj;obtain⟨v,hv⟩:=vsAt hk;have:=(lentV hk hv).1;rw[ej] at this;cases this
      exact h.2 k (iL.mpr ⟨k,j,(GaG k).symm,hk⟩) hv
     .exact⟨(z.cln E1).1,z.none k1⟩
     .exact⟨E1.jg z,E1.same.free z⟩
    have hAc:∀b,A b->(∃j∈bx as,Z[j]? =some (some (V.ref b)))\/Cln eg env Z b:=λb h=>h.imp id λz=>(z.cln E1).1;have EF:=E1.flat (A:=A) fl re hH (λb h=> ⟨ndA h,hAc b h,λo eo=>by
      rcases h with⟨j,hj,ej⟩|z
      .obtain⟨o',h1,h2⟩:=E1.ue (olJ j hj).top ej;rw[eo] at h1;cases h1;exact h2
      .obtain⟨us,hb⟩:=(z.cln E1).2;rw[hb] at eo;cases eo;trivial⟩) λj hj a ea=>by
      obtain⟨l,z,w2,w3,w4,w5⟩:=backJ j hj a ea;rw[z];exact⟨w2,w3,n6 w5 w3 w4 λ_ _ _ _ _ _ _ _ _ _ _ _ _ f _=>(clnOf f).1⟩
    refine fin v H' (bj.flat E1 pn k1 EF re hH hAc λj hj C ns ks z a dx us ea h ln m q g w1 w2=> ?_) im rv;obtain⟨l,y,_,w3,w4,w5⟩:=backJ j hj a ea;rw[y] at z;subst z;cases w5 with
    |obj h' ln' kd r=>
     rw[h] at h';injection h' with h';injection h' with _ _ h'
     have:=zip_inj ln ln' h';subst this;obtain⟨vv,y1,y2⟩:=r.get w1;rw[w2] at y1;cases y1
     cases y2 with
     |kid f _ _ _=>exact(clnOf f).2
  .cases h
 .cases h
end
noncomputable def ig(m:DXW):DW:=λenv=>(m env).map λr=> .ret r.1 r.2
noncomputable def setC(i:Nat)(m:DXW):DW:=λenv=>(m env).map λr=> .nx (r.2.set i (some (.sh r.1)))
abbrev DTW:=Env->Option (Bool×Env)
noncomputable def wI(m:DXW):DTW:=λenv=>(m env).bind λr=>match r.1 with
 | .bl b=>some (b,r.2)
 |_=>none
noncomputable def BE(t:DTW):DTW:=λenv=>(t env).map λr=>(!r.1,r.2)
noncomputable def ifC(t:DTW)(f g:DW):DW:=λenv=>(t env).bind λr=>if r.1 then f r.2 else g r.2
theorem bj.gZ{K:ai}{H0 H:Hp}{Pn:Nat->V->Prop}{env:Env}{Z:St}{d:D}{v:V}(E:bj K H0 Pn env Z H)(r:Rep K (λ_=>False) H d v)(i:Nat):bj K H0 Pn (env.set i (some (.sh d))) (Z.set i (some v)) H:=by
 obtain⟨eg,EO,p,k⟩:=E;exact bj.stp k p EO (EO.gZ (r.imp λ_ z=>z.elim)) .gZ
def tTw(X:Cx)(H0:Hp)(Pn:Nat->V->Prop)(t:DTW):TT:=λZ H Q=>∃env b eB,bj X.K H0 Pn env Z H/\t env=some (b,eB)/\∀H',bj X.K H0 Pn eB Z H' ->Q b H'
section
variable{X:Cx}{H0:Hp}{Pn:Nat->V->Prop}{E:XK}{e c:Expr}{m:DXW}{t:DTW}{g g1 g2:DW}{pos:Pos}
theorem EV(h:PE X e (tXw X H0 Pn m)):PS X (.Return (some e) pos) (tW X H0 Pn E (ig m)):=by
 refine(pz h).ao ?_;rintro D Z H ⟨env,o,EW,e,ok⟩;obtain⟨⟨d,e'⟩,hm,rfl⟩:=Gaa.mp e;exact⟨env,d,e',EW,hm,λv H' E' im r=>ok v Z H' E' r⟩
theorem EX{i:Nat}{y:Str}{p:Pos}(hN:X.N.Nodup)(hi:X.N[i]? =some y)(hx:Loc X.env.scope y)(hf:X.fn y=true\/X.env.scope.names.lookup y=some .local)(h:PE X e (tXw X H0 Pn m))(hs:swapsWith e (some (.Name y p)) pos.line X.env=pure false):PS X (.Assign [.Name y p] e pos) (tW X H0 Pn E (setC i m)):=by
 refine(rO hN hi hx h hs hf).ao ?_;rintro D Z H ⟨env,o,EW,e,ok⟩;obtain⟨⟨d,e'⟩,hm,rfl⟩:=Gaa.mp e;exact⟨env,d,e',EW,hm,λv H' E' im r=>ok _ _ (E'.gZ r i)⟩
theorem uJ(h:PE X e (tXw X H0 Pn m))(he:∀whole,isTrue e X.env whole=(do let v<-whole;standAt e.pos;holding [v] (truthy v))):PT X e (tTw X H0 Pn (wI m)):=by
 refine(A6 h he).ao ?_;rintro Z H Q ⟨env,b,eB,EW,e,k⟩;obtain⟨⟨d,e'⟩,hm,h2⟩:=ee e;refine⟨env,d,e',EW,hm,λv H' E' im r=> ?_⟩;cases d<;>try cases h2
 cases r;exact⟨b,rfl,k H' E'⟩
theorem EY(h:PT X e (tTw X H0 Pn t)):PT X (.UnaryOp .Not e pos) (tTw X H0 Pn (BE t)):=by
 refine(A7 h).ao ?_;rintro Z H Q ⟨env,b,eB,EW,e,k⟩;obtain⟨⟨b',e'⟩,hm,h2⟩:=Gaa.mp e;cases h2;exact⟨env,b',_,EW,hm,λH' E' =>k H' E'⟩
theorem IM{xs ys:List Stmt}(hc:PT X c (tTw X H0 Pn t))(ha:PSs X xs (tW X H0 Pn E g1))(hb:PSs X ys (tW X H0 Pn E g2)):PS X (.If c xs ys pos) (tW X H0 Pn E (ifC t g1 g2)):=by
 refine(A9 hc ha hb).ao ?_;rintro D Z H ⟨env,o,EW,e,ok⟩;obtain⟨⟨b,e'⟩,h1,h2⟩:=ee e;refine⟨env,b,e',EW,h1,λH1 E1=> ?_⟩;dsimp only at h2⊢;cases b with
 |true=>rw[Gak rfl];rw[Gak rfl] at h2;exact⟨e',o,E1,h2,ok⟩
 |false=>rw[Gam Gaj];rw[Gam Gaj] at h2;exact⟨e',o,E1,h2,ok⟩
end
noncomputable def sU(l:Nat)(env:Env):Option (List D):=match env[l]? with
 |some (some (.bor (.lst xs)))=>some xs
 |_=>none
def fN(i j l:Nat)(g:DW):Nat->Nat->Env->Option jX
 |0,_,_=>none
 |f+1,n,env=>(sU l env).bind λxs=>match xs[n]? with
  |none=>some (.nx env)
  |some d=>if d.imm then(g ((env.set i (some (.sh (.int (n:Nat))))).set j (some (.sh d)))).bind λo=>match o with
   | .nx e=>fN i j l g f (n+1) e
   | .ct e=>fN i j l g f (n+1) e
   | .bk e=>some (.nx e)
   |o=>some o
   else none
def uK(i j l:Nat)(g:DW):DW:=λenv=>(sU l env).bind λxs=>fN i j l g (xs.length+1) 0 env
variable{env:Env}
theorem kM{l:Nat}{xs:List D}(h:sU l env=some xs):env[l]? =some (some (.bor (.lst xs))):=by
 unfold sU at h;split at h
 .rename_i q;cases h;exact q
 .cases h
theorem bj.pin{K:ai}{H0 H:Hp}{Pn xH :Nat->V->Prop}{Z:St}(E:bj K H0 Pn env Z H)(h:∀p v,xH p v->Pn p v\/Z[p]? =some (some v)):bj K H0 xH env Z H:=
 let⟨B,E,p,k⟩:=E
 ⟨B,E,λq v z l=>(h q v z).elim (λy=>p q v y l) id,k⟩
section
variable{X:Cx}{H0:Hp}{Pn:Nat->V->Prop}{E:XK}{g:DW}{pos:Pos}
theorem EZ{i j l:Nat}{y z x:Str}{q1 q2 q3 p1 p2 p3:Pos}{cx:Nat}{body:List Stmt}(hp:PassesOwn (model X.prog X.w) X.A X.env X.xe)(hc:X.calm=true)(hg:Gl X "enumerate")(hm:X.mg "enumerate"=none)(hN:X.N.Nodup)(hi:X.N[i]? =some y)(hj:X.N[j]? =some z)(hl:X.N[l]? =some x)
  (hx:Loc X.env.scope y)(hf:X.fn y=true\/X.env.scope.names.lookup y=some .local)(QO:Loc X.env.scope z)(Rb:X.fn z=true\/X.env.scope.names.lookup z=some .local)(hv:Vis X.env.scope x)(hd:(x==("__debug__":Str))=false)(eQ:(x==("__classdict__":Str))=false)
  (hb:∀xH,(∀p v,xH p v->Pn p v\/p=l)->PSs X body (tW X H0 xH E g)):PS X (.For (.Tuple [.Name y q1,.Name z q2] cx q3) (.Call (.Name "enumerate" p1) [.Name x p2] [] p3) body [] pos) (tW X H0 Pn E (uK i j l g)):=by
 rintro ef s Z H D I ⟨env,o,EW,e,ok⟩;obtain⟨xs,zw,Qt⟩:=ee e;obtain⟨eg,EO,pn,kn⟩:=id EW;obtain⟨la,ea,w0,_,QL⟩:=EO.bo l _ (kM zw)
 let xH :Nat->V->Prop:=λp v=>Pn p v\/(p=l/\v= .ref la)
 have toP:∀{e Z H},bj X.K H0 xH e Z H->bj X.K H0 Pn e Z H:=λE=>E.pin λp v z=> .inl (.inl z);refine Ab hp hc (uD hg hm (cW (cK hl hv hd eQ) g7 rfl) rfl) (Aa hc (mi (pA hN hi hx hf) (mi (pA hN hj QO Rb) tY rfl) rfl) rfl rfl) (hb xH λp v z=>z.imp id λq=>q.1) (λ_=>rfl) ef s Z H D I ?_;have lstAt:∀{e Z H xs},bj X.K H0 xH e Z H->sU l e=some xs->∃vs eg,Rd H la (.lst vs)/\aH X.K (Cln eg e Z) H xs vs:=λ{e Z H xs} E h=>by
  obtain⟨B,E,p,k⟩:=E;obtain⟨Ro,yH,_,_,zW⟩:=E.bo l _ (kM h);have:=p l (.ref la) (.inr ⟨rfl,rfl⟩) (by rw[kM h];trivial);rw[yH] at this;cases this
  cases zW with
  |lst h r=>exact⟨_,B,h,r⟩
 have QB :bj X.K H0 xH env Z H:=EW.pin λp v z=>z.imp id λ⟨e1,e2⟩=>by subst e1 e2;exact ea
 obtain⟨QD,_,h0,_⟩:=lstAt QB zw;refine⟨_,ea,la,rfl,.inl ⟨⟨QD,.inl h0⟩,λn m Z' H' =>∃eB,bj X.K H0 xH eB Z' H' /\fN i j l g m n eB =some o,⟨xs.length+1,env,QB,Qt⟩, ?_⟩⟩;rintro n m Z' H' ⟨eB,E',xy⟩;cases m with
 |zero=>cases xy
 |succ m=>
  unfold fN at xy;obtain⟨ys,QN,xy⟩:=ee xy;obtain⟨vs,B2,hr,rs⟩:=lstAt E' QN;split at xy
  .rename_i q;cases xy;exact .inl ⟨⟨vs,.inl hr,by rw[<-rs.1];exact List.getElem?_eq_none_iff.mp q⟩,ok Z' H' (toP E')⟩
  .rename_i d q;split at xy
   .rename_i im;obtain⟨v,yr,rv⟩:=rs.get q;obtain⟨o2,yj,xy⟩:=ee xy;refine .inr ⟨⟨vs,v,.inl hr,yr⟩,λZ2 H2=>∃eB,bj X.K H0 xH eB Z2 H2/\fN i j l g m (n+1) eB =some o,λZ2 H2 z=> ⟨m,GbM _,z⟩, ?_⟩;rintro x' H2 ⟨p,w,QW,rfl,rfl,hw⟩;have:=hw vs (.inl hr);rw[yr] at this;cases this
    refine⟨p,[.int n,v],rfl,.inl (.inl ax),rfl,.int n,[v],rfl,v,[],rfl,rfl, ?_⟩;have sm:bu H' (upd H' p (.tup [.int n,v])):=aU QW;have E2:=((E'.mono sm).gZ (.int (n:Int)) i).gZ (d:=d) (v:=v) ((rv.same sm).imm im) j;refine⟨_,o2,E2,yj, ?_⟩;cases o2 with
    |nx e3=>exactλZ3 H3 E3=> ⟨e3,E3,xy⟩
    |ct e3=>exactλZ3 H3 E3=> ⟨e3,E3,xy⟩
    |bk e3=>cases xy;exactλZ3 H3 E3=>ok Z3 H3 (toP E3)
    |ret d e3=>cases xy;exactλv Z3 H3 E3 r=>ok v Z3 H3 (toP E3) r
    |ex C n d=>cases xy;exact ok
   .cases xy
end
noncomputable def Md:D->Bool
 | .scr _=>true
 | .kt _=>true
 | .exc _ _ _=>true
 |_=>false
def pU(C:Nat)(n:Str)(d:D):D->Option D
 | .obj C' ns ds=>if C' =C/\fU ds=true/\ns.length<1000/\Md d=false/\ns.length=ds.length/\(ns.findIdx? λm=>m==n)=none then some (.obj C (ns++[n]) (ds++[d])) else none
 |_=>none
@[simp] def F1(i C:Nat)(n:Str)(f:DE):DW:=Ew i (pU C n) f
def Me:D->Bool
 | .obj _ _ ds=>ds.all λd=> !Md d
 |_=>false
@[simp] def sV(i C:Nat)(n:Str):DW:=λenv=>if i9 [i] env=true then((jZ i env).bind λd=>if Me d=true then pU C n (.kid []) d else none).map λd' => .nx (env.set i (some (.lok d'))) else none
theorem rf{n:Str}{y:V}:∀{ns:List Str} {vs:List V},ns.length=vs.length->(ns.findIdx? λm=>m==n)=none->fG n y (ns.zip vs)=(ns++[n]).zip (vs++[y])
 |[],[],_,_=>rfl
 |m::ns,[],l,_=>by simp at l
 |[],v::vs,l,_=>by simp at l
 |m::ns,v::vs,l,h=>by
  rw[Gbq] at h;rw[Gbb];unfold fG;cases q:m==n with
  |true=>rw[q] at h;cases h
  |false=>
   rw[q] at h;have h:(ns.findIdx? λm=>m==n)=none:=by simpa using h
   rw[Gam (GaX.mp q),rf (by simpa using l) h]
   rfl
theorem bj.Mf{K:ai}{H0 H:Hp}{Pn:Nat->V->Prop}{C:Nat}{n:Str}{env:Env}{Z:St}{i:Nat}{d d' x:D}{v:V}{eg:Addr->Prop}(EO:au K H0 eg env Z H)(pn:Pnd Pn env Z)(kn:lZ H0 H env Z)(fl:i9 [i] env=true)(e:env[i]? =some (some (.lok d)))
  (hx:(x.imm=true/\Rep K (Cln eg env Z) H x v)\/(x= .kid []/\∃g,v= .ref g/\H g=some (.lst [])/\H0 g=none/\Cln eg env Z g/\∀a C dx fs,Z[i]? =some (some (.ref a))->H a=some (.ins C dx fs)->∀m,(m,.ref g)∉fs))(hp:pU C n x d=some d'):
  ∃a dx fs,Z[i]? =some (some (.ref a))/\H a=some (.ins C dx fs)/\fs.length<1000/\bj K H0 Pn (env.set i (some (.lok d'))) Z (upd H a (.ins C dx (fG n v fs))):=by
 unfold pU at hp;split at hp
 .rename_i C' ns ds;split at hp
  .rename_i q;obtain⟨rfl,hf,hn,sc,Qj,hk⟩:=q;cases hp;obtain⟨a,dx,vs,ea,z0,zb,ha,ln,kd,rs⟩:=EO.lM e;refine⟨a,dx,_,ea,ha,by rw[List.length_zip,<-ln];lia, ?_⟩;rw[rf ln hk];have hi:i<env.length:=(Gab.mp e).1;generalize hu:HO.ins C' dx ((ns++[n]).zip (vs++[v]))=u;have stT:∀b o,H b=some o->isT o->upd H a u b=some o:=λb o eb t=>by
    rw[aw];exact eb
    rintro rfl;rw[ha] at eb;cases eb;exact t
   have lv:ds.length=vs.length:=rs.1;have atL:∀{k:Nat} {d0:D},(ds++[x])[k]? =some d0->(k<ds.length/\ds[k]? =some d0)\/(k=ds.length/\d0=x):=λ{k d0} h=>by
    by_cases z:k<ds.length
    .rw[GaM z] at h;exact .inl ⟨z,h⟩
    .rw[GaR (by lia)] at h;have:k -ds.length=0:=by
      cases w:k -ds.length with
      |zero=>rfl
      |succ m=>rw[w] at h;simp at h
     rw[this] at h;simp at h;exact .inr ⟨by lia,h.symm⟩
   have atV:∀{k:Nat} {v0:V},(vs++[v])[k]? =some v0->(k<ds.length/\vs[k]? =some v0)\/(k=ds.length/\v0=v):=λ{k v0} h=>by
    by_cases z:k<vs.length
    .rw[GaM z] at h;exact .inl ⟨by lia,h⟩
    .rw[GaR (by lia)] at h;have:k -vs.length=0:=by
      cases w:k -vs.length with
      |zero=>rfl
      |succ m=>rw[w] at h;simp at h
     rw[this] at h;simp at h;exact .inr ⟨by lia,h.symm⟩
   have ga:∀{g:Addr} {us:List V},H g=some (.lst us)->g≠a:=λh z=>by subst z;rw[ha] at h;cases h
   have newNot:∀{k:Nat} {l:List D} {g:Addr},ds[k]? =some (.kid l)->vs[k]? =some (.ref g)->v≠ .ref g:=λ{k l g} w1 w2 z=>by
    subst z;obtain⟨vv,y1,y2⟩:=rs.get w1;rw[w2] at y1;cases y1
    rcases hx with⟨im,r⟩| ⟨rfl,g',z,hg,_,_,no⟩
    .cases y2 with
     |kid f h2 _ _=>
      cases r with
      |tup h l r=>rw[h] at h2;cases h2
      |scr h=>cases sc
      |kt h=>cases sc
      |exc h r=>cases sc
      |lst f h l r=>simp[D.imm] at im
      |dK f h l r=>simp[D.imm] at im
      |dT f h l r=>simp[D.imm] at im
      |obj f h ln kd l r=>simp[D.imm] at im
      |kid f h l r=>simp[D.imm] at im
    .cases z;have hkn:k<ns.length:=by rw[Qj];exact(Gab.mp w1).1
     refine no a C' dx _ ea ha ns[k] ?_;refine GaD (i:=k) ?_;rw[GbR];exact⟨Gaf hkn,w2⟩
   have xk:∀{l:List D},x= .kid l->∃g,v= .ref g/\H g=some (.lst [])/\H0 g=none:=λ{l} z=>by
    rcases hx with⟨im,_⟩| ⟨_,g,z1,z2,z3,_⟩
    .subst z;simp[D.imm] at im
    .exact⟨g,z1,z2,z3⟩
   have inn:Inn K (Cln eg env Z) (upd H a u) (.obj C' (ns++[n]) (ds++[x])) (.ref a):=by
    refine .obj (vs:=vs++[v]) (by rw[ax,hu]) (by simp[ln]) (λy z l2 g2 e1 e2 e3=> ?_) ⟨by simp[lv],λj dj vj e1 e2=> ?_⟩
    .rcases atL e1 with⟨y1,e1⟩| ⟨y1,e1⟩
     .rcases atV e2 with⟨_,e2⟩| ⟨y2,_⟩
      .rcases atV e3 with⟨_,e3⟩| ⟨_,e3⟩
       .exact kd y z l2 g2 e1 e2 e3
       .exact absurd e3.symm (newNot e1 e2)
      .lia
     .rcases atV e2 with⟨y2,_⟩| ⟨_,e2⟩
      .lia
      .rcases atV e3 with⟨y3,e3⟩| ⟨y3,_⟩
       .exfalso;obtain⟨g,q1,q2,_⟩:=xk e1.symm;rw[q1] at e2;cases e2
        rcases hx with⟨im,_⟩| ⟨_,g',z1,_,_,_,no⟩
        .rw[<-e1] at im;simp[D.imm] at im
        .rw[q1] at z1;cases z1
         have hkn:z<ns.length:=by rw[Qj];exact y3
         refine no a C' dx _ ea ha ns[z] (GaD (i:=z) ?_);rw[GbR];exact⟨Gaf hkn,e3⟩
       .lia
    .rcases atL e1 with⟨y1,e1⟩| ⟨y1,e1⟩
     .rcases atV e2 with⟨_,e2⟩| ⟨y2,_⟩
      .have fj:=Gao.mp hf dj (GaD e1);have rj:=rs.2 j dj vj e1 e2;cases rj with
       | @kid g2 us2 l2 f2 h2 ll r2=>
        have:=aH.bQ (K:=K) (F:=Cln eg env Z) (F' :=Cln eg env Z) (ds:=l2) (vs:=us2) stT ⟨ll,r2⟩ fj;exact .kid f2 (by rw[aw (ga h2)];exact h2) this.1 this.2
       |obj f h ln kd l r=>simp[D.imm] at fj
       |lst f h l r=>simp[D.imm] at fj
       |dK f h l r=>simp[D.imm] at fj
       |dT f h l r=>simp[D.imm] at fj
       |non=>exact .non
       |bl b=>exact .bl b
       |int i=>exact .int i
       |str x=>exact .str x
       |tup h l r=>exact(Rep.tup h l r).bQ stT fj
       |scr h=>exact(Rep.scr (F:=Cln eg env Z) h).bQ stT fj
       |kt h=>exact .kt h
       |exc h r=>exact(Rep.exc h r).bQ stT fj
      .lia
     .rcases atV e2 with⟨y2,_⟩| ⟨_,e2⟩
      .lia
      .subst e1 e2;rcases hx with⟨im,r⟩| ⟨e1,g,e2,hg,_,cl,_⟩
       .exact r.bQ stT im
       .rw[e1,e2];exact .kid cl (by rw[aw (ga hg)];exact hg) rfl λi d v q=>by simp at q
   have re:ReE [i] (λ_=> .obj C' (ns++[n]) (ds++[x])) env (env.set i (some (.lok (.obj C' (ns++[n]) (ds++[x]))))):=⟨by simp,λj hj=>Gac (by rintro rfl;simp at hj),λj hj=>by
    obtain rfl:j=i:=by simpa using hj
    exact⟨_,.inr ⟨e,bw hi⟩⟩⟩
   have hH:∀b o,H b=some o->upd H a u b=some o\/b=a:=λb o eb=>by
    by_cases z:b=a
    .exact .inr z
    .left;rw[aw z];exact eb
   refine bj.flat EO pn kn (EO.flat (A:=(· =a)) fl re hH (λb hb=> ?_) λj hj a' e' => ?_) re hH (λb hb=> .inl ⟨i,by simp,by rw[hb];exact ea⟩) λj hj C2 Qf xh z a' QA yI e' h2 ln2 k2 l2 g2 e3 e4=> ?_
   .subst hb;exact⟨z0,.inl ⟨i,by simp,ea⟩,λo eo=>by rw[ha] at eo;cases eo;trivial⟩
   .obtain rfl:j=i:=by simpa using hj
    rw[ea] at e';cases e'
    exact⟨⟨u,ax,by rw[<-hu];trivial⟩,rfl,inn⟩
   .obtain rfl:j=i:=by simpa using hj
    cases z;rw[ea] at e';cases e'
    rw[ax,<-hu] at h2;injection h2 with h2;injection h2 with _ _ h2
    have:=zip_inj (by simp[ln]) ln2 h2;subst this;rcases atL e3 with⟨y1,e3⟩| ⟨y1,e3⟩
    .rcases atV e4 with⟨_,e4⟩| ⟨y2,_⟩
     .exact kn j C' ns ds e a dx vs ea ha ln k2 l2 g2 e3 e4
     .lia
    .rcases atV e4 with⟨y2,_⟩| ⟨_,e4⟩
     .lia
     .obtain⟨g,q1,_,q3⟩:=xk e3.symm;rw[q1] at e4;cases e4;exact q3
  .cases hp
 .cases hp
section
variable{X:Cx}{H0:Hp}{Pn:Nat->V->Prop}{E:XK}{C:Addr}{n:Str}{e:Expr}{f:DE}{pos:Pos}{i:Nat}{x:Str}
variable{px fp:Pos}
theorem F2(cl:L2.Cls X.K C)(na:bO X.K C n)(hN:X.N[i]? =some x)(hv:Vis X.env.scope x)(hd:(x==("__debug__":Str))=false)(eQ:(x==("__classdict__":Str))=false)(he:PEd X.nox e f)(hs:swapsWith e (some (.Attribute (.Name x px) n fp)) pos.line X.env=pure false):
  PS X (.Assign [.Attribute (.Name x px) n fp] e pos) (tW X H0 Pn E (F1 i C n f)):=by
 refine(rX (cK hN hv hd eQ) (PE.nox he) hs).ao ?_;rintro D Z H ⟨env,o,⟨eg,EO,p,kn⟩,e,ok⟩;obtain⟨r,hr,e⟩:=ee e;split at e
 .rename_i q;obtain⟨d',eX,rfl⟩:=Gaa.mp e;obtain⟨d,hl,hp⟩:=ee eX;have el:=dB hl;refine⟨H0,eg,env,r,EO,hr,λv H2 s2 R1=> ?_⟩;obtain⟨a,dx,fs,ea,ha,hz,fin⟩:=bj.Mf (Pn:=Pn) (EO.mono s2) p (kn.mono EO s2) q.2 el (.inl ⟨q.1,R1.inn.imm q.1⟩) hp;exact⟨_,ea,a,C,dx,fs,rfl,ha,cl,na,hz,ok Z _ fin⟩
 .cases e
theorem F3{lp:Pos}(cl:L2.Cls X.K C)(na:bO X.K C n)(hN:X.N[i]? =some x)(hv:Vis X.env.scope x)(hd:(x==("__debug__":Str))=false)(eQ:(x==("__classdict__":Str))=false)(hs:swapsWith (.List [] lp) (some (.Attribute (.Name x px) n fp)) pos.line X.env=pure false):
  PS X (.Assign [.Attribute (.Name x px) n fp] (.List [] lp) pos) (tW X H0 Pn E (sV i C n)):=by
 refine(rX (cK hN hv hd eQ) (se g7) hs).ao ?_;rintro D Z H ⟨env,o,⟨eg,EO,p,kn⟩,e,ok⟩;unfold sV at e;split at e
 .rename_i fl;obtain⟨d',eX,rfl⟩:=Gaa.mp e;obtain⟨d,hl,hp⟩:=ee eX;split at hp
  .rename_i nsc;have el:=dB hl;refine⟨by decide,λg hg=> ?_⟩;have s2:bu H (upd H g (.lst [])):=aU hg;have no:∀a C dx fs,Z[i]? =some (some (.ref a))->upd H g (.lst []) a=some (.ins C dx fs)->∀m,(m,.ref g)∉fs:=λa C2 dx fs e1 e2 m hm=>by
    cases d with
    |obj C' ns ds=>
     obtain⟨a',zF,vs,ea,_,_,ha,ln,_,rs⟩:=EO.lM el;rw[ea] at e1;cases e1
     rw[s2 _ _ ha] at e2;cases e2
     obtain⟨z,hz⟩:=GaN hm;obtain⟨q1,q2⟩:=GbR.mp hz;have hk:z<ds.length:=by rw[rs.1];exact(Gab.mp q2).1
     have r:=rs.2 z ds[z] _ (Gaf hk) q2;have sc:=Gao.mp nsc ds[z] (Gbk hk);generalize ds[z]=dz at r sc;cases r with
     |tup h l r=>rw[hg] at h;cases h
     |scr h=>cases sc
     |kt h=>cases sc
     |exc h r=>obtain⟨_,_,_,_,h,_⟩:=h;rw[hg] at h;cases h
     |lst f h l r=>rcases h with h| ⟨_,h⟩<;>rw[hg] at h<;>cases h
     |dK f h l r=>rw[hg] at h;cases h
     |dT f h l r=>rw[hg] at h;cases h
     |obj f h ln kd l r=>rw[hg] at h;cases h
     |kid f h l r=>rw[hg] at h;cases h
    |_=>cases nsc
   have E2:=EO.mono s2;obtain⟨a,dx,fs,ea,ha,hz,fin⟩:=bj.Mf (Pn:=Pn) (v:= .ref g) E2 p (kn.mono EO s2) fl el (.inr ⟨rfl,g,rfl,ax,EO.same.free hg,EO.jg hg,no⟩) hp;exact⟨_,ea,a,C,dx,fs,rfl,ha,cl,na,hz,ok Z _ fin⟩
  .cases hp
 .cases e
end
noncomputable def mkO(i C:Nat)(sp:SpX):DW:=λenv=>(sp [.obj C [] []]).bind λr=>match r with
 |(.non,[l])=>some (.nx (env.set i (some (.lok l))))
 |_=>none
theorem bj.IP{K:ai}{H0 H H' :Hp}{Pn:Nat->V->Prop}{env:Env}{Z:St}{i:Nat}{l:D}{a:Addr}(E:bj K H0 Pn env Z H)(s:bu H H')(n:H a=none)(w:Wr H' a)(t:l.top=true)(hP:∀v,¬Pn i v)(yR:Inn K (λb=>H b=none/\b≠a) H' l (.ref a)):bj K H0 Pn (env.set i (some (.lok l))) (Z.set i (some (.ref a))) H' :=by
 by_cases hi:i<env.length
 rotate_left
 .have:=E.mono s;obtain⟨eg,EO,_⟩:=E;rw[List.set_eq_of_length_le (by lia),List.set_eq_of_length_le (by rw[<-EO.len];lia)];exact this
 obtain⟨eg,EO,pn,kn⟩:=E;have hs:i<Z.length:=by rw[<-EO.len];exact hi
 have E1:=((EO.kH s hi n w t (yR.imp λb h=> ⟨EO.jg h.1,h.2⟩)).lock (some i)).1;have:b9 (some i) (env.set i (some (.own l)))=env.set i (some (.lok l)):=by
  unfold b9;dsimp only;rw[bw hi];exact List.set_set ..
 rw[this] at E1;refine⟨eg,E1,λp v z q=> ?_,λj C ns ds ej a' dx vs ea h ln k q g e1 e2=> ?_⟩
 .have ne:i≠p:=λw=>by subst w;exact hP v z
  rw[Gac ne] at q⊢;exact pn p v z q
 .by_cases y:i=j
  .subst y;rw[bw hi] at ej;cases ej
   rw[Gav hs] at ea;cases ea
   cases yR with
   |obj h' ln' kd r=>
    rw[h] at h';injection h' with h';injection h' with _ _ h'
    have:=zip_inj ln ln' h';subst this;obtain⟨vv,y1,y2⟩:=r.get e1;rw[e2] at y1;cases y1
    cases y2 with
    |kid f _ _ _=>exact EO.same.free f.1
  .rw[Gac y] at ej ea;exact kn.mono EO s j C ns ds ej a' dx vs ea h ln k q g e1 e2
section
variable{X:Cx}{H0:Hp}{Pn:Nat->V->Prop}{E:XK}{k i:Nat}{C fa:Addr}{fd:FuncData}{ps:List Str}{sp:SpX}{x y:Str}{p q pos:Pos}
theorem Mg(mk:Mk X.K C fa)(F:cy X.prog X.w X.K X.mg X.base CX0 k fa fd ps (spW X.K 1 [0] sp))(hr:cw (k+1) X.A)(hg:Gl X x)(hm:X.mg x=some (.ref C))(hb:Binds X.K fd ps [])(hN:X.N.Nodup)(hi:X.N[i]? =some y)(hx:Loc X.env.scope y)(hf:X.fn y=true\/X.env.scope.names.lookup y=some .local)(hP:∀v,¬Pn i v)
  (xj:(x==("__debug__":Str))=false){pos' :Pos}(hs:swapsWith (.Call (.Name x p) [] [] pos) (some (.Name y q)) pos'.line X.env=pure false):PS X (.Assign [.Name y q] (.Call (.Name x p) [] [] pos) pos') (tW X H0 Pn E (mkO i C sp)):=by
 refine(rO hN hi hx (Ak (dvs:=[]) mk F hr hg hm hb .nil ua xj) hs hf).ao ?_;rintro D Z H ⟨env,o,EW,e,ok⟩;obtain⟨⟨d,ls⟩,xQ,e⟩:=ee e;split at e
 .rename_i l z;cases z;cases e;intro a dx n1 n2 ne;have sm:bu H (upd (upd H dx (.own a)) a (.ins C dx [])):=λc q z=>by rw[aw (bU z n1),aw (bU z n2)];exact z
  refine⟨[.obj C [] []],.non,[l],(· =a),rfl,rfl,xQ,λb hb=> ?_,λm d v e1 e2=> ?_,λi1 h1 j1 h2 v _ _=> ?_,λv H' keep rv len back=> ?_⟩
  .subst hb;rw[ax];simp
  .cases m with
   |zero=>
    cases e1;cases e2
    exact .inl ⟨by simp,a,rfl,rfl,⟨_,ax,trivial⟩,rfl,.obj (vs:=[]) ax rfl (λi j l g q=>by simp at q) ⟨rfl,λi d v q=>by simp at q⟩⟩
   |succ m=>simp at e1
  .rw[GcD] at h1 h2;rw[h1,h2]
  .have ev:v= .non:=by cases rv;rfl
   refine⟨ev,ok _ H' ?_⟩;obtain⟨a',w1,w2,w3,w4,w5⟩:=back 0 0 l rfl rfl;cases w1;refine EW.IP (λc o h=>keep c o (sm c o h) λz=>by subst z;rw[n1] at h;cases h) n1 w2 w3 hP (w5.imp λb h=> ?_);have Qw:b≠a:=λz=>h.2 0 (by simp) (by rw[z];rfl);refine⟨?_,Qw⟩;rcases h.1 with z|z
   .exact absurd z Qw
   .cases w:H b with
    |none=>rfl
    |some o=>rw[sm b o w] at z;cases z
 .cases e
end
open PySem.W (Looks exmOne exm_one)
noncomputable abbrev hdl (X:Cx) (e:Value):Cx:={X with A:=X.A.mark (some e),calm:=false,xe:=λ_ _=>False}
variable{H:Hp}
theorem Mh:hole (λ_=>False) H=H:=funext λb=>mX λz=>z
theorem BF{K:ai}{d:D}{v:V}(r:Rep K (λa=>Wr H a) H d v)(ok:d.ba=true):Bw K (λ_=>False) H d v:=by
 by_cases t:d.top=true
 .refine .inl ⟨t, ?_⟩;have ri:=r.inn;cases r with
  |lst f h l r=>exact⟨_,rfl,λz=>z,f,ri.imp λ_ _ z=>z⟩
  |dK f h l r=>exact⟨_,rfl,λz=>z,f,ri.imp λ_ _ z=>z⟩
  |dT f h l r=>exact⟨_,rfl,λz=>z,f,ri.imp λ_ _ z=>z⟩
  |obj f h ln kd l r=>exact⟨_,rfl,λz=>z,f,ri.imp λ_ _ z=>z⟩
  |_=>cases t
 .exact .inr ⟨by simpa using t,r.imp λ_ _ z=>z⟩
open PySem.W (findIn clsIn mroIn looks_findIn looks_clsIn looks_mroIn looks_find InstAt check_slot Looks findObj findObj_data specialIn takesIn KitX kitOne kia_one class_get handed_on)
def IQ:jX->Option D
 | .ret d _=>if d.imm then some d else none
 | .nx _=>some .non
 |_=>none
def Gk(i j:Nat):DS:=λenv=>(ownAt i env).bind λd=>(ownAt j env).bind λe=>match d,e with
 | .lst xs,.lst ys=>if ag xs=true/\ag ys=true then some (.ret (.tup [.lst xs,.lst ys])) else none
 |_,_=>none
section
variable{X:Cx}{i j:Nat}{x y:Str}{p q pos pos' :Pos}{c:Nat}
theorem F4(hi:X.N[i]? =some x)(hv:Vis X.env.scope x)(hd:(x==("__debug__":Str))=false)(eQ:(x==("__classdict__":Str))=false)(hj:X.N[j]? =some y)(PF:Vis X.env.scope y)(hd2:(y==("__debug__":Str))=false)(Q1:(y==("__classdict__":Str))=false)(hs:starEach [.Name x p,.Name y q] X.env=(false,eval (.Name x p) X.env)::starEach [.Name y q] X.env)(eW:starEach [.Name y q] X.env=(false,eval (.Name y q) X.env)::starEach [] X.env):
  PSd X (.Return (some (.Tuple [.Name x p,.Name y q] c pos)) pos') (Gk i j):=by
 refine(pz (Ai (cW (cK hi hv hd eQ) (cW (cK hj PF hd2 Q1) g7 eW) hs))).ao ?_;rintro D Z H ⟨H0,eg,env,o,E,e,k⟩;obtain⟨d1,q1,e⟩:=ee e;obtain⟨d2,q2,e⟩:=ee e;split at e
 .rename_i xs ys;split at e
  .rename_i im;cases e;obtain⟨a,h1,h2,_,h4,_,h6⟩:=E.ow i _ (.inl (cY q1));obtain⟨b,g1,g2,_,g4,_,g6⟩:=E.ow j _ (.inl (cY q2));refine⟨_,h1,_,g1,(show 2<=sizeLine by decide),λt ht=>k _ _ (E.same.trans (aU ht)) ⟨λz=>(by cases z), ?_⟩⟩;obtain⟨vs,hH,rp⟩:=fL h4 h6;obtain⟨us,gH,rq⟩:=fL g4 g6;have sm:bu H (upd H t (.tup [.ref a,.ref b])):=aU ht;have na:a≠t:=λz=>by subst z;rw[hH] at ht;cases ht
   have nb:b≠t:=λz=>by subst z;rw[gH] at ht;cases ht
   have r1:=aH.bQ (F' :=λb=>H0 b=none/\V.ref t≠ .ref b) (λb o e _=>sm b o e) rp im.1;have r2:=aH.bQ (F' :=λb=>H0 b=none/\V.ref t≠ .ref b) (λb o e _=>sm b o e) rq im.2;exact .tup ax (.cons (.lst ⟨h2,λz=>na (by cases z;rfl)⟩ (.inl (sm _ _ hH)) r1.1 r1.2) (.cons (.lst ⟨g2,λz=>nb (by cases z;rfl)⟩ (.inl (sm _ _ gH)) r2.1 r2.2) .nil))
  .cases e
 .cases e
end
open PySem.Builtin PySem.Builtin.Str
def kN:D->D->Option RV
 | .str x,.str y=>if(y.length==0)=false/\x.length+2<=a7 then some ⟨.tn,.lst ((Txt.split x y).map .str)⟩ else none
 |_,_=>none
theorem oS:∀(k:Nat) (xs:List Str),Vals (xs.map V.str) (strsFrom k xs)
 |_,[]=> .nil
 |k,x::xs=> .cons ⟨k,rfl⟩ (oS (k+1) xs)
theorem oT{K:ai}{F:Addr->Prop}{H:Hp}:∀(xs:List Str),aH K F H (xs.map .str) (xs.map V.str)
 |[]=> .nil
 |x::xs=> .cons (.str x) (oT xs)
section
variable{X:Cx}
theorem BG:MtR X "str.split" (λx xs H Q=>∃a b,x= .str a/\xs=[.str b]/\(b.length==0)=false/\a.length+2<=sizeLine/\∀p,H p=none->Q (.ref p) (upd H p (.lst ((Txt.split a b).map V.str)))):=by
 intro ef s Z H x xs v us Q I rx rs h;obtain⟨a,b,rfl,rfl,hb,hz,q⟩:=h;obtain⟨t,rfl⟩:=rx;obtain⟨u,rfl,t2,rfl⟩:=vals1 rs;have fin:∀{l:List Value} {ys:List Str} {k:Nat},Txt.split a b=ys->Vals (ys.map V.str) l->ys.length<=sizeLine->EP X ef Z Q (.ref s.heap.objs.size) {s with heap:=s.heap.push {cls:= .type "list",data:= .seq l.toArray},toks:=k}:=λ{l ys k} e hv z=>by
  subst e;exact⟨.ref _,_,I.Lf (t' :=k) hv (by rw[Gax];exact z),rfl,q _ I.fresh⟩
 have one:Vals ([a].map V.str) [Value.str a t]:= .cons ⟨t,rfl⟩ .nil;by_cases h1:(decide (a.length<b.length)||decide (strKind a<strKind b))=true
 .exact GbO F.slot_str_split (GbX _ _ _) F.entry_str_split (F.args_str_split_2 _ _) (meets_str_split_cannot_occur a b t t2 h1) (fin (k:=s.toks) (by unfold Txt.split;rw[Gak h1]) one (by show 1<=sizeLine;lia))
 .by_cases hf:(occurrences a b 0 a.length (a.length+1)).isEmpty=true
  .exact GbO F.slot_str_split (GbX _ _ _) F.entry_str_split (F.args_str_split_2 _ _) (meets_str_split_not_found a b t t2 (by simpa using h1) hb hf) (fin (k:=s.toks) (by unfold Txt.split;rw[Gam h1,Gak hf]) one (by show 1<=sizeLine;lia))
  .have hn:(partsBetween a (occurrences a b 0 a.length (a.length+1)) b.length).length<=sizeLine:=by
    have:=StrLaws.occ_length_le a b 0 a.length (a.length+1);rw[length_partsBetween];lia
   exact GbO F.slot_str_split (GbX _ _ _) F.entry_str_split (F.args_str_split_2 _ _) (meets_str_split_sep a b t t2 (by simpa using h1) hb (by simpa using hf) (by lia) hn) (fin (by unfold Txt.split;rw[Gam h1,Gam hf]) (oS s.toks _) hn)
variable{a:Expr}{f g:DE}
theorem BH{o:Expr}{apos eD:Pos}(ho:PEd X o f)(he:PEd X a g)(eU:autoParam (starEach [a] X.env=[(false,eval a X.env)]) Za1._auto_1)
  (eT:autoParam (attributeBase o "split" X.env (eval o X.env)=eval o X.env) Za1._auto_1)
  (eK:autoParam ((apos.endLine==eD.line)=true) Za1._auto_1):PEd X (.Call (.Attribute o "split" apos) [a] [] eD) (opE kN f g):=by
 refine(oj PySem.F.plainAttrs_str PySem.F.slot_str_split PySem.F.type_str_split BG ho (bV he dQ eU) eT (by rw[eU];rfl) eK eU rfl).ao ?_;rintro Z H Q ⟨H0,eg,env,rv,E,e,k⟩;obtain⟨⟨kx,dx⟩,hx,e⟩:=ee e;obtain⟨⟨ky,dy⟩,hy,e⟩:=ee e;have e' :kN dx dy=some rv:=e;unfold kN at e';split at e'
 .rename_i xs ys;split at e'
  .rename_i z;cases e';refine⟨H0,eg,env,_,E,hx,λvx H1 s1 R1=> ?_⟩;have i1:Inn X.K (Cln eg env Z) H1 (.str _) vx:=R1.inn;cases i1;refine⟨rfl,H0,eg,env,[⟨ky,_⟩],E.mono s1,by unfold af az;rw[hy];rfl,λws H2 s2 Rs=> ?_⟩;cases Rs with
   | @cons _ v _ _ R2 tl=>
    cases tl;have i2:Inn X.K (Cln eg env Z) H2 (.str _) v:=R2.inn;cases i2;refine⟨_,_,rfl,rfl,z.1,by rw[<-eE];exact z.2,λp hp=>k _ _ ((s1.trans s2).trans (aU hp)) ?_⟩;exact⟨p,rfl,(s1.trans s2).free hp,jh,rfl,.lst (.inl ax) (oT _)⟩
  .cases e'
 .cases e'
end
noncomputable def kD:Key->D
 | .inl i=> .int i
 | .inr x=> .str x
def kO(x y:D):Option Bool:=match y with
 | .kt ks=>if aG 10 x=true then some ((ks.map kD).any λy=>eqD y x) else none
 |d=>inB x d
def oU(x y:D):Option Bool:=(kO x y).map (!·)
noncomputable def lkT(tbl:List (Key×List Key))(k:Key):Option (List Key):=(tbl.find? λp=>p.1=k).map (·.2)
@[simp] def kdE(tbl:List (Key×List Key))(f:DE):DE:=λenv=>(f env).bind λr=>(keyOf r.d).bind λk=>(lkT tbl k).map λks=> ⟨.c,.kt ks⟩
@[simp] def kdT(neg:Bool)(tbl:List (Key×List Key))(f:DE):DT:=λenv=>(f env).bind λr=>(keyOf r.d).map λk=>if neg then !(lkT tbl k).isSome else(lkT tbl k).isSome
theorem m8{K:ai}{F:Addr->Prop}{H:Hp}:∀ks:List Key,aH K F H (ks.map kD) (ks.map kV)
 |[]=> .nil
 | .inl i::ks=> .cons (.int i) (m8 ks)
 | .inr x::ks=> .cons (.str x) (m8 ks)
theorem nh:∀ks:List Key,(ks.map kD).all (aG 10)=true
 |[]=>rfl
 | .inl i::ks=>nh ks
 | .inr x::ks=>nh ks
def KDk(P:Program)(w:World)(K:ai)(a:Addr)(tbl:List (Key×List Key)):Prop:=(a==sysModules)=false/\∃o vs,K.lookup a=some o/\o.IsDictOf (bD P w) vs/\Paired (λ(p:Key×List Key) (q:Key×Value)=>p.1=q.1/\∃b,q.2= .ref b/\Kt K b p.2) tbl vs
theorem KDk.at{K:ai}{tbl:List (Key×List Key)}{vs:List (Key×Value)}(h:Paired (λ(p:Key×List Key) (q:Key×Value)=>p.1=q.1/\∃b,q.2= .ref b/\Kt K b p.2) tbl vs)(k:Key):(lkT tbl k=none/\valueAt vs k=none)\/∃ks b,lkT tbl k=some ks/\valueAt vs k=some (.ref b)/\Kt K b ks:=by
 induction h with
 |nil=>exact .inl ⟨rfl,rfl⟩
 | @cons p q ps qs hq t ih=>
  obtain⟨e,b,e2,hb⟩:=hq;unfold lkT valueAt;rw[GaW,GaW,<-e];by_cases z:p.1=k
  .rw[Gbl z];exact .inr ⟨p.2,b,rfl,by simp[e2],hb⟩
  .rw[GaV z];exact ih
section
variable{X:Cx}{a b:Expr}{f g:DE}{pos:Pos}
variable{H:Hp}{neg:Bool}
theorem rg{F:Addr->Prop}{dx dy:D}{x y:V}{b:Bool}{Q:VK}(ix:Inn X.K F H dx x)(iy:Inn X.K F H dy y)(e:kO dx dy=some b)(q:Q (.bl (if neg then !b else b)) H):sP X.K neg x y H Q:=by
 unfold kO at e;split at e
 .rename_i ks;split at e
  .rename_i pl;cases e;cases iy with
   | @kt p _ h=>exact .inl ⟨p,ks.map kV,dx,ks.map kD,rfl,.inr (.inr h),pl,nh ks,ix.any,m8 ks,q⟩
  .cases e
 .exact EG ix iy e q
theorem F5:OpB X kO (sP X.K false):=λF H dx dy x y b Q ix iy e q=>rg (neg:=false) ix iy e q
theorem BJ:OpB X oU (sP X.K true):=λF H dx dy x y b Q ix iy e q=>by
 obtain⟨b',e',rfl⟩:=Gaa.mp e;exact rg (neg:=true) ix iy e' q
variable{ad:Addr}{c:Str}
theorem Mi{ks:List Key}(hg:Gl X c)(hm:X.mg c=some (.ref ad))(hk:Kt X.K ad ks)(xj:(c==("__debug__":Str))=false):PEd X (.Name c pos) (kE (.kt ks)):=by
 rintro ef s Z H Q I ⟨_,_,_,_,_,e,k⟩;cases e;exact iK I hg hm ⟨.ref ad,H,I,rfl,k _ H aT (.kt hk)⟩ xj
theorem KDk.heap{ef:LAO}{Z:St}{H:Hp}{s:Shared}{ad:Addr}{tbl:List (Key×List Key)}(h:KDk X.prog X.w X.K ad tbl)(I:Inv X ef Z H s):(ad==sysModules)=false/\∃vs,s.heap.DictOf (bD X.prog X.w) ad vs/\Paired (λ(p:Key×List Key) (q:Key×Value)=>p.1=q.1/\∃b,q.2= .ref b/\Kt X.K b p.2) tbl vs:=by
 obtain⟨h0,o,vs,h1,h2,h3⟩:=h;exact⟨h0,vs,Heap.dictOf_iff.mpr ⟨o,I.kIn ad o h1,h2⟩,h3⟩
theorem uL{F:Addr->Prop}{K:ai}{d:D}{k:Key}{v:V}(h:keyOf d=some k)(i:Inn K F H d v):v=kV k:=by
 cases d<;>first|(cases h;cases i;rfl)|cases h
variable{p:Pos}{tbl:List (Key×List Key)}
theorem Mj(hu:X.A.units+1<cLine)(hg:Gl X c)(hm:X.mg c=some (.ref ad))(hk:KDk X.prog X.w X.K ad tbl)(xj:(c==("__debug__":Str))=false)(he:PEd X a f)(hs:Hm a):PEd X (.Subscript (.Name c p) a pos) (kdE tbl f):=by
 rintro ef s Z H Q I ⟨H0,eg,env,rv,E,e,k⟩;obtain⟨r,hr,e⟩:=ee e;obtain⟨ky,PU,e⟩:=ee e;obtain⟨ks,yQ,rfl⟩:=Gaa.mp e;have h0:tE X f Z H λv H1=>bu H H1/\fb X.K H0 eg env Z H H1 r v:=⟨H0,eg,env,r,E,hr,λv H1 s1 R=> ⟨s1,R⟩⟩
 refine Dz PySem.F.slot_dict_getitem.lookup hs (iK I hg hm (thn (he ef s Z H _ I h0) λu s1 ⟨v,H1,I1,rl,sm,R⟩=> ?_) xj);obtain⟨_,vs,dd,pr⟩:=hk.heap I1;obtain⟨o,es,ep,ho,ed,_⟩:=id dd;refine⟨⟨o,ho,ed.1⟩, ?_⟩;have ev:=uL PU R.inn;subst ev;rcases KDk.at pr ky with⟨z,_⟩| ⟨Qm,b,z1,z2,z3⟩
 .rw[yQ] at z;cases z
 .rw[yQ] at z1;cases z1
  exact wpAny_getItem_of (lu rl) dd.mapOf z2 ⟨.ref b,H1,I1.tok _,rfl,k _ H1 sm (.kt z3)⟩
theorem Gn{op:CmpOp}(ho:op=if neg then .NotIn else .In)(hg:Gl X c)(hm:X.mg c=some (.ref ad))(hk:KDk X.prog X.w X.K ad tbl)(xj:(c==("__debug__":Str))=false)(he:PEd X a f):PTd X (.Compare a [op] [.Name c p] pos) (kdT neg tbl f):=by
 have h1:PC X op a (.Name c p) (λZ H Q=>tE X f Z H λv H1=>∃k,v=kV k/\Q (.bl (if neg then !(lkT tbl k).isSome else(lkT tbl k).isSome)) H1):=by
  intro ef s Z H Q I h;refine thn (he ef s Z H _ I h) λu s1 ⟨v,H1,I1,rl,k,ev,q⟩=>iK I1 hg hm ?_ xj;subst ev;obtain⟨h0,vs,dd,pr⟩:=hk.heap I1;have eq:(valueAt vs k).isSome=(lkT tbl k).isSome:=by
   rcases KDk.at pr k with⟨z,z'⟩| ⟨Qm,b,z1,z2,z3⟩
   .rw[z,z'];rfl
   .rw[z1,z2];rfl
  cases neg with
  |false=>subst ho;refine wpAny_in_of (lu rl) h0 dd.mapOf ?_;rw[eq];exact⟨.bl _,H1,I1.tok _,rfl,q⟩
  |true=>subst ho;refine wpAny_notIn_of (lu rl) h0 dd.mapOf ?_;rw[eq];exact⟨.bl _,H1,I1.tok _,rfl,q⟩
 refine(GI h1 (by cases neg<;>subst ho<;>rfl)).ao ?_;rintro Z H Q ⟨H0,eg,env,bb,E,e,k⟩;obtain⟨r,hr,e⟩:=ee e;obtain⟨ky,PU,rfl⟩:=Gaa.mp e;exact⟨H0,eg,env,r,E,hr,λv H1 s1 R=> ⟨ky,uL PU R.inn,_,rfl,k H1 s1⟩⟩
end
structure Zp(z TI TO i1 i2:Addr)(yq yp:List Addr):Prop where
 nd:[z,TI,TO,i1,i2].Nodup
 f1:z∉yq/\TO∉yq/\i2∉yq
 f2:z∉yp/\TO∉yp/\i1∉yp
 m1:i1∈yq
 m2:i2∈yp
section
variable{prog:Program}{w:World}{A:Around}{E:VSP}{s:Shared}{z TI TO i1 i2:Addr}{yq yp:List Addr}{n1 n2 k:Nat}{P1 P2:Nat->Value->Prop}{S1 S2:Nat->Heap->Prop}{a b:Value}
theorem F6{Q:VSP}(D1:Draws prog w A i1 yq n1 P1 S1)(D2:Draws prog w A i2 yp n2 P2 S2)(ap:Zp z TI TO i1 i2 yq yp)
  (hz:IsZip s.heap z TI TO .none)(xO:IsPair s.heap TI (.ref i1) (.ref i2))(xS:IsPair s.heap TO a b)(s1:S1 k s.heap)(s2:S2 k s.heap)(l1:k<n1)(l2:k<n2)
  (hQ:∀x y h' tk,P1 k x->P2 k y->IsZip h' z TI TO (rawInt s.heap.objs.size)->IsPair h' TO x y->S1 (k+1) h' ->S2 (k+1) h' ->IsPair h' s.heap.objs.size x y->h'.objs.size=s.heap.objs.size+1->
   (∀c o,c∉[z,TO,i1,i2]->s.heap.get? c=some o->h'.get? c=some o)->Q (.ref s.heap.objs.size) {s with heap:=h',toks:=tk}):
  wpAny (model prog w) A (Builtin.«zip.__next__» ⟨[.ref z],[]⟩) (λfin s' =>∃v,fin= .done (.ret v)/\Q v s') E s:=by
 have nd:=ap.nd;simp only[GaP,Gah,GaB,GaT,not_or,GcI,List.nodup_nil,and_true] at nd;obtain⟨⟨yf,xu,yM,yW⟩,⟨yz,zT,zS⟩,⟨zR,Qg⟩,QI⟩:=nd;have nTOz:=GaU xu;have nTO1:=zR;have f:FO s.heap z _ _:=⟨_,hz,rfl,rfl⟩
 wp_walk using fu (i:=2) (x:= .bool false) f rfl,fu (i:=3) (x:= .ref TI) f rfl,Gby xO rfl,fu (i:=0) (x:= .none) f rfl,fu (i:=4) (x:= .ref TO) f rfl,GbG hz
 .show 0<5;decide
 .intro h1 z1 b1;rw[show(#[Value.ref i1,Value.ref i2].toList.zipIdx)=[(.ref i1,0),(.ref i2,1)] from rfl];simp only[Gcn,List.forIn_nil];refine Gag (Gag (Gag (wpAny_onRaise ?_)));show wpAny _ _ (Builtin.SmallTypes.nextOf (.ref i1)>>=λx=>pure (some x)) _ _ _;refine Gag (D1.item k _ _ _ l1 (D1.frame k _ h1 s1 λc hc o e=>b1.extBut c o (λq=>ap.f1.1 (q▸hc)) e) λx h2 t2 px Qe b2=>Gaq ?_);have o2:IsPair h2 TO a b:=b2.extBut _ _ nTO1 (b1.extBut _ _ nTOz xS)
  wp_walk using Gby o2 rfl,Gcr o2
  intro h3 o3 b3;replace o3:IsPair h3 TO x b:=o3;refine Gag (wpAny_letGo (Gaq ?_));refine Gag (Gag (wpAny_onRaise ?_));show wpAny _ _ (Builtin.SmallTypes.nextOf (.ref i2)>>=λx=>pure (some x)) _ _ _;have up3:∀c o,c≠z->c≠TO->c≠i1->s.heap.get? c=some o->h3.get? c=some o:=λc o c1 c2 c3 e=>b3.extBut _ _ c2 (b2.extBut _ _ c3 (b1.extBut _ _ c1 e));refine Gag (D2.item k _ _ _ l2 (D2.frame k _ h3 s2 λc hc o e=>up3 c o (λq=>ap.f2.1 (q▸hc)) (λq=>ap.f2.2.1 (q▸hc)) (λq=>ap.f2.2.2 (q▸hc)) e) λy h4 t4 py QG b4=>Gaq ?_);have o4:IsPair h4 TO x b:=b4.extBut _ _ Qg o3
  wp_walk using Gby o4 rfl,Gcr o4
  intro h5 o5 b5;replace o5:IsPair h5 TO x y:=o5;have z5:IsZip h5 z TI TO .ellipsis:=b5.extBut _ _ xu (b4.extBut _ _ yW (b3.extBut _ _ xu (b2.extBut _ _ yM z1)));have z6:IsZip (h5.push {cls:= .type "tuple",data:= .seq #[x,y]}) z TI TO .ellipsis:=Gae _ z5;have hsz:h5.objs.size=s.heap.objs.size:=by rw[b5.1,b4.1,b3.1,b2.1,b1.1]
  wp_walk using wpAny_letGo,Gby o5 rfl,GbG z6
  .show 0<5;decide
  .intro h7 z7 b7
   wp_walk using GbG z7
   .show 1<5;decide
   .intro h8 z8 b8;have up:∀c o,c≠z->h5.get? c=some o->h8.get? c=some o:=λc o c1 e=>b8.extBut _ _ c1 (b7.extBut _ _ c1 (Gae _ e));have eZ:z<h5.objs.size:=Gan z5;have p8:IsPair h8 h5.objs.size x y:=b8.extBut _ _ (Gbz eZ) (b7.extBut _ _ (Gbz eZ) (Gaz _ rfl));have s8:h8.objs.size=h5.objs.size+1:=by rw[b8.1,b7.1,Gbc]
    refine Gaq ⟨_,rfl, ?_⟩;rw[hsz] at p8 s8 z8⊢;have f1:S1 (k+1) h8:=D1.frame (k+1) _ h8 Qe λc hc o e=>up c o (λq=>ap.f1.1 (q▸hc)) (b5.extBut _ _ (λq=>ap.f1.2.1 (q▸hc)) (b4.extBut _ _ (λq=>ap.f1.2.2 (q▸hc)) (b3.extBut _ _ (λq=>ap.f1.2.1 (q▸hc)) e)));have f2:S2 (k+1) h8:=D2.frame (k+1) _ h8 QG λc hc o e=>up c o (λq=>ap.f2.1 (q▸hc)) (b5.extBut _ _ (λq=>ap.f2.2.1 (q▸hc)) e);refine hQ x y h8 _ px py z8 (up _ _ nTOz o5) f1 f2 p8 s8 λc o hc e=> ?_;simp only[Gah,GaB,GaT,not_or] at hc;exact up c o hc.1 (b5.extBut _ _ hc.2.1 (b4.extBut _ _ hc.2.2.2 (up3 c o hc.1 hc.2.1 hc.2.2.1 e)))
theorem IS{Q:Fin->Shared->Prop}(D1:Draws prog w A i1 yq n1 P1 S1)(D2:Draws prog w A i2 yp n2 P2 S2)(ap:Zp z TI TO i1 i2 yq yp)
  (hz:IsZip s.heap z TI TO .none)(xO:IsPair s.heap TI (.ref i1) (.ref i2))(xS:IsPair s.heap TO a b)(s1:S1 k s.heap)(s2:S2 k s.heap)(l:k=n1\/(k<n1/\k=n2))
  (hE:∀h' e tk,(∀c o,c∉[z,TO,i1,i2]->s.heap.get? c=some o->h'.get? c=some o)->(∃o,h'.get? e=some o/\o.cls= .type "StopIteration")->E (.ref e) {s with heap:=h',toks:=tk}):
  wpAny (model prog w) A (Builtin.«zip.__next__» ⟨[.ref z],[]⟩) Q E s:=by
 have nd:=ap.nd;simp only[GaP,Gah,GaB,GaT,not_or,GcI,List.nodup_nil,and_true] at nd;obtain⟨⟨yf,xu,yM,yW⟩,⟨yz,zT,zS⟩,⟨zR,Qg⟩,QI⟩:=nd;have f:FO s.heap z _ _:=⟨_,hz,rfl,rfl⟩
 wp_walk using fu (i:=2) (x:= .bool false) f rfl,fu (i:=3) (x:= .ref TI) f rfl,Gby xO rfl,fu (i:=0) (x:= .none) f rfl,fu (i:=4) (x:= .ref TO) f rfl,GbG hz
 .show 0<5;decide
 .intro h1 z1 b1;rw[show(#[Value.ref i1,Value.ref i2].toList.zipIdx)=[(.ref i1,0),(.ref i2,1)] from rfl];simp only[Gcn,List.forIn_nil];refine Gag (Gag (Gag (wpAny_onRaise ?_)));show wpAny _ _ (Builtin.SmallTypes.nextOf (.ref i1)>>=λx=>pure (some x)) _ _ _;have g1:S1 k h1:=D1.frame k _ h1 s1 λc hc o e=>b1.extBut c o (λq=>ap.f1.1 (q▸hc)) e;have back:∀{h4:Heap} {t4:Nat} {e:Addr},IsZip h4 z TI TO .ellipsis->(∀c o,c∉[z,TO,i1,i2]->s.heap.get? c=some o->h4.get? c=some o)->(∃o,h4.get? e=some o/\o.cls= .type "StopIteration")->
    wpAny (model prog w) A (setField (.ref z) 0 .none) (λ_ yL =>E (.ref e) yL) E {s with heap:=h4,toks:=t4}:=λ{h4 t4 e} z4 k4 ⟨oe,PM,Qv⟩=>by
   have hez:e≠z:=λq=>by subst q;rw[z4] at PM;cases PM;simp at Qv
   refine GbG z4 (by show 0<5;decide) λh5 _ b5=>hE h5 e t4 (λc o hc q=>b5.extBut _ _ (λr=>hc (by simp[r])) (k4 c o hc q)) ⟨oe,b5.extBut _ _ hez PM,Qv⟩
  rcases l with rfl| ⟨l1,rfl⟩
  .refine Gag (D1.done _ _ _ g1 λh2 e x2 he=>back (x2 _ _ yM z1) (λc o hc q=>x2 _ _ (λr=>hc (by simp[r])) (b1.extBut _ _ (λr=>hc (by simp[r])) q)) he)
  .refine Gag (D1.item k _ _ _ l1 g1 λx h2 t2 px Qe b2=>Gaq ?_);have o2:IsPair h2 TO a b:=b2.extBut _ _ zR (b1.extBut _ _ (GaU xu) xS)
   wp_walk using Gby o2 rfl,Gcr o2
   intro h3 o3 b3;refine Gag (wpAny_letGo (Gaq ?_));refine Gag (Gag (wpAny_onRaise ?_));show wpAny _ _ (Builtin.SmallTypes.nextOf (.ref i2)>>=λx=>pure (some x)) _ _ _;have up3:∀c o,c≠z->c≠TO->c≠i1->s.heap.get? c=some o->h3.get? c=some o:=λc o c1 c2 c3 e=>b3.extBut _ _ c2 (b2.extBut _ _ c3 (b1.extBut _ _ c1 e));refine Gag (D2.done _ _ _ (D2.frame k _ h3 s2 λc hc o e=>up3 c o (λq=>ap.f2.1 (q▸hc)) (λq=>ap.f2.2.1 (q▸hc)) (λq=>ap.f2.2.2 (q▸hc)) e) λh4 e x4 he=>back (t4:=t2) (x4 _ _ yW (b3.extBut _ _ xu (b2.extBut _ _ yM z1))) (λc o hc q=> ?_) he);simp only[Gah,GaB,GaT,not_or] at hc;exact x4 _ _ hc.2.2.2 (up3 c o hc.1 hc.2.1 hc.2.2.1 q)
end
noncomputable def iS(xs ys:List D):List D:=List.zipWith (λx y=> .tup [x,y]) xs ys
section
open PySem.Spec
variable{w:World}
end
noncomputable def T0(mask:Nat):SetTable:={SetTable.fresh 0 0 false with mask:=mask}
section
variable{X:Cx}{e a b c:Expr}{f g h:DE}{pos:Pos}
theorem _root_.L2.Inv.F7{ef:LAO}{Z:St}{H:Hp}{s:Shared}{h' :Heap}{ch:List Addr}(I:Inv X ef Z H s)(hf:∀b∈ch,gP X ef H b)(k:∀b o,b∉ch->s.heap.get? b=some o->h'.get? b=some o):Inv X ef Z H {s with heap:=h' }:=by
 have nit:∀b u,H b=some u->b∉ch:=λb u e z=>by rw[(hf b z).1] at e;cases e
 refine I.A5 (ch:=ch) rfl ⟨λb ob q _ _ hx=>k b ob hx q,λb ob q _ _ hx=> ⟨ob.slots,k b ob hx q⟩,λb ob q n _=>n,λb ob q hx=> ⟨ob,k b ob hx q⟩,λb xs q=>q,λb ob u q=>q,λb ps q=> ⟨#[],by rw[q];simp⟩⟩ ?_ I.bare λb hb=> ⟨(hf b hb).2.2.2.1,(hf b hb).2.1,(hf b hb).2.2.2.2.1,(hf b hb).2.2.2.2.2⟩;intro b u q;refine(I.hok b u q).gI (λc v hc z=>k c v ?_ z) (λ_ z=>z) λ_ _ z=>z;rcases hc with hc|hc
 .rw[hc];exact nit b u q
 .exact nit c _ hc
end
def sqK:Bool->ai->Hp->Addr->List V->Prop
 |true,K,H,l,xs=>SqT K H l xs
 |false,K,H,l,xs=>SqL K H l xs
def itK:Bool->Heap->Addr->Addr->Nat->Prop
 |true,h,it,l,i=>h.IsTupleIter it l i
 |false,h,it,l,i=>h.IsListIter it l i
def ni:Bool->Heap->Addr->Array Value->Prop
 |true,h,l,eh=>h.IsTuple l eh
 |false,h,l,eh=>h.IsList l eh
theorem itK.at{b:Bool}{h h' :Heap}{it l:Addr}{i:Nat}(x:itK b h it l i)(e:∀o,h.get? it=some o->h'.get? it=some o):itK b h' it l i:=by
 cases b with
 |true=>exact Heap.IsTupleIter.at x e
 |false=>exact Heap.IsListIter.at x e
theorem itK.rec{b:Bool}{h:Heap}{it l:Addr}{i:Nat}(x:itK b h it l i):∃o vs,h.get? it=some o/\o.data= .fields vs:=by
 cases b with
 |true=>obtain⟨o,e,_,d⟩:=x;exact⟨o,_,e,d⟩
 |false=>obtain⟨o,e,_,d⟩:=x;exact⟨o,_,e,d⟩
variable{w:World}
theorem m9{prog:Program}{A:Around}(b:Bool)(hh:A.handled=none)(it l:Addr)(xK:l≠it)(eh:Array Value):Draws prog w A it [it,l] eh.size (λi v=>eh[i]? =some v) (λi h=>itK b h it l i/\ni b h l eh):=by
 cases b with
 |true=>exact oO hh it l xK eh
 |false=>exact Draws.list hh it l xK eh
section
variable{X:Cx}{ef:LAO}{Z:St}{H:Hp}{s:Shared}{l:Addr}{xs ys:List V}{b:Bool}
theorem oV(I:Inv X ef Z H s)(h:sqK b X.K H l xs):∃eh:List Value,Vals xs eh/\ni b s.heap l eh.toArray/\l<s.heap.objs.size:=by
 cases b with
 |true=>obtain⟨eh,r,p,_⟩:=I.tuple h;exact⟨eh,r,p,p.lt⟩
 |false=>obtain⟨eh,r,p,_⟩:=I.list h;exact⟨eh,r,p.isList,let⟨_,ho,_⟩:=p.isList;Gan ho⟩
theorem Gp(I:Inv X ef Z H s)(h:sqK b X.K H l xs)(h' :sqK b X.K H l ys):xs=ys:=by
 cases b with
 |true=>exact I.ko h h'
 |false=>exact I.mh h h'
end
def Itk(K:ai)(b1 b2:Bool)(l1 l2:Addr):It:=
 ⟨λi H=>∃xs ys x y,sqK b1 K H l1 xs/\sqK b2 K H l2 ys/\xs[i]? =some x/\ys[i]? =some y,λi H x H' =>∃p u v,H p=none/\x= .ref p/\H' =upd H p (.tup [u,v])/\(∀xs,sqK b1 K H l1 xs->xs[i]? =some u)/\∀ys,sqK b2 K H l2 ys->ys[i]? =some v,λi H=>∃xs ys,sqK b1 K H l1 xs/\sqK b2 K H l2 ys/\(i=xs.length\/(i<xs.length/\i=ys.length))⟩
theorem wJ{P:Program}{K:ai}{elts:List Expr}{x1}{tp:Pos}(b1 b2:Bool)(z TI TO i1 i2 l1 l2:Addr)(ap:Zp z TI TO i1 i2 [i1,l1] [i2,l2])(n1:l1≠i1)(n2:l2≠i2):Turn P w K (.Tuple elts x1 tp) (Itk K b1 b2 l1 l2) [z,TI,TO,i1,i2] z (λi h=>IsZip h z TI TO .none/\IsPair h TI (.ref i1) (.ref i2)/\(∃a b,IsPair h TO a b)/\itK b1 h i1 l1 i/\itK b2 h i2 l2 i) where
 mem:=by simp
 obj:=λi h st b hb=>by
  obtain⟨hz,xO,⟨a,b',xS⟩,h1,h2⟩:=st;obtain⟨o1,v1,e1,d1⟩:=h1.rec;obtain⟨o2,v2,e2,d2⟩:=h2.rec;simp only[Gah,GaB,GaT] at hb;rcases hb with rfl|rfl|rfl|rfl|rfl
  .exact⟨_,hz,λv q=>by cases q⟩
  .exact⟨_,xO,λv q=>by cases q⟩
  .exact⟨_,xS,λv q=>by cases q⟩
  .exact⟨_,e1,λv q=>by rw[d1] at q;cases q⟩
  .exact⟨_,e2,λv q=>by rw[d2] at q;cases q⟩
 keep:=λi h h' st k=>by
  obtain⟨hz,xO,⟨a,b,xS⟩,h1,h2⟩:=st;exact⟨k z (by simp) _ hz,k TI (by simp) _ xO,⟨a,b,k TO (by simp) _ xS⟩,h1.at λo e=>k i1 (by simp) o e,h2.at λo e=>k i2 (by simp) o e⟩
 item:=by
  intro X hP hw hK hc i ef s Z H E I hf st hg;subst hP hw hK;obtain⟨hz,xO,⟨a,b,xS⟩,h1,h2⟩:=st;obtain⟨xs,ys,x,y,yO,yN,hx,hy⟩:=hg;obtain⟨xJ,zt,p1,_⟩:=oV I yO;obtain⟨eF,zr,p2,_⟩:=oV I yN;obtain⟨u,hu,ru⟩:=zt.get hx;obtain⟨v,hv,rv⟩:=zr.get hy;have k1:i<xJ.toArray.size:=by simpa using(Gab.mp hu).1
  have k2:i<eF.toArray.size:=by simpa using(Gab.mp hv).1
  have fz:FO s.heap z "zip" _:=⟨_,hz,rfl,rfl⟩
  wp_walk using Gbn fz.ty Gcs,GbN Gcs fz.ty F.entry_zip_next (ha:=F.args_zip_next_1 _),F6 (m9 b1 (A:=X.A.in1) (I.ok.hd hc) i1 l1 n1 xJ.toArray) (m9 b2 (A:=X.A.in1) (I.ok.hd hc) i2 l2 n2 eF.toArray) ap hz xO xS ⟨h1,p1⟩ ⟨h2,p2⟩ k1 k2
  intro u' v' h' tk eu ev a1 a2 a3 a4 a5 a6 kk;have eu' :u' =u:=by rw[show xJ.toArray[i]? =some u by simpa using hu] at eu;cases eu;rfl
  have ev' :v' =v:=by rw[show eF.toArray[i]? =some v by simpa using hv] at ev;cases ev;rfl
  subst eu' ev';refine Gaq ⟨_,rfl,wpAny_letOwnedTupleGo_zip (s:={s with heap:=h',toks:=tk}) a1 λh3 QM sb=> ?_⟩;have eZ:z<s.heap.objs.size:=Gan hz;have nd:=ap.nd;simp only[GaP,Gah,GaB,GaT,not_or,GcI,List.nodup_nil,and_true] at nd;obtain⟨⟨yf,xu,yM,yW⟩,⟨yz,zT,zS⟩,_⟩:=nd;have kept:∀b o,b∉[z,TI,TO,i1,i2]->s.heap.get? b=some o->h3.get? b=some o:=λb o hb e=>by
   simp only[Gah,GaB,GaT,not_or] at hb;exact sb.extBut _ _ hb.1 (kk b o (by simp[hb]) e)
  have zg:h3.get? s.heap.objs.size=some {cls:= .type "tuple",data:= .seq #[u',v']}:=sb.extBut _ _ (Gbz eZ) a5;have I1:Inv X ef Z (upd H s.heap.objs.size (.tup [x,y])) {s with heap:=h3,toks:=tk}:=I.mU (ch:=[z,TI,TO,i1,i2]) hf rfl rfl kept (Gar _) ⟨by simp[GbH],[u',v'],.cons ru (.cons rv .nil),_,zg,rfl,0,rfl⟩;refine⟨.ref s.heap.objs.size,_,I1,rfl,⟨_,x,y,I.fresh,rfl,rfl,λzs q=>by rw[Gp I q yO];exact hx,λzs q=>by rw[Gp I q yN];exact hy⟩,⟨QM,sb.extBut _ _ (GaU yf) (kk _ _ (by simp[yz,zT,zS,GaU yf]) xO),⟨_,_,sb.extBut _ _ (GaU xu) a2⟩,a3.1.at λo e=>sb.extBut _ _ (GaU yM) e,a4.1.at λo e=>sb.extBut _ _ (GaU yW) e⟩,λb hb=> ?_⟩;have lt:b<s.heap.objs.size:=by
   obtain⟨o1,_,e1,_⟩:=h1.rec;obtain⟨o2,_,e2,_⟩:=h2.rec;have hb' :=hb;simp only[Gah,GaB,GaT] at hb';rcases hb' with rfl|rfl|rfl|rfl|rfl
   .exact eZ
   .exact Gan xO
   .exact Gan xS
   .exact Gan e1
   .exact Gan e2
  rw[aw (GaF lt)];exact(hf b hb).1
 done:=by
  intro X hP hw hK hc i ef s Z H E I hf st hg;subst hP hw hK;obtain⟨hz,xO,⟨a,b,xS⟩,h1,h2⟩:=st;obtain⟨xs,ys,yO,yN,hl⟩:=hg;obtain⟨xJ,zt,p1,_⟩:=oV I yO;obtain⟨eF,zr,p2,_⟩:=oV I yN;have l1' :=zt.length;have zU :=zr.length;have fz:FO s.heap z "zip" _:=⟨_,hz,rfl,rfl⟩
  wp_walk using Gbn fz.ty Gcs,GbN Gcs fz.ty F.entry_zip_next (ha:=F.args_zip_next_1 _),IS (m9 b1 (A:=X.A.in1) (I.ok.hd hc) i1 l1 n1 xJ.toArray) (m9 b2 (A:=X.A.in1) (I.ok.hd hc) i2 l2 n2 eF.toArray) ap hz xO xS ⟨h1,p1⟩ ⟨h2,p2⟩ (by rw[Gai,Gai,<-l1',<-zU];exact hl)
  exactλh' e tk kk q=>Gag (uz (z:={s with heap:=h',toks:=tk}) q (Gaq ⟨rfl,Inv.tok (s:={s with heap:=h' }) (I.F7 hf λb o hb e=>kk b o (λq=>hb (by simp only[Gah,GaB,GaT] at q⊢;rcases q with q|q|q|q<;>simp[q])) e) tk⟩))
 self:=λ_ _ _ _ _ st h=>wpAny_pyIter_zip st.1 h
noncomputable def lP(b:Bool)(l:Addr):Obj:={cls:= .type (if b then "tuple_iterator" else "list_iterator"),data:= .fields #[.ref l,.int 0 0]}
variable{l:Addr}{b:Bool}{s:Shared}{A:Around}{w:World}{prog:Program}
theorem BK{E:VSP}{eh:Array Value}{Q:VSP}(hl:ni b s.heap l eh)(h:Q (.ref s.heap.objs.size) {s with heap:=s.heap.push (lP b l)}):wpAny (model prog w) A (pyIter (.ref l)) Q E s:=by
 cases b with
 |true=>exact GbF hl h
 |false=>exact GbZ hl h
theorem ni.push{b:Bool}{h:Heap}{l:Addr}{eh:Array Value}(x:ni b h l eh)(o:Obj):ni b (h.push o) l eh:=by
 cases b with
 |true=>obtain⟨ob,e,r⟩:=x;exact⟨ob,Gae _ e,r⟩
 |false=>exact Heap.IsList.push x o
theorem sX(b1 b2:Bool)(l1 l2:Addr)(xs ys:Array Value):
  Meets (Builtin.«zip.__new__» ⟨[.type "zip",.ref l1,.ref l2],[]⟩) (λ_ R s=>ni b1 s.heap l1 xs/\ni b2 s.heap l2 ys/\
   R (.ok (.ret (.ref (s.heap.objs.size+4)))) {s with heap:=((((s.heap.push (lP b1 l1)).push (lP b2 l2)).push {cls:= .type "tuple",data:= .seq #[.ref s.heap.objs.size,.ref (s.heap.objs.size+1)]}).push {cls:= .type "tuple",data:= .seq #[.none,.none]}).push {cls:= .type "zip",data:= .fields #[.none,.bool false,.bool false,.ref (s.heap.objs.size+2),.ref (s.heap.objs.size+3)]}}):=by
 apply Meets.of_wp;rintro prog w A R s ⟨h1,h2,h⟩;have sub:=PySem.sub_zip;have zC :ni b2 (s.heap.push (lP b1 l1)) l2 ys:=h2.push _;have z1:(s.heap.push (lP b1 l1)).objs.size=s.heap.objs.size+1:=Gbc ..
 wp_walk using BK h1,BK (s:={s with heap:=s.heap.push (lP b1 l1)}) zC
 refine⟨_,rfl, ?_⟩;simp only[Gbc];exact h
theorem uM{h:Heap}{it:Addr}(e:h.get? it=some (lP b l)):itK b h it l 0:=by
 cases b with
 |true=>exact⟨_,e,rfl,rfl⟩
 |false=>exact⟨_,e,rfl,rfl⟩
theorem wK{E:VSP}{b1 b2:Bool}{l1 l2:Addr}{xs ys:Array Value}{Q:VSP}(R8:ni b1 s.heap l1 xs)(PR:ni b2 s.heap l2 ys)
  (h:∀h',IsZip h' (s.heap.objs.size+4) (s.heap.objs.size+2) (s.heap.objs.size+3) .none->IsPair h' (s.heap.objs.size+2) (.ref s.heap.objs.size) (.ref (s.heap.objs.size+1))->
   IsPair h' (s.heap.objs.size+3) .none .none->itK b1 h' s.heap.objs.size l1 0->itK b2 h' (s.heap.objs.size+1) l2 0->
   (∀c o,s.heap.get? c=some o->h'.get? c=some o)->Q (.ref (s.heap.objs.size+4)) {s with heap:=h' }):
  wpAny (model prog w) A (call (.type "zip") [.ref l1,.ref l2]) Q E s:=by
 refine callType_new F.called_zip (by decide) (F.typeCall_zip_2 _ _) (F.newCall_zip_2 _ _) (λobj=>F.args_object_init_3 obj _ _) F.entry_zip_new (sX b1 b2 l1 l2 xs ys) ⟨R8,PR, ?_⟩;generalize hh:Heap.push _ _=h';have at_:∀{g:Heap} {n:Nat} {o:Obj},g.objs.size=n->o.isFreed=false->(g.push o).get? n=some o:=λe f=>by subst e;exact Gaz _ f
 have sz:∀{g:Heap} {n:Nat} {o:Obj},g.objs.size=n->(g.push o).objs.size=n+1:=λe=>by subst e;exact Gbc ..
 have k5:∀{c:Addr} {o o' :Obj} {g:Heap},g.get? c=some o->(g.push o').get? c=some o:=λe=>Gae _ e;have fr:∀b l,(lP b l).isFreed=false:=λb l=>by cases b<;>rfl
 have a5:IsZip h' (s.heap.objs.size+4) (s.heap.objs.size+2) (s.heap.objs.size+3) .none:=by subst hh;exact at_ (sz (sz (sz (sz rfl)))) rfl
 have a3:IsPair h' (s.heap.objs.size+2) (.ref s.heap.objs.size) (.ref (s.heap.objs.size+1)):=by subst hh;exact k5 (k5 (at_ (sz (sz rfl)) rfl))
 have a4:IsPair h' (s.heap.objs.size+3) .none .none:=by subst hh;exact k5 (at_ (sz (sz (sz rfl))) rfl)
 have a1:itK b1 h' s.heap.objs.size l1 0:=uM (by subst hh;exact k5 (k5 (k5 (k5 (at_ rfl (fr _ _))))));have a2:itK b2 h' (s.heap.objs.size+1) l2 0:=uM (by subst hh;exact k5 (k5 (k5 (at_ (sz rfl) (fr _ _)))));exact⟨⟨_,a5,rfl⟩,h h' a5 a3 a4 a1 a2 λc o e=>by subst hh;exact k5 (k5 (k5 (k5 (k5 e))))⟩
theorem IT{n l1 l2:Nat}(h1:l1<n)(h2:l2<n):Zp (n+4) (n+2) (n+3) n (n+1) [n,l1] [n+1,l2]:=by
 have m:∀{i j:Nat},i≠j->n+i≠n+j:=λq z=>q (Nat.add_left_cancel z);have k:∀{l:Nat},l<n->∀i,n+i≠l:=λq i=>Gbz (GaC q (Gch _ _));have two:∀{a b c:Nat},a≠b->a≠c->a∉[b,c]:=λp q z=>by rcases Gah.mp z with z|z;exact p z;exact q (GcD.mp z)
 refine⟨?_,⟨two (m (j:=0) (by decide)) (k h1 4),two (m (j:=0) (by decide)) (k h1 3),two (m (j:=0) (by decide)) (k h1 1)⟩,⟨two (m (by decide)) (k h2 4),two (m (by decide)) (k h2 3),two (m (i:=0) (by decide)) (k h2 0)⟩,GaI,GaI⟩;have c:∀{a:Nat} {l:List Nat},(∀b∈l,a≠b)->l.Nodup->(a::l).Nodup:=λp q=>GaP.mpr ⟨λz=>p _ z rfl,q⟩;show[n+4,n+2,n+3,n+0,n+1].Nodup;refine c ?_ (c ?_ (c ?_ (c ?_ (c ?_ .nil))))<;>intro b hb<;>simp only[Gah,GaB,GaT] at hb
 .rcases hb with rfl|rfl|rfl|rfl<;>first|exact m (j:=0) (by decide)|exact m (by decide)
 .rcases hb with rfl|rfl|rfl<;>first|exact m (j:=0) (by decide)|exact m (by decide)
 .rcases hb with rfl|rfl<;>first|exact m (j:=0) (by decide)|exact m (by decide)
 .rcases hb with rfl;exact m (i:=0) (by decide)
section
variable{X:Cx}{a b:Expr}{f g:DE}{pos:Pos}
def Ml(K:ai)(tl:TA):TI:=λZ H R=>tl Z H λvs H1=>∃b1 b2 l1 l2,vs=[.ref l1,.ref l2]/\(∃xs,sqK b1 K H1 l1 xs)/\(∃ys,sqK b2 K H1 l2 ys)/\R (Itk K b1 b2 l1 l2) H1
variable{tp p:Pos}{elts:List Expr}
theorem F8{x1}{ta:TA}(hg:Gl X "zip")(hm:X.mg "zip"=none)(ha:PA X [a,b] ta)(hs:starEach [a,b] X.env=(false,eval a X.env)::starEach [b] X.env)(eW:starEach [b] X.env=[(false,eval b X.env)]):PI X (.Tuple elts x1 tp) (.Call (.Name "zip" p) [a,b] [] pos) (Ml X.K ta):=by
 intro ef s Z H R I h;refine Call_ (ja I hg hm boot_zip (Gbg (thn (ha pos ef s Z H _ I h) λus s1 ⟨vs,H1,I1,r1,q1⟩=> ?_) hs (by rw[eW];rfl)));obtain⟨b1,b2,l1,l2,e,⟨xs,yO⟩,⟨ys,yN⟩,q⟩:=q1;subst e;cases r1 with
 |cons r rr=>
 cases rr with
 |cons r2 rr=>
  cases rr;cases r;cases r2;obtain⟨xJ,zt,p1,Qi⟩:=oV I1 yO;obtain⟨eF,zr,p2,Qh⟩:=oV I1 yN;have ap:=IT Qi Qh;refine wK p1 p2 λh' a1 a2 a3 a4 a5 kk=> ?_;refine wpAny_pyIter_zip (s:={s1 with heap:=h' }) a1 ?_;have zD:∀b∈[s1.heap.objs.size+4,s1.heap.objs.size+2,s1.heap.objs.size+3,s1.heap.objs.size,s1.heap.objs.size+1],gP X ef H1 b:=λb hb=>by
   have le:s1.heap.objs.size<=b:=by
    simp only[Gah,GaB,GaT] at hb;rcases hb with rfl|rfl|rfl|rfl|rfl<;>lia
   exact I1.rP le (I1.hok.fresh le)
  exact⟨s1.heap.objs.size+4,_,_,_,H1,rfl,I1.kept (t' :=s1.toks) kk,wJ b1 b2 _ _ _ _ _ l1 l2 ap (GaF Qi) (GaF (Gbw Qh)),⟨a1,a2,⟨_,_,a3⟩,a4,a5⟩,zD,q⟩
def nW:D->Option (Bool×List D)
 | .lst xs=>some (false,xs)
 | .tup xs=>some (true,xs)
 | .kt ks=>some (true,ks.map kD)
 |_=>none
@[simp] def BL(f g:DE):DI:=λenv=>(f env).bind λr=>(g env).bind λq=>if r.k= .to\/q.k= .to then none else(nW r.d).bind λx=>(nW q.d).map λy=>iS x.2 y.2
theorem uN{H0 H H1:Hp}{eg:Addr->Prop}{env:Env}{Z:St}{r:RV}{v:V}{bb:Bool}{ds:List D}(E:au X.K H0 eg env Z H)(s1:bu H H1)(hk:r.k≠ .to)(R:fb X.K H0 eg env Z H H1 r v)(e:nW r.d=some (bb,ds)):
  ∃l vs,v= .ref l/\sqK bb X.K H1 l vs/\aH X.K (Cln eg env Z) H1 ds vs/\∀Hi:Hp,(∀b o,H1 b=some o->¬Ow env Z b->Hi b=some o)->sqK bb X.K Hi l vs:=by
 obtain⟨kd,d⟩:=r;have ii:=R.inn;cases d with
 |lst xs=>
  cases e;have hno:=pK E rfl hk R;cases ii with
  | @lst la lv _ h r=>
   refine⟨la,lv,rfl,.inl h,r,λHi keep=> .inl ?_⟩;rcases h with h| ⟨o,h⟩
   .exact .inl (keep _ _ h (hno _ rfl))
   .exact .inr ⟨o,keep _ _ h (hno _ rfl)⟩
 |tup xs=>
  cases e;cases ii with
  | @tup la lv _ h r=>exact⟨la,lv,rfl,SqT.of h,r,λHi keep=>SqT.of (keep _ _ h λw=>(E.mono s1).dA w h trivial)⟩
 |kt ks=>
  cases e;cases ii with
  | @kt la _ h=>exact⟨la,_,rfl,.inr h,m8 ks,λHi keep=> .inr h⟩
 |_=>cases e
theorem F9{x1}(hg:Gl X "zip")(hm:X.mg "zip"=none)(he:PEd X a f)(hd:PEd X b g)(hs:autoParam (starEach [a,b] X.env=(false,eval a X.env)::starEach [b] X.env) Za1._auto_1)(eW:autoParam (starEach [b] X.env=[(false,eval b X.env)]) Za1._auto_1):PId X (.Tuple elts x1 tp) (.Call (.Name "zip" p) [a,b] [] pos) (BL f g):=by
 refine(F8 hg hm (bV he (bV hd dQ eW) hs) hs eW).ao ?_;rintro Z H R ⟨H0,eg,env,ds,E,hf,k⟩;obtain⟨r,hr,hf⟩:=ee hf;obtain⟨q,hq,hf⟩:=ee hf;split at hf
 .cases hf
 rename_i hk;obtain⟨⟨b1,xs⟩,e1,hf⟩:=ee hf;obtain⟨⟨b2,ys⟩,e2,rfl⟩:=Gaa.mp hf;refine⟨H0,eg,env,[r,q],E,by unfold af az;rw[hr,hq];rfl,λvs H1 s1 Rs=> ?_⟩;cases Rs with
 |cons R1 tl=>
 cases tl with
 |cons R2 tl=>
  cases tl;have E1:=E.mono s1;obtain⟨l1,v1,rfl,q1,r1,g1⟩:=uN E s1 (λz=>hk (.inl z)) R1 e1;obtain⟨l2,v2,rfl,q2,r2,g2⟩:=uN E s1 (λz=>hk (.inr z)) R2 e2;refine⟨b1,b2,l1,l2,rfl,⟨_,q1⟩,⟨_,q2⟩,k _ H1 s1 λHi keep=> ?_⟩;have g1:=g1 Hi keep;have g2:=g2 Hi keep;refine⟨λi d hd=> ?_,⟨_,_,g1,g2, ?_⟩⟩
  .unfold iS at hd;rw[List.getElem?_zipWith] at hd;split at hd
   .rename_i x y hx hy;cases hd;obtain⟨v,w1,w2⟩:=r1.get hx;obtain⟨v',w3,w4⟩:=r2.get hy;refine⟨⟨_,_,v,v',g1,g2,w1,w3⟩,λz H2 ⟨p,u,u',hp,ez,eH,e1,e2⟩=> ?_⟩;subst ez eH;have q1:=e1 _ g1;have q2:=e2 _ g2;rw[w1] at q1;cases q1
    rw[w3] at q2;cases q2
    exact⟨aU hp,cR hp (.cons (E1.dZ keep w2) (.cons (E1.dZ keep w4) .nil))⟩
   .cases hd
  .unfold iS;rw[List.length_zipWith,r1.1,r2.1];lia
end
@[simp] def BM(is:List Nat)(g:DE):DE:=λenv=>(g env).bind λr=>match r.d with
 | .int i=>if is.all (λj=>(ownAt j env).isSome)=true/\is.length<=1000 then(atI is i).bind λj=>(ownAt j env).map λd=> ⟨.to,d⟩ else none
 |_=>none
def tVs(is:List Nat):TA:=λZ H Q=>∃vs:List V,vs.length=is.length/\(∀(k j:Nat) v,is[k]? =some j->vs[k]? =some v->Z[j]? =some (some v))/\Q vs H
section
variable{X:Cx}{es:List Expr}{is:List Nat}{b:Expr}{g:DE}{pos lp:Pos}
theorem IU:PA X [] (tVs []):=g7.ao λZ H Q ⟨vs,h,_,q⟩=>by rw[Gbe h] at q;exact q
theorem Mm{x:Str}{j:Nat}{p:Pos}(hN:X.N[j]? =some x)(hv:Vis X.env.scope x)(hd:(x==("__debug__":Str))=false)(eQ:(x==("__classdict__":Str))=false)(hr:PA X es (tVs is))(hs:starEach (.Name x p::es) X.env=(false,eval (.Name x p) X.env)::starEach es X.env):PA X (.Name x p::es) (tVs (j::is)):=by
 refine(cW (cK hN hv hd eQ) hr hs).ao ?_;rintro Z H Q ⟨vs,hl,h,q⟩;cases vs with
 |nil=>cases hl
 |cons v vs=>exact⟨v,h 0 j v rfl rfl,vs,by simpa using hl,λk i u e1 e2=>h (k+1) i u (by simpa using e1) (by simpa using e2),q⟩
theorem uO(hu:X.A.units+1<cLine)(ha:PA X es (tVs is))(hb:PEd X b g)(hs:m4 b):PEd X (.Subscript (.List es lp) b pos) (BM is g):=by
 refine(FW (ug hu) (se ha) hb hs).ao ?_;rintro Z H Q ⟨H0,eg,env,rv,E,e,k⟩;obtain⟨y,hy,e⟩:=ee e;split at e
 .rename_i i hi;split at e
  .rename_i c;obtain⟨j,hj,e⟩:=ee e;obtain⟨d,hd,rfl⟩:=Gaa.mp e;have at_:∀j∈is,∃v,Z[j]? =some (some v):=λj hj=>by
    have:=Gao.mp c.1 j hj;obtain⟨d,hd⟩:=Option.isSome_iff_exists.mp this;obtain⟨a,h1,_⟩:=E.ow j d (.inl (cY hd));exact⟨_,h1⟩
   let vs:List V:=is.map λj=>((Z[j]?).getD none).getD .non
   have Qp:∀(k j:Nat) v,is[k]? =some j->vs[k]? =some v->Z[j]? =some (some v):=λk j v e1 e2=>by
    obtain⟨u,hu⟩:=at_ j (GaD e1);have:vs[k]? =some (((Z[j]?).getD none).getD .non):=by simp only[vs,Gap,e1,Option.map_some]
    rw[e2] at this;rw[hu] at this⊢;rw[Option.some.inj this]
    rfl
   have eJ:vs.length=is.length:=by simp[vs]
   refine⟨vs,eJ,Qp,by rw[eJ];exact GaL c.2 (by decide),λp hp=> ?_⟩;have sm:bu H (upd H p (.lst vs)):=aU hp;refine⟨H0,eg,env,y,E.mono sm,hy,λvy H2 s2 R2=> ?_⟩;have iy:=R2.inn;rw[hi] at iy;cases iy;obtain⟨a,h1,h2,h3,h4,h5,h6⟩:=E.ow j d (.inl (cY hd));have Rj:atI vs i=some (.ref a):=by
    unfold atI at hj⊢;rw[eJ];obtain⟨m,hm,hj⟩:=ee hj;rw[hm];have hml:m<vs.length:=by rw[eJ];exact(Gab.mp hj).1
    have q:vs[m]? =some vs[m]:=Gaf hml;have:=Qp m j _ hj q;rw[h1] at this;injection this with this;injection this with this
    show vs[m]? =_;rw[q,<-this]
   refine .inl (.inl ⟨_,_,_,.ref a,rfl,rfl,.inl (.inl (s2 _ _ ax)),Rj, ?_⟩);have s12:=sm.trans s2;refine k (.ref a) H2 s12 ⟨a,rfl,h2, ?_,h5,h6.same s12⟩;obtain⟨o,o1,o2⟩:=h4;exact⟨o,s12 _ _ o1,o2⟩
  .cases e
 .cases e
end
noncomputable def iT:SpV
 |[.str x]=>some ⟨.c,.str x⟩
 |_=>none
@[simp] theorem Mn{x:Str}:iT [.str x]=some ⟨.c,.str x⟩:=rfl
@[simp] theorem Mo{i:Int}:iT [.int i]=none:=rfl
def cB(sep:Str):D->Option RV
 | .lst ds=>(k6 ds).bind λxs=>if(xs.map (·.length)).sum+xs.length*sep.length<=a7 then some ⟨.c,.str (Str.join sep xs)⟩ else none
 |_=>none
@[simp] theorem iM{sep:Str}{ds:List D}:cB sep (.lst ds)=(k6 ds).bind λxs=>if(xs.map (·.length)).sum+xs.length*sep.length<=a7 then some ⟨.c,.str (Str.join sep xs)⟩ else none:=rfl
section
variable{X:Cx}{e a b c:Expr}{f g h:DE}{pos:Pos}
theorem wL:cn X (.type "str") (λxs H Q=>∃x,xs=[.str x]/\Q (.str x) H):=by
 intro ef z Z H xs us Q I r h;obtain⟨x,rfl,q⟩:=h;obtain⟨u,rfl,t,rfl⟩:=vals1 r;exact PySem.P.str_of_str ⟨.str _,H,I,⟨_,rfl⟩,q⟩
theorem sY:CallD X iT (λxs H Q=>∃x,xs=[.str x]/\Q (.str x) H):=by
 intro F H ds vs rv Q ps e k;unfold iT at e;split at e
 .cases e;obtain⟨v,rfl,ii⟩:=bJ ps;cases ii;exact⟨_,rfl,k _ H aT (.str _)⟩
 .cases e
theorem BN(sep:Str):MtR X "str.join" (λx xs H Q=>∃a ts,x= .str sep/\xs=[.ref a]/\SqL X.K H a (ts.map V.str)/\(ts.map (·.length)).sum+ts.length*sep.length<=sizeLine/\Q (.str (Str.join sep ts)) H):=by
 intro ef z Z H x xs v us Q I rx rs h;obtain⟨a,ts,rfl,rfl,hq,hz,q⟩:=h;obtain⟨t,rfl⟩:=rx;obtain⟨u,rfl,r1⟩:=vals1 rs;cases r1;obtain⟨eh,rv,pl,Rp⟩:=I.list hq;obtain⟨l,h1,h2⟩:=kL rv;subst h1 h2;have hl:PySem.Builtin.Str.tooLong ((l.map (·.1)).toArray.foldl (· + ·.length+sep.length) 0)=false:=by
  rw[StrLaws.joinTotal];unfold PySem.Builtin.Str.tooLong;exact GaV (by lia)
 refine GbO F.slot_str_join (GbX _ _ _) F.entry_str_join (F.args_str_join_2 _ _) (meets_str_join_list sep t a l hl) ⟨pl.isList, ?_⟩;refine post_join l ⟨joinFit_length hl,λt' k=> ?_⟩;refine⟨.str _,H,I.tok _,⟨t',rfl⟩, ?_⟩;rw[show Txt.join sep (l.map (·.1))=Str.join sep (l.map (·.1)) from StrLaws.glued_eq_join _ _];exact q
theorem BO{sep:Str}{apos eD p0:Pos}{j:Nat}(he:PEd X a f)(eU:autoParam (starEach [a] X.env=[(false,eval a X.env)]) Za1._auto_1)
  (eK:autoParam ((apos.endLine==eD.line)=true) Za1._auto_1):PEd X (.Call (.Attribute (.Constant (.str sep) j p0) "join" apos) [a] [] eD) (unE (cB sep) f):=by
 refine(oj PySem.F.plainAttrs_str PySem.F.slot_str_join PySem.F.type_str_join (BN sep) rN (bV he dQ eU) rfl (by rw[eU];rfl) eK eU rfl).ao ?_;rintro Z H Q ⟨H0,eg,env,rv,E,e,k⟩;obtain⟨⟨kx,dx⟩,hx,e⟩:=ee e;have e' :cB sep dx=some rv:=e;unfold cB at e';split at e'
 .obtain⟨ts,ht,e'⟩:=ee e';split at e'
  .rename_i hz;cases e';refine⟨rfl,H0,eg,env,[⟨kx,_⟩],E,by unfold af az;rw[hx];rfl,λws H1 s1 Rs=> ?_⟩;cases Rs with
   | @cons _ v _ _ R2 tl=>
    cases tl;have i2:Inn X.K (Cln eg env Z) H1 (.lst _) v:=R2.inn;cases i2 with
    |lst h r=>
     rw[pS ht r] at h;exact⟨_,ts,rfl,rfl,.inl h,by rw[<-eE];exact hz,k _ H1 s1 (.str _)⟩
  .cases e'
 .cases e'
end
noncomputable def ddS(xs:List Str):List Str:=xs.foldl (λks k=>if k∈ks then ks else ks++[k]) []
theorem rh(xs:List Str)(x:Str):ddS (xs++[x])=if x∈ddS xs then ddS xs else ddS xs++[x]:=by
 unfold ddS;rw[Gca]
 rfl
theorem IV(xs:List Str):(ddS xs).length<=xs.length:=by
 rw[<-List.reverse_reverse xs];induction xs.reverse with
 |nil=>simp[ddS]
 |cons x r ih=>
  rw[List.reverse_cons,rh];split<;>simp<;>simp at ih<;>lia
theorem BP{xs:List Str}{i:Nat}{x:Str}(h:xs[i]? =some x):ddS (xs.take (i+1))=if x∈ddS (xs.take i) then ddS (xs.take i) else ddS (xs.take i)++[x]:=by
 obtain⟨hi,rfl⟩:=Gab.mp h;rw[<-List.take_append_getElem hi,rh]
abbrev kQ(P:Program)(w:World)(h:Heap)(a:Addr)(ks:List Str):Prop:=h.SetOf (PySem.strKind P w) a (λk=>decide (k∈ks)) ks.length
section
variable{prog:Program}{w:World}{A:Around}{R:Result->Shared->Prop}{E:VSP}{z:Shared}
variable{ks:List Str}{a:Addr}{g:Heap}
theorem kQ.at{g' :Heap}(h:kQ prog w g a ks)(e:∀o,g.get? a=some o->g'.get? a=some o):kQ prog w g' a ks:=let⟨o,es,ep,t,ho,r⟩:=h;⟨o,es,ep,t,e o ho,r⟩
theorem kQ.grow{k:Str}(h:g.SetOf (PySem.strKind prog w) a (λk' =>decide (k' ∈ks)||decide (k' =k)) (if decide (k∈ks) then ks.length else ks.length+1)):kQ prog w g a (if k∈ks then ks else ks++[k]):=by
 refine SetOf_congr h (λk' => ?_) ?_
 .by_cases q:k∈ks
  .rw[Gak q];by_cases e:k' =k
   .subst e;simp[q]
   .simp[e]
  .rw[Gam q];simp
 .by_cases q:k∈ks<;>simp[q]
theorem wM{I:Addr}{fp wr:List Addr}{G:Array GenState->Array GenState->Prop}{n:Nat}{P:Nat->Value->Prop}{St:Nat->Shared->Prop}(W:WalksS prog w A.in1 I fp wr G n P St)(S:Addr)(Qx:S∉fp)(xs:List Str)(xW:xs.length=n)(zZ:∀i v,P i v->∃k t,xs[i]? =some k/\v= .str k t)(hb:n+1<scanBound)
  (st:St 0 z)(hS:kQ prog w z.heap S [])(hR:∀y,Moved (S::wr) G z y->kQ prog w y.heap S (ddS xs)->R (.ok (.ret .none)) y):codeAny (model prog w) A (.builtin "set.update.loop" ⟨[.ref S,.ref I],[]⟩) R z:=by
 have out:S∉wr:=λh=>Qx (W.sub _ h);refine oP (n:=n) (λi y=>St i y/\Moved (S::wr) G z y/\kQ prog w y.heap S (ddS (xs.take i))) ?_ ?_ n 0 z (by lia) ⟨st,Moved.refl W.grefl,hS⟩
 .rintro i y Q E lt ⟨st,mv,hS⟩ up;refine W.item i y Q E lt st λv y' hP xx yX => ?_;obtain⟨k,t,hk,rfl⟩:=zZ i v hP;have hS' :=hS.at λo=>yX.heap S o out;have room:(ddS (xs.take i)).length+1<scanBound:=by
   have:=IV (xs.take i);rw[GaQ] at this;lia
  have key:(PySem.strKind prog w).is k (.str k t)=true:=PySem.strKind_is _ _ _ _;refine up _ _ λQ' E' q=>wpAny_holding (Gag ((PySem.strKind prog w).pyHash key (wpAny_setAddHashed_of (s:={y' with toks:=y'.toks+1}) key rfl hS' room λg sb Rk=>q _ _ ⟨?_, ?_, ?_⟩)))
  .exact W.frame _ y' g _ xx (Gbi _) λb hb o e=>sb.extBut b o (λe=>Qx (e▸hb)) e
  .have mg:Moved (S::wr) G y' {y' with heap:=g,toks:=y'.toks+1}:=⟨λb o nb e=>sb.extBut b o (λe=>nb (e▸.head _)) e,W.grefl _,rfl,rfl,Gbi _⟩
   exact(mv.trans W.gtrans (yX.mono λ_=> .tail _)).trans W.gtrans mg
  .rw[BP hk];exact kQ.grow Rk
 .rintro y Q E ⟨st,mv,hS⟩ fin;refine W.done y Q E st λy' yX =>fin y' (hR y' ?_ ?_)
  .exact mv.trans W.gtrans (yX.mono λ_=> .tail _)
  .rw[<-xW,List.take_length] at hS;exact hS.at λo=>yX.heap S o out
theorem nX{l:Addr}{eh:List Value}{ls:List (Str×Tok)}{Q:VSP}(hh:A.handled=none)(hl:z.heap.IsList l eh.toArray)(hi:eh=strValues ls)(hb:eh.length+1<scanBound)
  (h:∀(g:Heap) (tk:Nat),kQ prog w g z.heap.objs.size (ddS (ls.map (·.1)))->(∀b o,b<z.heap.objs.size->z.heap.get? b=some o->g.get? b=some o)->Q (.ref z.heap.objs.size) {z with heap:=g,toks:=tk}):
  wpAny (model prog w) A (call (.type "set") [.ref l]) Q E z:=by
 have ll:l<z.heap.objs.size:=let⟨_,q,_⟩:=hl;Gan q
 refine IH hl λh1 eS it k=>wM (Walks.list (by simp[hh]) (z.heap.objs.size+1) l (GaF (Gbw ll)) eh.toArray).toS z.heap.objs.size (by simp[Gbz ll]) (ls.map (·.1)) (by subst hi;simp[strValues]) (λi v hv=> ?_) (by simpa using hb) ⟨it,let⟨o,q,r⟩:=hl;⟨o,k l o q,r⟩⟩ ?_ λy mv hS=> ?_
 .subst hi;have yr :(strValues ls)[i]? =some v:=by simpa using hv
  unfold strValues at yr;rw[Gap] at yr;obtain⟨p,hp,rfl⟩:=Gaa.mp yr;exact⟨p.1,p.2,by rw[Gap,hp];rfl,rfl⟩
 .exact⟨_,#[],0,_,eS,⟨rfl,rfl,rfl⟩,rfl,λe he=>(by cases he),λk=>by simp,by unfold scanBound;simp,rfl,rfl⟩
 .rw[Moved.eq_with mv];exact h y.heap y.toks hS λb o lt q=>mv.heap b o (by simp[GaF lt,GaF (Gbw lt)]) (k b o q)
end
def kb:D->Option RV
 | .lst ds=>(k6 ds).bind λxs=>if xs.length<4000 then some ⟨.c,.int (ddS xs).length⟩ else none
 |_=>none
@[simp] theorem kR{ds:List D}:kb (.lst ds)=(k6 ds).bind λxs=>if xs.length<4000 then some ⟨.c,.int (ddS xs).length⟩ else none:=rfl
section
variable{X:Cx}{e a b c:Expr}{f g h:DE}{pos:Pos}{ef:LAO}{Z:St}{H:Hp}{s:Shared}
noncomputable def BQ(X:Cx)(v:Addr)(ks:List Str):HO:= .ext λh=>kQ X.prog X.w h v ks
theorem wN(hc:X.calm=true):cn X (.type "set") (λxs H Q=>∃(p:Addr) (ts:List Str),xs=[.ref p]/\SqL X.K H p (ts.map V.str)/\ts.length<4000/\∀v,H v=none->Q (.ref v) (upd H v (BQ X v (ddS ts)))):=by
 intro ef s Z H xs us Q I rv h;obtain⟨p,ts,rfl,hq,hl,q⟩:=h;obtain⟨u,rfl,ru⟩:=rv.one;cases ru;obtain⟨eh,xC,pl,_⟩:=I.list hq;obtain⟨l,h1,h2⟩:=kL xC;have hle:eh.length=ts.length:=by rw[<-xC.length];simp
 have hsc:scanBound=4096:=rfl;refine nX (I.ok.hd hc) pl.isList h2 (by lia) λg tk hS hk=> ?_;rw[h1] at hS;refine⟨.ref s.heap.objs.size,_,I.laid (a:=s.heap.objs.size) (o:=BQ X s.heap.objs.size (ddS ts)) (t' :=tk) (λb o e=>hk b o (Gan e) e) (Gar _) ?_,rfl,q _ I.fresh⟩;exact⟨hS,let⟨o,_,_,_,ho,_⟩:=hS;⟨o,ho⟩,λh1 h2 q k=>kQ.at q λo=>k o⟩
theorem wO:cn X (.builtin "len") (λxs H Q=>∃(v:Addr) (ks:List Str),xs=[.ref v]/\H v=some (BQ X v ks)/\Q (.int ks.length) H):=by
 intro ef s Z H xs us Q I rv h;obtain⟨p,ks,rfl,hv,q⟩:=h;obtain⟨u,rfl,ru⟩:=rv.one;cases ru;have hS:kQ X.prog X.w s.heap p ks:=(I.hok p _ hv).1;obtain⟨o,es,ep,t,ho,hex,hd,_,_,hb,hf,hn⟩:=hS;refine call_len_set ho hex hd hf (by unfold scanBound at hb;lia) ?_;rw[hn];exact⟨.int _,H,I.tok _,⟨_,rfl⟩,q⟩
theorem Fb{p p2 eD:Pos}(hc:X.calm=true)(hg:Gl X "len")(hm:X.mg "len"=none)(ya:Gl X "set")(xM:X.mg "set"=none)(he:PEd X e f)
  (eU:autoParam (starEach [e] X.env=[(false,eval e X.env)]) Za1._auto_1)
  (eW:autoParam (starEach [.Call (.Name "set" p2) [e] [] eD] X.env=[(false,eval (.Call (.Name "set" p2) [e] [] eD) X.env)]) Za1._auto_1):
  PEd X (.Call (.Name "len" p) [.Call (.Name "set" p2) [e] [] eD] [] pos) (unE kb f):=by
 refine(mq wO hg hm rfl (cW (oh (wN hc) ya xM rfl (cW he g7 eU) (by decide) (by decide) eU rfl) g7 eW) (by decide) (by decide) eW rfl).ao ?_;rintro Z H Q ⟨H0,eg,env,rv,E,e,k⟩;obtain⟨⟨kx,dx⟩,hx,e⟩:=ee e;have e' :kb dx=some rv:=e;unfold kb at e';split at e'
 .obtain⟨ts,ht,e'⟩:=ee e';split at e'
  .rename_i hz;cases e';refine⟨H0,eg,env,⟨kx,_⟩,E,hx,λv H1 s1 R1=> ?_⟩;have i2:Inn X.K (Cln eg env Z) H1 (.lst _) v:=R1.inn;cases i2 with
   | @lst a vs _ h r=>
    rw[pS ht r] at h;exact⟨_,ts,rfl,.inl h,hz,λv hv=> ⟨v,_,rfl,ax,k _ _ (s1.trans (aU hv)) (.int _)⟩⟩
  .cases e'
 .cases e'
end
def sZ(y:Str)(f:DE):DE:=λenv=>(f env).bind λr=>match r.d with
 | .int i=>if y.length<=a7 then some ⟨.c,.str (Txt.slice y none (some i))⟩ else none
 |_=>none
section
variable{X:Cx}{e:Expr}{f:DE}{pos:Pos}
theorem IW:SlR X (λx lo hi H Q=>∃y,x= .str y/\y.length<=sizeLine/\Q (.str (Txt.slice y lo hi)) H):=by
 intro ef s Z H x v vl vu lo hi sl Q I rx hs pl pu h;obtain⟨y,rfl,hz,q⟩:=h;obtain⟨t,rfl⟩:=rx;refine⟨"str",_,F.slot_str_getitem.lookup,GbX _ _ _, ?_⟩;have fin:∀t' k,EP X ef Z Q (.str (Txt.slice y lo hi) t') {s with toks:=k}:=λt' k=> ⟨.str _,H,I.tok _,⟨t',rfl⟩,q⟩;cases pl with
 |none=>cases pu with
  |none=>exact GbD (l:=none) (u:=none) (st:=none) hs rfl (Gct ⟨GaL (Txt.slice_le y _ _) hz,λt' k=>fin t' k⟩)
  |int j uj=>exact GbD (l:=none) (u:=some (j,uj)) (st:=none) hs rfl (Gct ⟨GaL (Txt.slice_le y _ _) hz,λt' k=>fin t' k⟩)
 |int i ui=>cases pu with
  |none=>exact GbD (l:=some (i,ui)) (u:=none) (st:=none) hs rfl (Gct ⟨GaL (Txt.slice_le y _ _) hz,λt' k=>fin t' k⟩)
  |int j uj=>exact GbD (l:=some (i,ui)) (u:=some (j,uj)) (st:=none) hs rfl (Gct ⟨GaL (Txt.slice_le y _ _) hz,λt' k=>fin t' k⟩)
theorem IY{y:Str}{j:Nat}{p0 p2:Pos}(he:PEd X e f):PEd X (.Subscript (.Constant (.str y) j p0) (.Slice none (some e) none p2) pos) (sZ y f):=by
 refine(qr IW rN u0 (u5 he)).ao ?_;rintro Z H Q ⟨H0,eg,env,rv,E,hf,k⟩;obtain⟨r,hr,hf⟩:=ee hf;split at hf
 .rename_i i hi;split at hf
  .rename_i hz;cases hf;refine⟨H0,eg,env,r,E,hr,λv H1 s1 R=> ?_⟩;have i1:=R.inn;rw[hi] at i1;cases i1;exact⟨i,rfl,y,rfl,by rw[<-eE];exact hz,k _ _ s1 (.str _)⟩
  .cases hf
 .cases hf
end
def BR(n np:Nat)(body:DW):SpF:=λds=>if ds.length=np/\argsOk [] ds=true then(body (bX [] n ds)).bind IQ else none
def spM(K:ai)(np:Nat)(sp:SpF):Sp:=λvs H Q _=>∃ds d,ds.length=np/\aH K (λa=>Wr H a) H ds vs/\sp ds=some d/\∀v H',bu H H' ->d.imm=true->Rep K (λ_=>False) H' d v->Q v H'
def rdE(sp:SpF)(f:DE):DE:=λenv=>(f env).bind λx=>match x.k with
 | .to=>if x.d.ba=true then(sp [x.d]).bind λd=>if d.imm=true then some ⟨.c,d⟩ else none else none
 |_=>none
section
variable{P:Program}{w:World}{K:ai}{mg:Str->Option Value}{base:Heap}{x qual:Str}{sd:Stmt}{fa:Addr}{fd:FuncData}{N ps:List Str}{k np:Nat}{body:DW}
theorem IZ(F:Fun K x qual sd fa fd)(S:cX N ps (ay sd))(xX:ps.length=np)
  (xa:∀(eL:Value) (A:Around) (outer:List PySem.Env) (s:Shared) (H:Hp) (E:XK),cw k (A.deeper (envOfC qual (ay sd) s.heap.objs.size fa eL))->
   PSs (jc CX0 P w K mg base N qual (ay sd) fa eL A outer s H E) (cp sd) (tW (jc CX0 P w K mg base N qual (ay sd) fa eL A outer s H E) H (λ_ _=>False) (λ_ _ _=>False) body)):cy P w K mg base CX0 (k+1) fa fd ps (spM K np (BR N.length np body)):=by
 obtain⟨oc,od,kV,doc,pm,an,eL,ct,ye,rfl,lk,eQ⟩:=F.ex;refine Al lk eQ S (λvs H Q E h=> ?_) λA outer s H vs Q E hr h=> ⟨_,xa eL A outer s H E hr, ?_⟩
 .obtain⟨ds,d,h1,h2,_⟩:=h;rw[<-h2.1,h1,xX]
 .obtain⟨ds,d,h1,h2,h3,k⟩:=h;unfold BR at h3;split at h3
  .rename_i q;obtain⟨o,ho,h3⟩:=ee h3;have hl:ds.length<=N.length:=by
    have:=congrArg List.length S.pre;rw[GaQ] at this;lia
   have okr:∀{k:Nat} {d},ds[k]? =some d->d.ba=true:=λ{k d} e=>by
    have hk:=(Gab.mp e).1;have:=Gao.mp q.2 k (Gbp.mpr hk);rw[Gbh,e] at this;exact this.resolve_left λz=>by simp at z
   obtain⟨EO,kn⟩:=mZ (K:=K) (N:=N) (J:=[]) (A:=λ_=>False) (H:=H) hl h2.1 q.2 (λ_ z=>z.elim) (λk d v e1 e2=> .inr ⟨by simp,BF (h2.2 k d v e1 e2) (okr e1)⟩) (λ_ z=>by simp at z);rw[Mh] at EO kn;refine⟨bX [] N.length ds,o,⟨_,EO,λ_ _ z=>z.elim,kn⟩,ho, ?_⟩;cases o with
   |ret d' e=>
    have h3:(if d'.imm then some d' else none)=some d:=h3;split at h3
    .rename_i im;cases h3
     exactλv Z H' ⟨_,E',_⟩ r=>k v H' E'.same im r
    .cases h3
   |nx e=>cases h3;exactλZ H' ⟨_,E',_⟩=>k .non H' E'.same rfl .non
   |bk e=>cases h3
   |ct e=>cases h3
   |ex C n d=>cases h3
  .cases h3
end
section
variable{X:Cx}{e:Expr}{f:DE}{pos:Pos}
theorem Mp{k:Nat}{fa:Addr}{fd:FuncData}{ps:List Str}{sp:SpF}{x:Str}{p:Pos}(F:cy X.prog X.w X.K X.mg X.base CX0 k fa fd ps (spM X.K 1 sp))(hr:cw k X.A)(hg:Gl X x)
  (hm:X.mg x=some (.ref fa))(hk:PySem.W.keepIn X.K (.ref fa)=true)(hb:Binds X.K fd ps [])(he:PEd X e f)(xj:(x==("__debug__":Str))=false)(hs:starEach [e] X.env=[(false,eval e X.env)]):
  PEd X (.Call (.Name x p) [e] [] pos) (rdE sp f):=by
 refine(pD (dvs:=[]) (E:=E0) F hr hg hm hk hb .nil (ua) (bV he dQ hs) xj hs rfl).ao ?_;rintro Z H Q ⟨H0,eg,env,rv,E,e,k⟩;obtain⟨⟨kx,dx⟩,hx,e⟩:=ee e;cases kx with
 |to=>
  have e:(if dx.ba=true then(sp [dx]).bind λd=>if d.imm=true then some (RV.mk .c d) else none else none)=some rv:=e;split at e
  .rename_i ok;obtain⟨d,hd,e⟩:=ee e;split at e
   .rename_i im;cases e;refine⟨H0,eg,env,[⟨.to,dx⟩],E,by unfold af az;rw[hx];rfl,λvs H1 s1 Rs=> ?_⟩;cases Rs with
    | @cons _ v _ _ R2 tl=>
     cases tl;obtain⟨a,rfl,h0,wr,top,inn⟩:=R2;have i2:Inn X.K (λb=>Wr H1 b) H1 dx (.ref a):=inn.bQ (λb o e _=>e) top ok rfl;refine⟨[dx],d,rfl,⟨rfl,λi d v e1 e2=> ?_⟩,hd,λv H2 s2 _ r=>k v H2 (s1.trans s2) (r.imp λ_ z=>z.elim)⟩;cases i with
     |zero=>cases e1;cases e2;exact i2.rep λb e _=>by cases e;exact wr
     |succ i=>cases e1
   .cases e
  .cases e
 |c=>cases e
 |tn=>cases e
 |tb=>cases e
end
structure Gm where
 N:List Str
 kd:Str->Option NameKind
 fns:Str->Option (Nat×(SpF))
 bl:List Str
 top:Bool
 cs:Str->Option D
 ds:Str->Option (List (Key×List Key))
 C:Nat
 fs:List Str
 nv:Bool
 rd:Str->Option (SpF)
structure Ev where
 E:Expr->Option DE
 V:Expr->Option DT
 T:Expr->Option DT
 W:Expr->Option DT
 S:Stmt->Option DS
 B:List Stmt->Option DS
noncomputable def aE{α:Type}(b:Bool)(x:Option α):Option α:=if b then x else none
theorem ah{α:Type}{b:Bool}{x:Option α}{y:α}(h:aE b x=some y):b=true/\x=some y:=by
 unfold aE at h;cases b<;>simp at h;exact⟨rfl,h⟩
noncomputable def ixN(N:List Str)(x:Str):Option Nat:=N.findIdx? λy=>y==x
theorem BS{N:List Str}{x:Str}{i:Nat}(h:ixN N x=some i):N[i]? =some x:=by
 obtain⟨h1,h2,_⟩:=Gcf.mp h;rw[Gaf h1];exact congrArg some (by simpa using h2)
def rdK:Option NameKind->Bool
 |some .local=>true
 |some .cell=>true
 |some .free=>true
 |_=>false
noncomputable def odd(x:Str):Bool:=x=="__debug__"||x=="__classdict__"
def vR(G:Gm)(x:Str):Option Nat:=aE (rdK (G.kd x)&& !odd x) (ixN G.N x)
def lR(G:Gm)(x:Str):Option Nat:=aE (G.kd x==some .local||(G.top&&G.kd x==some .cell)) (ixN G.N x)
def gR(G:Gm)(x:Str):Bool:=G.kd x==some .globalImplicit&& !odd x&&x !="__name__"
def bR(G:Gm)(x:Str):Bool:=gR G x&&G.bl.contains x
noncomputable def ns:Expr->Bool
 | .Starred _ _=>false
 |_=>true
def aR(f:Expr->Option DE):List Expr->Option (Nat×DA)
 |[]=>some (0,az)
 |e::es=>aE (ns e) ((f e).bind λx=>(aR f es).map λr=>(r.1+1,af x r.2))
structure GmO(G:Gm)(X:Cx):Prop where
 N:X.N=G.N
 nd:X.N.Nodup
 vis:∀x,rdK (G.kd x)=true->Vis X.env.scope x
 loc:∀x,(G.kd x==some .local||(G.top&&G.kd x==some .cell))=true->Loc X.env.scope x/\(X.fn x=true\/X.env.scope.names.lookup x=some .local)
 gl:∀x,G.kd x=some .globalImplicit->Gl X x
 cf:∀x,nU (G.kd x)=true->nU (X.env.kindOf x)=true
 sw:G.top=true->∀x,(X.env.blockKind== .function&&X.env.kindOf x==some .local)=(G.kd x==some .local)
 calm:X.calm=true
 own:X.xe=λ_ _=>False
 hu:X.A.units+20<cLine
 fns:∀x np sp,G.fns x=some (np,sp)->∃k fa fd ps,cy X.prog X.w X.K X.mg X.base CX0 k fa fd ps (spD X.K np sp)/\cw k X.A/\X.mg x=some (.ref fa)/\PySem.W.keepIn X.K (.ref fa)=true/\Binds X.K fd ps []
 no:∀x∈G.bl,X.mg x=none
def OL(X:Cx)(x:Str):D->Prop
 | .int i=>∃t,X.mg x=some (.int i t)
 | .str y=>∃t,X.mg x=some (.str y t)
 | .kt ks=>∃a,X.mg x=some (.ref a)/\Kt X.K a ks
 |_=>False
structure aO(G:Gm)(X:Cx):Prop extends GmO G X where
 cs:∀x d,G.cs x=some d->OL X x d
 ds:∀x t,G.ds x=some t->∃a,X.mg x=some (.ref a)/\KDk X.prog X.w X.K a t
 cl:G.fs≠[]->L2.Cls X.K G.C
 na:∀n∈G.fs,bO X.K G.C n
 rd:∀x sp,G.rd x=some sp->∃k fa fd ps,cy X.prog X.w X.K X.mg X.base CX0 k fa fd ps (spM X.K 1 sp)/\cw k X.A/\X.mg x=some (.ref fa)/\PySem.W.keepIn X.K (.ref fa)=true/\Binds X.K fd ps []
structure bY(v:Ev)(X:Cx):Prop where
 E:∀e f,v.E e=some f->PEd X e f
 V:∀e t,v.V e=some t->PEd X e (bE t)
 T:∀e t,v.T e=some t->PTd X e t
 W:∀e t,v.W e=some t->PWd X e t
 S:∀s f,v.S s=some f->PSd X s f
 B:∀b f,v.B b=some f->nT X b f
theorem aY{e:Expr}{es:List Expr}{env:PySem.Env}(h:ns e=true):starEach (e::es) env=(false,eval e env)::starEach es env:=by
 cases e<;>first|rfl|cases h
section
variable{G:Gm}{X:Cx}
theorem aO.hu1(g:aO G X):X.A.units+1<cLine:=by have:=g.hu;lia
variable{i:Nat}{x:Str}
theorem gG(g:aO G X)(h:vR G x=some i):X.N[i]? =some x/\Vis X.env.scope x/\(x==("__debug__":Str))=false/\(x==("__classdict__":Str))=false:=by
 obtain⟨h1,h2⟩:=ah h;rw[Gad] at h1;have:=h1.2;unfold odd at this;simp only[Bool.not_eq_true',Bool.or_eq_false_iff] at this;exact⟨by rw[g.N];exact BS h2,g.vis x h1.1,this.1,this.2⟩
theorem nq(g:aO G X)(h:lR G x=some i):X.N[i]? =some x/\Loc X.env.scope x/\(X.fn x=true\/X.env.scope.names.lookup x=some .local):=by
 obtain⟨h1,h2⟩:=ah h;exact⟨by rw[g.N];exact BS h2,g.loc x h1⟩
theorem lQ(g:aO G X)(h:gR G x=true):Gl X x/\x≠"__name__"/\(x==("__debug__":Str))=false:=by
 unfold gR at h;simp only[Gad,bne_iff_ne,GaK] at h;have:=h.1.2;unfold odd at this;simp only[Bool.not_eq_true',Bool.or_eq_false_iff] at this;exact⟨g.gl x h.1.1,h.2,this.1⟩
theorem j6(g:aO G X)(h:bR G x=true):Gl X x/\X.mg x=none/\x≠"__name__"/\(x==("__debug__":Str))=false:=by
 unfold bR at h;rw[Gad] at h;obtain⟨h1,h2,h3⟩:=lQ g h.1;exact⟨h1,g.no x (by simpa using h.2),h2,h3⟩
theorem lS{f:Expr->Option DE}(hf:∀e d,f e=some d->PEd X e d):∀{es:List Expr} {n:Nat} {r:DA},aR f es=some (n,r)->
  PAd X es r/\(∀env rs,r env=some rs->rs.length=n)/\(∀pos,(backTo pos (starEach es X.env)).any (·.1)=false)/\es.all ns=true
 |[],n,r,h=>by cases h;exact⟨dQ,Ej,λ_=>rfl,rfl⟩
 |e::es,n,r,h=>by
  obtain⟨h1,h2⟩:=ah h;obtain⟨x,hx,h2⟩:=ee h2;obtain⟨⟨m,q⟩,hq,h2⟩:=Gaa.mp h2;cases h2;obtain⟨a1,a2,a3,a4⟩:=lS hf hq;refine⟨bV (hf e x hx) a1 (aY h1),AY a2,λpos=> ?_,by rw[Gbu,h1,a4];rfl⟩;rw[aY h1];exact a3 pos
theorem uP{f:Expr->Option DE}{es:List Expr}{n:Nat}{r:DA}(h:aR f es=some (n,r))(hn:n≠0):∃e t,es=e::t/\ns e=true/\∃m q,aR f t=some (m,q):=by
 cases es with
 |nil=>cases h;exact absurd rfl hn
 |cons e t=>
  obtain⟨h1,h2⟩:=ah h;obtain⟨x,hx,h2⟩:=ee h2;obtain⟨⟨m,q⟩,hq,h2⟩:=Gaa.mp h2;exact⟨e,t,rfl,h1,m,q,hq⟩
end
noncomputable def orE(f g:DE):DE:=λenv=>match f env with
 |some r=>some r
 |none=>g env
noncomputable def orI(f g:DI):DI:=λenv=>match f env with
 |some r=>some r
 |none=>g env
noncomputable def J1(f g:DS):DS:=λenv=>match f env with
 |some r=>some r
 |none=>g env
noncomputable def orB(f g:D->D->Option Bool):D->D->Option Bool:=λx y=>match f x y with
 |some r=>some r
 |none=>g x y
noncomputable def orS(f g:SpV):SpV:=λds=>match f ds with
 |some r=>some r
 |none=>g ds
section
variable{X:Cx}
theorem J2{e:Expr}{f g:DE}(h1:PEd X e f)(h2:PEd X e g):PEd X e (orE f g):=λef s Z H Q I ⟨H0,eg,env,r,E,e,k⟩=>by
 unfold orE at e;split at e
 .rename_i q;exact h1 ef s Z H Q I ⟨H0,eg,env,r,E,by rw[q,e],k⟩
 .exact h2 ef s Z H Q I ⟨H0,eg,env,r,E,e,k⟩
theorem J3{tg e:Expr}{f g:DI}(h1:PId X tg e f)(h2:PId X tg e g):PId X tg e (orI f g):=λef s Z H R I ⟨H0,eg,env,r,E,e,k⟩=>by
 unfold orI at e;split at e
 .rename_i q;exact h1 ef s Z H R I ⟨H0,eg,env,r,E,by rw[q,e],k⟩
 .exact h2 ef s Z H R I ⟨H0,eg,env,r,E,e,k⟩
theorem J4{st:Stmt}{f g:DS}(h1:PSd X st f)(h2:PSd X st g):PSd X st (J1 f g):=λef s Z H D I ⟨H0,eg,env,r,E,e,k⟩=>by
 unfold J1 at e;split at e
 .rename_i q;exact h1 ef s Z H D I ⟨H0,eg,env,r,E,by rw[q,e],k⟩
 .exact h2 ef s Z H D I ⟨H0,eg,env,r,E,e,k⟩
theorem BU{f g:D->D->Option Bool}{r r' :R2}(h1:OpB X f r)(h2:OpB X g r'):OpB X (orB f g) (λx y H Q=>r x y H Q\/r' x y H Q):=λF H dx dy x y b Q ix iy e q=>by
 unfold orB at e;split at e
 .rename_i z;exact .inl (h1 F H dx dy x y b Q ix iy (by rw[z,e]) q)
 .exact .inr (h2 F H dx dy x y b Q ix iy e q)
theorem rn{f g:SpV}{r r' :List V->Hp->VK->Prop}(h1:CallD X f r)(h2:CallD X g r'):CallD X (orS f g) (λxs H Q=>r xs H Q\/r' xs H Q):=λF H ds vs rv Q p e k=>by
 unfold orS at e;split at e
 .rename_i z;exact .inl (h1 F H ds vs rv Q p (by rw[z,e]) k)
 .exact .inr (h2 F H ds vs rv Q p e k)
end
def Fc(op:CmpOp)(b:Expr):Option (D->D->Option Bool):=aE (!behindInMarks op b) (match op,b with
 | .Is,.Constant .none _ _=>some f7
 | .IsNot,.Constant .none _ _=>some qC
 | .Is,_=>none
 | .IsNot,_=>none
 | .Eq,_=>some eqB
 | .NotEq,_=>some neB
 | .Lt,_=>some ltB
 | .LtE,_=>some leB
 | .Gt,_=>some gtB
 | .GtE,_=>some geB
 | .In,_=>some (orB kO pR)
 | .NotIn,_=>some (orB oU oK))
def Fd(x:Str)(n:Nat):Option (SpV):=
 if x="len"/\n=1 then some gL else if x="min"/\n=2 then some lK else if x="max"/\n=2 then some uc else if x="max"/\n=1 then some oy
 else if x="all"/\n=1 then some qF else if x="sum"/\n=1 then some Lk
 else if x="int"/\n=1 then some (orS mS lO) else if x="str"/\n=1 then some (orS iR iT) else if x="tuple"/\n=1 then some aP else if x="list"/\n=1 then some listS else none
noncomputable def J5(x:Str):Option String:=
 if x="int" then some "int" else if x="bool" then some "bool" else if x="str" then some "str" else if x="tuple" then some "tuple" else if x="list" then some "list" else none
noncomputable def BV:Expr->Bool
 | .Slice _ _ _ _=>false
 |_=>true
theorem kT{b:Expr}(h:BV b=true):m4 b:=by
 cases b<;>first|exactλ_ _=>rfl|cases h
noncomputable def plT:Expr->Bool
 | .UnaryOp _ _ _=>false
 | .BoolOp _ _ _=>false
 | .IfExp _ _ _ _=>false
 | .Compare _ _ _ _=>false
 |_=>true
theorem tf{e:Expr}{env:PySem.Env}(h:plT e=true):∀whole,isTrue e env whole=(do let v<-whole;standAt e.pos;holding [v] (truthy v)):=by
 cases e<;>first|exactλ_=>rfl|cases h
section
variable{G:Gm}{X:Cx}
theorem pV(g:aO G X){op:CmpOp}{b:Expr}{o:D->D->Option Bool}(h:Fc op b=some o):behindInMarks op b=false/\∃r,OpR X (compareOp op) r/\OpB X o r:=by
 obtain⟨h1,h2⟩:=ah h;refine⟨by simpa using h1, ?_⟩;have hu:=g.hu;split at h2<;>cases h2
 .exact⟨_,GX,E9⟩
 .exact⟨_,Dk,AF⟩
 .exact⟨_,HZ hu,Ia⟩
 .exact⟨_,I0 hu,Ib⟩
 .exact⟨_,KW,HD⟩
 .exact⟨_,KY,HE⟩
 .exact⟨_,KZ,HF⟩
 .exact⟨_,L3,HG⟩
 .exact⟨_,(IC hu).or IF,BU F5 EJ⟩
 .exact⟨_,(ED hu).or EI,BU BJ Bo⟩
variable{x:Str}
theorem Fe(g:aO G X){n:Nat}{o:SpV}(h:Fd x n=some o)(hb:bR G x=true){e:Expr}{es:List Expr}{ra:DA}{p pos:Pos}(ha:PAd X (e::es) ra)(he:ns e=true)(xf:(backTo pos (starEach es X.env)).any (·.1)=false):PEd X (.Call (.Name x p) (e::es) [] pos) (je o ra):=by
 obtain⟨b1,b2,b3,b4⟩:=j6 g hb;have hc:=g.calm;unfold Fd at h
 repeat' split at h
 all_goals first|cases h|skip
 all_goals (rename_i q;obtain⟨rfl,_⟩:=q)
 .exact kG (Ag.or vO) vP b1 b2 Ic ha b3 b4 (aY he) xf
 .exact kG (vt hc) sv b1 b2 Ie ha b3 b4 (aY he) xf
 .exact kG (vq hc) sx b1 b2 AZ ha b3 b4 (aY he) xf
 .exact kG (wj hc) sF b1 b2 AZ ha b3 b4 (aY he) xf
 .exact kG (wa hc) wm b1 b2 Ih ha b3 b4 (aY he) xf
 .exact kG (wc hc) wq b1 b2 Ig ha b3 b4 (aY he) xf
 .exact jU (vw.or nV) (rn wA sQ) b1 b2 B3 ha b3 b4 (aY he) xf
 .exact jU (pB.or wL) (rn wD sY) b1 b2 B4 ha b3 b4 (aY he) xf
 .exact jU nR qK b1 b2 qP ha b3 b4 (aY he) xf
 .exact jU pG sy b1 b2 uu ha b3 b4 (aY he) xf
theorem Ff{T:String}(h:J5 x=some T):mJ X.K T/\bootBuiltins x=some (.type T):=by
 unfold J5 at h
 repeat' split at h
 all_goals first|cases h|skip
 all_goals (rename_i q;obtain rfl:=q)
 .exact⟨En,B3⟩
 .exact⟨B6,Em⟩
 .exact⟨Eo,B4⟩
 .exact⟨kit_tuple,qP⟩
 .exact⟨B5,uu⟩
end
abbrev Rc:=Gm->Ev
def cpR(v:Ev):Expr->Option DT
 | .Compare a [op] [b] _=>(Fc op b).bind λo=>(v.E a).bind λf=>(v.E b).map λg=>av o f g
 | .Compare a [op,xr] [b,c] _=>(Fc op b).bind λo=>(Fc xr c).bind λo' =>(v.E a).bind λf=>(v.E b).bind λg=>(v.E c).map λh=>kB o o' f g h
 |_=>none
def Fg(v:Ev)(G:Gm):Expr->Option DT
 | .Call (.Name x _) [e,.Name y _] [] _=>aE (x=="isinstance"&&bR G x&&bR G y&&ns e) ((J5 y).bind λT=>(v.E e).map λf=>jf T f)
 |_=>none
def vV(v:Ev)(G:Gm)(e:Expr):Option DT:=match e with
 | .Compare _ _ _ _=>cpR v e
 | .BoolOp _ [a] _=>v.V a
 | .BoolOp .And (a::b::rest) p=>(v.V a).bind λt=>(v.V (.BoolOp .And (b::rest) p)).map λu=>dF t u
 | .BoolOp .Or (a::b::rest) p=>(v.V a).bind λt=>(v.V (.BoolOp .Or (b::rest) p)).map λu=>orT t u
 | .UnaryOp .Not a _=>(v.V a).map jO
 | .Call _ _ _ _=>match Fg v G e with
  |some t=>some t
  |none=>(v.E e).map dO
 |_=>(v.E e).map dO
def tV(v:Ev)(e:Expr):Option DT:=match e with
 | .Compare _ _ _ _=>cpR v e
 | .BoolOp _ _ _=>v.W e
 | .UnaryOp .Not a _=>(v.T a).map jO
 |_=>aE (plT e) ((v.E e).map dO)
def wV(v:Ev):Expr->Option DT
 | .BoolOp .And [a] _=>v.T a
 | .BoolOp .Or [a] _=>v.T a
 | .BoolOp .And (a::b::rest) p=>(v.T a).bind λt=>(v.W (.BoolOp .And (b::rest) p)).map λu=>dF t u
 | .BoolOp .Or (a::b::rest) p=>(v.T a).bind λt=>(v.W (.BoolOp .Or (b::rest) p)).map λu=>orT t u
 |_=>none
def tgs(G:Gm):List Expr->Option (List Nat)
 |[]=>some []
 | .Name x _::r=>(lR G x).bind λi=>(tgs G r).map λis=>i::is
 |_=>none
def tgR(G:Gm):Expr->Option DG
 | .Name x _=>(lR G x).map gN
 | .Tuple es _ _=>(tgs G es).map gT
 |_=>none
noncomputable def tgN:Expr->List Str
 | .Name x _=>[x]
 | .Tuple es _ _=>es.filterMap λ| .Name x _=>some x|_=>none
 |_=>[]
noncomputable def J6:Expr->Bool
 | .Tuple _ _ _=>true
 |_=>false
noncomputable def J7:Expr->Bool
 | .Set _ _ _=>false
 |_=>true
noncomputable def J8:Expr->Bool
 | .Call (.Name _ _) [] [] _=>false
 |_=>true
def Fh(v:Ev)(G:Gm)(tg iter:Expr):Option DI:=match iter with
 | .Call (.Name x _) [a] [] _=>
  if x="range" then aE (bR G x&&ns a) ((v.E a).map aZ)
  else if x="enumerate" then aE (bR G x&&ns a&&J6 tg) ((v.E a).map oJ)
  else(v.E iter).map vL
 | .Call (.Name x _) [a,b] [] _=>
  if x="zip" then aE (bR G x&&ns a&&ns b&&J6 tg) ((v.E a).bind λf=>(v.E b).map λg=>BL f g) else if x="range" then aE (bR G x&&ns a&&ns b) ((v.E a).bind λf=>(v.E b).map λg=>fJ f g) else(v.E iter).map vL
 |_=>(v.E iter).map λf=>orI (vL f) (Iy f)
def Gq(G:Gm):Expr->Option Nat
 | .Name x _=>ixN G.N x
 | .Call (.Name y _) [.Name x _] [] _=>if y="enumerate" then ixN G.N x else none
 |_=>none
def inG(G:Gm)(scope:Scope)(tn:List Str):Gm:={G with N:=tn++G.N.filter λx=>scope.names.lookup x==some .free,kd:=λx=>scope.names.lookup x,top:=false}
def Mq(G:Gm)(scope:Scope):List Nat:=(G.N.filter λx=>scope.names.lookup x==some .free).filterMap (ixN G.N)
def scB(G:Gm)(scope:Scope)(N:List Str)(n:Nat)(eC:List Nat):Bool:=
 (scope.names.all λy=>y.2 != .cell)&&scope.kind== .function&&(scope.names.all λy=>y.2 != .local||scope.names.lookup y.1==some .local)&&(scope.names.all λy=>y.2 != .free||nU (G.kd y.1))
  &&N.drop n==(eC.map λi=>(G.N[i]?).getD ("":Str))&&decide (n<=N.length)&&(eC.all λi=>decide (i<G.N.length))&&((N.drop n).all λx=>scope.names.lookup x==some .free)&&decide N.Nodup
def tsR(v:Ev):List Expr->Option DT
 |[]=>some aK
 |[c]=>v.T c
 |_=>none
section
variable{G:Gm}{X:Cx}{v:Ev}
theorem BW(g:aO G X)(k:bY v X){e:Expr}{t:DT}(h:cpR v e=some t):PTd X e t/\PEd X e (bE t):=by
 unfold cpR at h;split at h
 .obtain⟨o,ho,h⟩:=ee h;obtain⟨f,hf,h⟩:=ee h;obtain⟨q,hq,rfl⟩:=Gaa.mp h;obtain⟨m,r,h1,h2⟩:=pV g ho;exact⟨HB h1 h2 (k.E _ _ hf) (k.E _ _ hq) m,HC h1 h2 (k.E _ _ hf) (k.E _ _ hq) m⟩
 .obtain⟨o,ho,h⟩:=ee h;obtain⟨o',xv,h⟩:=ee h;obtain⟨f,hf,h⟩:=ee h;obtain⟨q,hq,h⟩:=ee h;obtain⟨u,hu,rfl⟩:=Gaa.mp h;obtain⟨m,r,h1,h2⟩:=pV g ho;obtain⟨m',r',zh,zC⟩:=pV g xv;exact⟨AH h1 h2 zh zC (k.E _ _ hf) (k.E _ _ hq) (k.E _ _ hu) m',Be h1 h2 zh zC (k.E _ _ hf) (k.E _ _ hq) (k.E _ _ hu) m'⟩
 .cases h
theorem uQ(g:aO G X)(k:bY v X){e:Expr}{t:DT}(h:Fg v G e=some t):PEd X e (bE t):=by
 unfold Fg at h;split at h
 .obtain⟨c,h⟩:=ah h;obtain⟨T,hT,h⟩:=ee h;obtain⟨f,hf,rfl⟩:=Gaa.mp h;simp only[Gad,GaK] at c;obtain⟨⟨⟨c1,c2⟩,c3⟩,c4⟩:=c;subst c1;obtain⟨a1,a2,_,_⟩:=j6 g c2;obtain⟨b1,b2,b3,b4⟩:=j6 g c3;obtain⟨k1,k2⟩:=Ff (X:=X) hT;exact HX k1 (k.E _ _ hf) a1 a2 b1 b2 k2 b3 b4 (aY c4) (aY rfl) rfl
 .cases h
theorem Gr(g:aO G X)(k:bY v X){e:Expr}{t:DT}(h:vV v G e=some t):PEd X e (bE t):=by
 unfold vV at h;split at h
 .exact(BW g k h).2
 .exact HL (k.V _ _ h)
 .obtain⟨a,ha,h⟩:=ee h;obtain⟨u,hu,rfl⟩:=Gaa.mp h;exact HM (k.V _ _ ha) (k.V _ _ hu)
 .obtain⟨a,ha,h⟩:=ee h;obtain⟨u,hu,rfl⟩:=Gaa.mp h;exact LW (k.V _ _ ha) (k.V _ _ hu)
 .obtain⟨u,hu,rfl⟩:=Gaa.mp h;exact HP (k.V _ _ hu)
 .split at h
  .rename_i q;cases h;exact uQ g k q
  .obtain⟨u,hu,rfl⟩:=Gaa.mp h;exact qI (k.E _ _ hu)
 .obtain⟨u,hu,rfl⟩:=Gaa.mp h;exact qI (k.E _ _ hu)
theorem Mr(g:aO G X)(k:bY v X){e:Expr}{t:DT}(h:tV v e=some t):PTd X e t:=by
 unfold tV at h;split at h
 .exact(BW g k h).1
 .exact(k.W _ _ h).pt
 .obtain⟨u,hu,rfl⟩:=Gaa.mp h;exact HK (k.T _ _ hu)
 .obtain⟨c,h⟩:=ah h;obtain⟨u,hu,rfl⟩:=Gaa.mp h;exact HH (k.E _ _ hu) (tf c)
theorem Ms(k:bY v X){e:Expr}{t:DT}(h:wV v e=some t):PWd X e t:=by
 unfold wV at h;split at h
 .exact Ea (k.T _ _ h)
 .exact HI (k.T _ _ h)
 .obtain⟨a,ha,h⟩:=ee h;obtain⟨u,hu,rfl⟩:=Gaa.mp h;exact HJ (k.T _ _ ha) (k.W _ _ hu)
 .obtain⟨a,ha,h⟩:=ee h;obtain⟨u,hu,rfl⟩:=Gaa.mp h;exact LV (k.T _ _ ha) (k.W _ _ hu)
 .cases h
theorem BX(g:aO G X):∀{es:List Expr} {is:List Nat},tgs G es=some is->PGs X es (tGs X is)/\(assignEach es X.env).length=is.length/\(assignEach es X.env).findIdx? (·.1)=none
 |[],is,h=>by cases h;exact⟨Eg,rfl,rfl⟩
 |e::r,is,h=>by
  unfold tgs at h;split at h
  .rename_i q;cases q
  .rename_i x p r' q;cases q;obtain⟨i,hi,h⟩:=ee h;obtain⟨js,hj,rfl⟩:=Gaa.mp h;obtain⟨h1,h2,h3⟩:=nq g hi;obtain⟨a1,a2,a3⟩:=BX g hj;refine⟨AS (uq g.nd h1 h2 h3) a1 rfl, ?_, ?_⟩
   .show(assignEach r X.env).length+1=_;rw[a2];rfl
   .show((false,assign (.Name x p) X.env)::assignEach r X.env).findIdx? (·.1)=none;rw[Gbq,a3];rfl
  .cases h
theorem nr(g:aO G X){e:Expr}{gd:DG}(h:tgR G e=some gd):PGd X e gd/\oF gd:=by
 unfold tgR at h;split at h
 .obtain⟨i,hi,rfl⟩:=Gaa.mp h;obtain⟨h1,h2,h3⟩:=nq g hi;exact⟨uq g.nd h1 h2 h3,B9⟩
 .obtain⟨is,hi,rfl⟩:=Gaa.mp h;obtain⟨a1,a2,a3⟩:=BX g hi;exact⟨HW g.calm a1 a2 a3 rfl,Ba⟩
 .cases h
variable{env:PySem.Env}
theorem pW{e:Expr}(h:J7 e=true):∀x,foldedSetIterable e env x=pure x:=by
 cases e<;>first|exactλ_=>rfl|cases h
theorem uR{o:Expr}{m:Str}(h:J8 o=true):attributeBase o m env (eval o env)=eval o env:=by
 unfold attributeBase;split
 .cases h
 .rfl
theorem Gs{e:Expr}(h:J6 e=true):∃a b c,e= .Tuple a b c:=by
 cases e<;>first|exact⟨_,_,_,rfl⟩|cases h
theorem uS(g:aO G X)(k:bY v X){tg e:Expr}{src:DI}(h:Fh v G tg e=some src):PId X tg e src:=by
 have seq:∀{e:Expr} {src:DI},(v.E e).map vL=some src->PId X tg e src:=λh=>by
  obtain⟨u,hu,rfl⟩:=Gaa.mp h;exact AR (k.E _ _ hu)
 unfold Fh at h;split at h
 .split at h
  .rename_i q;subst q
   obtain⟨c,h⟩:=ah h;obtain⟨u,hu,rfl⟩:=Gaa.mp h;rw[Gad] at c;obtain⟨b1,b2,_⟩:=j6 g c.1;exact vQ b1 b2 (k.E _ _ hu) (aY c.2)
  .split at h
   .rename_i q;subst q
    obtain⟨c,h⟩:=ah h;obtain⟨u,hu,rfl⟩:=Gaa.mp h;simp only[Gad] at c;obtain⟨b1,b2,_⟩:=j6 g c.1.1;obtain⟨_,_,_,rfl⟩:=Gs c.2;exact EA b1 b2 (k.E _ _ hu) (aY c.1.2)
   .exact seq h
 .split at h
  .rename_i q;subst q
   obtain⟨c,h⟩:=ah h;obtain⟨f,hf,h⟩:=ee h;obtain⟨u,hu,rfl⟩:=Gaa.mp h;simp only[Gad] at c;obtain⟨b1,b2,_⟩:=j6 g c.1.1.1;obtain⟨_,_,_,rfl⟩:=Gs c.2;exact F9 b1 b2 (k.E _ _ hf) (k.E _ _ hu) (aY c.1.1.2) (aY c.1.2)
  split at h
  .rename_i q;subst q
   obtain⟨c,h⟩:=ah h;obtain⟨f,hf,h⟩:=ee h;obtain⟨u,hu,rfl⟩:=Gaa.mp h;simp only[Gad] at c;obtain⟨b1,b2,_⟩:=j6 g c.1.1;exact vS b1 b2 (k.E _ _ hf) (k.E _ _ hu) (by rw[aY c.1.2,aY c.2];rfl) (aY c.2)
  .exact seq h
 .obtain⟨u,hu,rfl⟩:=Gaa.mp h;exact J3 (AR (k.E _ _ hu)) (IE (k.E _ _ hu))
end
def lcR(r:Rc)(G:Gm)(elt tg iter:Expr)(ifs:List Expr)(scope:Scope):Option DE:=
 aE (scB G scope (inG G scope (tgN tg)).N (tgN tg).length (Mq G scope)&&J7 iter) ((tgR (inG G scope (tgN tg)) tg).bind λgd=>(tsR (r (inG G scope (tgN tg))) ifs).bind λt=>((r (inG G scope (tgN tg))).E elt).bind λf=>(Fh (r G) G tg iter).map λsrc=>bq (Gq G iter) (tgN tg).length (Mq G scope) src gd t f)
section
variable{G:Gm}{X:Cx}{r:Rc}
variable{eC:List Nat}{n:Nat}{scope:Scope}
theorem BY(g:aO G X){N:List Str}(h:scB G scope N n eC=true):gf X scope N n eC/\N.Nodup:=by
 unfold scB at h;simp only[Gad] at h;obtain⟨⟨⟨⟨⟨⟨⟨⟨h1,h2⟩,h3⟩,h4⟩,h5⟩,h6⟩,h7⟩,h8⟩,h9⟩:=h;refine⟨⟨h1,by simpa using h2,h3,Gao.mpr λy hy=> ?_,by rw[g.N];exact Gas (by simpa using h5),Gas h6,by rw[g.N];exact h7,h8⟩,Gas h9⟩;have:=Gao.mp h4 y hy;rw[Gbh] at this⊢;exact this.imp id (g.cf y.1)
theorem pX(g:aO G X){tn:List Str}(h:scB G scope (inG G scope tn).N n eC=true)(cl:List (Str×Addr))(C:Addr)(s:Shared)(H:Hp)(ex:List Addr):aO (inG G scope tn) (blk X scope cl C (inG G scope tn).N s H ex):=by
 have nc:∀x,scope.names.lookup x≠some .cell:=λx hx=>by
  unfold scB at h;simp only[Gad] at h;have h1:=h.1.1.1.1.1.1.1.1;have:(x,NameKind.cell)∈scope.names:=by
   clear h;generalize scope.names=l at*;induction l with
   |nil=>simp at hx
   |cons p l ih=>
    rw[Gay] at hx;cases q:x==p.1 with
    |true=>rw[q] at hx;obtain⟨a,b⟩:=p;injection hx with hx;subst hx;rw[GaK.mp q];exact GaI
    |false=>rw[q] at hx;rw[Gbu,Gad] at h1;exact Gat _ (ih hx h1.2)
  have:=Gao.mp h1 _ this;simp at this
 have nd:=(BY g h).2;exact{
  N:=rfl
  nd:=nd
  vis:=λx hx=>by
   have hx:rdK (scope.names.lookup x)=true:=hx
   match q:scope.names.lookup x with
   |some .local=>exact vY q
   |some .free=>exact B8 q
   |some .cell=>exact absurd q (nc x)
   |none=>rw[q] at hx;cases hx
   |some .globalExplicit=>rw[q] at hx;cases hx
   |some .globalImplicit=>rw[q] at hx;cases hx
  loc:=λx hx=>by
   have hx:scope.names.lookup x=some .local:=by simpa[inG] using hx
   exact⟨vZ hx,Ik hx⟩
  gl:=λx hx=>Ij hx
  cf:=λx hx=>by
   have hx:nU (scope.names.lookup x)=true:=hx;have q:scope.names.lookup x=some .free:=by
    match q:scope.names.lookup x with
    |some .free=>rfl
    |some .cell=>exact absurd q (nc x)
    |some .local=>rw[q] at hx;cases hx
    |none=>rw[q] at hx;cases hx
    |some .globalExplicit=>rw[q] at hx;cases hx
    |some .globalImplicit=>rw[q] at hx;cases hx
   rcases(cZ (env:=X.env) q) with z|z
   .show nU (List.lookup x _)=true;exact(congrArg nU z).trans rfl
   .show nU (List.lookup x _)=true;exact(congrArg nU z).trans rfl
  sw:=λz=>by cases z
  calm:=g.calm
  own:=rfl
  hu:=g.hu
  fns:=g.fns
  no:=g.no
  cs:=g.cs
  ds:=g.ds
  cl:=g.cl
  na:=g.na
  rd:=g.rd}
theorem BZ(hr:∀G X,aO G X->bY (r G) X)(g:aO G X){elt tg iter:Expr}{ifs:List Expr}{pos:Pos}{f:DE}(h:lcR r G elt tg iter ifs scope=some f):
  PEd X (.ListComp elt [⟨tg,iter,ifs,0⟩] scope pos) f/\(∀{x:Str} {i:Nat} {p' p:Pos},lR G x=some i->swapsWith (.ListComp elt [⟨tg,iter,ifs,0⟩] scope pos) (some (.Name x p')) p.line X.env=pure true->PSd X (.Assign [.Name x p'] (.ListComp elt [⟨tg,iter,ifs,0⟩] scope pos) p) (aq i f)):=by
 obtain⟨c,h⟩:=ah h;rw[Gad] at c;obtain⟨gd,hg,h⟩:=ee h;obtain⟨t,ht,h⟩:=ee h;obtain⟨u,hu,h⟩:=ee h;obtain⟨S,nd⟩:=BY g c.1;have B:Blk X scope (inG G scope (tgN tg)).N tg elt ifs gd t u:=⟨λcl C s H ex=>(nr (pX g c.1 cl C s H ex) hg).1,λcl C s H ex=>by
  have k:=hr _ _ (pX g c.1 cl C s H ex);unfold tsR at ht;split at ht
  .cases ht;exact vW
  .exact vX (k.T _ _ ht)
  .exact(by cases ht),λcl C s H ex=>(hr _ _ (pX g c.1 cl C s H ex)).E _ _ hu⟩
 have no:=(nr (pX g c.1 [] 0 X.s₀ X.H0 []) hg).2;obtain⟨src,PJ,rfl⟩:=Gaa.mp h;have I:=uS g (hr G X g) PJ;exact⟨Es g.calm S I no B (pW c.2),λhx hs=>by
  obtain⟨l1,l2,l3⟩:=nq g hx;exact Et g.nd l1 l2 g.calm S I no B hs (pW c.2) l3⟩
end
def opO:Operator->Option (D->D->Option RV)
 | .Add=>some ae
 | .Sub=>some kA
 | .Mult=>some ck
 | .FloorDiv=>some jN
 | .Mod=>some dE
 |_=>none
def slO(v:Ev):Option Expr->Option DO
 |none=>some noO
 |some e=>(v.E e).map bK
def clR(v:Ev)(G:Gm)(x:Str)(args:List Expr):Option DE:=match G.fns x with
 |some (np,sp)=>aE (gR G x) ((aR v.E args).bind λa=>aE (a.1==np&&a.1 !=0) (some (aQ sp a.2)))
 |none=>aE (bR G x) ((aR v.E args).bind λa=>(Fd x a.1).map λo=>je o a.2)
def Fi(G:Gm):List Expr->Option (List Nat)
 |[]=>some []
 | .Name x _::r=>(vR G x).bind λi=>(Fi G r).map λis=>i::is
 |_=>none
def nmE(G:Gm)(x:Str):Option DE:=match vR G x with
 |some i=>some (vE i)
 |none=>aE (gR G x) ((G.cs x).map kE)
noncomputable def alt{α:Type}(a b:Option α):Option α:=match a with
 |some x=>some x
 |none=>b
theorem bZ{α:Type}{a b:Option α}{x:α}(h:alt a b=some x):a=some x\/b=some x:=by
 cases a with
 |none=>exact .inr h
 |some y=>exact .inl h
theorem nn{α:Type}{x:Option α}{f:α}{C:Prop}(h:x=some f)(e:x=none):C:=by rw[e] at h;cases h
def eR0(r:Rc)(G:Gm)(e:Expr):Option DE:=match e with
 | .Name x _=>nmE G x
 | .Constant (.int i) _ _=>some (kE (.int i))
 | .Constant (.bool b) _ _=>some (kE (.bl b))
 | .Constant .none _ _=>some (kE .non)
 | .Constant (.str x) _ _=>some (kE (.str x))
 | .BinOp a op b _=>(opO op).bind λo=>((r G).E a).bind λf=>((r G).E b).map λg=>opE o f g
 | .UnaryOp .USub a _=>((r G).E a).map (unE jd)
 | .UnaryOp .Not _ _=>(vV (r G) G e).map bE
 | .Compare _ _ _ _=>(vV (r G) G e).map bE
 | .BoolOp _ _ _=>(vV (r G) G e).map bE
 | .IfExp c a b _=>((r G).T c).bind λt=>((r G).E a).bind λf=>((r G).E b).map λg=>ifE t f g
 | .Tuple es _ _=>(aR (r G).E es).map λa=>dq a.2
 | .Attribute a n _=>aE (G.fs.contains n&&J8 a) (((r G).E a).map λf=>cM G.C n f)
 | .List es _=>(aR (r G).E es).map λa=>gK a.2
 |_=>none
def eR1(r:Rc)(G:Gm)(e:Expr):Option DE:=match e with
 | .Subscript a (.Slice lo hi none _) _=>((r G).E a).bind λf=>(slO (r G) lo).bind λl=>(slO (r G) hi).map λh=>slE f l h
 | .Subscript (.Name x _) b _=>aE (BV b) (match aE (gR G x) (G.ds x) with
  |some t=>((r G).E b).map λg=>kdE t g
  |none=>(nmE G x).bind λf=>((r G).E b).map λg=>ixE f g)
 | .Subscript (.List es lp) b _=>aE (BV b) (((r G).E b).bind λg=>match(r G).E (.List es lp),Fi G es with
  |some f,some is=>some (orE (ixE f g) (BM is g))
  |some f,none=>some (ixE f g)
  |none,some is=>some (BM is g)
  |none,none=>none)
 | .Subscript a b _=>aE (BV b) (((r G).E a).bind λf=>((r G).E b).map λg=>ixE f g)
 |_=>none
def eR2(r:Rc)(G:Gm)(e:Expr):Option DE:=match e with
 | .Call (.Attribute o m apos) [a] [] eD=>aE (m=="split"&&J8 o&&ns a&&(apos.endLine==eD.line)) (((r G).E o).bind λf=>((r G).E a).map λg=>opE kN f g)
 |_=>none
def eR3(r:Rc)(G:Gm)(e:Expr):Option DE:=match e with
 | .ListComp elt [⟨tg,iter,ifs,0⟩] scope _=>lcR r G elt tg iter ifs scope
 |_=>none
def eR4(r:Rc)(G:Gm)(e:Expr):Option DE:=match e with
 | .Call (.Name x _) args [] _=>match Fg (r G) G e with
  |some t=>some (bE t)
  |none=>clR (r G) G x args
 |_=>none
def eR5(r:Rc)(G:Gm)(e:Expr):Option DE:=match e with
 | .Call (.Attribute (.Constant (.str sep) _ _) m apos) [a] [] eD=>aE (m=="join"&&ns a&&(apos.endLine==eD.line)) (((r G).E a).map (unE (cB sep)))
 |_=>none
def eR6(r:Rc)(G:Gm)(e:Expr):Option DE:=match e with
 | .Call (.Name x _) [.Call (.Name y _) [a] [] _] [] _=>aE (x=="len"&&y=="set"&&bR G x&&bR G y&&ns a) (((r G).E a).map (unE kb))
 |_=>none
def eR7(r:Rc)(G:Gm)(e:Expr):Option DE:=match e with
 | .Subscript (.Constant (.str y) _ _) (.Slice none (some h) none _) _=>((r G).E h).map (sZ y)
 |_=>none
def eR8(r:Rc)(G:Gm)(e:Expr):Option DE:=match e with
 | .Call (.Name x _) [a] [] _=>(G.rd x).bind λsp=>aE (gR G x&&ns a) (((r G).E a).map (rdE sp))
 |_=>none
def eR(r:Rc)(G:Gm)(e:Expr):Option DE:=alt (eR8 r G e) (alt (eR7 r G e) (alt (eR0 r G e) (alt (eR1 r G e) (alt (eR2 r G e) (alt (eR3 r G e) (alt (eR4 r G e) (alt (eR5 r G e) (eR6 r G e))))))))
section
variable{G:Gm}{X:Cx}{r:Rc}{v:Ev}
variable{p:Pos}{f:DE}{x:Str}
theorem J9(g:aO G X)(k:bY v X){args:List Expr}{pos:Pos}(h:clR v G x args=some f):PEd X (.Call (.Name x p) args [] pos) f:=by
 unfold clR at h;split at h
 .rename_i np sp hf;obtain⟨c,h⟩:=ah h;obtain⟨⟨n,a⟩,ha,h⟩:=ee h;obtain⟨c2,h⟩:=ah h;cases h;simp only[Gad,GaK,bne_iff_ne] at c2;obtain⟨rfl,n0⟩:=c2;obtain⟨e,t,rfl,h1,m,q,hq⟩:=uP ha n0;obtain⟨kk,fa,fd,ps,F,hr,hm,hk,hb⟩:=g.fns x _ _ hf;obtain⟨g1,_,g3⟩:=lQ g c;exact Ec F hr g1 hm hk hb ua (lS k.E ha).1 (lS k.E ha).2.1 g3 (aY h1) ((lS k.E hq).2.2.1 pos)
 .obtain⟨c,h⟩:=ah h;obtain⟨⟨n,a⟩,ha,h⟩:=ee h;obtain⟨o,ho,rfl⟩:=Gaa.mp h;have n0:n≠0:=λz=>by subst z;simp[Fd] at ho
  obtain⟨e,t,rfl,h1,m,q,hq⟩:=uP ha n0;exact Fe g ho c (lS k.E ha).1 h1 ((lS k.E hq).2.2.1 pos)
theorem C0(k:bY v X){e:Option Expr}{d:DO}(h:slO v e=some d):PO X e (tO X d):=by
 unfold slO at h;split at h
 .cases h;exact w8
 .obtain⟨u,hu,rfl⟩:=Gaa.mp h;exact w9 (k.E _ _ hu)
theorem C1(g:aO G X)(h:nmE G x=some f):PEd X (.Name x p) f:=by
 unfold nmE at h;split at h
 .rename_i i hi;cases h;obtain⟨v1,v2,v3,v4⟩:=gG g hi;exact Ht i v1 v2 v3 v4
 .obtain⟨c,h⟩:=ah h;obtain⟨d,hd,rfl⟩:=Gaa.mp h;obtain⟨g1,_,g3⟩:=lQ g c;have:=g.cs x d hd;cases d with
  |int i=>obtain⟨t,ht⟩:=this;exact Bp g1 ht g3
  |str y=>obtain⟨t,ht⟩:=this;exact Bq g1 ht g3
  |kt ks=>obtain⟨a,ha,hk⟩:=this;exact Mi g1 ha hk g3
  |_=>exact this.elim
theorem pY(g:aO G X):∀{es:List Expr} {is:List Nat},Fi G es=some is->PA X es (tVs is)
 |[],is,h=>by cases h;exact IU
 |e::r,is,h=>by
  unfold Fi at h;split at h
  .rename_i q;cases q
  .rename_i x p r' q;cases q;obtain⟨i,hi,h⟩:=ee h;obtain⟨js,hj,rfl⟩:=Gaa.mp h;obtain⟨v1,v2,v3,v4⟩:=gG g hi;exact Mm v1 v2 v3 v4 (pY g hj) (aY rfl)
  .cases h
theorem Fj{b:Expr}(h:BV b=true):Hm b:=by
 cases b<;>first|exactλ_ _=>rfl|cases h
theorem Ja(hr:∀G X,aO G X->bY (r G) X)(g:aO G X){e:Expr}(h:eR0 r G e=some f):PEd X e f:=by
 have k:=hr G X g;have vv:∀{e:Expr} {f:DE},(vV (r G) G e).map bE=some f->PEd X e f:=λh=>by
  obtain⟨u,hu,rfl⟩:=Gaa.mp h;exact Gr g k hu
 unfold eR0 at h;split at h
 .exact C1 g h
 .cases h;exact Ay
 .cases h;exact LS
 .cases h;exact Hu
 .cases h;exact Hw
 .obtain⟨o,ho,h⟩:=ee h;obtain⟨a,ha,h⟩:=ee h;obtain⟨b,hb,rfl⟩:=Gaa.mp h;unfold opO at ho;split at ho
  .cases ho;exact EM (k.E _ _ ha) (k.E _ _ hb)
  .cases ho;exact Hy (k.E _ _ ha) (k.E _ _ hb)
  .cases ho;exact Hz (k.E _ _ ha) (k.E _ _ hb)
  .cases ho;exact E5 (k.E _ _ ha) (k.E _ _ hb)
  .cases ho;exact HA (k.E _ _ ha) (k.E _ _ hb)
  .cases ho
 .obtain⟨u,hu,rfl⟩:=Gaa.mp h;exact AE (k.E _ _ hu)
 .exact vv h
 .exact vv h
 .exact vv h
 .obtain⟨o,ho,h⟩:=ee h;obtain⟨a,ha,h⟩:=ee h;obtain⟨b,hb,rfl⟩:=Gaa.mp h;exact AG (k.T _ _ ho) (k.E _ _ ha) (k.E _ _ hb)
 .obtain⟨⟨n,a⟩,ha,rfl⟩:=Gaa.mp h;exact HQ (lS k.E ha).1
 .obtain⟨c,h⟩:=ah h;obtain⟨u,hu,rfl⟩:=Gaa.mp h;rw[Gad] at c;have hn:=GbK.mp c.1;exact Iv (g.cl λz=>by rw[z] at hn;cases hn) (g.na _ hn) (k.E _ _ hu) (uR c.2)
 .obtain⟨⟨n,a⟩,ha,rfl⟩:=Gaa.mp h;exact HR (lS k.E ha).1
 .cases h
theorem Jb(hr:∀G X,aO G X->bY (r G) X)(g:aO G X){e:Expr}(h:eR1 r G e=some f):PEd X e f:=by
 have k:=hr G X g;unfold eR1 at h;split at h
 .obtain⟨o,ho,h⟩:=ee h;obtain⟨a,ha,h⟩:=ee h;obtain⟨b,hb,rfl⟩:=Gaa.mp h;exact Bc (k.E _ _ ho) (C0 k ha) (C0 k hb)
 .obtain⟨c,h'⟩:=ah h;clear h;split at h'
  .rename_i t ht;obtain⟨c2,ht⟩:=ah ht;obtain⟨u,hu,rfl⟩:=Gaa.mp h';obtain⟨g1,_,g3⟩:=lQ g c2;obtain⟨a,ha,hk⟩:=g.ds _ _ ht;exact Mj g.hu1 g1 ha hk g3 (k.E _ _ hu) (Fj c)
  .obtain⟨a,ha,h'⟩:=ee h';obtain⟨b,hb,rfl⟩:=Gaa.mp h';exact uh g.hu1 (C1 g ha) (k.E _ _ hb) (kT c)
 .obtain⟨c,h'⟩:=ah h;clear h;obtain⟨u,hu,h⟩:=ee h';clear h';split at h
  .rename_i q1 q2;cases h;exact J2 (uh g.hu1 (k.E _ _ q1) (k.E _ _ hu) (kT c)) (uO g.hu1 (pY g q2) (k.E _ _ hu) (kT c))
  .rename_i q1 q2;cases h;exact uh g.hu1 (k.E _ _ q1) (k.E _ _ hu) (kT c)
  .rename_i q1 q2;cases h;exact uO g.hu1 (pY g q2) (k.E _ _ hu) (kT c)
  .cases h
 .obtain⟨c,h⟩:=ah h;obtain⟨a,ha,h⟩:=ee h;obtain⟨b,hb,rfl⟩:=Gaa.mp h;exact uh g.hu1 (k.E _ _ ha) (k.E _ _ hb) (kT c)
 .cases h
theorem Jc(hr:∀G X,aO G X->bY (r G) X)(g:aO G X){e:Expr}(h:eR2 r G e=some f):PEd X e f:=by
 have k:=hr G X g;cases e<;>try exact nn h rfl
 rename_i fe ar kw p1;cases fe<;>try exact nn h rfl
 rename_i o m p2;cases ar<;>try exact nn h rfl
 rename_i a ar;cases ar<;>try exact nn h rfl
 cases kw<;>try exact nn h rfl
 unfold eR2 at h
 try dsimp only at h
 obtain⟨c,h⟩:=ah h;obtain⟨o,ho,h⟩:=ee h;obtain⟨u,hu,rfl⟩:=Gaa.mp h;simp only[Gad,GaK] at c;obtain⟨⟨⟨rfl,c2⟩,c3⟩,c4⟩:=c;exact BH (k.E _ _ ho) (k.E _ _ hu) (aY c3) (uR c2) (by rw[c4];exact beq_self_eq_true _)
theorem Jd(hr:∀G X,aO G X->bY (r G) X)(g:aO G X){e:Expr}(h:eR3 r G e=some f):PEd X e f:=by
 have k:=hr G X g;unfold eR3 at h;split at h
 .exact(BZ hr g h).1
 .cases h
theorem Je(hr:∀G X,aO G X->bY (r G) X)(g:aO G X){e:Expr}(h:eR4 r G e=some f):PEd X e f:=by
 have k:=hr G X g;cases e<;>try exact nn h rfl
 rename_i fe ar kw p1;cases fe<;>try exact nn h rfl
 rename_i x p2;cases kw<;>try exact nn h rfl
 unfold eR4 at h
 try dsimp only at h
 split at h
 .rename_i q;cases h;exact uQ g k q
 .exact J9 g k h
theorem Jf(hr:∀G X,aO G X->bY (r G) X)(g:aO G X){e:Expr}(h:eR5 r G e=some f):PEd X e f:=by
 have k:=hr G X g;cases e<;>try exact nn h rfl
 rename_i fe ar kw p1;cases fe<;>try exact nn h rfl
 rename_i o m p2;cases o<;>try exact nn h rfl
 rename_i c j p3;cases c<;>try exact nn h rfl
 cases ar<;>try exact nn h rfl
 rename_i a ar;cases ar<;>try exact nn h rfl
 cases kw<;>try exact nn h rfl
 obtain⟨c,h⟩:=ah h;obtain⟨u,hu,rfl⟩:=Gaa.mp h;simp only[Gad,GaK] at c;obtain⟨⟨rfl,c2⟩,c3⟩:=c;exact BO (k.E _ _ hu) (aY c2) (by rw[c3];exact beq_self_eq_true _)
theorem Jg(hr:∀G X,aO G X->bY (r G) X)(g:aO G X){e:Expr}(h:eR6 r G e=some f):PEd X e f:=by
 have k:=hr G X g;cases e<;>try exact nn h rfl
 rename_i fe ar kw p1;cases fe<;>try exact nn h rfl
 cases ar<;>try exact nn h rfl
 rename_i a ar;cases a<;>try exact nn h rfl
 rename_i f2 a2 k2 p4;cases f2<;>try exact nn h rfl
 cases a2<;>try exact nn h rfl
 rename_i a3 a4;cases a4<;>try exact nn h rfl
 cases k2<;>try exact nn h rfl
 cases ar<;>try exact nn h rfl
 cases kw<;>try exact nn h rfl
 obtain⟨c,h⟩:=ah h;obtain⟨u,hu,rfl⟩:=Gaa.mp h;simp only[Gad,GaK] at c;obtain⟨⟨⟨⟨rfl,rfl⟩,c3⟩,c4⟩,c5⟩:=c;obtain⟨b1,b2,_⟩:=j6 g c3;obtain⟨d1,d2,_⟩:=j6 g c4;exact Fb g.calm b1 b2 d1 d2 (k.E _ _ hu) (aY c5) (aY rfl)
theorem Jh(hr:∀G X,aO G X->bY (r G) X)(g:aO G X){e:Expr}(h:eR7 r G e=some f):PEd X e f:=by
 have k:=hr G X g;cases e<;>try exact nn h rfl
 rename_i o i p1;cases o<;>try exact nn h rfl
 rename_i c j p2;cases c<;>try exact nn h rfl
 cases i<;>try exact nn h rfl
 rename_i lo hi st p3;cases lo<;>try exact nn h rfl
 cases hi<;>try exact nn h rfl
 cases st<;>try exact nn h rfl
 obtain⟨u,hu,rfl⟩:=Gaa.mp h;exact IY (k.E _ _ hu)
theorem Ji(hr:∀G X,aO G X->bY (r G) X)(g:aO G X){e:Expr}(h:eR8 r G e=some f):PEd X e f:=by
 have k:=hr G X g;cases e<;>try exact nn h rfl
 rename_i fe ar kw p1;cases fe<;>try exact nn h rfl
 cases ar<;>try exact nn h rfl
 rename_i a ar;cases ar<;>try exact nn h rfl
 cases kw<;>try exact nn h rfl
 obtain⟨sp,hs,h⟩:=ee h;obtain⟨c,h⟩:=ah h;obtain⟨u,hu,rfl⟩:=Gaa.mp h;rw[Gad] at c;obtain⟨j,fa,fd,ps,F,rm,hm,hk,hb⟩:=g.rd _ _ hs;obtain⟨g1,_,g3⟩:=lQ g c.1;exact Mp F rm g1 hm hk hb (k.E _ _ hu) g3 (aY c.2)
theorem Mt(hr:∀G X,aO G X->bY (r G) X)(g:aO G X){e:Expr}(h:eR r G e=some f):PEd X e f:=by
 rcases bZ h with h|h
 .exact Ji hr g h
 rcases bZ h with h|h
 .exact Jh hr g h
 rcases bZ h with h|h
 .exact Ja hr g h
 rcases bZ h with h|h
 .exact Jb hr g h
 rcases bZ h with h|h
 .exact Jc hr g h
 rcases bZ h with h|h
 .exact Jd hr g h
 rcases bZ h with h|h
 .exact Je hr g h
 rcases bZ h with h|h
 .exact Jf hr g h
 exact Jg hr g h
end
noncomputable def nLC:Expr->Bool
 | .ListComp _ _ _ _=>false
 | .SetComp _ _ _ _=>false
 | .DictComp _ _ _ _ _=>false
 |_=>true
theorem kU{e:Expr}{t:Option Expr}{n:Nat}{env:PySem.Env}(h:nLC e=true):swapsWith e t n env=pure false:=by
 cases e<;>first|rfl|cases h
def kdR(v:Ev)(G:Gm):Expr->Option DT
 | .Compare a [op] [.Name x _] _=>match aE (gR G x) (G.ds x) with
  |some t=>if op= .In then(v.E a).map (kdT false t) else if op= .NotIn then(v.E a).map (kdT true t) else none
  |none=>none
 |_=>none
def tK(v:Ev)(G:Gm)(e:Expr):Option DT:=match kdR v G e with
 |some t=>some t
 |none=>tV v e
def r2R(G:Gm):Expr->Option DS
 | .Tuple [.Name x _,.Name y _] _ _=>(vR G x).bind λi=>(vR G y).map λj=>Gk i j
 |_=>none
def swB(G:Gm)(x:Str)(p lp:Pos)(scope:Scope):Bool:=(G.kd x==some .local)&&(p.line==lp.line)&& !(scope.names.any λ(n,k)=>n==x&&(k== .local||k== .cell))
def asR(r:Rc)(G:Gm)(x:Str)(p:Pos)(e:Expr):Option DE:=match e with
 | .ListComp elt [⟨tg,iter,ifs,0⟩] scope lp=>aE G.top (match swB G x p lp scope with
  |true=>lcR r G elt tg iter ifs scope
  |false=>(r G).E e)
 |_=>aE (nLC e) ((r G).E e)
def meR(v:Ev)(G:Gm)(x m:Str)(args:List Expr):Option DS:=(vR G x).bind λi=>match args with
 |[]=>if m="clear" then some (su i) else none
 |[a]=>aE (ns a) (if m="append" then(v.E a).map λf=>bA i f else if m="extend" then(v.E a).map λf=>vM i f else none)
 |[a,b]=>aE (ns a&&ns b) (if m="insert" then(v.E a).bind λf=>(v.E b).map λg=>Ez i f g else none)
 |_=>none
def sR0(r:Rc)(G:Gm)(s:Stmt):Option DS:=match s with
 | .Assign [.Name x p] e _=>(lR G x).bind λi=>(asR r G x p e).map λf=>aq i f
 |_=>none
def sR1(r:Rc)(G:Gm)(s:Stmt):Option DS:=match s with
 | .Assign [.Tuple es c p] (.Subscript a i q) _=>(tgR G (.Tuple es c p)).bind λgd=>((r G).E (.Subscript a i q)).map λf=>Ax gd f
 |_=>none
def sR2(r:Rc)(G:Gm)(s:Stmt):Option DS:=match s with
 | .Return (some e) _=>((r G).E e).map λf=>match r2R G e with
  |some g=>J1 (retS f) g
  |none=>retS f
 | .If c xs ys _=>((r G).T c).bind λt=>((r G).B xs).bind λa=>((r G).B ys).map λb=>ifS t a b
 |_=>none
def sR3(r:Rc)(G:Gm)(s:Stmt):Option DS:=match s with
 | .For tg iter body [] _=>aE (J7 iter) ((Fh (r G) G tg iter).bind λsrc=>(tgR G tg).bind λgd=>((r G).B body).map λb=>cL (Gq G iter) src gd b)
 |_=>none
def sR4(r:Rc)(G:Gm)(s:Stmt):Option DS:=match s with
 | .Expr (.Call (.Attribute (.Name x _) m apos) args [] eD) _=>aE (apos.endLine==eD.line) (meR (r G) G x m args)
 |_=>none
def sR5(r:Rc)(G:Gm)(s:Stmt):Option DS:=match s with
 | .Assign [.Subscript (.Name x _) k _] e _=>aE (nLC e) ((vR G x).bind λi=>((r G).E k).bind λf=>((r G).E e).map λg=>qG i f g)
 |_=>none
def sR6(r:Rc)(G:Gm)(s:Stmt):Option DS:=match s with
 | .Assign [.Tuple es c p] (.Name x q) _=>(tgR G (.Tuple es c p)).bind λgd=>((r G).E (.Name x q)).map λf=>Ax gd f
 |_=>none
def sR(r:Rc)(G:Gm)(s:Stmt):Option DS:=alt (sR0 r G s) (alt (sR1 r G s) (alt (sR2 r G s) (alt (sR3 r G s) (alt (sR4 r G s) (alt (sR5 r G s) (sR6 r G s))))))
def sN(r:Rc)(G:Gm)(s:Stmt):Option DS:=match sR r G s with
 |some f=>some f
 |none=>aE G.nv (some dP)
def blR(v:Ev):List Stmt->Option DS
 |[]=>some aD
 |[s]=>v.S s
 |s::t::rest=>(v.S s).bind λa=>(v.B (t::rest)).map λb=>ak a b
def Mu(r:Rc):Rc:=λG=> ⟨eR r G,vV (r G) G,tK (r G) G,wV (r G),sN r G,blR (r G)⟩
def C3:Nat->Rc
 |0=>λ_=> ⟨λ_=>none,λ_=>none,λ_=>none,λ_=>none,λ_=>none,λ_=>none⟩
 |n+1=>Mu (C3 n)
section
variable{G:Gm}{X:Cx}{r:Rc}{v:Ev}
theorem Jj(g:aO G X)(k:bY v X){e:Expr}{t:DT}(h:kdR v G e=some t):PTd X e t:=by
 unfold kdR at h;split at h
 .split at h
  .rename_i tb ht;obtain⟨c,ht⟩:=ah ht;obtain⟨g1,_,g3⟩:=lQ g c;obtain⟨a,ha,hk⟩:=g.ds _ _ ht;split at h
   .rename_i q;subst q
    obtain⟨u,hu,rfl⟩:=Gaa.mp h;exact Gn (neg:=false) rfl g1 ha hk g3 (k.E _ _ hu)
   .split at h
    .rename_i q;subst q
     obtain⟨u,hu,rfl⟩:=Gaa.mp h;exact Gn (neg:=true) rfl g1 ha hk g3 (k.E _ _ hu)
    .cases h
  .cases h
 .cases h
theorem Mv(g:aO G X)(k:bY v X){e:Expr}{t:DT}(h:tK v G e=some t):PTd X e t:=by
 unfold tK at h;split at h
 .rename_i q;cases h;exact Jj g k q
 .exact Mr g k h
variable{pos:Pos}{f:DS}
theorem Jk(g:aO G X){e:Expr}(h:r2R G e=some f):PSd X (.Return (some e) pos) f:=by
 unfold r2R at h;split at h
 .obtain⟨i,hi,h⟩:=ee h;obtain⟨j,hj,rfl⟩:=Gaa.mp h;obtain⟨v1,v2,v3,v4⟩:=gG g hi;obtain⟨u1,u2,u3,u4⟩:=gG g hj;exact F4 v1 v2 v3 v4 u1 u2 u3 u4 (aY rfl) (aY rfl)
 .cases h
variable{x:Str}
theorem Jl(hr:∀G X,aO G X->bY (r G) X)(g:aO G X){p:Pos}{e:Expr}{i:Nat}{f:DE}(hx:lR G x=some i)(h:asR r G x p e=some f):PSd X (.Assign [.Name x p] e pos) (aq i f):=by
 obtain⟨l1,l2,l3⟩:=nq g hx;unfold asR at h;split at h
 .rename_i elt tg iter ifs scope lp;obtain⟨c,h'⟩:=ah h;clear h;have sw:swapsWith (.ListComp elt [⟨tg,iter,ifs,0⟩] scope lp) (some (.Name x p)) pos.line X.env=pure (swB G x p lp scope):=by
   show(pure _:Sem Bool)=_;unfold swB;rw[<-g.sw c x]
   rfl
  split at h'
  .rename_i q;exact(BZ hr g h').2 hx (by rw[sw,q])
  .rename_i q;exact AO g.nd l1 l2 ((hr G X g).E _ _ h') (by rw[sw,q]) l3
 .obtain⟨c,h'⟩:=ah h;exact AO g.nd l1 l2 ((hr G X g).E _ _ h') (kU c) l3
theorem Jm(g:aO G X)(k:bY v X){m:Str}{args:List Expr}{px apos eD:Pos}(hl:(apos.endLine==eD.line)=true)(h:meR v G x m args=some f):PSd X (.Expr (.Call (.Attribute (.Name x px) m apos) args [] eD) pos) f:=by
 obtain⟨i,hi,h'⟩:=ee h;clear h;obtain⟨v1,v2,v3,v4⟩:=gG g hi;split at h'
 .split at h'
  .rename_i q;subst q;cases h';exact AV v1 v2 v3 v4 rfl hl rfl
  .cases h'
 .obtain⟨c,h2⟩:=ah h';clear h';split at h2
  .rename_i q;subst q
   obtain⟨u,hu,rfl⟩:=Gaa.mp h2;exact vT v1 v2 (k.E _ _ hu) v3 v4 (aY c) rfl (by rw[aY c];rfl) hl rfl
  .split at h2
   .rename_i q;subst q
    obtain⟨u,hu,rfl⟩:=Gaa.mp h2;exact vU v1 v2 (k.E _ _ hu) v3 v4 (aY c) rfl (by rw[aY c];rfl) hl rfl
   .cases h2
 .obtain⟨c,h2⟩:=ah h';clear h';rw[Gad] at c;split at h2
  .rename_i q;subst q
   obtain⟨a,ha,h3⟩:=ee h2;obtain⟨u,hu,rfl⟩:=Gaa.mp h3;exact wC v1 v2 (k.E _ _ ha) (k.E _ _ hu) v3 v4 (aY c.1) (aY c.2) rfl (by rw[aY c.1,aY c.2];rfl) hl rfl
  .cases h2
 .cases h'
variable{s:Stmt}
theorem Jn(hr:∀G X,aO G X->bY (r G) X)(g:aO G X)(h:sR0 r G s=some f):PSd X s f:=by
 have k:=hr G X g;cases s<;>try exact nn h rfl
 rename_i ts e p;cases ts<;>try exact nn h rfl
 rename_i t1 ts;cases t1<;>try exact nn h rfl
 rename_i x p1;cases ts<;>try exact nn h rfl
 unfold sR0 at h
 try dsimp only at h
 obtain⟨i,hi,h⟩:=ee h;obtain⟨u,hu,rfl⟩:=Gaa.mp h;exact Jl hr g hi hu
theorem Jo(hr:∀G X,aO G X->bY (r G) X)(g:aO G X)(h:sR1 r G s=some f):PSd X s f:=by
 have k:=hr G X g;cases s<;>try exact nn h rfl
 rename_i ts e p;cases ts<;>try exact nn h rfl
 rename_i t1 ts;cases t1<;>try exact nn h rfl
 rename_i es c p1;cases ts<;>try exact nn h rfl
 cases e<;>try exact nn h rfl
 rename_i a ix p2;unfold sR1 at h
 try dsimp only at h
 obtain⟨gd,hg,h⟩:=ee h;obtain⟨u,hu,rfl⟩:=Gaa.mp h;exact AU (k.E _ _ hu) (nr g hg).1 rfl rfl rfl
theorem Jp(hr:∀G X,aO G X->bY (r G) X)(g:aO G X)(h:sR2 r G s=some f):PSd X s f:=by
 have k:=hr G X g;unfold sR2 at h;split at h
 .obtain⟨u,hu,rfl⟩:=Gaa.mp h;split
  .rename_i q;exact J4 (AM (k.E _ _ hu)) (Jk g q)
  .exact AM (k.E _ _ hu)
 .obtain⟨t,ht,h⟩:=ee h;obtain⟨a,ha,h⟩:=ee h;obtain⟨u,hu,rfl⟩:=Gaa.mp h;exact LY (k.T _ _ ht) (k.B _ _ ha) (k.B _ _ hu)
 .cases h
theorem Jq(hr:∀G X,aO G X->bY (r G) X)(g:aO G X)(h:sR3 r G s=some f):PSd X s f:=by
 have k:=hr G X g;have ow:PassesOwn (model X.prog X.w) X.A X.env X.xe:=by rw[g.own];exact PassesOwn.never
 cases s<;>try exact nn h rfl
 rename_i tg it bd os p;cases os<;>try exact nn h rfl
 unfold sR3 at h
 try dsimp only at h
 obtain⟨c,h⟩:=ah h;obtain⟨t,ht,h⟩:=ee h;obtain⟨a,ha,h⟩:=ee h;obtain⟨u,hu,rfl⟩:=Gaa.mp h;exact HU ow g.calm (uS g k ht) (nr g ha).1 (k.B _ _ hu) (pW c)
theorem Jr(hr:∀G X,aO G X->bY (r G) X)(g:aO G X)(h:sR4 r G s=some f):PSd X s f:=by
 have k:=hr G X g;cases s<;>try exact nn h rfl
 rename_i e p;cases e<;>try exact nn h rfl
 rename_i fe ar kw p1;cases fe<;>try exact nn h rfl
 rename_i o m p2;cases o<;>try exact nn h rfl
 rename_i x p3;cases kw<;>try exact nn h rfl
 unfold sR4 at h
 try dsimp only at h
 obtain⟨c,h⟩:=ah h;exact Jm g k c h
theorem Js(hr:∀G X,aO G X->bY (r G) X)(g:aO G X)(h:sR5 r G s=some f):PSd X s f:=by
 have k:=hr G X g;cases s<;>try exact nn h rfl
 rename_i ts e p;cases ts<;>try exact nn h rfl
 rename_i t1 ts;cases t1<;>try exact nn h rfl
 rename_i o i2 p1;cases o<;>try exact nn h rfl
 cases ts<;>try exact nn h rfl
 obtain⟨c,h⟩:=ah h;obtain⟨i,hi,h⟩:=ee h;obtain⟨a,ha,h⟩:=ee h;obtain⟨u,hu,rfl⟩:=Gaa.mp h;obtain⟨v1,v2,v3,v4⟩:=gG g hi;exact Io g.hu1 v1 v2 (k.E _ _ ha) (k.E _ _ hu) v3 v4 (kU c)
theorem Jt(hr:∀G X,aO G X->bY (r G) X)(g:aO G X)(h:sR6 r G s=some f):PSd X s f:=by
 have k:=hr G X g;cases s<;>try exact nn h rfl
 rename_i ts e p;cases ts<;>try exact nn h rfl
 rename_i t1 ts;cases t1<;>try exact nn h rfl
 rename_i es c p1;cases ts<;>try exact nn h rfl
 cases e<;>try exact nn h rfl
 obtain⟨gd,hg,h⟩:=ee h;obtain⟨u,hu,rfl⟩:=Gaa.mp h;exact AU (k.E _ _ hu) (nr g hg).1 rfl rfl rfl
theorem Mw(hr:∀G X,aO G X->bY (r G) X)(g:aO G X)(h:sR r G s=some f):PSd X s f:=by
 rcases bZ h with h|h
 .exact Jn hr g h
 rcases bZ h with h|h
 .exact Jo hr g h
 rcases bZ h with h|h
 .exact Jp hr g h
 rcases bZ h with h|h
 .exact Jq hr g h
 rcases bZ h with h|h
 .exact Jr hr g h
 rcases bZ h with h|h
 .exact Js hr g h
 exact Jt hr g h
theorem Mx(hr:∀G X,aO G X->bY (r G) X)(g:aO G X)(h:sN r G s=some f):PSd X s f:=by
 unfold sN at h;split at h
 .rename_i q;cases h;exact Mw hr g q
 .obtain⟨_,h⟩:=ah h;cases h;exact AL
theorem pZ:∀(n:Nat) (G:Gm) (X:Cx),aO G X->bY (C3 n G) X
 |0,G,X,g=>by constructor<;>(intro _ _ h;cases h)
 |n+1,G,X,g=>by
  have hr:=pZ n;have k:=hr G X g;refine⟨λe f h=>Mt hr g h,λe t h=>Gr g k h,λe t h=>Mv g k h,λe t h=>Ms k h,λs f h=>Mx hr g h,λb f h=> ?_⟩;have h:blR (C3 n G) b=some f:=h;unfold blR at h;split at h
  .cases h;exact AK
  .exact HS (k.S _ _ h)
  .obtain⟨a,ha,h⟩:=ee h;obtain⟨u,hu,rfl⟩:=Gaa.mp h;exact Ed (k.S _ _ ha) (k.B _ _ hu)
end
structure Wm where
 fw:Str->Option (Nat×List Nat×(SpX))
 mo:Str->Option (Nat×(SpX))
 nm:List Str
 mv:List Nat
structure tm(M:Wm)(X:Cx):Prop where
 fw:∀x np J sp,M.fw x=some (np,J,sp)->∃k fa fd ps,cy X.prog X.w X.K X.mg X.base CX0 k fa fd ps (spW X.K np J sp)/\cw k X.A/\X.mg x=some (.ref fa)/\PySem.W.keepIn X.K (.ref fa)=true/\Binds X.K fd ps []
 mo:∀x C sp,M.mo x=some (C,sp)->∃k fa fd ps,Mk X.K C fa/\cy X.prog X.w X.K X.mg X.base CX0 k fa fd ps (spW X.K 1 [0] sp)/\cw (k+1) X.A/\X.mg x=some (.ref C)/\Binds X.K fd ps []
def nY(M:Wm)(Pn:Nat->V->Prop):Prop:=∀i∈M.mv,∀v,¬Pn i v
structure WEv where
 S:Stmt->Option DW
 B:List Stmt->Option DW
structure WOk(r:WEv)(M:Wm)(X:Cx)(H0:Hp)(E:XK):Prop where
 S:∀s f,r.S s=some f->∀Pn,nY M Pn->PS X s (tW X H0 Pn E f)
 B:∀s f,r.B s=some f->∀Pn,nY M Pn->PSs X s (tW X H0 Pn E f)
noncomputable def orW(f g:DW):DW:=λenv=>match f env with
 |some r=>some r
 |none=>g env
theorem C4{X:Cx}{H0:Hp}{Pn:Nat->V->Prop}{E:XK}{s:Stmt}{f g:DW}(h1:PS X s (tW X H0 Pn E f))(h2:PS X s (tW X H0 Pn E g)):PS X s (tW X H0 Pn E (orW f g)):=λef z Z H D I ⟨env,o,EW,e,ok⟩=>by
 unfold orW at e;split at e
 .rename_i q;exact h1 ef z Z H D I ⟨env,o,EW,by rw[q,e],ok⟩
 .exact h2 ef z Z H D I ⟨env,o,EW,e,ok⟩
def awR(v:Ev)(G:Gm)(nm:List Str)(J:List Nat):Nat->List Expr->Option (List AW)
 |_,[]=>some []
 |i,e::es=>aE (ns e) ((awR v G nm J (i+1) es).bind λr=>match e with
  | .Name x _=>if J.contains i then(vR G x).map λj=> .lent j::r else if nm.contains x then(vR G x).map λj=> .name j::r else(v.E e).map λf=> .val f::r
  |_=>(v.E e).map λf=> .val f::r)
def cwR(v:Ev)(G:Gm)(M:Wm):Expr->Option DXW
 | .Call (.Name x _) (a::as) [] _=>(M.fw x).bind λf=>aE (gR G x) ((awR v G M.nm f.2.1 0 (a::as)).bind λr=>aE (cq 0 r==f.2.1&&r.length==f.1) (some (cT f.2.2 r)))
 |_=>none
def ctR(v:Ev)(G:Gm)(M:Wm):Expr->Option DTW
 | .UnaryOp .Not a _=>aE (plT a) ((cwR v G M a).map λm=>BE (wI m))
 |e=>aE (plT e) ((cwR v G M e).map wI)
section
variable{G:Gm}{M:Wm}{X:Cx}{v:Ev}{H0:Hp}{Pn:Nat->V->Prop}{E:XK}
theorem C5(g:aO G X.nox)(k:bY v X.nox){nm:List Str}{J:List Nat}:∀{es:List Expr} {i:Nat} {r:List AW},awR v G nm J i es=some r->PA X es (tAw X r)/\es.all ns=true/\∀pos,(backTo pos (starEach es X.env)).any (·.1)=false
 |[],i,r,h=>by cases h;exact⟨IK,rfl,λ_=>rfl⟩
 |e::es,i,r,h=>by
  obtain⟨c,h⟩:=ah h;obtain⟨q,hq,h⟩:=ee h;obtain⟨a1,a2,a3⟩:=C5 g k hq;refine⟨?_,by rw[Gbu,c,a2];rfl,λpos=>by rw[aY c];exact a3 pos⟩;have val:∀{f:DE},v.E e=some f->PA X (e::es) (tAw X (.val f::q)):=λhf=>IL (k.E _ _ hf) a1 (aY c);split at h
  .split at h
   .obtain⟨j,hj,rfl⟩:=Gaa.mp h;obtain⟨v1,v2,v3,v4⟩:=gG g hj;exact BC (.inl rfl) v1 v2 v3 v4 a1 (aY c)
   .split at h
    .obtain⟨j,hj,rfl⟩:=Gaa.mp h;obtain⟨v1,v2,v3,v4⟩:=gG g hj;exact BC (.inr rfl) v1 v2 v3 v4 a1 (aY c)
    .obtain⟨f,hf,rfl⟩:=Gaa.mp h;exact val hf
  .obtain⟨f,hf,rfl⟩:=Gaa.mp h;exact val hf
theorem q8(g:aO G X.nox)(k:bY v X.nox)(w:tm M X){e:Expr}{m:DXW}(h:cwR v G M e=some m):PE X e (tXw X H0 Pn m):=by
 unfold cwR at h;split at h
 .rename_i x p a as pos;obtain⟨⟨np,J,sp⟩,hf,h⟩:=ee h;obtain⟨c,h⟩:=ah h;obtain⟨r,hr,h⟩:=ee h;obtain⟨c2,h⟩:=ah h;cases h;simp only[Gad,GaK] at c2;obtain⟨rfl,rfl⟩:=c2;obtain⟨kk,fa,fd,ps,F,rm,hm,hk,hb⟩:=w.fw _ _ _ _ hf;obtain⟨g1,_,g3⟩:=lQ g c;obtain⟨a1,a2,a3⟩:=C5 g k hr;rw[Gbu,Gad] at a2;have tl:(backTo pos (starEach as X.env)).any (·.1)=false:=by have:=a3 pos;rw[aY a2.1] at this;exact this
  exact EU F rm g1 hm hk hb a1 rfl g3 (aY a2.1) tl
 .cases h
theorem Ju(g:aO G X.nox)(k:bY v X.nox)(w:tm M X){e:Expr}{t:DTW}(h:ctR v G M e=some t):PT X e (tTw X H0 Pn t):=by
 unfold ctR at h;split at h
 .obtain⟨c,h⟩:=ah h;obtain⟨m,hm,rfl⟩:=Gaa.mp h;exact EY (uJ (q8 g k w hm) (tf c))
 .obtain⟨c,h⟩:=ah h;obtain⟨m,hm,rfl⟩:=Gaa.mp h;exact uJ (q8 g k w hm) (tf c)
end
def pw0(v:Ev)(G:Gm)(M:Wm)(r:WEv)(s:Stmt):Option DW:=match s with
 | .Return (some e) _=>match cwR v G M e with
  |some m=>some (ig m)
  |none=>(v.E e).map λf=>Ip f
 | .If c xs ys _=>(r.B xs).bind λa=>(r.B ys).bind λb=>match ctR v G M c with
  |some t=>some (ifC t a b)
  |none=>(v.T c).map λt=>ifW t a b
 |_=>none
def pw1(v:Ev)(G:Gm)(M:Wm)(r:WEv)(s:Stmt):Option DW:=match s with
 | .Assign [.Name x _] e _=>aE (nLC e) ((lR G x).bind λi=>match cwR v G M e with
  |some m=>some (setC i m)
  |none=>match e with
   | .Call (.Name c _) [] [] _=>(M.mo c).bind λq=>aE (gR G c&&M.mv.contains i) (some (mkO i q.1 q.2))
   |_=>none)
 |_=>none
def pw2(v:Ev)(G:Gm)(M:Wm)(r:WEv)(s:Stmt):Option DW:=match s with
 | .Assign [.Attribute (.Name x _) n _] e _=>aE (G.fs.contains n&&nLC e) ((vR G x).bind λi=>match e with
  | .List [] _=>some (sV i G.C n)
  |_=>(v.E e).map λf=>orW (ES i G.C n f) (F1 i G.C n f))
 |_=>none
def pw3(v:Ev)(G:Gm)(M:Wm)(r:WEv)(s:Stmt):Option DW:=match s with
 | .Assign [.Subscript (.Attribute (.Name x _) n _) (.UnaryOp .USub (.Constant (.int i1) _ _) _) _] e _=>aE (G.fs.contains n&&nLC e&&i1==1) ((vR G x).bind λi=>(v.E e).map λf=>lN i G.C n f)
 |_=>none
def pw4(v:Ev)(G:Gm)(M:Wm)(r:WEv)(s:Stmt):Option DW:=match s with
 | .Expr (.Call (.Attribute (.Attribute (.Name x _) n _) m apos) [e] [] eD) _=>aE (m=="append"&&G.fs.contains n&&ns e&&(apos.endLine==eD.line)) ((vR G x).bind λi=>(v.E e).map λf=>wt i G.C n f)
 |_=>none
def pw7(v:Ev)(G:Gm)(M:Wm)(r:WEv)(s:Stmt):Option DW:=match s with
 | .For (.Tuple [.Name y _,.Name z _] _ _) (.Call (.Name f _) [.Name x _] [] _) body [] _=>aE (f=="enumerate"&&bR G f) ((lR G y).bind λi=>(lR G z).bind λj=>(vR G x).bind λl=>aE (!M.mv.contains l) ((r.B body).map λb=>uK i j l b))
 |_=>none
def My(v:Ev)(G:Gm)(M:Wm)(r:WEv)(s:Stmt):Option DW:=alt (pw0 v G M r s) (alt (pw1 v G M r s) (alt (pw2 v G M r s) (alt (pw3 v G M r s) (alt (pw4 v G M r s) (pw7 v G M r s)))))
def sW(v:Ev)(G:Gm)(M:Wm)(r:WEv)(s:Stmt):Option DW:=match v.S s,My v G M r s with
 |some f,some h=>some (orW (aJ f) h)
 |some f,none=>some (aJ f)
 |none,h=>h
def bW(r:WEv):List Stmt->Option DW
 |[]=>some (aJ aD)
 |[s]=>r.S s
 |s::t::rest=>(r.S s).bind λa=>(r.B (t::rest)).map λb=>aI a b
def wQ(n0:Nat)(G:Gm):Nat->Wm->WEv
 |0,_=> ⟨λ_=>none,λ_=>none⟩
 |n+1,M=> ⟨λs=>sW (C3 n0 G) G M (wQ n0 G n M) s,λb=>bW (wQ n0 G n M) b⟩
section
variable{G:Gm}{M:Wm}{X:Cx}{v:Ev}{r:WEv}{H0:Hp}{E:XK}
theorem kM1{i j:Nat}{p q:Pos}{i1:Int}(h:(i1==1)=true):PEd X.nox (.UnaryOp .USub (.Constant (.int i1) j p) q) (kE (.int (-1))):=by
 rw[GaK] at h;subst h;exact AE (f:=kE (.int 1)) Ay
theorem C6(g:aO G X.nox){n:Str}(h:G.fs.contains n=true):L2.Cls X.K G.C/\bO X.K G.C n:=by
 have hn:=GbK.mp h;exact⟨g.cl (λz=>by rw[z] at hn;cases hn),g.na _ hn⟩
section
variable(g:aO G X.nox)(k:bY v X.nox)(wk:tm M X)(hr:WOk r M X H0 E)(xA:∀x,G.kd x=some .local->X.env.scope.names.lookup x=some .local)(hc:X.calm=true)(ow:PassesOwn (model X.prog X.w) X.A X.env X.xe)
include g k wk hr xA hc ow
variable{s:Stmt}
theorem Jv{f:DW}(h:pw0 v G M r s=some f){Pn:Nat->V->Prop}(hP:nY M Pn):PS X s (tW X H0 Pn E f):=by
 unfold pw0 at h;split at h
 .split at h
  .rename_i m hm;cases h;exact EV (q8 g k wk hm)
  .obtain⟨u,hu,rfl⟩:=Gaa.mp h;exact Iu (k.E _ _ hu)
 .obtain⟨a,ha,h⟩:=ee h;obtain⟨b,hb,h⟩:=ee h;split at h
  .rename_i t ht;cases h;exact IM (Ju g k wk ht) (hr.B _ _ ha Pn hP) (hr.B _ _ hb Pn hP)
  .obtain⟨t,ht,rfl⟩:=Gaa.mp h;exact M1 (k.T _ _ ht) (hr.B _ _ ha Pn hP) (hr.B _ _ hb Pn hP)
 .cases h
theorem Jw{f:DW}(h:pw1 v G M r s=some f){Pn:Nat->V->Prop}(hP:nY M Pn):PS X s (tW X H0 Pn E f):=by
 cases s<;>try exact nn h rfl
 rename_i ts e p;cases ts<;>try exact nn h rfl
 rename_i t1 ts;cases t1<;>try exact nn h rfl
 rename_i x p1;cases ts<;>try exact nn h rfl
 unfold pw1 at h;dsimp only at h;obtain⟨c,h⟩:=ah h;obtain⟨i,hi,h⟩:=ee h;obtain⟨l1,l2,l3⟩:=nq g hi;split at h
 .rename_i m hm;cases h;exact EX g.nd l1 l2 l3 (q8 g k wk hm) (kU c)
 .split at h
  .obtain⟨⟨C,sp⟩,hq,h⟩:=ee h;obtain⟨c2,h⟩:=ah h;cases h;rw[Gad] at c2;obtain⟨g1,_,g3⟩:=lQ g c2.1;obtain⟨kk,fa,fd,ps,mk,F,rm,hm,hb⟩:=wk.mo _ _ _ hq;exact Mg mk F rm g1 hm hb g.nd l1 l2 l3 (hP i (GbK.mp c2.2)) g3 rfl
  .cases h
theorem Jx{f:DW}(h:pw2 v G M r s=some f){Pn:Nat->V->Prop}(hP:nY M Pn):PS X s (tW X H0 Pn E f):=by
 cases s<;>try exact nn h rfl
 rename_i ts e p;cases ts<;>try exact nn h rfl
 rename_i t1 ts;cases t1<;>try exact nn h rfl
 rename_i o n p1;cases o<;>try exact nn h rfl
 rename_i x p2;cases ts<;>try exact nn h rfl
 unfold pw2 at h;dsimp only at h;obtain⟨c,h⟩:=ah h;rw[Gad] at c;obtain⟨i,hi,h⟩:=ee h;obtain⟨v1,v2,v3,v4⟩:=gG g hi;obtain⟨f1,f2⟩:=C6 g c.1;split at h
 .cases h;exact F3 f1 f2 v1 v2 v3 v4 rfl
 .obtain⟨u,hu,rfl⟩:=Gaa.mp h;exact C4 (ET f1 f2 v1 v2 v3 v4 (k.E _ _ hu) (kU c.2)) (F2 f1 f2 v1 v2 v3 v4 (k.E _ _ hu) (kU c.2))
theorem Jy{f:DW}(h:pw3 v G M r s=some f){Pn:Nat->V->Prop}(hP:nY M Pn):PS X s (tW X H0 Pn E f):=by
 cases s<;>try exact nn h rfl
 rename_i ts e p;cases ts<;>try exact nn h rfl
 rename_i t1 ts;cases t1<;>try exact nn h rfl
 rename_i o ix p1;cases o<;>try exact nn h rfl
 rename_i o2 n p2;cases o2<;>try exact nn h rfl
 rename_i x p3;cases ix<;>try exact nn h rfl
 rename_i uo un p4;cases uo<;>try exact nn h rfl
 cases un<;>try exact nn h rfl
 rename_i cv j p5;cases cv<;>try exact nn h rfl
 rename_i i1;cases ts<;>try exact nn h rfl
 unfold pw3 at h;dsimp only at h;obtain⟨c,h⟩:=ah h;simp only[Gad] at c;obtain⟨i,hi,h⟩:=ee h;obtain⟨u,hu,rfl⟩:=Gaa.mp h;obtain⟨v1,v2,v3,v4⟩:=gG g hi;obtain⟨f1,f2⟩:=C6 g c.1.1;exact Bv f1 f2 g.hu1 v1 v2 v3 v4 (k.E _ _ hu) (kM1 (i:=0) c.2) (kU c.1.2)
theorem Jz{f:DW}(h:pw4 v G M r s=some f){Pn:Nat->V->Prop}(hP:nY M Pn):PS X s (tW X H0 Pn E f):=by
 cases s<;>try exact nn h rfl
 rename_i e0 p;cases e0<;>try exact nn h rfl
 rename_i fe ar kw p1;cases fe<;>try exact nn h rfl
 rename_i o m p2;cases o<;>try exact nn h rfl
 rename_i o2 n p3;cases o2<;>try exact nn h rfl
 rename_i x p4;cases ar<;>try exact nn h rfl
 rename_i e ar;cases ar<;>try exact nn h rfl
 cases kw<;>try exact nn h rfl
 unfold pw4 at h;dsimp only at h;obtain⟨c,h'⟩:=ah h;clear h;simp only[Gad] at c;obtain⟨⟨⟨c1,c2⟩,c3⟩,c4⟩:=c;have c1' :=GaK.mp c1;clear c1;subst c1';obtain⟨i,hi,h⟩:=ee h';obtain⟨u,hu,rfl⟩:=Gaa.mp h;obtain⟨v1,v2,v3,v4⟩:=gG g hi;obtain⟨f1,f2⟩:=C6 g c2;exact ER f1 f2 v1 v2 v3 v4 (k.E _ _ hu) (aY c3) c4
theorem JA{f:DW}(h:pw7 v G M r s=some f){Pn:Nat->V->Prop}(hP:nY M Pn):PS X s (tW X H0 Pn E f):=by
 cases s<;>try exact nn h rfl
 rename_i tg it bd os p;cases tg<;>try exact nn h rfl
 rename_i es c p1;cases es<;>try exact nn h rfl
 rename_i e1 es;cases e1<;>try exact nn h rfl
 rename_i y p2;cases es<;>try exact nn h rfl
 rename_i e2 es;cases e2<;>try exact nn h rfl
 rename_i z p3;cases es<;>try exact nn h rfl
 cases it<;>try exact nn h rfl
 rename_i fe ar kw p4;cases fe<;>try exact nn h rfl
 rename_i f0 p5;cases ar<;>try exact nn h rfl
 rename_i a1 ar;cases a1<;>try exact nn h rfl
 rename_i x p6;cases ar<;>try exact nn h rfl
 cases kw<;>try exact nn h rfl
 cases os<;>try exact nn h rfl
 unfold pw7 at h;dsimp only at h;obtain⟨c,h'⟩:=ah h;clear h;rw[Gad] at c;obtain⟨c0,cb⟩:=c;have c1:=GaK.mp c0;clear c0;subst c1;obtain⟨i,hi,h⟩:=ee h';obtain⟨j,hj,h⟩:=ee h;obtain⟨l,hl,h⟩:=ee h;obtain⟨c2,h⟩:=ah h;obtain⟨b,hb,rfl⟩:=Gaa.mp h;obtain⟨l1,l2,l3⟩:=nq g hi;obtain⟨m1,m2,m3⟩:=nq g hj;obtain⟨v1,v2,v3,v4⟩:=gG g hl;obtain⟨b1,b2,_⟩:=j6 g cb;refine EZ ow hc b1 b2 g.nd l1 m1 v1 l2 l3 m2 m3 v2 v3 v4 λxH Q3 =>hr.B _ _ hb xH λq hq u hu=> ?_;rcases Q3 q u hu with z|z
 .exact hP q hq u z
 .subst z;rw[GbK.mpr (show q∈M.mv from hq)] at c2;cases c2
end
variable{s:Stmt}
theorem uT(g:aO G X.nox)(k:bY v X.nox)(w:tm M X)(hr:WOk r M X H0 E)(xA:∀x,G.kd x=some .local->X.env.scope.names.lookup x=some .local)(hc:X.calm=true)(ow:PassesOwn (model X.prog X.w) X.A X.env X.xe){f:DW}(h:My v G M r s=some f){Pn:Nat->V->Prop}(hP:nY M Pn):PS X s (tW X H0 Pn E f):=by
 rcases bZ h with h|h
 .exact Jv g k w hr xA hc ow h hP
 rcases bZ h with h|h
 .exact Jw g k w hr xA hc ow h hP
 rcases bZ h with h|h
 .exact Jx g k w hr xA hc ow h hP
 rcases bZ h with h|h
 .exact Jy g k w hr xA hc ow h hP
 rcases bZ h with h|h
 .exact Jz g k w hr xA hc ow h hP
 exact JA g k w hr xA hc ow h hP
theorem Mz(g:aO G X.nox)(k:bY v X.nox)(w:tm M X)(hr:WOk r M X H0 E)(xA:∀x,G.kd x=some .local->X.env.scope.names.lookup x=some .local)(hc:X.calm=true)(ow:PassesOwn (model X.prog X.w) X.A X.env X.xe){f:DW}(h:sW v G M r s=some f){Pn:Nat->V->Prop}(hP:nY M Pn):PS X s (tW X H0 Pn E f):=by
 unfold sW at h;split at h
 .rename_i q1 q2;cases h;exact C4 (uy (k.S _ _ q1)) (uT g k w hr xA hc ow q2 hP)
 .rename_i q1 q2;cases h;exact uy (k.S _ _ q1)
 .exact uT g k w hr xA hc ow h hP
theorem q9(n0:Nat):∀(n:Nat) (M:Wm) (X:Cx),aO G X.nox->tm M X->(∀x,G.kd x=some .local->X.env.scope.names.lookup x=some .local)->X.calm=true->PassesOwn (model X.prog X.w) X.A X.env X.xe->WOk (wQ n0 G n M) M X H0 E
 |0,M,X,g,w,xA,hc,ow=>by constructor<;>(intro _ _ h;cases h)
 |n+1,M,X,g,w,xA,hc,ow=>by
  have hr:=q9 n0 n M X g w xA hc ow;have k:=pZ n0 G X.nox g;refine⟨λs f h Pn hP=>Mz g k w hr xA hc ow h hP,λb f h Pn hP=> ?_⟩;have h:bW (wQ n0 G n M) b=some f:=h;unfold bW at h;split at h
  .cases h;exact Bh AK
  .exact Ex (hr.S _ _ h Pn hP)
  .obtain⟨a,ha,h⟩:=ee h;obtain⟨u,hu,rfl⟩:=Gaa.mp h;exact Bi (hr.S _ _ ha Pn hP) (hr.B _ _ hu Pn hP)
end
structure Tbl where
 fn:Str->Option (Nat×(SpF))
 fw:Str->Option (Nat×List Nat×(SpX))
 rd:Str->Option (SpF)
 mo:Str->Option (Nat×(SpX))
 bl:List Str
 cs:Str->Option D
 ds:Str->Option (List (Key×List Key))
 C:Nat
 fs:List Str
 nv:Bool
section
variable{P:Program}{w:World}{K:ai}{mg:Str->Option Value}{base:Heap}
def Hv(P:Program)(w:World)(K:ai)(mg:Str->Option Value)(base:Heap)(CX:CXT)(k:Nat)(x:Str)(sp:Sp):Prop:=∃j fa fd ps,cy P w K mg base CX j fa fd ps sp/\j<=k/\mg x=some (.ref fa)/\PySem.W.keepIn K (.ref fa)=true/\Binds K fd ps []
structure aF(P:Program)(w:World)(K:ai)(mg:Str->Option Value)(base:Heap)(k:Nat)(T:Tbl):Prop where
 fn:∀x np sp,T.fn x=some (np,sp)->Hv P w K mg base CX0 k x (spD K np sp)
 fw:∀x np J sp,T.fw x=some (np,J,sp)->Hv P w K mg base CX0 k x (spW K np J sp)
 rd:∀x sp,T.rd x=some sp->Hv P w K mg base CX0 k x (spM K 1 sp)
 mo:∀x C sp,T.mo x=some (C,sp)->∃j fa fd ps,Mk K C fa/\cy P w K mg base CX0 j fa fd ps (spW K 1 [0] sp)/\j+1<=k/\mg x=some (.ref C)/\Binds K fd ps []
 bl:∀x∈T.bl,mg x=none
 cs:∀x d,T.cs x=some d->match d with
  | .int i=>∃t,mg x=some (.int i t)
  | .str y=>∃t,mg x=some (.str y t)
  | .kt ks=>∃a,mg x=some (.ref a)/\Kt K a ks
  |_=>False
 ds:∀x t,T.ds x=some t->∃a,mg x=some (.ref a)/\KDk P w K a t
 cl:T.fs≠[]->L2.Cls K T.C
 na:∀n∈T.fs,bO K T.C n
def Tbl.gm(T:Tbl)(N:List Str)(sd:Stmt):Gm:=⟨N,λx=>(ay sd).names.lookup x,T.fn,T.bl,true,T.cs,T.ds,T.C,T.fs,T.nv,T.rd⟩
variable{x qual:Str}{sd:Stmt}{fa:Addr}{fd:FuncData}{N ps:List Str}{k np:Nat}{T:Tbl}{CX:CXT}{eL:Value}{A:Around}{outer:List PySem.Env}{s:Shared}{H:Hp}{E:XK}
theorem C7(hT:aF P w K mg base k T)(S:cX N ps (ay sd))(hr:cw k (A.deeper (envOfC qual (ay sd) s.heap.objs.size fa eL))):aO (T.gm N sd) (jc CX P w K mg base N qual (ay sd) fa eL A outer s H E).nox where
 N:=rfl
 nd:=S.nd
 vis:=λx hx=>by
  have hx:rdK ((ay sd).names.lookup x)=true:=hx
  match q:(ay sd).names.lookup x with
  |some .local=>exact .inl q
  |some .free=>exact .inr (.inr q)
  |some .cell=>exact .inr (.inl q)
  |none=>rw[q] at hx;cases hx
  |some .globalExplicit=>rw[q] at hx;cases hx
  |some .globalImplicit=>rw[q] at hx;cases hx
 loc:=λx hx=>by
  refine⟨?_,.inl rfl⟩;simp only[Tbl.gm,Bool.true_and,Gbh,GaK] at hx;exact hx
 gl:=λx hx=>hx
 cf:=λx hx=>hx
 sw:=λ_ x=>by
  show(PySem.Env.blockKind _==ScopeKind.function&&_)=_;have:(PySem.Env.blockKind (envOfC qual (ay sd) s.heap.objs.size fa eL)==ScopeKind.function)=true:=by
   unfold PySem.Env.blockKind;show((if(ay sd).kind.isAnnotationScope then _ else(ay sd).kind)==_)=true;rw[S.kind];rfl
  exact(congrArg (· &&_) this).trans (Bool.true_and _)
 calm:=rfl
 own:=rfl
 hu:=El hr
 fns:=λx np sp h=>let⟨j,fa,fd,ps,a1,a2,a3⟩:=hT.fn x np sp h;⟨j,fa,fd,ps,a1,hr.mono a2,a3⟩
 no:=hT.bl
 cs:=λx d h=>hT.cs x d h
 ds:=hT.ds
 cl:=hT.cl
 na:=hT.na
 rd:=λx sp h=>let⟨j,fa,fd,ps,a1,a2,a3⟩:=hT.rd x sp h;⟨j,fa,fd,ps,a1,hr.mono a2,a3⟩
variable{mv:List Nat}
theorem Gu(hT:aF P w K mg base k T)(hr:cw k (A.deeper (envOfC qual (ay sd) s.heap.objs.size fa eL))){nm:List Str}:
  tm ⟨T.fw,T.mo,nm,mv⟩ (jc CX P w K mg base N qual (ay sd) fa eL A outer s H E).nox where
 fw:=λx np J sp h=>let⟨j,fa,fd,ps,a1,a2,a3⟩:=hT.fw x np J sp h;⟨j,fa,fd,ps,a1,hr.mono a2,a3⟩
 mo:=λx C sp h=>let⟨j,fa,fd,ps,a0,a1,a2,a3⟩:=hT.mo x C sp h;⟨j,fa,fd,ps,a0,a1,hr.mono a2,a3⟩
theorem bt(hT:aF P w K mg base k T)(F:Fun K x qual sd fa fd)(S:cX N ps (ay sd))(xX:ps.length=np){b:DS}(hc:(C3 60 (T.gm N sd)).B (cp sd)=some b):cy P w K mg base CX0 (k+1) fa fd ps (spD K np (cA N.length np b)):=
 LZ F S xX λeL A outer s H E hr=>(pZ 60 _ _ (C7 hT S hr)).B _ _ hc
theorem cH(hT:aF P w K mg base k T)(F:Fun K x qual sd fa fd)(S:cX N ps (ay sd))(xX:ps.length=np){J:List Nat}(hJ:∀j∈J,j<np){nm:List Str}{b:DW}(hc:(wQ 60 (T.gm N sd) 60 ⟨T.fw,T.mo,nm,[]⟩).B (cp sd)=some b):cy P w K mg base CX0 (k+1) fa fd ps (spW K np J (fH N.length np J b)):=
 IJ F S xX hJ λeL A outer s H E hr H0 Pn E' =>PSs.nox ((q9 (H0:=H0) (E:=E') 60 60 _ (jc CX0 P w K mg base N qual (ay sd) fa eL A outer s H E).nox (C7 (CX:=CX0) (E:=E) hT S hr) (Gu hT hr) (λ_ z=>z) rfl PassesOwn.never).B _ _ hc Pn λi hi=>by cases hi)
theorem Fm(hT:aF P w K mg base k T)(F:Fun K x qual sd fa fd)(S:cX N ps (ay sd))(xX:ps.length=np){nm:List Str}{b:DW}(hc:(wQ 60 (T.gm N sd) 60 ⟨T.fw,T.mo,nm,mv⟩).B (cp sd)=some b):cy P w K mg base CX0 (k+1) fa fd ps (spM K np (BR N.length np b)):=
 IZ F S xX λeL A outer s H E hr=>PSs.nox ((q9 (H0:=H) (E:=λ_ _ _=>False) 60 60 _ (jc CX0 P w K mg base N qual (ay sd) fa eL A outer s H E).nox (C7 (CX:=CX0) (E:=E) hT S hr) (Gu hT hr) (λ_ z=>z) rfl PassesOwn.never).B _ _ hc _ λi hi v z=>z)
theorem aF.nev(h:aF P w K mg base k T){b:Bool}:aF P w K mg base k {T with nv:=b}:={fn:=h.fn,fw:=h.fw,rd:=h.rd,mo:=h.mo,bl:=h.bl,cs:=h.cs,ds:=h.ds,cl:=h.cl,na:=h.na}
end
section
variable{P:Program}{w:World}{K:ai}{mg:Str->Option Value}{base:Heap}{k k' :Nat}{T:Tbl}{x:Str}{fa:Addr}{fd:FuncData}{ps:List Str}{np:Nat}
theorem Hv.mono{CX:CXT}{sp:Sp}(h:Hv P w K mg base CX k x sp)(le:k<=k'):Hv P w K mg base CX k' x sp:=let⟨j,fa,fd,ps,a,b,c⟩:=h;⟨j,fa,fd,ps,a,GaL b le,c⟩
theorem aF.mono(h:aF P w K mg base k T)(le:k<=k'):aF P w K mg base k' T where
 fn:=λx np sp e=>(h.fn x np sp e).mono le
 fw:=λx np J sp e=>(h.fw x np J sp e).mono le
 rd:=λx sp e=>(h.rd x sp e).mono le
 mo:=λx C sp e=>let⟨j,fa,fd,ps,a,b,c,d⟩:=h.mo x C sp e;⟨j,fa,fd,ps,a,b,GaL c le,d⟩
 bl:=h.bl
 cs:=h.cs
 ds:=h.ds
 cl:=h.cl
 na:=h.na
noncomputable def upS{α:Type}(x:Str)(a:α)(f:Str->Option α):Str->Option α:=λy=>if y==x then some a else f y
theorem bI{α:Type}{a:α}{f:Str->Option α}{q:Str->α->Prop}(h1:q x a)(h2:∀y b,f y=some b->q y b):∀y b,upS x a f y=some b->q y b:=λy b h=>by
 unfold upS at h;split at h
 .rename_i z;cases h;rw[GaK.mp z];exact h1
 .exact h2 y b h
variable{sp:SpF}
theorem aF.dG(h:aF P w K mg base k T)(F:cy P w K mg base CX0 (k+1) fa fd ps (spD K np sp))(hm:mg x=some (.ref fa))(hk:PySem.W.keepIn K (.ref fa)=true)(hb:Binds K fd ps []):aF P w K mg base (k+1) {T with fn:=upS x (np,sp) T.fn}:=
 {h.mono (Gbi k) with fn:=λy np sp e=>bI (q:=λy (a:Nat×(SpF))=>Hv P w K mg base CX0 (k+1) y (spD K a.1 a.2)) ⟨_,_,_,_,F,Gar _,hm,hk,hb⟩ (λy b e=>((h.fn y b.1 b.2 e).mono (Gbi k))) y (np,sp) e}
theorem aF.addW{J:List Nat}{sp:SpX}(h:aF P w K mg base k T)(F:cy P w K mg base CX0 (k+1) fa fd ps (spW K np J sp))(hm:mg x=some (.ref fa))(hk:PySem.W.keepIn K (.ref fa)=true)(hb:Binds K fd ps []):aF P w K mg base (k+1) {T with fw:=upS x (np,J,sp) T.fw}:=
 {h.mono (Gbi k) with fw:=λy np J sp e=>bI (q:=λy (a:Nat×List Nat×(SpX))=>Hv P w K mg base CX0 (k+1) y (spW K a.1 a.2.1 a.2.2)) ⟨_,_,_,_,F,Gar _,hm,hk,hb⟩ (λy b e=>((h.fw y b.1 b.2.1 b.2.2 e).mono (Gbi k))) y (np,J,sp) e}
theorem aF.OM(h:aF P w K mg base k T)(F:cy P w K mg base CX0 (k+1) fa fd ps (spM K 1 sp))(hm:mg x=some (.ref fa))(hk:PySem.W.keepIn K (.ref fa)=true)(hb:Binds K fd ps []):aF P w K mg base (k+1) {T with rd:=upS x sp T.rd}:=
 {h.mono (Gbi k) with rd:=λy sp e=>bI (q:=λy a=>Hv P w K mg base CX0 (k+1) y (spM K 1 a)) ⟨_,_,_,_,F,Gar _,hm,hk,hb⟩ (λy b e=>(h.rd y b e).mono (Gbi k)) y sp e}
theorem aF.ON{C:Nat}{sp:SpX}(h:aF P w K mg base k T)(mk:Mk K C fa)(F:cy P w K mg base CX0 (k+1) fa fd ps (spW K 1 [0] sp))(hm:mg x=some (.ref C))(hb:Binds K fd ps []):aF P w K mg base (k+2) {T with mo:=upS x (C,sp) T.mo}:=
 {h.mono (Gch k 2) with mo:=λy C sp e=>bI (q:=λy (a:Nat×(SpX))=>∃j fa fd ps,Mk K a.1 fa/\cy P w K mg base CX0 j fa fd ps (spW K 1 [0] a.2)/\j+1<=k+2/\mg y=some (.ref a.1)/\Binds K fd ps []) ⟨_,_,_,_,mk,F,Gar _,hm,hb⟩ (λy b e=>(h.mono (Gch k 2)).mo y b.1 b.2 e) y (C,sp) e}
theorem wR{α:Type}{x:Option α}{d:α}(h:x.isSome=true):x=some (x.getD d):=by cases x<;>first|rfl|cases h
theorem C8{a:Addr}{o:Obj}{es:Array DictEntry}{ep:Nat}{vs:List (Key×Value)}{tbl:List (Key×List Key)}(h0:(a==sysModules)=false)(hl:K.lookup a=some o)(he:o.ExactDict)(hd:o.data= .dict es ep)(hk:KeysOf (bD P w) es)(hp:Pairs (bD P w) es.toList vs)(nd:(vs.map (·.1)).Nodup)(pr:Paired (λ(p:Key×List Key) (q:Key×Value)=>p.1=q.1/\∃b,q.2= .ref b/\Kt K b p.2) tbl vs):KDk P w K a tbl:=
 ⟨h0,o,vs,hl,⟨es,ep,he,hd,hk,hp,nd⟩,pr⟩
end
section
variable{P:Program}{w:World}
def CsM(K:ai)(mg:Str->Option Value)(x:Str):D->Prop
 | .int i=>∃t,mg x=some (.int i t)
 | .str y=>∃t,mg x=some (.str y t)
 | .kt ks=>∃a,mg x=some (.ref a)/\Kt K a ks
 |_=>False
def C9(P:Params)(q:Str×Nat×Value):DictEntry:=⟨PyData.keyHash P q.1,.str q.1 q.2.1,q.2.2⟩
theorem rz(l:List (Str×Nat×Value)):KeysOf (bD P w) (l.map (C9 w.params)).toArray:=λe he=>by
 obtain⟨q,_,rfl⟩:=GaJ.mp (by simpa using he:e∈l.map (C9 w.params));exact⟨.inr q.1,gO P w q.1 q.2.1,rfl⟩
theorem qa:∀(l:List (Str×Nat×Value)),Pairs (bD P w) (l.map (C9 w.params)) (l.map λq=>(.inr q.1,q.2.2))
 |[]=> .nil
 |q::l=> .cons (gO P w q.1 q.2.1) rfl (qa l)
end
noncomputable def kvs:Nat->List Key->List Value
 |_,[]=>[]
 |t,.inl i::r=> .int i t::kvs (t+1) r
 |t,.inr x::r=> .str x t::kvs (t+1) r
abbrev kI (i:Int):DE:=kE (.int i)
abbrev kS (x:Str):DE:=kE (.str x)
@[simp] def aL:List DE->DA
 |[]=>az
 |f::fs=>af f (aL fs)
abbrev dv (i:Nat):DE:=je gL (af (vE i) az)
@[simp] def lsE(l:List DE):DE:=gK (aL l)
@[simp] def tpE(l:List DE):DE:=dq (aL l)
@[simp] def caE(s:SpF)(l:List DE):DE:=aQ s (aL l)
@[simp] def blE(o:SpV)(l:List DE):DE:=je o (aL l)
@[simp] def ssI(f:DE):DI:=orI (vL f) (Iy f)
@[simp] def oN(v:DW):DW:=orW (aJ dP) v
@[simp] def kW(p:DE):DW:=orW (aJ (retS p)) (Ip p)
@[simp] def OP(t:DT)(f g:DS)(v w:DW):DW:=orW (aJ (ifS t f g)) (ifW t v w)
@[simp] def oIf(t:DT)(f:DS)(v:DW):DW:=OP t f aD v (aJ aD)
@[simp] def sIf(t:DT)(f:DS):DW:=oIf t f (aJ f)
@[simp] def rIf(t:DT)(p:DE):DW:=oIf t (retS p) (kW p)
end DL
namespace Den
open DL PySem
noncomputable abbrev ij:List (DL.Key×List DL.Key):=[(.inr "",[.inr "guest",.inr "stuff",.inr "bar",.inr "order"]),(.inr "guest",[.inr "guest",.inr "stuff",.inr "bar",.inr "order"]),(.inr "stuff",[.inr "cap",.inr "young",.inr "stuff",.inr "bar",.inr "order"]),(.inr "cap",[.inr "cap",.inr "young",.inr "stuff",.inr "bar",.inr "order"]),(.inr "young",[.inr "stuff",.inr "bar",.inr "order"]),(.inr "bar",[.inr "bar",.inr "order"]),(.inr "order",[.inr "dose"]),(.inr "dose",[.inr "asked",.inr "due"]),(.inr "asked",[.inr "order"]),(.inr "due",[.inr "taper",.inr "order"]),(.inr "taper",[.inr "taper",.inr "order"])]
noncomputable abbrev c6:List (DL.Key×List DL.Key):=[(.inr "flat",[.inl 1,.inl 1]),(.inr "kilo",[.inl 1,.inl 1,.inl 1]),(.inr "ever",[.inl 1])]
def gg:DS:=retS (blE qF [bq (some 0) 1 [1] (ssI (vE 0)) (gN 0) aK (bE (av (orB kO pR) (vE 0) (vE 1)))])
def dU:SpF:=cA 2 2 gg
def kX:DS:=retS (bE (dF (kB leB leB (kI 1) (dv 0) (kI 8)) (dO (caE dU [vE 0,kS "abcdefghijklmnopqrstuvwxyz"]))))
def f6:SpF:=cA 1 1 kX
def ik:DS:=ak (ifS (orT (jO (kB leB leB (kI 1) (dv 0) (kI 10))) (jO (dO (caE dU [vE 0,kS "0123456789"])))) (retS (kE .non)) aD) (ak (ifS (dF (av gtB (dv 0) (kI 1)) (av eqB (ixE (vE 0) (kI 0)) (kS "0"))) (retS (kE .non)) aD) (ak (aq 1 (blE (orS mS lO) [vE 0])) (ak (ifS (av gtB (vE 1) (kI 1000000000)) (retS (kE .non)) aD) (retS (vE 1)))))
def cU:SpF:=cA 2 1 ik
def uU:DW:=aI (orW (ES 0 100 "head" (kS "")) (F1 0 100 "head" (kS ""))) (aI (sV 0 100 "guests") (aI (sV 0 100 "stuffs") (aI (sV 0 100 "bars") (sV 0 100 "orders"))))
def ma:SpX:=fH 1 1 [0] uU
def jm:DS:=ak (cL (some 0) (oJ (vE 0)) (gT [2,3]) (ifS (av eqB (ixE (vE 3) (kI 0)) (vE 1)) (retS (vE 2)) aD)) (retS (kE .non))
def cC:SpF:=cA 4 2 jm
def fA:DS:=retS (bE (dF (av gtB (dv 1) (kI 0)) (dF (dO (caE f6 [ixE (vE 1) (kI 0)])) (av f7 (caE cC [vE 0,ixE (vE 1) (kI 0)]) (kE .non)))))
def bT:SpF:=cA 2 2 fA
def gh:DS:=ak (ifS (av neB (dv 0) (dv 1)) (retS (kE .non)) aD) (ak (aq 2 (gK az)) (ak (cL none (BL (vE 0) (vE 1)) (gT [3,4]) (ak (aq 5 (caE cU [vE 3])) (ak (ifS (orT (av f7 (vE 5) (kE .non)) (av ltB (vE 5) (vE 4))) (retS (kE .non)) aD) (bA 2 (vE 5))))) (retS (vE 2))))
def aB:SpF:=cA 6 2 gh
def cD:DS:=retS (opE ae (opE ae (slE (vE 0) noO (bK (vE 1))) (tpE [vE 2])) (slE (vE 0) (bK (opE ae (vE 1) (kI 1))) noO))
def aM:SpF:=cA 3 3 cD
def gj:DW:=aI (aJ (aq 2 (caE aB [slE (vE 1) (bK (kI 1)) noO,tpE [kI 0]]))) (aI (rIf (orT (av eqB (blE gL [cM 100 "guests" (vE 0)]) (kI 6)) (orT (jO (dO (caE bT [cM 100 "guests" (vE 0),vE 1]))) (av f7 (vE 2) (kE .non)))) (kE (.bl false))) (aI (wt 0 100 "guests" (tpE [ixE (vE 1) (kI 0),ixE (vE 2) (kI 0)])) (kW (kE (.bl true)))))
def d8:SpX:=fH 3 2 [0] gj
def ip:DS:=ak (ifS (jO (kB leB leB (kI 1) (dv 0) (kI 8))) (retS (kE (.bl false))) aD) (ak (aq 1 (ixE (vE 0) (kI 0))) (ak (aq 2 (blE qF [bq none 2 [] (BL (vE 0) (slE (vE 0) (bK (kI 1)) noO)) (gT [0,1]) aK (bE (av ltB (vE 0) (vE 1)))])) (retS (bE (dF (dO (vE 2)) (dF (dO (blE qF [bq (some 0) 1 [1] (ssI (vE 0)) (gN 0) aK (bE (av eqB (opE dE (vE 0) (vE 1)) (kI 0)))])) (av leB (ixE (vE 0) (unE jd (kI 1))) (opE ck (kI 2000) (vE 1)))))))))
def fO:SpF:=cA 3 1 ip
def gk:DW:=aI (aJ (aq 2 (caE aB [slE (vE 1) (bK (kI 1)) noO,bq none 1 [] (ssI (slE (vE 1) (bK (kI 1)) noO)) (gN 0) aK (kI 1)]))) (aI (rIf (orT (av eqB (blE gL [cM 100 "stuffs" (vE 0)]) (kI 6)) (jO (dO (caE bT [cM 100 "stuffs" (vE 0),vE 1])))) (kE (.bl false))) (aI (rIf (orT (av f7 (vE 2) (kE .non)) (jO (dO (caE fO [vE 2])))) (kE (.bl false))) (aI (wt 0 100 "stuffs" (tpE [ixE (vE 1) (kI 0),blE aP [vE 2],dq az,kI 0])) (kW (kE (.bl true))))))
def d9:SpX:=fH 3 2 [0] gk
def jo:DW:=aI (aJ (aq 2 (ixE (ixE (cM 100 "stuffs" (vE 0)) (unE jd (kI 1))) (kI 2)))) (aI (rIf (orT (av eqB (dv 2) (kI 4)) (orT (av eqB (dv 1) (kI 0)) (kdT true c6 (ixE (vE 1) (kI 0))))) (kE (.bl false))) (aI (aJ (aq 3 (caE aB [slE (vE 1) (bK (kI 1)) noO,kdE c6 (ixE (vE 1) (kI 0))]))) (aI (rIf (av f7 (vE 3) (kE .non)) (kE (.bl false))) (aI (aJ (aq 4 (blE aP [opE ae (lsE [ixE (vE 1) (kI 0)]) (vE 3)]))) (aI (lN 0 100 "stuffs" (caE aM [ixE (cM 100 "stuffs" (vE 0)) (unE jd (kI 1)),kI 2,opE ae (vE 2) (tpE [vE 4])])) (kW (kE (.bl true))))))))
def fB:SpX:=fH 5 2 [0] jo
def gp:DW:=aI (aJ (aq 2 (caE aB [vE 1,tpE [kI 1]]))) (aI (rIf (av f7 (vE 2) (kE .non)) (kE (.bl false))) (aI (lN 0 100 "stuffs" (caE aM [ixE (cM 100 "stuffs" (vE 0)) (unE jd (kI 1)),kI 3,ixE (vE 2) (kI 0)])) (kW (kE (.bl true)))))
def da:SpX:=fH 3 2 [0] gp
def jq:DW:=aI (aJ (aq 2 (caE aB [slE (vE 1) (bK (kI 2)) noO,tpE [kI 1]]))) (aI (rIf (orT (av eqB (blE gL [cM 100 "bars" (vE 0)]) (kI 12)) (av f7 (vE 2) (kE .non))) (kE (.bl false))) (aI (aJ (aq 3 (caE cC [cM 100 "stuffs" (vE 0),ixE (vE 1) (kI 0)]))) (aI (aJ (aq 4 (caE cC [cM 100 "stuffs" (vE 0),ixE (vE 1) (kI 1)]))) (aI (rIf (orT (av f7 (vE 3) (kE .non)) (orT (av f7 (vE 4) (kE .non)) (av gtB (vE 3) (vE 4)))) (kE (.bl false))) (aI (rIf (av (orB kO pR) (tpE [vE 3,vE 4]) (bq none 1 [] (ssI (cM 100 "bars" (vE 0))) (gN 0) aK (tpE [ixE (vE 0) (kI 0),ixE (vE 0) (kI 1)]))) (kE (.bl false))) (aI (wt 0 100 "bars" (tpE [vE 3,vE 4,ixE (vE 2) (kI 0)])) (kW (kE (.bl true)))))))))
def fC:SpX:=fH 5 2 [0] jq
def gq:DW:=aI (rIf (orT (av eqB (blE gL [cM 100 "orders" (vE 0)]) (kI 12)) (orT (jO (dO (caE bT [cM 100 "orders" (vE 0),vE 1]))) (av neB (dv 1) (kI 3)))) (kE (.bl false))) (aI (aJ (aq 2 (caE cC [cM 100 "guests" (vE 0),ixE (vE 1) (kI 1)]))) (aI (aJ (aq 3 (caE cC [cM 100 "stuffs" (vE 0),ixE (vE 1) (kI 2)]))) (aI (rIf (orT (av f7 (vE 2) (kE .non)) (av f7 (vE 3) (kE .non))) (kE (.bl false))) (aI (wt 0 100 "orders" (tpE [ixE (vE 1) (kI 0),vE 2,vE 3,dq az,dq az,dq az])) (kW (kE (.bl true)))))))
def de:SpX:=fH 4 2 [0] gq
def iq:DW:=aI (aJ (aq 2 (ixE (cM 100 "orders" (vE 0)) (unE jd (kI 1))))) (aI (aJ (aq 3 (ixE (ixE (ixE (cM 100 "stuffs" (vE 0)) (ixE (vE 2) (kI 2))) (kI 1)) (kI 0)))) (aI (aJ (aq 4 (caE aB [slE (vE 1) (bK (kI 1)) noO,tpE [kI 1,kI 0,vE 3]]))) (aI (rIf (orT (av f7 (vE 4) (kE .non)) (orT (av (orB oU oK) (ixE (vE 1) (kI 0)) (kE (.kt [Sum.inr "down",Sum.inr "up",Sum.inr "near"]))) (av gtB (ixE (vE 4) (kI 2)) (opE ck (kI 2000) (vE 3))))) (kE (.bl false))) (aI (lN 0 100 "orders" (caE aM [vE 2,kI 3,blE aP [opE ae (lsE [ixE (vE 1) (kI 0)]) (vE 4)]])) (kW (kE (.bl true)))))))
def dH:SpX:=fH 5 2 [0] iq
def gr:DW:=aI (aJ (aq 2 (caE aB [vE 1,tpE [kI 0]]))) (aI (rIf (av f7 (vE 2) (kE .non)) (kE (.bl false))) (aI (lN 0 100 "orders" (caE aM [ixE (cM 100 "orders" (vE 0)) (unE jd (kI 1)),kI 4,tpE [kS "asked",ixE (vE 2) (kI 0)]])) (kW (kE (.bl true)))))
def df:SpX:=fH 3 2 [0] gr
def jr:DW:=aI (aJ (aq 2 (caE aB [vE 1,tpE [kI 0,kI 1,kI 1,kI 0,kI 0]]))) (aI (rIf (av f7 (vE 2) (kE .non)) (kE (.bl false))) (aI (aJ (aq 3 (ixE (vE 2) (kI 3)))) (aI (aJ (aq 4 (ixE (vE 2) (kI 4)))) (aI (rIf (orT (av gtB (ixE (vE 2) (kI 2)) (kI 60)) (orT (av geB (opE ae (vE 3) (vE 4)) (ixE (vE 2) (kI 1))) (av ltB (ixE (vE 2) (kI 0)) (vE 3)))) (kE (.bl false))) (aI (lN 0 100 "orders" (caE aM [ixE (cM 100 "orders" (vE 0)) (unE jd (kI 1)),kI 4,blE aP [opE ae (lsE [kS "due"]) (vE 2)]])) (kW (kE (.bl true))))))))
def fD:SpX:=fH 5 2 [0] jr
def gv:DW:=aI (aJ (aq 2 (ixE (cM 100 "orders" (vE 0)) (unE jd (kI 1))))) (aI (aJ (aq 3 (ixE (vE 2) (kI 5)))) (aI (aJ (aq 4 (ifE (av gtB (dv 3) (kI 0)) (opE ae (ixE (ixE (vE 3) (unE jd (kI 1))) (kI 0)) (kI 1)) (kI 1)))) (aI (aJ (aq 5 (caE aB [vE 1,tpE [vE 4,kI 1,kI 1]]))) (aI (rIf (orT (av eqB (dv 3) (kI 6)) (av f7 (vE 5) (kE .non))) (kE (.bl false))) (aI (aJ (aq 6 (ixE (ixE (vE 2) (kI 4)) (kI 3)))) (aI (rIf (orT (av geB (ixE (vE 5) (kI 0)) (vE 6)) (orT (av gtB (ixE (vE 5) (kI 1)) (ixE (vE 5) (kI 2))) (av gtB (ixE (vE 5) (kI 2)) (kI 1000)))) (kE (.bl false))) (aI (lN 0 100 "orders" (caE aM [vE 2,kI 5,opE ae (vE 3) (tpE [blE aP [vE 5]])])) (kW (kE (.bl true))))))))))
def dh:SpX:=fH 7 2 [0] gv
def dR:DW:=aI (ifW (av eqB (vE 1) (kS "order")) (ig (cT de [AW.lent 0,AW.name 2])) (aJ aD)) (aI (ifW (av eqB (vE 1) (kS "dose")) (ig (cT dH [AW.lent 0,AW.name 2])) (aJ aD)) (aI (ifW (av eqB (vE 1) (kS "asked")) (ig (cT df [AW.lent 0,AW.name 2])) (aJ aD)) (aI (ifW (av eqB (vE 1) (kS "due")) (ig (cT fD [AW.lent 0,AW.name 2])) (aJ aD)) (ig (cT dh [AW.lent 0,AW.name 2])))))
def cQ:SpX:=fH 3 3 [0] dR
def tq:DW:=aI (aJ (aq 2 (opE kN (vE 1) (kS " ")))) (aI (aJ (aq 3 (ixE (vE 2) (kI 0)))) (aI (rIf (av (orB oU oK) (vE 3) (kdE ij (cM 100 "head" (vE 0)))) (kE (.bl false))) (aI (orW (ES 0 100 "head" (vE 3)) (F1 0 100 "head" (vE 3))) (aI (aJ (aq 4 (slE (vE 2) (bK (kI 1)) noO))) (aI (ifW (av eqB (vE 3) (kS "guest")) (ig (cT d8 [AW.lent 0,AW.name 4])) (aJ aD)) (aI (ifW (av eqB (vE 3) (kS "stuff")) (ig (cT d9 [AW.lent 0,AW.name 4])) (aJ aD)) (aI (ifW (av eqB (vE 3) (kS "cap")) (ig (cT fB [AW.lent 0,AW.name 4])) (aJ aD)) (aI (ifW (av eqB (vE 3) (kS "young")) (ig (cT da [AW.lent 0,AW.name 4])) (aJ aD)) (aI (ifW (av eqB (vE 3) (kS "bar")) (ig (cT fC [AW.lent 0,AW.name 4])) (aJ aD)) (ig (cT cQ [AW.lent 0,AW.val (vE 3),AW.name 4])))))))))))
def jt:SpX:=fH 5 2 [0] tq
def tx:DW:=aI (oN (mkO 1 100 ma)) (aI (orW (aJ (cL (some 0) (oJ (vE 0)) (gT [2,3]) dP)) (uK 2 3 0 (oN (ifC (BE (wI (cT jt [AW.lent 1,AW.val (vE 3)]))) (aJ dP) (aJ aD))))) (aI (sIf (av (orB kO pR) (cM 100 "head" (vE 1)) (kE (.kt [Sum.inr "order",Sum.inr "dose"]))) dP) (kW (tpE [blE aP [cM 100 "guests" (vE 1)],blE aP [cM 100 "stuffs" (vE 1)],blE aP [cM 100 "bars" (vE 1)],blE aP [cM 100 "orders" (vE 1)]]))))
def ir:SpF:=BR 4 1 tx
def oW:DS:=retS (unE (cB " ") (bq (some 0) 1 [] (ssI (vE 0)) (gN 0) aK (blE (orS iR iT) [vE 0])))
def aW:SpF:=cA 1 1 oW
def fR:DS:=ak (aq 1 (lsE [caE aW [opE ae (tpE [kS "stuff",ixE (vE 0) (kI 0)]) (ixE (vE 0) (kI 1))]])) (ak (cL none (ssI (ixE (vE 0) (kI 2))) (gN 2) (bA 1 (caE aW [opE ae (tpE [kS "cap"]) (vE 2)]))) (ak (ifS (av neB (ixE (vE 0) (kI 3)) (kI 0)) (bA 1 (caE aW [tpE [kS "young",ixE (vE 0) (kI 3)]])) aD) (retS (vE 1))))
def cO:SpF:=cA 3 1 fR
def fS:DS:=ak (aq 3 (lsE [caE aW [tpE [kS "order",ixE (vE 2) (kI 0),ixE (ixE (vE 0) (ixE (vE 2) (kI 1))) (kI 0),ixE (ixE (vE 1) (ixE (vE 2) (kI 2))) (kI 0)]],caE aW [opE ae (tpE [kS "dose"]) (ixE (vE 2) (kI 3))],caE aW [ixE (vE 2) (kI 4)]])) (ak (cL none (ssI (ixE (vE 2) (kI 5))) (gN 4) (bA 3 (caE aW [opE ae (tpE [kS "taper"]) (vE 4)]))) (retS (vE 3)))
def cP:SpF:=cA 5 3 fS
def qb:DS:=ak (aq 1 (ixE (vE 0) (kI 0))) (ak (aq 2 (ixE (vE 0) (kI 1))) (ak (aq 3 (bq (some 1) 1 [] (ssI (vE 1)) (gN 0) aK (caE aW [opE ae (tpE [kS "guest"]) (vE 0)]))) (ak (cL (some 2) (ssI (vE 2)) (gN 4) (vM 3 (caE cO [vE 4]))) (ak (cL none (ssI (ixE (vE 0) (kI 2))) (gN 5) (bA 3 (caE aW [tpE [kS "bar",ixE (ixE (vE 2) (ixE (vE 5) (kI 0))) (kI 0),ixE (ixE (vE 2) (ixE (vE 5) (kI 1))) (kI 0),ixE (vE 5) (kI 2)]]))) (ak (cL none (ssI (ixE (vE 0) (kI 3))) (gN 6) (vM 3 (caE cP [vE 1,vE 2,vE 6]))) (retS (vE 3)))))))
def ke:SpF:=cA 7 1 qb
def ju:DS:=ak (aq 3 (kI 0)) (ak (ifS (av gtB (dv 0) (kI 0)) (aq 3 (opE dE (ixE (vE 0) (opE dE (vE 1) (dv 0))) (kI 2147483647))) aD) (retS (opE dE (opE dE (opE ae (opE ck (vE 3) (kI 48271)) (opE ck (opE ck (opE ae (vE 1) (kI 1)) (opE ae (vE 1) (kI 5))) (kI 69621))) (kI 2147483629)) (vE 2))))
def a9:SpF:=cA 4 3 ju
def bB(f:SpF):DS:=ak (ifS (orT (dO (bE (jf "tuple" (vE 1)))) (dO (bE (jf "list" (vE 1))))) (ak (ifS (orT (av neB (bE (jf "tuple" (vE 0))) (bE (jf "tuple" (vE 1)))) (av neB (bE (jf "list" (vE 0))) (bE (jf "list" (vE 1))))) (retS (kE (.bl false))) aD) (retS (bE (dF (av eqB (je gL (af (vE 0) az)) (je gL (af (vE 1) az))) (dO (je qF (af (bq none 2 [] (BL (vE 0) (vE 1)) (gT [0,1]) aK (aQ f (af (vE 0) (af (vE 1) az)))) az))))))) aD) (ak (ifS (orT (dO (bE (jf "bool" (vE 1)))) (dO (bE (jf "bool" (vE 0))))) (retS (bE (dF (jf "bool" (vE 1)) (dF (jf "bool" (vE 0)) (av eqB (vE 0) (vE 1)))))) aD) (ak (ifS (dO (bE (jf "int" (vE 1)))) (retS (bE (dF (jf "int" (vE 0)) (av eqB (vE 0) (vE 1))))) aD) (ak (ifS (av f7 (vE 1) (kE .non)) (retS (bE (av f7 (vE 0) (kE .non)))) aD) (retS (bE (dF (jf "str" (vE 0)) (av eqB (vE 0) (vE 1))))))))
def cE:Nat->SpF
 |0=>λ_=>none
 |n+1=>cA 2 2 (bB (cE n))
def cF:SpF:=cE 7
def iu:DS:=ak (aq 3 (kS "abcdefghijklmnopqrstuvwxyz")) (ak (aq 4 (bq none 1 [0,1,3] (aZ (kI 8)) (gN 0) aK (ixE (vE 3) (caE a9 [vE 1,opE ae (vE 2) (vE 0),kI 26])))) (ak (aq 5 (caE a9 [vE 0,opE ae (vE 1) (kI 8),kI 4])) (ak (aq 6 (slE (lsE [kS "order",kS "cap",kS "due",kS "young",kS "flat",kS "kilo",kS "ever",kS "bar",kS "down",kS "guest",kS "stuff",kS "asked"]) noO (bK (vE 2)))) (ak (ifS (av eqB (vE 5) (kI 1)) (aq 6 (bq none 1 [4] (aZ (vE 2)) (gN 0) aK (opE ae (unE (cB "") (slE (vE 1) noO (bK (opE ae (kI 1) (opE dE (vE 0) (kI 8)))))) (sZ "zz" (opE jN (vE 0) (kI 8)))))) aD) (ak (ifS (av eqB (vE 5) (kI 2)) (aq 6 (bq none 1 [4] (aZ (vE 2)) (gN 0) aK (unE (cB "") (slE (vE 1) (bK (opE kA (kI 7) (opE dE (vE 0) (kI 8)))) noO)))) aD) (ak (ifS (av eqB (vE 5) (kI 3)) (aq 6 (gK az)) aD) (ak (ifS (orT (av eqB (vE 5) (kI 3)) (orT (av ltB (unE kb (vE 6)) (vE 2)) (av gtB (blE oy [opE ae (lsE [kI 0]) (bq (some 6) 1 [] (ssI (vE 6)) (gN 0) aK (dv 0))]) (kI 8)))) (ak (aq 7 (opE ae (kI 1) (caE a9 [vE 0,opE ae (vE 1) (kI 9),kI 8]))) (ak (aq 8 (caE a9 [vE 0,opE ae (vE 1) (kI 10),vE 7])) (ak (aq 6 (gK az)) (cL none (aZ (vE 2)) (gN 9) (ak (aq 10 (slE (vE 4) noO (bK (vE 7)))) (ak (qG 10 (vE 8) (ixE (vE 3) (opE dE (opE ae (caE a9 [vE 0,opE ae (vE 1) (kI 11),kI 26]) (opE ck (kI 7) (vE 9))) (kI 26)))) (bA 6 (unE (cB "") (vE 10))))))))) aD) (retS (vE 6)))))))))
def bG:SpF:=cA 11 3 iu
def gw:DS:=ak (aq 3 (caE a9 [vE 0,vE 1,kI 6])) (ak (ifS (av ltB (vE 3) (kI 4)) (retS (opE ae (kI 1) (opE dE (caE a9 [vE 0,opE ae (vE 1) (kI 1),kI 20]) (vE 2)))) aD) (ak (ifS (av eqB (vE 3) (kI 4)) (retS (vE 2)) aD) (retS (opE ae (kI 1) (caE a9 [vE 0,opE ae (vE 1) (kI 1),vE 2])))))
def aC:SpF:=cA 4 3 gw
def kZ:DS:=ak (aq 2 (caE aC [vE 0,opE ae (vE 1) (kI 1),kI 1000000000])) (ak (aq 3 (caE aC [vE 0,opE ae (vE 1) (kI 3),kI 1000000000])) (ak (aq 4 (caE a9 [vE 0,vE 1,kI 3])) (ak (ifS (av eqB (vE 4) (kI 0)) (retS (tpE [kS "flat",vE 2,vE 3])) aD) (ak (ifS (av eqB (vE 4) (kI 1)) (retS (tpE [kS "kilo",vE 2,vE 3,caE aC [vE 0,opE ae (vE 1) (kI 5),kI 1000000000]])) aD) (retS (tpE [kS "ever",vE 3]))))))
def fY:SpF:=cA 5 2 kZ
def iz:DS:=ak (aq 3 (caE aC [vE 0,vE 1,kI 400000])) (ak (aq 4 (lsE [vE 3])) (ak (aq 5 (kI 1)) (ak (cL none (aZ (caE a9 [vE 0,opE ae (vE 1) (kI 2),kI 8])) (gN 6) (ak (aq 5 (opE ae (opE ae (vE 5) (kI 1)) (caE a9 [vE 0,opE ae (opE ae (vE 1) (kI 3)) (vE 6),ixE (lsE [kI 4,kI 285]) (caE a9 [vE 0,opE ae (vE 1) (kI 11),kI 2])]))) (bA 4 (opE ck (vE 5) (vE 3))))) (ak (ifS (av eqB (caE a9 [vE 0,opE ae (vE 1) (kI 48),kI 8]) (kI 0)) (aq 4 (opE ae (slE (vE 4) noO (bK (kI 7))) (lsE [opE ck (kI 2000) (vE 3)]))) aD) (ak (aq 7 (blE aP [bq none 1 [0,1] (aZ (caE a9 [vE 0,opE ae (vE 1) (kI 44),kI 5])) (gN 0) aK (caE fY [vE 1,opE ae (opE ae (vE 2) (kI 12)) (opE ck (kI 8) (vE 0))])])) (ak (aq 8 (opE ck (caE aC [vE 0,opE ae (vE 1) (kI 45),kI 1000000000]) (blE (orS mS lO) [bE (av eqB (caE a9 [vE 0,opE ae (vE 1) (kI 47),kI 3]) (kI 0))]))) (retS (tpE [vE 2,blE aP [vE 4],vE 7,vE 8]))))))))
def dI:SpF:=cA 9 3 iz
def jv:DS:=ak (aq 3 (gK az)) (ak (cL none (aZ (vE 2)) (gN 4) (cL none (fJ (vE 4) (vE 2)) (gN 5) (ak (aq 6 (opE ae (vE 1) (opE ck (kI 3) (opE ae (opE ck (kI 6) (vE 4)) (vE 5))))) (ifS (dF (av ltB (dv 3) (kI 12)) (av gtB (caE a9 [vE 0,vE 6,kI 3]) (kI 0))) (Ez 3 (caE a9 [vE 0,vE 6,opE ae (dv 3) (kI 1)]) (tpE [vE 4,vE 5,caE aC [vE 0,opE ae (vE 6) (kI 1),kI 1000000000]])) aD)))) (retS (blE aP [vE 3])))
def fE:SpF:=cA 7 3 jv
def jw:DS:=ak (aq 2 (caE aC [vE 0,vE 1,kI 500000000])) (ak (ifS (av eqB (caE a9 [vE 0,opE ae (vE 1) (kI 2),kI 3]) (kI 0)) (retS (tpE [kS "asked",opE kA (vE 2) (kI 1)])) aD) (ak (aq 3 (caE aC [vE 0,opE ae (vE 1) (kI 3),kI 1000000000])) (ak (aq 4 (caE aC [vE 0,opE ae (vE 1) (kI 5),kI 60])) (ak (aq 5 (caE a9 [vE 0,opE ae (vE 1) (kI 7),blE lK [opE ae (vE 2) (kI 1),vE 3]])) (ak (aq 6 (caE a9 [vE 0,opE ae (vE 1) (kI 8),opE kA (vE 3) (vE 5)])) (retS (tpE [kS "due",vE 2,vE 3,vE 4,vE 5,vE 6])))))))
def gx:SpF:=cA 7 2 jw
def dW:DS:=ak (aq 3 (gK az)) (ak (ifS (av eqB (ixE (vE 2) (kI 0)) (kS "due")) (cL none (fJ (kI 1) (ixE (vE 2) (kI 3))) (gN 4) (ifS (dF (av ltB (dv 3) (kI 6)) (dF (av eqB (caE a9 [vE 0,vE 1,kI 4]) (kI 0)) (av eqB (caE a9 [vE 0,opE ae (opE ae (vE 1) (kI 1)) (vE 4),kI 3]) (kI 0)))) (ak (aq 5 (caE aC [vE 0,opE ae (vE 1) (kI 62),kI 1000])) (bA 3 (tpE [vE 4,opE ae (kI 1) (caE a9 [vE 0,opE ae (opE ae (vE 1) (kI 64)) (vE 4),vE 5]),vE 5]))) aD)) aD) (retS (blE aP [vE 3])))
def dk:SpF:=cA 6 3 dW
def iA:DS:=ak (aq 5 (caE a9 [vE 0,vE 1,dv 3])) (ak (aq 6 (caE a9 [vE 0,opE ae (vE 1) (kI 1),dv 4])) (ak (aq 7 (ixE (ixE (ixE (vE 4) (vE 6)) (kI 1)) (kI 0))) (ak (aq 8 (opE ae (vE 7) (caE a9 [vE 0,opE ae (vE 1) (kI 2),ixE (lsE [kI 20,opE ae (opE ck (kI 1999) (vE 7)) (kI 1)]) (caE a9 [vE 0,opE ae (vE 1) (kI 3),kI 2])]))) (ak (aq 8 (blE lK [vE 8,opE ck (kI 2000) (vE 7)])) (ak (aq 9 (opE ck (caE aC [vE 0,opE ae (vE 1) (kI 4),kI 1000000000]) (blE (orS mS lO) [bE (av gtB (caE a9 [vE 0,opE ae (vE 1) (kI 6),kI 3]) (kI 0))]))) (ak (aq 10 (tpE [ixE (lsE [kS "down",kS "up",kS "near"]) (caE a9 [vE 0,opE ae (vE 1) (kI 7),kI 3]),caE aC [vE 0,opE ae (vE 1) (kI 8),kI 1000000000],vE 9,vE 8])) (ak (aq 11 (caE gx [vE 0,opE ae (vE 1) (kI 10)])) (retS (tpE [vE 2,vE 5,vE 6,vE 10,vE 11,caE dk [vE 0,opE ae (vE 1) (kI 20),vE 11]])))))))))
def dJ:SpF:=cA 12 5 iA
def iB:DS:=ak (aq 1 (bq none 1 [0] (aZ (kI 2)) (gN 0) aK (caE a9 [vE 1,vE 0,kI 7]))) (ak (aq 2 (caE bG [vE 0,kI 2,ixE (vE 1) (kI 0)])) (ak (aq 3 (blE aP [bq none 1 [0,2] (aZ (ixE (vE 1) (kI 0))) (gN 0) aK (tpE [ixE (vE 2) (vE 0),opE kA (caE aC [vE 1,opE ae (kI 20) (opE ck (kI 2) (vE 0)),kI 1000000001]) (kI 1)])])) (ak (aq 2 (caE bG [vE 0,kI 40,ixE (vE 1) (kI 1)])) (ak (aq 4 (blE aP [bq none 1 [0,2] (aZ (ixE (vE 1) (kI 1))) (gN 0) aK (caE dI [vE 1,opE ae (kI 60) (opE ck (kI 50) (vE 0)),ixE (vE 2) (vE 0)])])) (ak (aq 5 (caE fE [vE 0,kI 360,ixE (vE 1) (kI 1)])) (ak (aq 6 (kI 0)) (ak (ifS (dF (av gtB (ixE (vE 1) (kI 0)) (kI 0)) (av gtB (ixE (vE 1) (kI 1)) (kI 0))) (aq 6 (ixE (lsE [caE a9 [vE 0,kI 480,kI 4],caE a9 [vE 0,kI 480,kI 13]]) (caE a9 [vE 0,kI 481,kI 2]))) aD) (ak (aq 2 (caE bG [vE 0,kI 482,vE 6])) (ak (aq 7 (bq none 1 [0,2,3,4] (aZ (vE 6)) (gN 0) aK (caE dJ [vE 1,opE ae (kI 500) (opE ck (kI 160) (vE 0)),ixE (vE 2) (vE 0),vE 3,vE 4]))) (retS (tpE [vE 3,vE 4,vE 5,blE aP [vE 7]])))))))))))
def cV:SpF:=cA 8 1 iB
def nu:DS:=retS (unE (cB " ") (bq (some 0) 1 [] (ssI (vE 0)) (gN 0) aK (blE (orS iR iT) [vE 0])))
def aA:SpF:=cA 1 1 nu
def iC:DS:=ak (Ax (gT [8,3,5,7]) (vE 0)) (ak (aq 1 (bq (some 8) 1 [] (ssI (vE 8)) (gN 0) aK (opE ae (opE ae (opE ae (kS "guest ") (ixE (vE 0) (kI 0))) (kS " ")) (blE (orS iR iT) [ixE (vE 0) (kI 1)])))) (ak (cL (some 3) (ssI (vE 3)) (gN 2) (ak (bA 1 (caE aA [opE ae (tpE [kS "stuff",ixE (vE 2) (kI 0)]) (ixE (vE 2) (kI 1))])) (ak (cL none (ssI (ixE (vE 2) (kI 2))) (gN 9) (bA 1 (caE aA [opE ae (tpE [kS "cap"]) (vE 9)]))) (ifS (av gtB (ixE (vE 2) (kI 3)) (kI 0)) (bA 1 (opE ae (kS "young ") (blE (orS iR iT) [ixE (vE 2) (kI 3)]))) aD)))) (ak (cL (some 5) (ssI (vE 5)) (gN 4) (bA 1 (caE aA [tpE [kS "bar",ixE (ixE (vE 3) (ixE (vE 4) (kI 0))) (kI 0),ixE (ixE (vE 3) (ixE (vE 4) (kI 1))) (kI 0),ixE (vE 4) (kI 2)]]))) (ak (cL (some 7) (ssI (vE 7)) (gN 6) (ak (bA 1 (caE aA [tpE [kS "order",ixE (vE 6) (kI 0),ixE (ixE (vE 8) (ixE (vE 6) (kI 1))) (kI 0),ixE (ixE (vE 3) (ixE (vE 6) (kI 2))) (kI 0)]])) (ak (bA 1 (caE aA [opE ae (tpE [kS "dose"]) (ixE (vE 6) (kI 3))])) (ak (bA 1 (caE aA [ixE (vE 6) (kI 4)])) (cL none (ssI (ixE (vE 6) (kI 5))) (gN 10) (bA 1 (caE aA [opE ae (tpE [kS "taper"]) (vE 10)]))))))) (retS (vE 1))))))
def fP:SpF:=cA 11 1 iC
def Ca:DS:=ak (aq 1 (caE cV [vE 0])) (ak (aq 2 (caE fP [vE 1])) (ak (aq 3 (caE ke [vE 1])) (ak (ifS (jO (dO (caE cF [vE 3,vE 2]))) (retS (kE (.bl false))) aD) (ak (bA 3 (kS "young 1")) (ak (aq 4 (blE listS [vE 2])) (ak (aq 5 (rdE ir (vE 4))) (ak (ifS (jO (dO (caE cF [vE 4,vE 2]))) (retS (kE (.bl false))) aD) (ak (su 4) (ak (ifS (jO (dO (caE cF [caE ke [vE 1],vE 2]))) (retS (kE (.bl false))) aD) (retS (bE (dF (dO (caE cF [vE 5,vE 1])) (dO (caE cF [rdE ir (vE 2),vE 1]))))))))))))))
def lT:SpF:=cA 6 1 Ca
end Den
namespace Maths
open DL Den PySem
abbrev Os:=Option Slot
noncomputable def dr(h:Str)(g s b o:List D):D:= .obj 100 ["head","guests","stuffs","bars","orders"] [.str h,.kid g,.kid s,.kid b,.kid o]
structure Fl(g s b o:List D):Prop where
 g:ag g=true
 s:ag s=true
 b:ag b=true
 o:ag o=true
def slF(x:Os):Bool:=match x with
 |some (.sh d)=>d.imm
 |some (.own d)=>d.ba
 |some (.lok d)=>d.ba
 |some (.bor d)=>d.ba
 |none=>true
def flF(J:List Nat):Nat->DL.Env->Bool
 |_,[]=>true
 |k,x::e=>(J.contains k||slF x)&&flF J (k+1) e
theorem uV(J:List Nat):∀(e:DL.Env) (k:Nat),flF J k e=(List.range e.length).all λj=>J.contains (k+j)||slF (e[j]?.getD none)
 |[],k=>rfl
 |x::e,k=>by
  rw[flF,uV J e (k+1),GaE,List.range_succ_eq_map,Gbu,List.all_map];simp only[Nat.add_zero,List.getElem?_cons_zero,Option.getD_some];congr 1;congr 1
  funext j
  simp[Nat.add_assoc,Nat.add_comm 1]
theorem Cb(J:List Nat)(e:DL.Env):i9 J e=flF J 0 e:=by
 rw[uV];unfold i9;congr 1
 funext j
 rw[GaG];congr 1;cases h:e[j]? with
 |none=>rfl
 |some x=>cases x with
  |none=>rfl
  |some x=>cases x<;>rfl
@[simp] theorem nA{h:Str}{g s b o:List D}:fU [.str h,.kid g,.kid s,.kid b,.kid o]=(ag g&&(ag s&&(ag b&&ag o))):=by simp[fU]
@[simp] theorem Cc{h:Str}{g s b o:List D}:flK (dr h g s b o)=(ag g&&(ag s&&(ag b&&ag o))):=by simp[flK,dr]
variable{o:List D}{h:Str}
theorem Fl.k{g s b:List D}(F:Fl g s b o):flK (dr h g s b o)=true:=by simp[F.g,F.s,F.b,F.o]
@[simp] theorem dX(xs ys:List D):ag (xs++ys)=(ag xs&&ag ys):=by
 induction xs with
 |nil=>rfl
 |cons x xs ih=>simp[ih,Bool.and_assoc]
section
variable{h h' :Str}{g s b o l:List D}{d:D}
@[simp] theorem OQ:sG 100 "head" (dr h g s b o)=some ⟨.c,.str h⟩:=rfl
@[simp] theorem MA:sG 100 "guests" (dr h g s b o)=some ⟨.c,.lst g⟩:=rfl
@[simp] theorem MB:sG 100 "stuffs" (dr h g s b o)=some ⟨.c,.lst s⟩:=rfl
@[simp] theorem OR:sG 100 "bars" (dr h g s b o)=some ⟨.c,.lst b⟩:=rfl
@[simp] theorem MC:sG 100 "orders" (dr h g s b o)=some ⟨.c,.lst o⟩:=rfl
theorem Cd(F:Fl g s b o)(hd:d.imm=true)(hl:g.length<a7):ft 100 "guests" (jl d) (dr h g s b o)=some (dr h (g++[d]) s b o):=by
 show(if(100:Nat)=100/\fU [.str h,.kid g,.kid s,.kid b,.kid o]=true then((jl d g).bind λl' =>if ag l' =true then some (D.obj 100 ["head","guests","stuffs","bars","orders"] [.str h,.kid l',.kid s,.kid b,.kid o]) else none) else none)=_;simp[F.g,F.s,F.b,F.o,jl,hl,hd,dr]
theorem Ce(F:Fl g s b o)(hd:d.imm=true)(hl:s.length<a7):ft 100 "stuffs" (jl d) (dr h g s b o)=some (dr h g (s++[d]) b o):=by
 show(if(100:Nat)=100/\fU [.str h,.kid g,.kid s,.kid b,.kid o]=true then((jl d s).bind λl' =>if ag l' =true then some (D.obj 100 ["head","guests","stuffs","bars","orders"] [.str h,.kid g,.kid l',.kid b,.kid o]) else none) else none)=_;simp[F.g,F.s,F.b,F.o,jl,hl,hd,dr]
theorem JB(F:Fl g s b o)(hd:d.imm=true)(hl:b.length<a7):ft 100 "bars" (jl d) (dr h g s b o)=some (dr h g s (b++[d]) o):=by
 show(if(100:Nat)=100/\fU [.str h,.kid g,.kid s,.kid b,.kid o]=true then((jl d b).bind λl' =>if ag l' =true then some (D.obj 100 ["head","guests","stuffs","bars","orders"] [.str h,.kid g,.kid s,.kid l',.kid o]) else none) else none)=_;simp[F.g,F.s,F.b,F.o,jl,hl,hd,dr]
theorem Cf(F:Fl g s b o)(hd:d.imm=true)(hl:o.length<a7):ft 100 "orders" (jl d) (dr h g s b o)=some (dr h g s b (o++[d])):=by
 show(if(100:Nat)=100/\fU [.str h,.kid g,.kid s,.kid b,.kid o]=true then((jl d o).bind λl' =>if ag l' =true then some (D.obj 100 ["head","guests","stuffs","bars","orders"] [.str h,.kid g,.kid s,.kid b,.kid l']) else none) else none)=_;simp[F.g,F.s,F.b,F.o,jl,hl,hd,dr]
variable{x:D}
theorem kf:fM d (l++[x])=some (l++[d]):=by
 unfold fM;simp
theorem rA(F:Fl g (s++[x]) b o)(hd:d.imm=true):ft 100 "stuffs" (fM d) (dr h g (s++[x]) b o)=some (dr h g (s++[d]) b o):=by
 have:=F.s;rw[dX,Gad] at this;show(if(100:Nat)=100/\fU [.str h,.kid g,.kid (s++[x]),.kid b,.kid o]=true then((fM d (s++[x])).bind λl' =>if ag l' =true then some (D.obj 100 ["head","guests","stuffs","bars","orders"] [.str h,.kid g,.kid l',.kid b,.kid o]) else none) else none)=_;rw[kf,nA,F.g,F.s,F.b,F.o];simp[this.1,hd,dr]
theorem kg(F:Fl g s b (o++[x]))(hd:d.imm=true):ft 100 "orders" (fM d) (dr h g s b (o++[x]))=some (dr h g s b (o++[d])):=by
 have:=F.o;rw[dX,Gad] at this;show(if(100:Nat)=100/\fU [.str h,.kid g,.kid s,.kid b,.kid (o++[x])]=true then((fM d (o++[x])).bind λl' =>if ag l' =true then some (D.obj 100 ["head","guests","stuffs","bars","orders"] [.str h,.kid g,.kid s,.kid b,.kid l']) else none) else none)=_;rw[kf,nA,F.g,F.s,F.b,F.o];simp[this.1,hd,dr]
theorem JC(F:Fl g s b o):pT 100 "head" (.str h') (dr h g s b o)=some (dr h' g s b o):=by
 show(if(100:Nat)=100/\fU [.str h,.kid g,.kid s,.kid b,.kid o]=true/\(5:Nat)<1000/\false=false then some (D.obj 100 ["head","guests","stuffs","bars","orders"] [.str h',.kid g,.kid s,.kid b,.kid o]) else none)=_;rw[nA,F.g,F.s,F.b,F.o];simp[dr]
@[simp] theorem uW{α:Type}(xs:List α)(x:α):atD (xs++[x]) (-1)=some x:=by
 unfold atD;rw[Gam (by lia),Gak (by simp;lia),Gal,Gbt,show(-1+((xs.length+1:Nat):Int)).toNat=xs.length by lia];simp
end
section
variable{f f' :DW}{e:DL.Env}{i:Nat}{d d' :D}{J:List Nat}{ws ls:List D}{n:Nat}{k k' :DI}{x y:D}{p q:D->D->Option Bool}{t t' :SpV}
@[simp] theorem Cg:orW f f' e=match f e with
 |some r=>some r
 |none=>f' e:=rfl
@[simp] theorem OS:orI k k' e=match k e with
 |some r=>some r
 |none=>k' e:=rfl
@[simp] theorem OT:orB p q x y=match p x y with
 |some r=>some r
 |none=>q x y:=rfl
@[simp] theorem Ci:orS t t' ls=match t ls with
 |some r=>some r
 |none=>t' ls:=rfl
@[simp] theorem Pu:jX.of (.nx e)=some (.nx e):=rfl
@[simp] theorem OU:jX.of (.ret d)=none:=rfl
@[simp] theorem Pw{z:DL.Env}:jZ 0 (some (.lok d)::z)=some d:=rfl
@[simp] theorem OV:i9 J e=flF J 0 e:=Cb J e
@[simp] theorem Px{x:Os}{k:Nat}:flF J k (x::e)=((J.contains k||slF x)&&flF J (k+1) e):=rfl
@[simp] theorem Py{k:Nat}:flF J k []=true:=rfl
@[simp] theorem OW:slF (some (.sh d))=d.imm:=rfl
@[simp] theorem NO:slF (some (.own d))=d.ba:=rfl
@[simp] theorem NP:slF (some (.lok d))=d.ba:=rfl
@[simp] theorem NQ:slF (some (.bor d))=d.ba:=rfl
@[simp] theorem MD:slF none=true:=rfl
@[simp] theorem NR:sS J (.ret d e)=(j5 e J).map λls=>(d,ls):=rfl
@[simp] theorem NS:j5 e []=some []:=rfl
@[simp] theorem NT{j:Nat}:j5 e (j::J)=(jZ j e).bind λd=>if flK d then(j5 e J).map λls=>d::ls else none:=rfl
@[simp] theorem OY{i j:Int}:ae (.int i) (.int j)=some ⟨.c,.int (i+j)⟩:=rfl
@[simp] theorem OZ{x y:Str}:ae (.str x) (.str y)=pH (.str x) (.str y):=rfl
@[simp] theorem P0{x y:List D}:ae (.lst x) (.lst y)=pH (.lst x) (.lst y):=rfl
@[simp] theorem Pa{x y:List D}:ae (.tup x) (.tup y)=if x.length=0\/x.length+y.length<=a7 then some ⟨.c,.tup (x++y)⟩ else none:=by
 cases x with
 |nil=>rfl
 |cons a x=>simp[ae]
end
abbrev Nm:=Str×List D
noncomputable def c9(p:Nm):D:= .tup (.str p.1::p.2)
noncomputable def plD(eA:List Nm)(n:Str):D:=match eA.findIdx? λp=>p.1==n with
 |some k=> .int (k:Int)
 |none=> .non
theorem uX(n:Str)(q:D):∀(eA:List Nm) (k:Nat) (x y:Os),(∃x' y',forL (gT [2,3]) (ifS (av eqB (ixE (vE 3) (kE (.int 0))) (vE 1)) (retS (vE 2)) aD) (mR k (eA.map c9)) [some (.sh q),some (.sh (.str n)),x,y]=some (match eA.findIdx? λp=>p.1==n with
  |some j=> .ret (.int ((k+j:Nat):Int))
  |none=> .nx [some (.sh q),some (.sh (.str n)),x',y']))
 |[],k,x,y=> ⟨x,y,rfl⟩
 |p::eA,k,x,y=>by
  by_cases h:p.1=n
  .refine⟨x,y, ?_⟩;simp[c9,h,Gbq]
  .obtain⟨x',y',e⟩:=uX n q eA (k+1) (some (.sh (.int (k:Int)))) (some (.sh (c9 p)));refine⟨x',y', ?_⟩;have:(p.1==n)=false:=by simpa using h
   simp[c9,h,Gbq,this] at e⊢;rw[e];cases eA.findIdx? λp=>p.1==n with
   |none=>rfl
   |some j=>simp;lia
theorem JD(eA:List Nm)(n:Str):cC [.lst (eA.map c9),.str n]=some (plD eA n):=by
 obtain⟨x',y',e⟩:=uX n (.lst (eA.map c9)) eA 0 none none;unfold cC jm;simp at e⊢;rw[e];unfold plD;cases eA.findIdx? λp=>p.1==n with
 |none=>rfl
 |some j=>simp
@[simp] theorem Pb{d:D}:(gV d).d=d:=rfl
variable{ws:List D}
theorem Cj{eA:List Nm}{n:Str}(h:f6 [.str n]=some (.bl true)):bT [.lst (eA.map c9),.lst (.str n::ws)]=some (.bl (cN (plD eA n))):=by
 unfold bT fA;simp[h,JD]
@[simp] theorem Pc{α:Type}(x:α)(xs:List α):cutD (x::xs) (some 1) none=xs:=by simp[cutD,sIx]
@[simp] theorem PD{α:Type}(x y:α)(xs:List α):cutD (x::y::xs) (some 2) none=xs:=by simp[cutD,sIx]
noncomputable def JL(c:Nat):List (List Nat)->List Nat
 |[]=>[]
 |[x]=>x
 |x::y::r=>x++c::JL c (y::r)
theorem Ck{c:Nat}:∀{x u A B:List Nat},c∉x->c∉u->x++c::A=u++c::B->x=u/\A=B
 |[],[],A,B,_,_,h=> ⟨rfl,by simpa using h⟩
 |[],b::u,A,B,_,h2,h=>by
  simp at h;exact absurd h.1 (λz=>h2 (by simp[z]))
 |a::x,[],A,B,h1,_,h=>by
  simp at h;exact absurd h.1 (λz=>h1 (by simp[z]))
 |a::x,b::u,A,B,h1,h2,h=>by
  simp at h;obtain⟨rfl,h⟩:=h;obtain⟨rfl,e⟩:=Ck (λz=>h1 (by simp[z])) (λz=>h2 (by simp[z])) h;exact⟨rfl,e⟩
theorem Cm{c:Nat}:∀{ws vs:List (List Nat)},ws≠[]->vs≠[]->(∀w∈ws,c∉w)->(∀w∈vs,c∉w)->JL c ws=JL c vs->ws=vs
 |[],_,h,_,_,_,_=>absurd rfl h
 |_,[],_,h,_,_,_=>absurd rfl h
 |[x],[u],_,_,_,_,h=>by rw[show x=u from h]
 |[x],u::v::r,_,_,h1,_,h=>by
  have h:x=u++c::JL c (v::r):=h;exact absurd (show c∈x by rw[h];simp) (h1 x (by simp))
 |x::y::r,[u],_,_,_,h2,h=>by
  have h:x++c::JL c (y::r)=u:=h;exact absurd (show c∈u by rw[<-h];simp) (h2 u (by simp))
 |x::y::r,u::v::q,_,_,h1,h2,h=>by
  obtain⟨rfl,e⟩:=Ck (h1 x (by simp)) (h2 u (by simp)) (show x++c::JL c (y::r)=u++c::JL c (v::q) from h);rw[Cm (by simp) (by simp) (λw hw=>h1 w (Gat _ hw)) (λw hw=>h2 w (Gat _ hw)) e]
theorem nB(c:Nat):∀ws:List Str,(Str.join ⟨#[c]⟩ ws).cps.toList=JL c (ws.map (·.cps.toList))
 |[]=>rfl
 |[x]=>rfl
 |x::y::r=>by
  show(x++(⟨#[c]⟩:Str)++Str.join ⟨#[c]⟩ (y::r)).cps.toList=_;rw[GbL,GbL,Gcz,Gcz,nB c (y::r)];simp[JL]
theorem blank_eq:Str.ofString " "=⟨#[32]⟩:=by decide+kernel
def NB(x:Str):Prop:=32∉x.cps.toList
variable{x:Str}
theorem qc{y:Str}(h:x.cps.toList=y.cps.toList):x=y:=by
 obtain⟨⟨x⟩⟩:=x;obtain⟨⟨y⟩⟩:=y;cases h;rfl
theorem lU:∀{ws vs:List Str},ws.map (·.cps.toList)=vs.map (·.cps.toList)->ws=vs
 |[],[],_=>rfl
 |[],_::_,h=>by cases h
 |_::_,[],h=>by cases h
 |x::ws,y::vs,h=>by
  simp only[Gau,List.cons.injEq] at h;rw[qc h.1,lU h.2]
theorem tD{ws:List Str}(h:ws≠[])(f:∀w∈ws,NB w):Txt.split (Str.join " " ws) " "=ws:=by
 rw[blank_eq];have e:=StrLaws.join_split (Str.join ⟨#[32]⟩ ws) ⟨#[32]⟩;have q:=StrLaws.split_free (Str.join ⟨#[32]⟩ ws) 32;have vn:=PyProof.Rows.split_pos (Str.join ⟨#[32]⟩ ws) ⟨#[32]⟩;generalize Txt.split (Str.join ⟨#[32]⟩ ws) ⟨#[32]⟩=vs at e q vn⊢;have e2:=congrArg (λx:Str=>x.cps.toList) e;simp only[nB] at e2;exact lU (Cm (by rintro z;rw[List.map_eq_nil_iff] at z;subst z;simp at vn) (by simpa using h) (λw hw=>by
  obtain⟨p,hp,rfl⟩:=GaJ.mp hw;exact q p hp) (λw hw=>by
  obtain⟨p,hp,rfl⟩:=GaJ.mp hw;exact f p hp) e2)
noncomputable def gy(i:Int):Str:=Str.ofString (toString i)
noncomputable def dg(n:Nat):List Nat:=(Nat.toDigits 10 n).map Char.toNat
theorem uY(n:Nat):(gy (n:Int)).cps.toList=dg n:=by
 unfold gy;rw[Gce];show((toString (n:Int)).toList.map Char.toNat)=_;rw[show toString (n:Int)=toString n from rfl,show toString n=String.ofList (Nat.toDigits 10 n) from rfl,String.toList_ofList]
 rfl
theorem uZ:∀d:Nat,d<10->(Nat.digitChar d).toNat=48+d:=by decide
variable{n:Nat}
theorem Cn(h:n<10):dg n=[48+n]:=by
 unfold dg;rw[Nat.toDigits_of_lt_base h];simp[uZ n h]
theorem Gv(h:10<=n):dg n=dg (n/10)++[48+n%10]:=by
 unfold dg;rw[Nat.toDigits_of_base_le (by decide) h];simp[uZ (n%10) (Nat.mod_lt _ (by decide))]
theorem ME(n:Nat):(dg n).all mT=true/\sJ (dg n)=n/\∃c r,dg n=c::r/\(r≠[]->c≠48)/\(c=48->n=0):=by
 induction n using Nat.strongRecOn with
 |_ n ih=>
  by_cases h:n<10
  .rw[Cn h];refine⟨?_, ?_,48+n,[],rfl,λz=>absurd rfl z,λz=>by lia⟩
   .simp[mT];lia
   .simp[sJ]
  .obtain⟨h1,h2,c,r,h3,h4,h5⟩:=ih (n/10) (by lia);rw[Gv (by lia)];refine⟨?_, ?_,c,r++[48+n%10],by rw[h3];rfl,λ_ z=> ?_,λz=> ?_⟩
   .rw[List.all_append,h1];simp[mT];lia
   .unfold sJ at h2⊢;rw[Gca,h2];simp;lia
   .have:=h5 z;lia
   .have:=h5 z;lia
theorem Co{k:Nat}(h:n<10^(k+1)):(dg n).length<=k+1:=by
 induction k generalizing n with
 |zero=>rw[Cn (by simpa using h)];simp
 |succ k ih=>
  by_cases h' :n<10
  .rw[Cn h'];simp
  .rw[Gv (by lia),Gal];have:=ih (n:=n/10) (by rw[Nat.pow_succ] at h;lia);simp;lia
theorem Fn(c:Nat):decide (c∈(Str.ofString "0123456789").cps.toList)=mT c:=by
 have e:(Str.ofString "0123456789").cps.toList=List.range' 48 10:=by decide+kernel
 rw[e,Gco];unfold mT;simp[List.mem_range'];constructor
 .rintro⟨i,h1,rfl⟩;lia
 .intro h;exact⟨c -48,by lia,by lia⟩
theorem oX{α:Type}{g:DG}{t:DT}{f:DE}(emb:α->D)(C:DL.Env->Prop)(p:α->Bool)(r:α->D):∀(xs:List α) (e:DL.Env),C e->
  (∀x∈xs,∀e,C e->∃e',g (emb x) e=some e' /\C e' /\t e' =some (p x)/\(p x=true->∃k,f e' =some ⟨k,r x⟩/\RV.free ⟨k,r x⟩=true))->bN g t f (xs.map emb) e=some ((xs.filter p).map r)
 |[],e,_,_=>rfl
 |d::ds,e,h,st=>by
  obtain⟨e',h1,h2,h3,h4⟩:=st d GaI e h;have ih:=oX emb C p r ds e' h2 λd' hd=>st d' (Gat _ hd);cases q:p d with
  |false=>simp[bN,h1,h3,q,ih]
  |true=>
   obtain⟨k,h5,h6⟩:=h4 q;simp[bN,h1,h3,q,h5,h6,ih]
theorem cI{α:Type}{g:DG}{f:DE}(emb:α->D)(C:DL.Env->Prop)(r:α->D)(xs:List α)(e:DL.Env)(h:C e)
  (st:∀x∈xs,∀e,C e->∃e',g (emb x) e=some e' /\C e' /\∃k,f e' =some ⟨k,r x⟩/\RV.free ⟨k,r x⟩=true):bN g aK f (xs.map emb) e=some (xs.map r):=by
 have:=oX (g:=g) (t:=aK) (f:=f) emb C (λ_=>true) r xs e h (λx hx e he=>by
  obtain⟨e',h1,h2,h3⟩:=st x hx e he;exact⟨e',h1,h2,rfl,λ_=>h3⟩)
 rw[List.filter_eq_self.mpr λ_ _=>rfl] at this;exact this
theorem wU(bs:List Bool):pI (bs.map D.bl)=some bs:=by
 induction bs with
 |nil=>rfl
 |cons b bs ih=>simp[ih]
theorem wW(bs:List Int):ox (bs.map D.int)=some bs:=by
 induction bs with
 |nil=>rfl
 |cons b bs ih=>simp[ih]
@[simp] theorem MF(bs:List Bool):qF [.lst (bs.map D.bl)]=some ⟨.c,.bl (bs.all id)⟩:=by
 simp[qF,one,qE,wU]
theorem rB(hs:List Int):ag (hs.map D.int)=true:=by
 induction hs with
 |nil=>rfl
 |cons b bs ih=>simp[ih]
variable{env:DL.Env}{f g:DS}
theorem aj{e:DL.Env}(h:f env=some (.nx e)):ak f g env=g e:=by simp[ak,h]
variable{d:D}
theorem v5(h:f env=some (.ret d)):ak f g env=some (.ret d):=by simp[ak,h]
variable{ds:List D}
theorem bc{np:Nat}{body:DS}(hl:ds.length=np)(h:body (fQ n ds)=some (.ret d)):cA n np body ds=some d:=by
 unfold cA;rw[Gak hl,h];rfl
noncomputable def bf(c:Nat):D:= .str ⟨#[c]⟩
theorem wX(x:Str):ia x=x.cps.toList.map bf:=rfl
@[simp] theorem NU{x y:Str}:kO (.str x) (.str y)=none:=rfl
theorem Cp{y:Str}(hx:x.length<=a7):dU [.str x,.str y]=some (.bl (x.cps.toList.all λc=>decide (c∈y.cps.toList))):=by
 have hc:bN (gN 0) aK (bE (av (orB kO pR) (vE 0) (vE 1))) (ia x) [none,some (.sh (.str y))]=some ((x.cps.toList.map λc=>decide (c∈y.cps.toList)).map D.bl):=by
  rw[wX,Gaw];refine cI bf (λe=>∃z,e=[z,some (.sh (.str y))]) _ _ _ ⟨_,rfl⟩ ?_;rintro c hc e ⟨z,rfl⟩;exact⟨_,rfl,⟨_,rfl⟩,.c,by simp[bf],rfl⟩
 have hl:(ia x).length<=a7:=by simpa[ia,Str.length] using hx
 refine bc rfl ?_;unfold gg;simp[hl,DL.compEnv,cG,hc,-List.map_map]
theorem Cq(h:n<=1000000000):cU [.str (gy (n:Int))]=some (.int (n:Int)):=by
 obtain⟨h1,h2,c,r,h3,h4,h5⟩:=ME n;have hl:=Co (n:=n) (k:=9) (by lia);have e:=uY n;have eJ:(gy (n:Int)).length=(dg n).length:=by rw[<-e];rfl
 generalize gy (n:Int)=x at e eJ;have hn:=h2;generalize Q0:dg n=cs at*;obtain⟨⟨xs⟩⟩:=x;have e:xs=cs:=e;subst e;have hm:=Cp (x:=⟨⟨xs⟩⟩) (y:=Str.ofString "0123456789") (by rw[eJ];unfold a7;lia);rw[show(⟨⟨xs⟩⟩:Str).cps.toList=xs from rfl,show(λc=>decide (c∈(Str.ofString "0123456789").cps.toList))=mT from funext Fn,h1] at hm;have hp:1<=xs.length:=by rw[h3];simp
 have hL:gL [.str ⟨⟨xs⟩⟩]=some ⟨.c,.int xs.length⟩:=by
  rw[jQ,Gak (by rw[eJ];unfold a7;lia),eJ]
 have hI:lO [.str ⟨⟨xs⟩⟩]=some ⟨.c,.int (n:Int)⟩:=by
  rw[oM,Gak,show(⟨⟨xs⟩⟩:Str).cps.toList=xs from rfl,h2];rw[eJ,show(⟨⟨xs⟩⟩:Str).cps.toList=xs from rfl,h1];have:xs≠[]:=by rw[h3];simp
  simp[this];lia
 have hz:1<xs.length->∃d,ixD (.str ⟨⟨xs⟩⟩) (.int 0)=some d/\eqB d (.str "0")=some false:=λz=>by
  refine⟨.str ⟨#[c]⟩, ?_, ?_⟩
  .rw[jR,Gak (by rw[eJ];unfold a7;lia),show(⟨⟨xs⟩⟩:Str).cps.toList=xs from rfl,h3]
   rfl
  .have hc:c≠48:=h4 (by rintro rfl;rw[h3] at z;simp at z);rw[DK,show Str.ofString "0"=⟨#[48]⟩ by decide+kernel];congr 1;simp[hc]
 generalize (⟨⟨xs⟩⟩:Str)=x at*;have hq:¬1000000000<(n:Int):=by lia
 generalize hk:(n:Int)=k at*;have a1:1<=(xs.length:Int):=by lia
 have a2:(xs.length:Int)<=10:=by lia
 have a3:1<(xs.length:Int)->1<xs.length:=by lia
 generalize (xs.length:Int)=L at*;unfold cU;refine bc rfl ?_;unfold ik;refine(aj (e:=[some (.sh (.str x)),none]) (by simp[-jQ,hL,hm,a1,a2])).trans ?_;refine(aj (e:=[some (.sh (.str x)),none]) (by
  by_cases h2:1<L
  .obtain⟨d,hd,hd2⟩:=hz (a3 h2);simp[-jQ,-jR,hL,h2,hd,hd2]
  .simp[-jQ,hL,h2])).trans ?_
 refine(aj (e:=[some (.sh (.str x)),some (.sh (.int k))]) (by simp[-oM,hI,mS])).trans ?_;simp[hq]
theorem Fo(c:Nat):decide (c∈(Str.ofString "abcdefghijklmnopqrstuvwxyz").cps.toList)=(decide (97<=c)&&decide (c<=122)):=by
 have e:(Str.ofString "abcdefghijklmnopqrstuvwxyz").cps.toList=List.range' 97 26:=by decide+kernel
 rw[e,Gco];simp[List.mem_range'];constructor
 .rintro⟨i,h1,rfl⟩;lia
 .intro h;exact⟨c -97,by lia,by lia⟩
def Nam(x:Str):Prop:=1<=x.length/\x.length<=8/\x.cps.toList.all (λc=>decide (97<=c)&&decide (c<=122))=true
theorem tF(h:Nam x):f6 [.str x]=some (.bl true):=by
 obtain⟨h1,h2,h3⟩:=h;have hm:=Cp (x:=x) (y:=Str.ofString "abcdefghijklmnopqrstuvwxyz") (by unfold a7;lia);rw[show(λc=>decide (c∈(Str.ofString "abcdefghijklmnopqrstuvwxyz").cps.toList))=_ from funext Fo,h3] at hm;have a1:1<=(x.length:Int):=by lia
 have a2:(x.length:Int)<=8:=by lia
 have hs:x.length<=a7:=by unfold a7;lia
 unfold f6;refine bc rfl ?_;unfold kX;simp[hm,a1,a2,hs]
theorem Nam.nb(h:Nam x):NB x:=λz=>by
 have:=Gao.mp h.2.2 32 z;simp at this
def Num(i:Int):Prop:=0<=i/\i<=1000000000
variable{i:Int}
theorem s_num(h:Num i):cU [.str (gy i)]=some (.int i):=by
 obtain⟨n,rfl⟩:=Int.eq_ofNat_of_zero_le h.1;exact Cq (by have:=h.2;lia)
def qd:List Int->List Int->Prop
 |[],[]=>True
 |i::is,l::ls=>Num i/\l<=i/\qd is ls
 |_,_=>False
theorem qd.len:∀{is ls:List Int},qd is ls->is.length=ls.length
 |[],[],_=>rfl
 |[],_::_,h=>h.elim
 |_::_,[],h=>h.elim
 |_::is,_::ls,h=>by rw[GaE,GaE,qd.len h.2.2]
def nD(i:Int):D:= .str (gy i)
theorem oY(A B:D):∀(is ls:List Int) (acc:List D) (x y z:Os),qd is ls->acc.length+is.length<1000->
  ∃x' y' z',forL (gT [3,4]) (ak (aq 5 (caE cU [vE 3])) (ak (ifS (orT (av f7 (vE 5) (kE .non)) (av ltB (vE 5) (vE 4))) (retS (kE .non)) aD) (bA 2 (vE 5)))) (iS (is.map nD) (ls.map D.int)) [some (.sh A),some (.sh B),some (.own (.lst acc)),x,y,z]
   =some (.nx [some (.sh A),some (.sh B),some (.own (.lst (acc++is.map D.int))),x',y',z'])
 |[],[],acc,x,y,z,_,_=> ⟨x,y,z,by simp[iS]⟩
 |[],_::_,_,_,_,_,h,_=>h.elim
 |_::_,[],_,_,_,_,h,_=>h.elim
 |i::is,l::ls,acc,x,y,z,h,hl=>by
  obtain⟨h1,h2,h3⟩:=h;obtain⟨x',y',z',e⟩:=oY A B is ls (acc++[.int i]) (some (.sh (nD i))) (some (.sh (.int l))) (some (.sh (.int i))) h3 (by simp at hl⊢;lia);have q:¬i<l:=by lia
  have s:acc.length<16777216:=by simp at hl;lia
  have n:=s_num h1;refine⟨x',y',z', ?_⟩;rw[show acc++(i::is).map D.int=acc++[.int i]++is.map D.int by simp,<-e];simp[iS,nD,n,q,s,a7]
variable{is:List Int}
theorem nC{ls:List Int}{L:D}{b:Bool}(h:qd is ls)(hz:nW L=some (b,ls.map D.int))(hL:gL [L]=some ⟨.c,.int ls.length⟩)(hn:is.length<100):aB [.lst (is.map nD),L]=some (.lst (is.map D.int)):=by
 obtain⟨x',y',z',e⟩:=oY (.lst (is.map nD)) L is ls [] none none none h (by simp;lia);have hl:=h.len;unfold aB;refine bc rfl ?_;unfold gh;refine(aj (e:=[some (.sh (.lst (is.map nD))),some (.sh L),none,none,none,none]) (by simp[hL,hl])).trans ?_;refine(aj (e:=[some (.sh (.lst (is.map nD))),some (.sh L),some (.own (.lst [])),none,none,none]) (by simp)).trans ?_;refine(aj (e:=[some (.sh (.lst (is.map nD))),some (.sh L),some (.own (.lst ([]++is.map D.int))),x',y',z']) ?_).trans ?_
 .have zl:nW (.lst (is.map nD))=some (false,is.map nD):=rfl;simp only[Gcu,caE,aL] at e;simp[hz,zl,e,freed]
 .simp[rB]
@[simp] theorem rC(is:List Int):ag (is.map nD)=true:=by
 induction is with
 |nil=>rfl
 |cons i is ih=>simp[nD,ih]
@[simp] theorem iD(is:List Int):ag (is.map D.int)=true:=rB is
def wS:D->Str
 | .str x=>x
 | .int i=>gy i
 |_=> ⟨#[]⟩
def Wd:D->Prop
 | .str x=>NB x/\x.length<=10
 | .int i=>Num i
 |_=>False
def dS(ws:List D):Str:=Str.join " " (ws.map wS)
theorem qe(h:Num i):(gy i).length<=10:=by
 obtain⟨n,rfl⟩:=Int.eq_ofNat_of_zero_le h.1;have:=Co (n:=n) (k:=9) (by have:=h.2;lia);rw[<-uY] at this;exact this
theorem JE(i:Int):NB (gy i):=PyProof.Rows.int_text_free' 32 ⟨by decide,by decide⟩ i
theorem Wd.len(h:Wd d):(wS d).length<=10:=by
 cases d with
 |str x=>exact h.2
 |int i=>exact qe h
 |_=>exact h.elim
theorem Wd.nb(h:Wd d):NB (wS d):=by
 cases d with
 |str x=>exact h.1
 |int i=>exact JE i
 |_=>exact h.elim
theorem Wd.str{d:D}(h:Wd d):orS iR iT [d]=some ⟨.c,.str (wS d)⟩:=by
 cases d with
 |str x=>rfl
 |int i=>
  have h:Num i:=h;have:i.natAbs<1000000000000000000:=by have:=h.1;have:=h.2;lia
  simp[iR,this,wS,gy]
 |_=>exact h.elim
theorem strs_map(xs:List Str):k6 (xs.map D.str)=some xs:=by
 induction xs with
 |nil=>rfl
 |cons x xs ih=>simp[ih]
theorem JF{xs:List Nat}(h:∀x∈xs,x<=10):xs.sum<=xs.length*10:=by
 induction xs with
 |nil=>simp
 |cons x xs ih=>
  have:=h x (by simp);have:=ih λy hy=>h y (by simp[hy]);simp;lia
theorem oZ(h:∀d∈ws,Wd d)(hl:ws.length<=20):(retS (unE (cB " ") (bq (some 0) 1 [] (ssI (vE 0)) (gN 0) aK (blE (orS iR iT) [vE 0])))) [some (.sh (.tup ws))]=some (.ret (.str (dS ws))):=by
 have c:bN (gN 0) aK (blE (orS iR iT) [vE 0]) (ws.map id) [none]=some (ws.map λd=> .str (wS d)):=by
  refine cI id (λe=>∃z,e=[z]) _ _ _ ⟨_,rfl⟩ ?_;rintro d hd e ⟨z,rfl⟩;exact⟨_,rfl,⟨_,rfl⟩,.c,by simpa using(h d hd).str,rfl⟩
 rw[List.map_id] at c;have c' :bN (gN 0) aK (je (orS iR iT) (af (vE 0) az)) ws [none]=some ((ws.map wS).map D.str):=by rw[Gaw];exact c
 have s1:=JF (xs:=(ws.map wS).map (·.length)) (λx hx=>by
  simp only[Gaw,GaJ,Function.comp] at hx;obtain⟨d,hd,rfl⟩:=hx;exact(h d hd).len)
 have s2:(((ws.map wS).map (·.length)).sum+(ws.map wS).length*(Str.ofString " ").length)<=a7:=by
  rw[show(Str.ofString " ").length=1 by decide+kernel];simp only[Gax] at s1⊢;unfold a7;lia
 have s3:ws.length<=a7:=by unfold a7;lia
 generalize hq:(ws.map wS)=vs at*;simp[-List.map_map,DL.compEnv,c',strs_map,s2,s3,dS,hq]
theorem gz(h:∀d∈ws,Wd d)(hl:ws.length<=20):aW [.tup ws]=some (.str (dS ws)):=bc rfl (oZ h hl)
theorem gA(h:∀d∈ws,Wd d)(hl:ws.length<=20):aA [.tup ws]=some (.str (dS ws)):=bc rfl (oZ h hl)
theorem tH(h:∀d∈ws,Wd d)(hn:ws≠[]):Txt.split (dS ws) " "=ws.map wS:=tD (by simpa using hn) (λw hw=>by
 obtain⟨d,hd,rfl⟩:=GaJ.mp hw;exact(h d hd).nb)
theorem Cr(c:Nat):∀ws:List (List Nat),(JL c ws).length<=(ws.map λw=>w.length+1).sum
 |[]=>by simp[JL]
 |[x]=>by simp[JL]
 |x::y::r=>by
  have:=Cr c (y::r);simp[JL] at this⊢;lia
theorem Cs(h:∀d∈ws,Wd d)(hl:ws.length<=20):(dS ws).length<=220:=by
 have e:(dS ws).length=(JL 32 ((ws.map wS).map (·.cps.toList))).length:=by
  rw[<-nB,<-blank_eq];rfl
 have b:=Cr 32 ((ws.map wS).map (·.cps.toList));have:∀l:List D,(∀d∈l,Wd d)->(((l.map wS).map (·.cps.toList)).map λw=>w.length+1).sum<=l.length*11:=λl=>by
  induction l with
  |nil=>intro _;simp
  |cons d l ih=>
   intro h;have h1:(wS d).cps.toList.length<=10:=(h d (by simp)).len;have:=ih λx hx=>h x (by simp[hx]);simp only[Gau,List.sum_cons,GaE] at this⊢;lia
 have:=this ws h;lia
def nxt(h k:Str):Bool:=match lkT ij (.inr h) with
 |some ks=>(ks.map kD).any λy=>eqD y (.str k)
 |none=>false
section
variable{h k line:Str}{g s b o:List D}{ws:List Str}{d' :D}{q:Bool}
variable{d:D}{m:Nat}
theorem MG{f:DW}:fH (m+2) 2 [0] f [d,.str line]=(f (some (.lok d)::some (.sh (.str line))::List.replicate m none)).bind (sS [0]):=by
 simp[fH,DL.argsOk,Gcv,bX,k9,D.top,D.ba]
theorem nF(ws:List Str):ag (ws.map D.str)=true:=by
 induction ws with
 |nil=>rfl
 |cons x ws ih=>simpa using ih
theorem JG{ks:List DL.Key}:oU (.str k) (.kt ks)=some (!((ks.map kD).any λy=>eqD y (.str k))):=rfl
theorem Ct(hs:Txt.split line " "=k::ws)(hl:line.length<1000):kN (.str line) (.str " ")=some ⟨.tn,.lst (.str k::ws.map D.str)⟩:=by
 show(if _ then _ else none)=_;rw[Gak ⟨rfl,by unfold a7;lia⟩,hs]
 rfl
def JH(k:Str):Option (SpX):=
 if k="guest" then some d8 else if k="stuff" then some d9 else if k="cap" then some fB else if k="young" then some da else if k="bar" then some fC else if k="order" then some de else if k="dose" then some dH else if k="asked" then some df else if k="due" then some fD else if k="taper" then some dh else none
theorem MH{f:DW}:fH (m+3) 3 [0] f [d,.str k,.lst (ws.map D.str)]=(f (some (.lok d)::some (.sh (.str k))::some (.bor (.lst (ws.map D.str)))::List.replicate m none)).bind (sS [0]):=by
 simp[fH,DL.argsOk,Gcv,bX,k9,D.top,D.ba,nF]
theorem iE{v w:DW}{e e' :DL.Env}(h:v e=some (.nx e')):aI v w e=w e' :=by simp[h]
variable{j:Nat}
theorem dY{c:Str}{m:DXW}{w:DW}{e:DL.Env}(h:e[j]? =some (some (.sh (.str k)))):aI (ifW (av eqB (vE j) (kS c)) (ig m) (aJ aD)) w e=if k=c then(m e).map λr=> .ret r.1 r.2 else w e:=by
 by_cases q:k=c
 .rw[Gak q];simp[h,q,ig];cases m e<;>rfl
 .rw[Gam q];simp[h,q]
variable{sp:SpX}
theorem Gw{e:DL.Env}(F:Fl g s b o)(h0:e[0]? =some (some (.lok (dr k g s b o))))(hj:iY j e=some (.lst (ws.map D.str)))(hn:j≠0)(hf:flF [0] 0 e=true)(hr:sp [dr k g s b o,.lst (ws.map D.str)]=some (.bl q,[d'])):cT sp [AW.lent 0,AW.name j] e=some (.bl q,e.set 0 (some (.lok d'))):=by
 have fk:=F.k (h:=k);simp[cT,bx,ka,n9,Bz,ic,ng,Slot.put,nF,hf,h0,hj,hn,fk,hr,-Cc]
theorem JI{e:DL.Env}(fd:flK d' =true)(h:0<e.length):(Option.map (λr:D×DL.Env=>jX.ret r.1 r.2) (some (d,e.set 0 (some (.lok d'))))).bind (sS [0])=some (d,[d']):=by
 simp[jZ,fd,h]
theorem MI(F:Fl g s b o)(hs:Txt.split line " "=k::ws)(hl:line.length<1000)(hn:nxt h k=true)(hd:JH k=some sp)(hr:sp [dr k g s b o,.lst (ws.map D.str)]=some (.bl q,[d']))(fd:flK d' =true):jt [dr h g s b o,.str line]=some (.bl q,[d']):=by
 unfold nxt at hn;cases z:lkT ij (.inr h) with
 |none=>rw[z] at hn;cases hn
 |some ks=>
  rw[z] at hn;have m:=JG (k:=k) (ks:=ks);simp only at hn;rw[hn] at m;have w:=nF ws;have u:=Ct hs hl;have fo:flF [0] 0 [some (.lok (dr k g s b o)),some (.sh (.str line)),some (.own (.lst (.str k::ws.map D.str))),some (.sh (.str k)),some (.own (.lst (ws.map D.str)))]=true:=by simp[w]
  have c4:=λ{sp} hr=>Gw (e:=[some (.lok (dr k g s b o)),some (.sh (.str line)),some (.own (.lst (.str k::ws.map D.str))),some (.sh (.str k)),some (.own (.lst (ws.map D.str)))]) (j:=4) (sp:=sp) (q:=q) (d' :=d') F rfl rfl (by decide) fo hr;have fp:flF [0] 0 [some (.lok (dr k g s b o)),some (.sh (.str k)),some (.bor (.lst (ws.map D.str)))]=true:=by simp[w]
  have c2:=λ{sp} hr=>Gw (e:=[some (.lok (dr k g s b o)),some (.sh (.str k)),some (.bor (.lst (ws.map D.str)))]) (j:=2) (sp:=sp) (q:=q) (d' :=d') F rfl rfl (by decide) fp hr;unfold jt tq;rw[MG,iE (e' :=[some (.lok (dr h g s b o)),some (.sh (.str line)),some (.own (.lst (.str k::ws.map D.str))),none,none]) (by simp[u]),iE (e' :=[some (.lok (dr h g s b o)),some (.sh (.str line)),some (.own (.lst (.str k::ws.map D.str))),some (.sh (.str k)),none]) (by simp),iE (e' :=[some (.lok (dr h g s b o)),some (.sh (.str line)),some (.own (.lst (.str k::ws.map D.str))),some (.sh (.str k)),none]) (by simp[z,m]),iE (e' :=[some (.lok (dr k g s b o)),some (.sh (.str line)),some (.own (.lst (.str k::ws.map D.str))),some (.sh (.str k)),none]) (by simp[JC F,w]),iE (e' :=[some (.lok (dr k g s b o)),some (.sh (.str line)),some (.own (.lst (.str k::ws.map D.str))),some (.sh (.str k)),some (.own (.lst (ws.map D.str)))]) (by simp),dY rfl,dY rfl,dY rfl,dY rfl,dY rfl];unfold JH at hd
  iterate 5
   split at hd
   (rename_i e;cases hd;rw[Gak e,c4 hr];exact JI fd (by simp))
   rename_i e;rw[Gam e]
  have of:cQ [dr k g s b o,.str k,.lst (ws.map D.str)]=some (.bl q,[d']):=by
   unfold cQ dR;rw[MH,show some (Slot.lok (dr k g s b o))::some (.sh (.str k))::some (.bor (.lst (ws.map D.str)))::List.replicate 0 none=[some (.lok (dr k g s b o)),some (.sh (.str k)),some (.bor (.lst (ws.map D.str)))] from rfl,dY rfl,dY rfl,dY rfl,dY rfl]
   iterate 4
    split at hd
    (rename_i e;cases hd;rw[Gak e,c2 hr];exact JI fd (by simp))
    rename_i e;rw[Gam e]
   split at hd
   .cases hd;simp only[ig,c2 hr];exact JI fd (by simp)
   .cases hd
  have fk:=F.k (h:=k);simp[ig,cT,bx,ka,n9,Bz,ic,iY,ng,Slot.put,w,fk,of,fd,-Cc]
end
def d0:D:=dr "" [] [] [] []
def Tk(d:D)(l:Str)(d' :D):Prop:=jt [d,.str l]=some (.bl true,[d'])/\flK d' =true
inductive Goes:D->List D->D->Prop
 |nil (d:D):Goes d [] d
 |cons {d d1 d2:D} {l:Str} {ls:List D}:Tk d l d1->Goes d1 ls d2->Goes d (.str l::ls) d2
variable{ls:List D}{l:Str}{d1 d2:D}
theorem Goes.sn(G:Goes d ls d1)(t:Tk d1 l d2):Goes d (ls++[.str l]) d2:=by
 induction G with
 |nil d=>exact .cons t (.nil _)
 |cons t' _ ih=>exact .cons t' (ih t)
def j7:DW:=oN (ifC (BE (wI (cT jt [AW.lent 1,AW.val (vE 3)]))) (aJ dP) (aJ aD))
noncomputable def rE(ls:List D)(d:D)(x y:Os):DL.Env:=[some (.bor (.lst ls)),some (.lok d),x,y]
theorem JJ{d' :D}(hi:ag ls=true)(fd:flK d=true)(ht:jt [d,.str l]=some (.bl true,[d'])):
  j7 (rE ls d (some (.sh (.int (n:Nat)))) (some (.sh (.str l))))=some (.nx (rE ls d' (some (.sh (.int (n:Nat)))) (some (.sh (.str l))))):=by
 unfold j7 rE;simp[ifC,BE,wI,cT,bx,ka,n9,Bz,ic,ng,Slot.put,hi,fd,ht]
variable{y:Os}
theorem JK{all:List D}{x:Os}{m:Nat}(g:all[n]? =some (.str l)):fN 2 3 0 j7 (m+1) n (rE all d x y)=(j7 (rE all d (some (.sh (.int (n:Nat)))) (some (.sh (.str l))))).bind λo=>match o with
  | .nx e=>fN 2 3 0 j7 m (n+1) e
  | .ct e=>fN 2 3 0 j7 m (n+1) e
  | .bk e=>some (.nx e)
  |o=>some o:=by
 rw[fN,show sU 0 (rE all d x y)=some all from rfl,Option.bind_some,g]
 rfl
theorem JM{all:List D}(hi:ag all=true)(G:Goes d ls d2):∀(pre rest:List D) (x y:Os),all=pre++(ls++rest)->flK d=true->flK d2=true/\∃x' y',fN 2 3 0 j7 ((ls++rest).length+1) pre.length (rE all d x y)=fN 2 3 0 j7 (rest.length+1) (pre++ls).length (rE all d2 x' y'):=by
 induction G with
 |nil d=>intro pre rest x y e fd;exact⟨fd,x,y,by simp⟩
 | @cons d d1 d2 l ls t G ih=>
  intro pre rest x y e fd;obtain⟨f2,x',y',h⟩:=ih (pre++[.str l]) rest (some (.sh (.int (pre.length:Nat)))) (some (.sh (.str l))) (by simp[e]) t.2;refine⟨f2,x',y', ?_⟩;have g:all[pre.length]? =some (.str l):=by rw[e];simp
  rw[show(.str l::ls++rest).length+1=((ls++rest).length+1)+1 from rfl,JK g,JJ hi fd t.1];simp only[Option.bind_some];rw[show pre.length+1=(pre++[D.str l]).length by simp,h];congr 1;simp
def Cu:DW:=aI (sIf (av (orB kO pR) (cM 100 "head" (vE 1)) (kE (.kt [Sum.inr "order",Sum.inr "dose"]))) dP) (kW (tpE [blE aP [cM 100 "guests" (vE 1)],blE aP [cM 100 "stuffs" (vE 1)],blE aP [cM 100 "bars" (vE 1)],blE aP [cM 100 "orders" (vE 1)]]))
theorem wY(hi:ag ls=true)(hl:ls≠[]):ir [.lst ls]=(aI (λ_=>fN 2 3 0 j7 (ls.length+1) 0 (rE ls d0 none none)) Cu []).bind IQ:=by
 have m:ma [.obj 100 [] []]=some (.non,[d0]):=by kernel_rfl
 have e:(aJ (cL (some 0) (oJ (vE 0)) (gT [2,3]) dP)) (rE ls d0 none none)=none:=by
  cases ls with
  |nil=>exact absurd rfl hl
  |cons l ls=>simp[rE]
 unfold ir BR;rw[Gak ⟨rfl,by simp[DL.argsOk,hi]⟩,show tx=aI (oN (mkO 1 100 ma)) (aI (orW (aJ (cL (some 0) (oJ (vE 0)) (gT [2,3]) dP)) (uK 2 3 0 j7)) Cu) from rfl,show bX [] 4 [.lst ls]=[some (.bor (.lst ls)),none,none,none] from rfl,aI,oN,Cg,show aJ dP [some (.bor (.lst ls)),none,none,none]=none from rfl];simp only;rw[mkO,m];simp only[Option.bind_some];rw[show([some (.bor (.lst ls)),none,none,none]:DL.Env).set 1 (some (.lok d0))=rE ls d0 none none from rfl,aI,Cg,e]
 rfl
theorem Cv:ir [.lst []]=some (.tup [.tup [],.tup [],.tup [],.tup []]):=by kernel_rfl
theorem Fp{g s b:List D}(G:Goes d0 ls (dr h g s b o))(hi:ag ls=true)(hh:((([Sum.inr "order",Sum.inr "dose"]:List DL.Key).map kD).any λy=>eqD y (.str h))=false)(hz:g.length<=1000/\s.length<=1000/\b.length<=1000/\o.length<=1000):ir [.lst ls]=some (.tup [.tup g,.tup s,.tup b,.tup o]):=by
 cases ls with
 |nil=>
  cases G;exact Cv
 |cons l ls=>
  have hl:l::ls≠[]:=by simp
  generalize l::ls=ls at*;obtain⟨fd,x',y',e⟩:=JM hi G [] [] none none (by simp) rfl;simp only[Gcu,List.length_nil,GaS] at e;have hh:kO (.str h) (.kt [Sum.inr "order",Sum.inr "dose"])=some false:=by rw[<-hh];rfl
  rw[wY hi hl,aI,e,fN,show sU 0 (rE ls (dr h g s b o) x' y')=some ls from rfl,Option.bind_some,GaZ (by simp)];simp at fd;simp[rE,Cu,hh,fd,a7,IQ]
section
variable{h h' :Str}{g s b o ws:List D}{eA:List Nm}{n u v:Str}{x y:Int}{d:D}{m:Nat}
theorem j8{f:DW}(hw:ag ws=true):fH (m+2) 2 [0] f [d,.lst ws]=(f (some (.lok d)::some (.bor (.lst ws))::List.replicate m none)).bind (sS [0]):=by
 simp[fH,DL.argsOk,Gcv,hw,bX,k9,D.top]
variable{e' :DL.Env}
theorem dC{v w:DW}{e:DL.Env}{f:jX->Option (D×List D)}{r:Option (D×List D)}(h:v e=some (.nx e'))(g:(w e').bind f=r):(aI v w e).bind f=r:=by simp only[aI,h,Option.bind_some,g]
theorem dD{v:DW}{e:DL.Env}{d d' :D}(h:v e=some (.ret d e'))(h0:e'[0]? =some (some (.lok d')))(hf:flK d' =true):(v e).bind (sS [0])=some (d,[d']):=by
 rw[h];simp[jZ,h0,hf]
end
variable{c:D}
theorem MJ{a b x:D}(h:ag [a,b,d,x]=true):aM [.tup [a,b,c,d],.int 2,x]=some (.tup [a,b,x,d]):=by
 simp at h;unfold aM cD;simp[cutD,sIx,a7,h]
theorem MK{a b x:D}(h:ag [a,b,c,x]=true):aM [.tup [a,b,c,d],.int 3,x]=some (.tup [a,b,c,x]):=by
 simp at h;unfold aM cD;simp[cutD,sIx,a7,h]
theorem ML{a b e f x:D}(h:ag [a,b,c,e,f,x]=true):aM [.tup [a,b,c,d,e,f],.int 3,x]=some (.tup [a,b,c,x,e,f]):=by
 simp at h;unfold aM cD;simp[cutD,sIx,a7,h]
theorem Gx{a b e f x:D}(h:ag [a,b,c,d,f,x]=true):aM [.tup [a,b,c,d,e,f],.int 4,x]=some (.tup [a,b,c,d,x,f]):=by
 simp at h;unfold aM cD;simp[cutD,sIx,a7,h]
theorem MM{a b e f x:D}(h:ag [a,b,c,d,e,x]=true):aM [.tup [a,b,c,d,e,f],.int 5,x]=some (.tup [a,b,c,d,e,x]):=by
 simp at h;unfold aM cD;simp[cutD,sIx,a7,h]
section
variable{h h' :Str}{g s b o ws c ns:List D}{eA:List Nm}{n u v k:Str}{x y a z:D}{m:Nat}{lows:List DL.Key}
theorem JN(F:Fl g (s++[.tup [x,y,.tup c,a]]) b o)(hk:lkT c6 (.inr k)=some lows)(hN:aB [.lst ws,.kt lows]=some (.lst ns))(hw:ag ws=true)(xW:ag ns=true)(nl:ns.length<100)(hl:c.length<4):
  fB [dr h g (s++[.tup [x,y,.tup c,a]]) b o,.lst (.str k::ws)]=some (.bl true,[dr h g (s++[.tup [x,y,.tup (c++[.tup (.str k::ns)]),a]]) b o]):=by
 have F' :=F.s;simp at F';have l6:¬(c.length:Int)=4:=by lia
 have e:=rA (h:=h) (d:= .tup [x,y,.tup (c++[.tup (.str k::ns)]),a]) F (by simp[F',xW]);have w:=MJ (a:=x) (b:=y) (c:= .tup c) (d:=a) (x:= .tup (c++[.tup (.str k::ns)])) (by simp[F',xW]);have l1:1+ns.length<=16777216:=by lia
 have l2:c.length+1<=16777216:=by lia
 have l3:¬(ws.length:Int)+1=0:=by lia
 unfold fB jo;rw[j8 (by simp[hw])]
 iterate 6 refine dC (by simp[hk,hN,l6,F.g,F.b,F.o,F',e,w,a7,l1,l2,l3,hw,xW];rfl) ?_
 exact dD (by simp;rfl) rfl (by simp[F.g,F.b,F.o,F',xW])
theorem Cw(F:Fl g (s++[.tup [x,y,z,a]]) b o){i:Int}(hN:aB [.lst ws,.tup [.int 1]]=some (.lst [.int i]))(hw:ag ws=true):
  da [dr h g (s++[.tup [x,y,z,a]]) b o,.lst ws]=some (.bl true,[dr h g (s++[.tup [x,y,z,.int i]]) b o]):=by
 have F' :=F.s;simp at F';have e:=rA (h:=h) (d:= .tup [x,y,z,.int i]) F (by simp[F']);have w:=MK (a:=x) (b:=y) (c:=z) (d:=a) (x:= .int i) (by simp[F']);unfold da gp;rw[j8 hw]
 iterate 3 refine dC (by simp[hN,F.g,F.b,F.o,F',e,w,a7,hw];rfl) ?_
 exact dD (by simp;rfl) rfl (by simp[F.g,F.b,F.o,F'])
end
abbrev Br:=Int×Int×Int
noncomputable def bF(p:Br):D:= .tup [.int p.1,.int p.2.1,.int p.2.2]
theorem Fq(bl:List Br)(i j:Int):kO (.tup [.int i,.int j]) (.lst (bl.map λp=> .tup [.int p.1,.int p.2.1]))=some (bl.any λp=>p.1==i&&p.2.1==j):=by
 have h:(bl.map λp:Br=>D.tup [.int p.1,.int p.2.1]).all (aG 10)=true:=by
  rw[List.all_map,Gao];intro p _
  rfl
 show(if(aG 10 (.tup [.int i,.int j])&&_)=true then _ else none)=_;rw[h];simp[List.any_map];congr 1
 funext p
 simp
theorem wZ(bl:List Br)(e:DL.Env):bN (gN 0) aK (dq (af (ixE (vE 0) (kE (.int 0))) (af (ixE (vE 0) (kE (.int 1))) az))) (bl.map bF) (none::e)=some (bl.map λp=> .tup [.int p.1,.int p.2.1]):=
 cI (emb:=bF) (C:=λe=>∃x z,e=x::z) (λp=> .tup [.int p.1,.int p.2.1]) bl _ ⟨_,_,rfl⟩ λp _ e he=>by
  obtain⟨x,z,rfl⟩:=he;exact⟨some (.sh (bF p))::z,rfl,⟨_,_,rfl⟩,.c,by simp[bF,a7],rfl⟩
section
variable{h:Str}{g o:List D}{eA:List Nm}{bl:List Br}{u v w:Str}{i j k:Int}
theorem JO(F:Fl g (eA.map c9) (bl.map bF) o)(hN:aB [.lst [.str w],.tup [.int 1]]=some (.lst [.int k]))(hu:plD eA u= .int i)(hv:plD eA v= .int j)(Rr:i<=j)(hl:bl.length<12)(hx:(bl.any λp=>p.1==i&&p.2.1==j)=false):
  fC [dr h g (eA.map c9) (bl.map bF) o,.lst [.str u,.str v,.str w]]=some (.bl true,[dr h g (eA.map c9) ((bl++[(i,j,k)]).map bF) o]):=by
 have l6:¬(bl.length:Int)=12:=by lia
 have l7:bl.length<=16777216:=by lia
 have e:=JB (h:=h) (d:=bF (i,j,k)) F rfl (by rw[Gax];unfold a7;lia);have c:=wZ bl;have q:=Fq bl i j;rw[hx] at q;have PV :¬j<i:=by lia
 unfold fC jq;rw[j8 rfl];have e:ft 100 "bars" (jl (.tup [.int i,.int j,.int k])) (dr h g (eA.map c9) (bl.map bF) o)=some (dr h g (eA.map c9) (bl.map bF++[bF (i,j,k)]) o):=e
 iterate 7 refine dC (by simp[hN,l6,JD,hu,hv,PV,c,q,F.g,F.s,F.b,F.o,l7,a7,DL.compEnv,e];rfl) ?_
 rw[GaA];exact dD (by simp;rfl) rfl (by simp[F.g,F.s,F.b,F.o,bF])
end
section
variable{h:Str}{g s b o ws ns tp:List D}{gs eA os:List Nm}{n u v w:Str}{i j k:Int}{x y z a c r t N:D}
theorem Cy(F:Fl (gs.map c9) (eA.map c9) b (os.map c9))(hn:f6 [.str n]=some (.bl true))(hp:cN (plD os n)=true)(hl:os.length<12)(hu:plD gs u= .int i)(hv:plD eA v= .int j):
  de [dr h (gs.map c9) (eA.map c9) b (os.map c9),.lst [.str n,.str u,.str v]]=some (.bl true,[dr h (gs.map c9) (eA.map c9) b (os.map c9++[.tup [.str n,.int i,.int j,.tup [],.tup [],.tup []]])]):=by
 have l6:¬(os.length:Int)=12:=by lia
 have e:=Cf (h:=h) (d:= .tup [.str n,.int i,.int j,.tup [],.tup [],.tup []]) F rfl (by rw[Gax];unfold a7;lia);unfold de gq;rw[j8 rfl]
 iterate 5 refine dC (by simp[Cj hn,hp,l6,JD,hu,hv,F.g,F.s,F.b,F.o,e,a7];rfl) ?_
 exact dD (by simp;rfl) rfl (by simp[F.g,F.s,F.b,F.o])
variable{i1 i2 i3:Int}
theorem Fs(F:Fl g s b (o++[.tup [y,z,.int j,r,a,t]])){p:Int}(hs:atD s j=some (.tup (x:: .tup (.int p::ns)::tp)))(hN:aB [.lst ws,.tup [.int 1,.int 0,.int p]]=some (.lst [.int i1,.int i2,.int i3]))(hw:ag ws=true)(hp:0<p/\p<=1000000000)(hk:i3<=2000*p)(hy:n="down"\/n="up"\/n="near"):
  dH [dr h g s b (o++[.tup [y,z,.int j,r,a,t]]),.lst (.str n::ws)]=some (.bl true,[dr h g s b (o++[.tup [y,z,.int j,.tup [.str n,.int i1,.int i2,.int i3],a,t]])]):=by
 have F' :=F.o;simp at F';have e:=kg (h:=h) (d:= .tup [y,z,.int j,.tup [.str n,.int i1,.int i2,.int i3],a,t]) F (by simp[F']);have q:=ML (a:=y) (b:=z) (c:= .int j) (d:=r) (e:=a) (f:=t) (x:= .tup [.str n,.int i1,.int i2,.int i3]) (by simp[F']);have l:¬2000*p<i3:=by lia
 have m:bp 2000 p=true:=by simp[bp]
 have w:oU (.str n) (.kt [Sum.inr "down",Sum.inr "up",Sum.inr "near"])=some false:=by rcases hy with rfl|rfl|rfl<;>decide+kernel
 unfold dH iq;rw[j8 (by simp[hw])]
 iterate 5 refine dC (by simp[hs,hN,F.g,F.s,F.b,F',e,q,l,m,w,hw,a7];rfl) ?_
 exact dD (by simp;rfl) rfl (by simp[F.g,F.s,F.b,F'])
theorem Cz(F:Fl g s b (o++[.tup [x,y,z,r,a,t]]))(hN:aB [.lst ws,.tup [.int 0]]=some (.lst [.int i]))(hw:ag ws=true):
  df [dr h g s b (o++[.tup [x,y,z,r,a,t]]),.lst ws]=some (.bl true,[dr h g s b (o++[.tup [x,y,z,r,.tup [.str "asked",.int i],t]])]):=by
 have F' :=F.o;simp at F';have e:=kg (h:=h) (d:= .tup [x,y,z,r,.tup [.str "asked",.int i],t]) F (by simp[F']);have q:=Gx (a:=x) (b:=y) (c:=z) (d:=r) (e:=a) (f:=t) (x:= .tup [.str "asked",.int i]) (by simp[F']);unfold df gr;rw[j8 hw]
 iterate 3 refine dC (by simp[hN,F.g,F.s,F.b,F',e,q,hw,a7];rfl) ?_
 exact dD (by simp;rfl) rfl (by simp[F.g,F.s,F.b,F'])
theorem JP(F:Fl g s b (o++[.tup [x,y,z,r,a,t]])){i4 i5:Int}(hN:aB [.lst ws,.tup [.int 0,.int 1,.int 1,.int 0,.int 0]]=some (.lst [.int i1,.int i2,.int i3,.int i4,.int i5]))(hw:ag ws=true)(hc:¬60<i3/\¬i2<=i4+i5/\¬i1<i4):
  fD [dr h g s b (o++[.tup [x,y,z,r,a,t]]),.lst ws]=some (.bl true,[dr h g s b (o++[.tup [x,y,z,r,.tup [.str "due",.int i1,.int i2,.int i3,.int i4,.int i5],t]])]):=by
 have F' :=F.o;simp at F';have e:=kg (h:=h) (d:= .tup [x,y,z,r,.tup [.str "due",.int i1,.int i2,.int i3,.int i4,.int i5],t]) F (by simp[F']);have q:=Gx (a:=x) (b:=y) (c:=z) (d:=r) (e:=a) (f:=t) (x:= .tup [.str "due",.int i1,.int i2,.int i3,.int i4,.int i5]) (by simp[F']);unfold fD jr;rw[j8 hw];simp only[Int.not_lt,Int.not_le] at hc;have c1:¬60<i3:=by lia
 have c2:¬i2<=i4+i5:=by lia
 have c3:¬i1<i4:=by lia
 iterate 6 refine dC (by simp[hN,F.g,F.s,F.b,F',e,q,hw,c1,c2,c3,a7];rfl) ?_
 exact dD (by simp;rfl) rfl (by simp[F.g,F.s,F.b,F'])
end
def nZ:List Int->Prop
 |a::b::r=>a<b/\nZ (b::r)
 |_=>True
structure p7(p:Int)(r:List Int):Prop where
 len:r.length<=7
 pos:1<=p
 ris:nZ (p::r)
 dvd:∀x∈p::r,x%p=0
 top:∀x∈p::r,1<=x/\x<=2000*p/\x<=1000000000
theorem p9:∀(a:Int) (r:List Int) (x y:Os),nZ (a::r)->∃bs:List Bool,bN (gT [0,1]) aK (bE (av ltB (vE 0) (vE 1))) (iS ((a::r).map D.int) (r.map D.int)) [x,y]=some (bs.map D.bl)/\bs.all id=true/\bs.length=r.length
 |a,[],x,y,_=> ⟨[],rfl,rfl,rfl⟩
 |a,b::r,x,y,h=>by
  obtain⟨bs,e,h1,h2⟩:=p9 b r (some (.sh (.int a))) (some (.sh (.int b))) h.2;refine⟨true::bs, ?_,by simp[h1],by simp[h2]⟩;have e:bN (gT [0,1]) aK (bE (av ltB (vE 0) (vE 1))) (iS (.int b::r.map D.int) (r.map D.int)) [some (.sh (.int a)),some (.sh (.int b))]=some (bs.map D.bl):=e;have:=h.1;simp only[iS,Gau,List.zipWith_cons_cons] at e⊢;simp[e,this,RV.free]
theorem v7{α:Type}:∀(a:α) (r:List α),∃l x,a::r=l++[x]/\x∈a::r
 |a,[]=> ⟨[],a,rfl,by simp⟩
 |a,b::r=>by
  obtain⟨l,x,e,h⟩:=v7 b r;exact⟨a::l,x,by rw[e];rfl,by simp at h⊢;exact .inr h⟩
variable{p:Int}
theorem Ft{r:List Int}(S:p7 p r):fO [.lst ((p::r).map D.int)]=some (.bl true):=by
 obtain⟨bs,e,h1,h2⟩:=p9 p r none none S.ris;have c:bN (gN 0) aK (bE (av eqB (opE dE (vE 0) (vE 1)) (kI 0))) ((p::r).map D.int) [none,some (.sh (.int p))]=some (((p::r).map λ_=>true).map D.bl):=by
  rw[Gaw];refine cI D.int (λe=>∃z,e=[z,some (.sh (.int p))]) _ _ _ ⟨_,rfl⟩ ?_;rintro x hx e ⟨z,rfl⟩;have:=S.dvd x hx;have pp:0<p:=S.pos;exact⟨_,rfl,⟨_,rfl⟩,.c,by simp[this,pp],rfl⟩
 have al:((p::r).map λ_=>true).all id=true:=by simp
 obtain⟨l,x,el,hx⟩:=v7 p r;have tp:=S.top x hx;have sl:=S.len;have z1:(1:Int)<=(r.length:Int)+1:=by lia
 have z2:(r.length:Int)+1<=8:=by lia
 have m:bp 2000 p=true:=by simp[bp]
 have lx:atD ((p::r).map D.int) (-1)=some (.int x):=by rw[el,GaA];exact uW _ _
 have s1:(iS ((p::r).map D.int) (r.map D.int)).length<=a7:=by simp[iS,a7];lia
 have s2:((p::r).map D.int).length<=a7:=by simp[a7];lia
 unfold fO;refine bc rfl ?_;unfold ip;have f0:atD ((p::r).map D.int) 0=some (.int p):=rfl;have cu:cutD ((p::r).map D.int) (some 1) none=r.map D.int:=Pc _ _;have ln:((p::r).map D.int).length=r.length+1:=by simp
 generalize hL:(p::r).map D.int=L at*;refine(aj (e:=[some (.sh (.lst L)),none,none]) (by simp[ln,z1,z2])).trans ?_;refine(aj (e:=[some (.sh (.lst L)),some (.sh (.int p)),none]) (by simp[f0])).trans ?_;refine(aj (e:=[some (.sh (.lst L)),some (.sh (.int p)),some (.sh (.bl true))]) ?_).trans ?_
 .have zl:nW (.lst L)=some (false,L):=rfl;have QC:nW (.lst (r.map D.int))=some (false,r.map D.int):=rfl;simp[cu,zl,QC,s1,DL.compEnv,e,h1]
 .generalize hB:((p::r).map λ_=>true)=B at*;simp[s2,DL.compEnv,cG,c,al,lx,m,tp.2.1,hL]
theorem n1{l:Int}(h:Num i)(q:l<=i):aB [.lst [nD i],.tup [.int l]]=some (.lst [.int i]):=
 nC (is:=[i]) (ls:=[l]) (b:=true) ⟨h,q,trivial⟩ rfl rfl (by simp)
variable{j m:Int}
theorem n3{k l n:Int}(h:Num i)(h2:Num j)(h3:Num k)(q:l<=i)(q2:m<=j)(q3:n<=k):aB [.lst [nD i,nD j,nD k],.tup [.int l,.int m,.int n]]=some (.lst [.int i,.int j,.int k]):=
 nC (is:=[i,j,k]) (ls:=[l,m,n]) (b:=true) ⟨h,q,h2,q2,h3,q3,trivial⟩ rfl rfl (by simp)
theorem iN:∀{sz:List Int},(∀x∈sz,1<=x/\x<=1000000000)->qd sz (sz.map λ_=>1)
 |[],_=>trivial
 |x::sz,h=> ⟨⟨by have:=h x (by simp);lia,(h x (by simp)).2⟩,(h x (by simp)).1,iN λy hy=>h y (by simp[hy])⟩
theorem A0(sz:List Int):bN (gN 0) aK (kI 1) (sz.map nD) [none]=some ((sz.map λ_=>(1:Int)).map D.int):=by
 rw[Gaw];refine cI nD (λe=>∃z,e=[z]) _ _ _ ⟨_,rfl⟩ ?_;rintro x hx e ⟨z,rfl⟩;exact⟨_,rfl,⟨_,rfl⟩,.c,rfl,rfl⟩
section
variable{h:Str}{g s b o:List D}{eA:List Nm}{n:Str}{i p:Int}{r:List Int}
theorem CA(F:Fl (eA.map c9) s b o)(hn:Nam n)(hi:Num i)(hp:cN (plD eA n)=true)(hl:eA.length<6):
  d8 [dr h (eA.map c9) s b o,.lst [.str n,nD i]]=some (.bl true,[dr h ((eA++[((n,[D.int i]):Nm)]).map c9) s b o]):=by
 have l6:¬(eA.length:Int)=6:=by lia
 have e:=Cd (h:=h) (d:= .tup [.str n,.int i]) F rfl (by rw[Gax];unfold a7;lia);have hN:=n1 hi hi.1;have nm:=Cj (eA:=eA) (ws:=[nD i]) (tF hn);rw[hp] at nm;have hw:ag [.str n,nD i]=true:=rfl;unfold d8 gj;rw[j8 hw];rw[GaA];simp only[nD] at*
 iterate 3 refine dC (by simp[hN,nm,l6,F.g,F.s,F.b,F.o,e,a7,c9];rfl) ?_
 exact dD (by simp;rfl) rfl (by simp[F.g,F.s,F.b,F.o,c9])
theorem CB(F:Fl g (eA.map c9) b o)(hn:Nam n)(S:p7 p r)(hl:eA.length<6)(hp:cN (plD eA n)=true):
  d9 [dr h g (eA.map c9) b o,.lst (.str n::(p::r).map nD)]=some (.bl true,[dr h g ((eA++[((n,[D.tup ((p::r).map D.int),D.tup [],D.int 0]):Nm)]).map c9) b o]):=by
 have l6:¬(eA.length:Int)=6:=by lia
 have sl:=S.len;have hN:=nC (L:= .lst (((p::r).map λ_=>(1:Int)).map D.int)) (b:=false) (iN λx hx=> ⟨(S.top x hx).1,(S.top x hx).2.2⟩) rfl (by simp) (by simp;lia);have hc:=A0 (p::r);have hF:=Ft S;have im:=iD (p::r);have in_:=rC (p::r);have ll:((p::r).map nD).length<=16777216:=by simp;lia
 have l2:((p::r).map D.int).length<=16777216:=by simp;lia
 generalize hO:((p::r).map λ_=>(1:Int)).map D.int=O at*;generalize hW:(p::r).map nD=W at*;generalize hI:(p::r).map D.int=I at*;have e:=Ce (h:=h) (d:= .tup [.str n,.tup I,.tup [],.int 0]) F (by simp[im]) (by rw[Gax];unfold a7;lia);have nm:=Cj (eA:=eA) (ws:=W) (tF hn);rw[hp] at nm;unfold d9 gk;rw[j8 (by simp[in_]),GaA]
 iterate 4 refine dC (by simp[hN,hc,hF,nm,l6,ll,l2,F.g,F.s,F.b,F.o,e,a7,c9,DL.compEnv,im,in_];rfl) ?_
 exact dD (by simp;rfl) rfl (by simp[F.g,F.s,F.b,F.o,c9,im])
end
noncomputable def tpD(t:Int×Int×Int):D:= .tup [.int t.1,.int t.2.1,.int t.2.2]
@[simp] theorem Pd{t:Int×Int×Int}:(tpD t).imm=true:=rfl
@[simp] theorem qf(ts:List (Int×Int×Int)):ag (ts.map tpD)=true:=by
 induction ts with
 |nil=>rfl
 |cons t ts ih=>simp[tpD,ih]
noncomputable def least(ts:List (Int×Int×Int)):Int:=match ts.getLast? with
 |some t=>t.1+1
 |none=>1
variable{x2:Os}
theorem CC(ts:List (Int×Int×Int)){x0 x1:Os}{e:DL.Env}(hl:ts.length<1000):ifE (av gtB (dv 3) (kI 0)) (opE ae (ixE (ixE (vE 3) (unE jd (kI 1))) (kI 0)) (kI 1)) (kI 1) (x0::x1::x2::some (.sh (.tup (ts.map tpD)))::e)=some ⟨.c,.int (least ts)⟩:=by
 rcases List.eq_nil_or_concat ts with rfl| ⟨l,t,rfl⟩
 .simp[least]
 .have z:(0:Int)<((l++[t]).length:Int):=by simp
  have zz:l++[t]≠[]:=by simp
  have a:atD ((l++[t]).map tpD) (-1)=some (tpD t):=by rw[GaA];exact uW _ _
  have q:least (l++[t])=t.1+1:=by simp[least]
  rw[Gcj] at*;generalize (l++[t])=L at*;simp[z,zz,a,q,tpD]
section
variable{h:Str}{g s b o al:List D}{x y z r a1 a2 a3:D}{m i j k:Int}{ts:List (Int×Int×Int)}
theorem CD(F:Fl g s b (o++[.tup [x,y,z,r,.tup (a1::a2::a3:: .int m::al),.tup (ts.map tpD)]]))(hi:Num i)(hj:Num j)(hk:Num k)(h1:least ts<=i)(h2:1<=j)(h3:j<=k)(h4:k<=1000)(h5:i<m)(hm:ts.length<6):
  dh [dr h g s b (o++[.tup [x,y,z,r,.tup (a1::a2::a3:: .int m::al),.tup (ts.map tpD)]]),.lst [nD i,nD j,nD k]]=some (.bl true,[dr h g s b (o++[.tup [x,y,z,r,.tup (a1::a2::a3:: .int m::al),.tup ((ts++[(i,j,k)]).map tpD)]])]):=by
 have F' :=F.o;simp at F';have ti:=qf (ts++[(i,j,k)]);have e:=kg (h:=h) (d:= .tup [x,y,z,r,.tup (a1::a2::a3:: .int m::al),.tup ((ts++[(i,j,k)]).map tpD)]) F (by simp[F']);have q:=MM (a:=x) (b:=y) (c:=z) (d:=r) (e:= .tup (a1::a2::a3:: .int m::al)) (f:= .tup (ts.map tpD)) (x:= .tup ((ts++[(i,j,k)]).map tpD)) (by simp[F']);have c1:¬(ts.length:Int)=6:=by lia
 have c2:¬m<=i:=by lia
 have c3:¬k<j:=by lia
 have c4:¬1000<k:=by lia
 have L:=CC ts (x0:=some (.lok (dr h g s b (o++[.tup [x,y,z,r,.tup (a1::a2::a3:: .int m::al),.tup (ts.map tpD)]])))) (x1:=some (.bor (.lst [nD i,nD j,nD k]))) (x2:=some (.sh (.tup [x,y,z,r,.tup (a1::a2::a3:: .int m::al),.tup (ts.map tpD)]))) (e:=[none,none,none]) (by lia);have hN:=n3 hi hj hk h1 h2 (show(1:Int)<=k by lia);have l2:ts.length+1<=16777216:=by lia
 have hw:ag [nD i,nD j,nD k]=true:=rfl;rw[GaA,show[(i,j,k)].map tpD=[.tup [.int i,.int j,.int k]] from rfl] at e q ti⊢;unfold dh gv;rw[j8 hw];generalize hWW:[nD i,nD j,nD k]=W at*
 iterate 8 refine dC (by simp[L,hN,F.g,F.s,F.b,F',e,q,hw,c1,c2,c3,c4,a7,l2,-ifE];rfl) ?_
 exact dD (by simp;rfl) rfl (by simp[F.g,F.s,F.b,F'])
end
noncomputable def hds:List Str:=["guest","stuff","cap","young","bar","order","dose","asked","due","taper"]
theorem iF:∀k∈hds,Wd (.str k):=by
 have:(hds.all λk=>decide (32∉k.cps.toList)&&decide (k.length<=10))=true:=by decide+kernel
 intro k hk;have:=Gao.mp this k hk;rw[Gad] at this;have a:=Gas this.1;exact⟨a,Gas this.2⟩
section
variable{h k:Str}{g s b o g' s' b' o' ws:List D}
theorem tkL(F:Fl g s b o)(F' :Fl g' s' b' o')(hk:k∈hds)(hw:∀d∈ws,Wd d)(hl:ws.length<=19)(hn:nxt h k=true){sp:SpX}(hd:JH k=some sp)
  (hr:sp [dr k g s b o,.lst (ws.map λd=> .str (wS d))]=some (.bl true,[dr k g' s' b' o'])):Tk (dr h g s b o) (dS (.str k::ws)) (dr k g' s' b' o'):=by
 have a:∀d∈D.str k::ws,Wd d:=λd hd=>by
  rcases Gah.mp hd with rfl|hd
  .exact iF k hk
  .exact hw d hd
 have len:=Cs a (by simp;lia);refine⟨MI F (tH a (by simp)) (by lia) hn hd ?_ F'.k,F'.k⟩;rw[Gaw];exact hr
end
noncomputable def guR(p:Str×Int):Nm:=(p.1,[.int p.2])
def guD(p:Str×Int):D:=c9 (guR p)
noncomputable def guW(p:Str×Int):List D:=[.str "guest",.str p.1,.int p.2]
theorem Nam.wd(h:Nam x):Wd (.str x):=⟨h.nb,by have:=h.2.1;lia⟩
theorem tJ{eA:List Nm}{n:Str}(h:∀p∈eA,p.1≠n):cN (plD eA n)=true:=by
 unfold plD;rw[List.findIdx?_eq_none_iff.mpr λp hp=>by simpa using h p hp]
 rfl
theorem MN{eA:List Nm}{i:Nat}{n:Str}{x:List D}(h:eA[i]? =some (n,x))(hd:(eA.map (·.1)).Nodup):plD eA n= .int (i:Int):=by
 unfold plD;have hi:=(Gab.mp h).1;rw[Gcf.mpr ⟨hi, ?_, ?_⟩]
 .have:=(Gab.mp h).2;rw[this];simp
 .intro j hj;have e:=(Gab.mp h).2;simp only[GaK];intro q;exact List.pairwise_iff_getElem.mp hd j i (by simp;lia) (by simpa using hi) hj (by simp[q,e])
theorem aS{α:Type}{f:α->D}{l:List α}(h:∀x∈l,(f x).imm=true):ag (l.map f)=true:=by
 induction l with
 |nil=>rfl
 |cons x l ih=>simp[h x (by simp),ih λy hy=>h y (by simp[hy])]
structure nG(gs:List (Str×Int)):Prop where
 len:gs.length<=6
 nd:(gs.map (·.1)).Nodup
 ok:∀p∈gs,Nam p.1/\Num p.2
theorem pb{s b o:List D}(hs:ag s=true)(hb:ag b=true)(ho:ag o=true):∀(ps gs:List (Str×Int)),nG (gs++ps)->∀h:Str,h=""\/h="guest"->
  ∃h' :Str,(h' =""\/h' ="guest")/\Goes (dr h (gs.map guD) s b o) (ps.map λp=> .str (dS (guW p))) (dr h' ((gs++ps).map guD) s b o)
 |[],gs,_,h,hh=> ⟨h,hh,by rw[GaS];exact .nil _⟩
 |p::ps,gs,G,h,hh=>by
  have G' :nG ((gs++[p])++ps):=by rw[GaH];exact G
  obtain⟨h',xN,T⟩:=pb hs hb ho ps (gs++[p]) G' "guest" (.inr rfl);refine⟨h',xN, ?_⟩;rw[GaH] at T;refine .cons ?_ T;have F:Fl (gs.map guD) s b o:=⟨aS λ_ _=>rfl,hs,hb,ho⟩
  have F' :Fl ((gs++[p]).map guD) s b o:=⟨aS λ_ _=>rfl,hs,hb,ho⟩
  obtain⟨np,nb⟩:=G.ok p (by simp);have nw:∀q∈gs.map guR,q.1≠p.1:=λq hq z=>by
   obtain⟨u,hu,rfl⟩:=GaJ.mp hq;have:=G.nd;rw[GaA,GbI] at this;exact this.2.2 u.1 (GbB hu) p.1 (by simp) z
  have ll:(gs.map guR).length<6:=by have:=G.len;simp at this⊢;lia
  have t:=CA (h:="guest") (eA:=gs.map guR) (n:=p.1) (i:=p.2) (s:=s) (b:=b) (o:=o) (by rw[Gaw];exact F) np nb (tJ nw) ll;rw[GaA,Gaw] at t;refine tkL F F' (by decide) (λd hd=> ?_) (by simp) (by rcases hh with rfl|rfl<;>decide+kernel) rfl ?_
  .simp at hd;rcases hd with rfl|rfl
   .exact np.wd
   .exact nb
  .rw[GaA];exact t
structure Stf where
 n:Str
 p:Int
 r:List Int
 cs:List (Str×List Int)
 y:Int
noncomputable def fZ(c:Str×List Int):D:= .tup (.str c.1::c.2.map D.int)
noncomputable def fI(c:Str×List Int):List D:= .str "cap":: .str c.1::c.2.map D.int
structure nH(c:Str×List Int):Prop where
 ex:∃lows:List Int,lkT c6 (.inr c.1)=some (lows.map .inl)/\qd c.2 lows
 len:c.2.length<=3
 wd:Wd (.str c.1)
def stR(s:Stf):Nm:=(s.n,[.tup ((s.p::s.r).map D.int),.tup (s.cs.map fZ),.int s.y])
def stD(s:Stf):D:=c9 (stR s)
def stW(s:Stf):List (List D):=(.str "stuff":: .str s.n::(s.p::s.r).map D.int)::(s.cs.map fI++if s.y=0 then[] else[[.str "young",.int s.y]])
structure nI(s:Stf):Prop where
 n:Nam s.n
 z:p7 s.p s.r
 cl:s.cs.length<=4
 c:∀c∈s.cs,nH c
 y:Num s.y
def lD(ws:List D):D:= .str (dS ws)
@[simp] theorem Fu{c:Str×List Int}:(fZ c).imm=true:=by simp[fZ]
@[simp] theorem CF(cs:List (Str×List Int)):ag (cs.map fZ)=true:=aS λ_ _=>Fu
@[simp] theorem nJ{s:Stf}:(stD s).imm=true:=by
 have:=iD (s.p::s.r);generalize h:(s.p::s.r).map D.int=L at this;simp[stD,stR,c9,h,this]
theorem v8(is:List Int):((is.map D.int).map λd=>D.str (wS d))=is.map nD:=by rw[Gaw];rfl
theorem kh:∀{is ls:List Int},qd is ls->∀d∈is.map D.int,Wd d
 |[],_,_,d,hd=>by simp at hd
 |i::is,[],h,_,_=>h.elim
 |i::is,l::ls,h,d,hd=>by
  simp only[Gau,Gah] at hd;rcases hd with rfl|hd
  .exact h.1
  .exact kh h.2.2 d hd
theorem Goes.app{l1 l2:List D}(G:Goes d l1 d1)(G2:Goes d1 l2 d2):Goes d (l1++l2) d2:=by
 induction G with
 |nil d=>exact G2
 |cons t _ ih=>exact .cons t (ih G2)
section
variable{g S b o:List D}
theorem stE(n:Str)(p:Int)(r:List Int)(cs:List (Str×List Int))(y:Int):stD ⟨n,p,r,cs,y⟩= .tup [.str n,.tup ((p::r).map D.int),.tup (cs.map fZ),.int y]:=rfl
theorem v9(hg:ag g=true)(hS:ag S=true)(hb:ag b=true)(ho:ag o=true){n:Str}{p y:Int}{r:List Int}:∀(cs c0:List (Str×List Int)),(c0++cs).length<=4->(∀c∈cs,nH c)->∀h:Str,h="stuff"\/h="cap"->
  ∃h' :Str,(h' ="stuff"\/h' ="cap")/\Goes (dr h g (S++[stD ⟨n,p,r,c0,y⟩]) b o) (cs.map λc=>lD (fI c)) (dr h' g (S++[stD ⟨n,p,r,c0++cs,y⟩]) b o)
 |[],c0,_,_,h,hh=> ⟨h,hh,by rw[GaS];exact .nil _⟩
 |c::cs,c0,hl,hc,h,hh=>by
  obtain⟨h',xN,T⟩:=v9 hg hS hb ho (n:=n) (p:=p) (y:=y) (r:=r) cs (c0++[c]) (by simpa using hl) (λx hx=>hc x (by simp[hx])) "cap" (.inr rfl);refine⟨h',xN, ?_⟩;rw[GaH] at T;refine .cons ?_ T;obtain⟨⟨lows,e1,e2⟩,e3,e4⟩:=hc c (by simp);have F:∀c1,Fl g (S++[stD ⟨n,p,r,c1,y⟩]) b o:=λc1=> ⟨hg,by rw[dX,hS];simp,hb,ho⟩;have hN:=nC (L:= .kt (lows.map .inl)) (b:=true) e2 (by simp[nW,kD]) (by simp[gL]) (by lia);have t:=JN (h:="cap") (x:= .str n) (y:= .tup ((p::r).map D.int)) (c:=c0.map fZ) (a:= .int y) (F c0) e1 hN (rC _) (iD _) (by simp;lia) (by simp at hl⊢;lia);refine tkL (F c0) (F (c0++[c])) (by decide) (λd hd=> ?_) (by simp;lia) (by rcases hh with rfl|rfl<;>decide+kernel) rfl ?_
  .rcases Gah.mp hd with rfl|hd
   .exact e4
   .exact kh e2 d hd
  .rw[Gau,v8];rw[stE,stE,GaA];exact t
theorem CG(hg:ag g=true)(hb:ag b=true)(ho:ag o=true){ss:List Stf}{s:Stf}(K:nI s)(hl:ss.length<6)(hn:∀q∈ss,q.n≠s.n){h:Str}(hh:nxt h "stuff"=true):
  ∃h' :Str,(h' ="stuff"\/h' ="cap"\/h' ="young")/\Goes (dr h g (ss.map stD) b o) ((stW s).map lD) (dr h' g ((ss++[s]).map stD) b o):=by
 obtain⟨n,p,r,cs,y⟩:=s;have hS:ag (ss.map stD)=true:=aS λ_ _=>nJ;have F0:Fl g (ss.map stD) b o:=⟨hg,hS,hb,ho⟩
 have F:∀c1 y1,Fl g (ss.map stD++[stD ⟨n,p,r,c1,y1⟩]) b o:=λc1 y1=> ⟨hg,by rw[dX,hS];simp,hb,ho⟩;have t1:Tk (dr h g (ss.map stD) b o) (dS (.str "stuff":: .str n::(p::r).map D.int)) (dr "stuff" g (ss.map stD++[stD ⟨n,p,r,[],0⟩]) b o):=by
  have K1:=K.z;have t:=CB (h:="stuff") (eA:=ss.map stR) (g:=g) (b:=b) (o:=o) (by rw[Gaw];exact F0) K.n K1 (by simpa using hl) (tJ λq hq=>by
   obtain⟨u,hu,rfl⟩:=GaJ.mp hq;exact hn u hu)
  rw[GaA,Gaw] at t;have ln:r.length<=7:=K1.len;refine tkL F0 (F [] 0) (by decide) (λd hd=> ?_) (by simp;lia) hh rfl ?_
  .rcases Gah.mp hd with rfl|hd
   .exact K.n.wd
   .exact kh (iN λx hx=> ⟨(K1.top x hx).1,(K1.top x hx).2.2⟩) d hd
  .rw[Gau,v8];exact t
 obtain⟨h2,Qu,T2⟩:=v9 (g:=g) (b:=b) (o:=o) hg hS hb ho (n:=n) (p:=p) (y:=0) (r:=r) cs [] K.cl K.c "stuff" (.inl rfl);rw[Gcu] at T2;rw[GaA,show[(⟨n,p,r,cs,y⟩:Stf)].map stD=[stD ⟨n,p,r,cs,y⟩] from rfl];by_cases hy:y=0
 .subst hy;refine⟨h2,by rcases Qu with z|z<;>simp[z], ?_⟩;refine .cons t1 ?_;rw[Gak rfl,GaS,Gaw];exact T2
 .refine⟨"young",by simp, ?_⟩;refine .cons t1 ?_;have hy2:Num y:=K.y;have hy1:1<=y:=by have:=hy2.1;lia
  rw[Gam hy,GaA,Gaw];refine T2.app (.cons ?_ (.nil _));have t:=Cw (h:="young") (x:= .str n) (y:= .tup ((p::r).map D.int)) (z:= .tup (cs.map fZ)) (a:= .int 0) (F cs 0) (n1 hy2 hy1) rfl;refine tkL (F cs 0) (F cs y) (by decide) (λd hd=> ?_) (by simp) (by rcases Qu with rfl|rfl<;>decide+kernel) rfl t;simp at hd;subst hd;exact hy2
structure l0(ss:List Stf):Prop where
 len:ss.length<=6
 nd:(ss.map (·.n)).Nodup
 ok:∀s∈ss,nI s
theorem pe(hg:ag g=true)(hb:ag b=true)(ho:ag o=true):∀(ps ss:List Stf),l0 (ss++ps)->∀h:Str,h∈(["","guest","stuff","cap","young"]:List Str)->
  ∃h' :Str,h' ∈(["","guest","stuff","cap","young"]:List Str)/\Goes (dr h g (ss.map stD) b o) ((ps.flatMap stW).map lD) (dr h' g ((ss++ps).map stD) b o)
 |[],ss,_,h,hh=> ⟨h,hh,by rw[GaS];exact .nil _⟩
 |p::ps,ss,K,h,hh=>by
  have K' :l0 ((ss++[p])++ps):=by rw[GaH];exact K
  obtain⟨h1,PX,T1⟩:=CG (g:=g) (b:=b) (o:=o) hg hb ho (ss:=ss) (s:=p) (K.ok p (by simp)) (by have:=K.len;simp at this;lia) (λq hq z=>by
   have:=K.nd;rw[GaA,GbI] at this;exact this.2.2 q.n (GbB hq) p.n (by simp) z) (h:=h) (by
   have a:∀h∈(["","guest","stuff","cap","young"]:List Str),nxt h "stuff"=true:=by decide+kernel
   exact a h hh)
  obtain⟨h',xN,T⟩:=pe hg hb ho ps (ss++[p]) K' h1 (by rcases PX with rfl|rfl|rfl<;>simp);refine⟨h',xN, ?_⟩;rw[GaH] at T;rw[GbJ,GaA];exact T1.app T
end
def fF(ns:List Str)(i:Int):Str:=ns[i.toNat]?.getD ⟨#[]⟩
def iU(ns:List Str)(p:Br):List D:=[.str "bar",.str (fF ns p.1),.str (fF ns p.2.1),.int p.2.2]
structure JQ(n:Nat)(p:Br):Prop where
 lo:0<=p.1
 le:p.1<=p.2.1
 hi:p.2.1<n
 g:Num p.2.2
 g1:1<=p.2.2
structure Fv(n:Nat)(bs:List Br):Prop where
 len:bs.length<=12
 nd:(bs.map λp=>(p.1,p.2.1)).Nodup
 ok:∀p∈bs,JQ n p
theorem va{eA:List Nm}(hd:(eA.map (·.1)).Nodup)(h0:0<=i)(h1:i<eA.length):plD eA (fF (eA.map (·.1)) i)= .int i:=by
 have hi:i.toNat<eA.length:=by lia
 have e:eA[i.toNat]? =some (eA[i.toNat].1,eA[i.toNat].2):=by rw[Gaf hi]
 have q:fF (eA.map (·.1)) i=eA[i.toNat].1:=by unfold fF;rw[Gap,e];rfl
 rw[q,MN e hd];congr 1;lia
theorem l5{ns:List Str}(h0:0<=i)(h1:i<ns.length):fF ns i∈ns:=by
 have hi:i.toNat<ns.length:=by lia
 unfold fF;rw[Gaf hi];exact Gbk _
@[simp] theorem NV{p:Br}:(bF p).imm=true:=rfl
@[simp] theorem iG(bs:List Br):ag (bs.map bF)=true:=aS λ_ _=>rfl
theorem vb{g o:List D}(hg:ag g=true)(ho:ag o=true){ss:List Stf}(K:l0 ss):∀(ps bs:List Br),Fv ss.length (bs++ps)->∀h:Str,h∈(["","guest","stuff","cap","young","bar"]:List Str)->
  ∃h' :Str,h' ∈(["","guest","stuff","cap","young","bar"]:List Str)/\Goes (dr h g (ss.map stD) (bs.map bF) o) (ps.map λp=>lD (iU (ss.map (·.n)) p)) (dr h' g (ss.map stD) ((bs++ps).map bF) o)
 |[],bs,_,h,hh=> ⟨h,hh,by rw[GaS];exact .nil _⟩
 |p::ps,bs,B,h,hh=>by
  have B' :Fv ss.length ((bs++[p])++ps):=by rw[GaH];exact B
  obtain⟨h',xN,T⟩:=vb hg ho K ps (bs++[p]) B' "bar" (by simp);refine⟨h',xN, ?_⟩;rw[GaH] at T;refine .cons ?_ T;obtain⟨b0,b1,b2,b3,b4⟩:=B.ok p (by simp);have hS:ag (ss.map stD)=true:=aS λ_ _=>nJ;have F:∀bs:List Br,Fl g (ss.map stD) (bs.map bF) o:=λbs=> ⟨hg,hS,iG bs,ho⟩;have nd:((ss.map stR).map (·.1)).Nodup:=by rw[Gaw];exact K.nd
  have ns:(ss.map stR).map (·.1)=ss.map (·.n):=by rw[Gaw];rfl
  have ll:(ss.map stR).length=ss.length:=by simp
  have u:=va nd b0 (by rw[ll];lia);have v:=va nd (i:=p.2.1) (by lia) (by rw[ll];exact b2);rw[ns] at u v;have hx:(bs.any λq=>q.1==p.1&&q.2.1==p.2.1)=false:=by
   rw[List.any_eq_false];intro q hq z;simp only[Gad,GaK] at z;have:=B.nd;rw[GaA,GbI] at this;exact this.2.2 (q.1,q.2.1) (GbB (f:=λp:Br=>(p.1,p.2.1)) hq) (p.1,p.2.1) (by simp) (by rw[z.1,z.2])
  have t:=JO (h:="bar") (eA:=ss.map stR) (bl:=bs) (g:=g) (o:=o) (u:=fF (ss.map (·.n)) p.1) (v:=fF (ss.map (·.n)) p.2.1) (w:=gy p.2.2) (by rw[Gaw];exact F bs) (n1 b3 b4) u v b1 (by have:=B.len;simp at this;lia) hx;rw[Gaw] at t;have wd:∀i,0<=i->i<(ss.length:Int)->Wd (.str (fF (ss.map (·.n)) i)):=λi h0 h1=>by
   obtain⟨q,hq,e⟩:=GaJ.mp (l5 (ns:=ss.map (·.n)) h0 (by simpa using h1));rw[<-e];exact(K.ok q hq).n.wd
  refine tkL (F bs) (F (bs++[p])) (by decide) (λd hd=> ?_) (by simp) ?_ rfl t
  .simp at hd;rcases hd with rfl|rfl|rfl
   .exact wd _ b0 (by lia)
   .exact wd _ (by lia) b2
   .exact b3
  .have a:∀h∈(["","guest","stuff","cap","young","bar"]:List Str),nxt h "bar"=true:=by decide+kernel
   exact a h hh
inductive Due where
 |asked (b:Int)
 |due (b e m x y:Int)
structure Ord where
 n:Str
 g:Int
 s:Int
 w:Str
 t:Int
 p:Int
 k:Int
 d:Due
 ts:List (Int×Int×Int)
noncomputable def cJ:Due->List D
 | .asked b=>[.str "asked",.int b]
 | .due b e m x y=>[.str "due",.int b,.int e,.int m,.int x,.int y]
def CH:Due->Prop
 | .asked b=>Num b
 | .due b e m x y=>Num b/\Num e/\Num m/\Num x/\Num y/\1<=e/\1<=m/\m<=60/\x+y<e/\x<=b
def Fw:Due->List (Int×Int×Int)->Prop
 | .asked _,ts=>ts=[]
 | .due _ _ m _ _,ts=>ts.length<=6/\(ts.map (·.1)).Pairwise (· < ·)/\∀t∈ts,1<=t.1/\t.1<m/\1<=t.2.1/\t.2.1<=t.2.2/\t.2.2<=1000
def orR(o:Ord):Nm:=(o.n,[.int o.g,.int o.s,.tup [.str o.w,.int o.t,.int o.p,.int o.k],.tup (cJ o.d),.tup (o.ts.map tpD)])
def orD(o:Ord):D:=c9 (orR o)
noncomputable def tpW(t:Int×Int×Int):List D:=[.str "taper",.int t.1,.int t.2.1,.int t.2.2]
def gB(gn sn:List Str)(o:Ord):List (List D):=[.str "order",.str o.n,.str (fF gn o.g),.str (fF sn o.s)]::[.str "dose",.str o.w,.int o.t,.int o.p,.int o.k]::cJ o.d::o.ts.map tpW
structure iH(gs:List (Str×Int))(ss:List Stf)(o:Ord):Prop where
 n:Nam o.n
 g0:0<=o.g
 g1:o.g<gs.length
 s0:0<=o.s
 s1:o.s<ss.length
 w:o.w="down"\/o.w="up"\/o.w="near"
 t:Num o.t
 t1:1<=o.t
 p:Num o.p
 k:Num o.k
 kk:∀q,ss[o.s.toNat]? =some q->q.p<=o.k/\o.k<=2000*q.p
 d:CH o.d
 ts:Fw o.d o.ts
@[simp] theorem Fx(d:Due):ag (cJ d)=true:=by cases d<;>rfl
@[simp] theorem tL{o:Ord}:(orD o).imm=true:=by simp[orD,orR,c9]
section
variable{g s b O:List D}{x y z r:D}{i1 i2 i3 i4 i5:Int}
theorem n5(h:Num i1)(h2:Num i2)(h3:Num i3)(h4:Num i4)(h5:Num i5)(q2:1<=i2)(q3:1<=i3):aB [.lst [nD i1,nD i2,nD i3,nD i4,nD i5],.tup [.int 0,.int 1,.int 1,.int 0,.int 0]]=some (.lst [.int i1,.int i2,.int i3,.int i4,.int i5]):=
 nC (is:=[i1,i2,i3,i4,i5]) (ls:=[0,1,1,0,0]) (b:=true) ⟨h,h.1,h2,q2,h3,q3,h4,h4.1,h5,h5.1,trivial⟩ rfl rfl (by simp)
theorem pf(hg:ag g=true)(hs:ag s=true)(hb:ag b=true)(hO:ag O=true)(hx:ag [x,y,z,r]=true){m:Int}(hm:m<=60):∀(ps ts:List (Int×Int×Int)),Fw (.due i1 i2 m i4 i5) (ts++ps)->∀h:Str,h="due"\/h="taper"->
  ∃h' :Str,(h' ="due"\/h' ="taper")/\Goes (dr h g s b (O++[.tup [x,y,z,r,.tup [.str "due",.int i1,.int i2,.int m,.int i4,.int i5],.tup (ts.map tpD)]])) (ps.map λt=>lD (tpW t)) (dr h' g s b (O++[.tup [x,y,z,r,.tup [.str "due",.int i1,.int i2,.int m,.int i4,.int i5],.tup ((ts++ps).map tpD)]]))
 |[],ts,_,h,hh=> ⟨h,hh,by rw[GaS];exact .nil _⟩
 |p::ps,ts,K,h,hh=>by
  have K' :Fw (.due i1 i2 m i4 i5) ((ts++[p])++ps):=by rw[GaH];exact K
  obtain⟨h',xN,T⟩:=pf hg hs hb hO hx hm ps (ts++[p]) K' "taper" (.inr rfl);refine⟨h',xN, ?_⟩;rw[GaH] at T;refine .cons ?_ T;simp only[ag,Gad,and_true] at hx;have F:∀ts:List (Int×Int×Int),Fl g s b (O++[.tup [x,y,z,r,.tup [.str "due",.int i1,.int i2,.int m,.int i4,.int i5],.tup (ts.map tpD)]]):=λts=> ⟨hg,hs,hb,by simp[hO,hx]⟩;obtain⟨k1,k2,k3⟩:=K;obtain⟨a1,a2,a3,a4,a5⟩:=k3 p (by simp);have ls:least ts<=p.1:=by
   unfold least;rcases List.eq_nil_or_concat ts with rfl| ⟨l,t,rfl⟩
   .exact a1
   .simp only[Gcj,List.getLast?_append,List.getLast?_singleton,Option.some_or];rw[GaA,Gcj,GaA,List.pairwise_append] at k2;have:=k2.2.2 t.1 (by simp) p.1 (by simp);lia
  have t:=CD (h:="taper") (ts:=ts) (F ts) (i:=p.1) (j:=p.2.1) (k:=p.2.2) ⟨by lia,by lia⟩ ⟨by lia,by lia⟩ ⟨by lia,by lia⟩ ls a3 a4 a5 a2 (by simp at k1;lia);refine tkL (F ts) (F (ts++[p])) (by decide) (λd hd=> ?_) (by simp) (by rcases hh with rfl|rfl<;>decide+kernel) rfl t;simp at hd;rcases hd with rfl|rfl|rfl
  .exact⟨by lia,by lia⟩
  .exact⟨by lia,by lia⟩
  .exact⟨by lia,by lia⟩
end
theorem pJ{α:Type}{l:List α}{x:α}(h0:0<=i)(h:l[i.toNat]? =some x):atD l i=some x:=by unfold atD;rw[Gak h0];exact h
variable{gs:List (Str×Int)}
theorem CI{b:List D}(hb:ag b=true){ss:List Stf}(G:nG gs)(S:l0 ss){os:List Ord}{o:Ord}(K:iH gs ss o)(hl:os.length<12)(hn:∀q∈os,q.n≠o.n)(hh:nxt h "order"=true):
  ∃h' :Str,(h' ="asked"\/h' ="due"\/h' ="taper")/\Goes (dr h (gs.map guD) (ss.map stD) b (os.map orD)) ((gB (gs.map (·.1)) (ss.map (·.n)) o).map lD) (dr h' (gs.map guD) (ss.map stD) b ((os++[o]).map orD)):=by
 obtain⟨n,g,s,w,t,p,k,d,ts⟩:=o;obtain⟨kn,g0,g1,s0,s1,kw,kt,Ql,kp,kk,Qn,kd,zV⟩:=K;simp only at kn g0 g1 s0 s1 kw kt Ql kp kk Qn kd zV hn;have hg:ag (gs.map guD)=true:=aS λ_ _=>rfl;have hs:ag (ss.map stD)=true:=aS λ_ _=>nJ;have ho:ag (os.map orD)=true:=aS λ_ _=>tL;have F:∀x,x.imm=true->Fl (gs.map guD) (ss.map stD) b (os.map orD++[x]):=λx hx=> ⟨hg,hs,hb,by rw[dX,ho];simp[hx]⟩;have gn:(gs.map guR).map (·.1)=gs.map (·.1):=by rw[Gaw];rfl
 have sn:(ss.map stR).map (·.1)=ss.map (·.n):=by rw[Gaw];rfl
 have u:=va (eA:=gs.map guR) (by rw[gn];exact G.nd) g0 (by simpa using g1);have v:=va (eA:=ss.map stR) (by rw[sn];exact S.nd) s0 (by simpa using s1);rw[gn] at u;rw[sn] at v;have wg:Wd (.str (fF (gs.map (·.1)) g)):=by
  obtain⟨q,hq,e⟩:=GaJ.mp (l5 (ns:=gs.map (·.1)) g0 (by simpa using g1));rw[<-e];exact(G.ok q hq).1.wd
 have ws:Wd (.str (fF (ss.map (·.n)) s)):=by
  obtain⟨q,hq,e⟩:=GaJ.mp (l5 (ns:=ss.map (·.n)) s0 (by simpa using s1));rw[<-e];exact(S.ok q hq).n.wd
 have t1:Tk (dr h (gs.map guD) (ss.map stD) b (os.map orD)) (dS [.str "order",.str n,.str (fF (gs.map (·.1)) g),.str (fF (ss.map (·.n)) s)]) (dr "order" (gs.map guD) (ss.map stD) b (os.map orD++[.tup [.str n,.int g,.int s,.tup [],.tup [],.tup []]])):=by
  have t:=Cy (h:="order") (gs:=gs.map guR) (eA:=ss.map stR) (os:=os.map orR) (b:=b) (u:=fF (gs.map (·.1)) g) (v:=fF (ss.map (·.n)) s) (by rw[Gaw,Gaw,Gaw];exact⟨hg,hs,hb,ho⟩) (tF kn) (tJ λq hq=>by
   obtain⟨u,hu,rfl⟩:=GaJ.mp hq;exact hn u hu) (by simpa using hl) u v
  rw[Gaw,Gaw,Gaw] at t;refine tkL ⟨hg,hs,hb,ho⟩ (F _ rfl) (by decide) (λd hd=> ?_) (by simp) hh rfl t;simp at hd;rcases hd with rfl|rfl|rfl
  .exact kn.wd
  .exact wg
  .exact ws
 have hi:s.toNat<ss.length:=by lia
 have eq:ss[s.toNat]? =some ss[s.toNat]:=Gaf hi;generalize xP:ss[s.toNat]=q at eq;obtain⟨q1,q2⟩:=Qn q eq;have qz:=(S.ok q (GaD eq)).z;have qt:=qz.top q.p (by simp);have t2:Tk (dr "order" (gs.map guD) (ss.map stD) b (os.map orD++[.tup [.str n,.int g,.int s,.tup [],.tup [],.tup []]])) (dS [.str "dose",.str w,.int t,.int p,.int k]) (dr "dose" (gs.map guD) (ss.map stD) b (os.map orD++[.tup [.str n,.int g,.int s,.tup [.str w,.int t,.int p,.int k],.tup [],.tup []]])):=by
  have t:=Fs (h:="dose") (n:=w) (g:=gs.map guD) (s:=ss.map stD) (b:=b) (o:=os.map orD) (y:= .str n) (z:= .int g) (j:=s) (r:= .tup []) (a:= .tup []) (t:= .tup []) (p:=q.p) (x:= .str q.n) (ns:=q.r.map D.int) (tp:=[.tup (q.cs.map fZ),.int q.y]) (F _ rfl) (pJ s0 (by rw[Gap,eq];rfl)) (n3 kt kp kk Ql kp.1 q1) rfl ⟨by have:=qz.pos;lia,qt.2.2⟩ q2 kw;refine tkL (F _ rfl) (F _ rfl) (by decide) (λd hd=> ?_) (by simp) (by decide+kernel) rfl t;simp at hd;rcases hd with rfl|rfl|rfl|rfl
  .have a:∀w∈(["down","up","near"]:List Str),(decide (32∉w.cps.toList)&&decide (w.length<=10))=true:=by decide+kernel
   have:=a w (by simpa using kw);rw[Gad] at this;have b:=Gas this.1;exact⟨b,Gas this.2⟩
  .exact kt
  .exact kp
  .exact kk
 rw[GaA,show[(⟨n,g,s,w,t,p,k,d,ts⟩:Ord)].map orD=[.tup [.str n,.int g,.int s,.tup [.str w,.int t,.int p,.int k],.tup (cJ d),.tup (ts.map tpD)]] from rfl];cases d with
 |asked a=>
  cases(show ts=[] from zV);refine⟨"asked",.inl rfl,.cons t1 (.cons t2 (.cons ?_ (.nil _)))⟩;have t:=Cz (h:="asked") (g:=gs.map guD) (s:=ss.map stD) (b:=b) (o:=os.map orD) (x:= .str n) (y:= .int g) (z:= .int s) (r:= .tup [.str w,.int t,.int p,.int k]) (a:= .tup []) (t:= .tup []) (F _ rfl) (n1 kd kd.1) rfl;refine tkL (F _ rfl) (F _ rfl) (by decide) (λd hd=> ?_) (by simp) (by decide+kernel) rfl t;simp at hd;subst hd;exact kd
 |due i1 i2 i3 i4 i5=>
  obtain⟨e1,e2,e3,e4,e5,e6,e7,e8,e9,Rx⟩:=kd;obtain⟨h',xN,T⟩:=pf (g:=gs.map guD) (s:=ss.map stD) (b:=b) (O:=os.map orD) (x:= .str n) (y:= .int g) (z:= .int s) (r:= .tup [.str w,.int t,.int p,.int k]) (i1:=i1) (i2:=i2) (i4:=i4) (i5:=i5) hg hs hb ho rfl e8 ts [] zV "due" (.inl rfl);refine⟨h',.inr xN,.cons t1 (.cons t2 (.cons ?_ (by rw[Gaw];exact T)))⟩;have t:=JP (h:="due") (g:=gs.map guD) (s:=ss.map stD) (b:=b) (o:=os.map orD) (x:= .str n) (y:= .int g) (z:= .int s) (r:= .tup [.str w,.int t,.int p,.int k]) (a:= .tup []) (t:= .tup []) (F _ rfl) (n5 e1 e2 e3 e4 e5 e6 e7) rfl ⟨by lia,by lia,by lia⟩;refine tkL (F _ rfl) (F _ rfl) (by decide) (λd hd=> ?_) (by simp) (by decide+kernel) rfl t;simp at hd;rcases hd with rfl|rfl|rfl|rfl|rfl<;>assumption
structure JR(gs:List (Str×Int))(ss:List Stf)(os:List Ord):Prop where
 len:os.length<=12
 nd:(os.map (·.n)).Nodup
 ok:∀o∈os,iH gs ss o
noncomputable abbrev ends:List Str:=["","guest","stuff","cap","young","bar","asked","due","taper"]
theorem ph{b:List D}(hb:ag b=true){gs:List (Str×Int)}{ss:List Stf}(G:nG gs)(S:l0 ss):∀(ps os:List Ord),JR gs ss (os++ps)->∀h:Str,h∈ends->
  ∃h' :Str,h' ∈ends/\Goes (dr h (gs.map guD) (ss.map stD) b (os.map orD)) ((ps.flatMap (gB (gs.map (·.1)) (ss.map (·.n)))).map lD) (dr h' (gs.map guD) (ss.map stD) b ((os++ps).map orD))
 |[],os,_,h,hh=> ⟨h,hh,by rw[GaS];exact .nil _⟩
 |p::ps,os,K,h,hh=>by
  have K' :JR gs ss ((os++[p])++ps):=by rw[GaH];exact K
  obtain⟨h1,PX,T1⟩:=CI hb G S (os:=os) (o:=p) (K.ok p (by simp)) (by have:=K.len;simp at this;lia) (λq hq z=>by
   have:=K.nd;rw[GaA,GbI] at this;exact this.2.2 q.n (GbB hq) p.n (by simp) z) (h:=h) (by
   have a:∀h∈ends,nxt h "order"=true:=by decide+kernel
   exact a h hh)
  obtain⟨h',xN,T⟩:=ph hb G S ps (os++[p]) K' h1 (by rcases PX with rfl|rfl|rfl<;>simp);refine⟨h',xN, ?_⟩;rw[GaH] at T;rw[GbJ,GaA];exact T1.app T
structure Wld where
 gs:List (Str×Int)
 ss:List Stf
 bs:List Br
 os:List Ord
structure WOk(w:Wld):Prop where
 g:nG w.gs
 s:l0 w.ss
 b:Fv w.ss.length w.bs
 o:JR w.gs w.ss w.os
def gM(w:Wld):D:= .tup [.tup (w.gs.map guD),.tup (w.ss.map stD),.tup (w.bs.map bF),.tup (w.os.map orD)]
def iV(w:Wld):List D:=(w.gs.map λp=>lD (guW p))++((w.ss.flatMap stW).map lD++((w.bs.map λp=>lD (iU (w.ss.map (·.n)) p))++(w.os.flatMap (gB (w.gs.map (·.1)) (w.ss.map (·.n)))).map lD))
theorem md(w:Wld):ag (iV w)=true:=by
 unfold iV;have a:∀l:List (List D),ag (l.map lD)=true:=λl=>aS λ_ _=>rfl;rw[dX,dX,dX,a,a,aS (λ_ _=>rfl),aS (λ_ _=>rfl)]
 rfl
theorem JS{w:Wld}(K:WOk w):ir [.lst (iV w)]=some (gM w):=by
 have hg:ag (w.gs.map guD)=true:=aS λ_ _=>rfl;obtain⟨h1,e1,T1⟩:=pb (s:=[]) (b:=[]) (o:=[]) rfl rfl rfl w.gs [] K.g "" (.inl rfl);obtain⟨h2,e2,T2⟩:=pe (g:=w.gs.map guD) (b:=[]) (o:=[]) hg rfl rfl w.ss [] K.s h1 (by rcases e1 with rfl|rfl<;>simp);obtain⟨h3,e3,T3⟩:=vb (g:=w.gs.map guD) (o:=[]) hg rfl K.s w.bs [] K.b h2 (by
  have a:∀h∈(["","guest","stuff","cap","young"]:List Str),h∈(["","guest","stuff","cap","young","bar"]:List Str):=by decide+kernel
  exact a h2 e2)
 obtain⟨h4,e4,T4⟩:=ph (b:=w.bs.map bF) (iG _) K.g K.s w.os [] K.o h3 (by
  have a:∀h∈(["","guest","stuff","cap","young","bar"]:List Str),h∈ends:=by decide+kernel
  exact a h3 e3)
 simp only[Gcu] at T1 T2 T3 T4;have z1:=K.g.len;have z2:=K.s.len;have z3:=K.b.len;have z4:=K.o.len;refine Fp (T1.app (T2.app (T3.app T4))) (md w) ?_ (by simp;lia);have a:∀h∈ends,((([Sum.inr "order",Sum.inr "dose"]:List DL.Key).map kD).any λy=>eqD y (.str h))=false:=by decide+kernel
 exact a h4 e4
theorem dn{α:Type}{g:DG}{body:DS}(emb:α->D)(f:α->List D)(mk:List D->Os->Os->DL.Env)(hg:∀d acc x y,g d (mk acc x y)=some (mk acc (some (.sh d)) y)):∀(xs:List α) (acc:List D) (x y:Os),(acc++xs.flatMap f).length<=1000->
  (∀x∈xs,∀acc y,(acc++f x).length<=1000->∃y',body (mk acc (some (.sh (emb x))) y)=some (.nx (mk (acc++f x) (some (.sh (emb x))) y')))->∃x' y',forL g body (xs.map emb) (mk acc x y)=some (.nx (mk (acc++xs.flatMap f) x' y'))
 |[],acc,x,y,_,_=> ⟨x,y,by simp⟩
 |a::xs,acc,x,y,hl,st=>by
  rw[GbJ,<-GaH] at hl;obtain⟨y1,h1⟩:=st a (by simp) acc y (by rw[Gal] at hl;lia);obtain⟨x',y',h4⟩:=dn emb f mk hg xs (acc++f a) (some (.sh (emb a))) y1 hl λb hb=>st b (by simp[hb]);refine⟨x',y', ?_⟩;rw[GbJ,<-GaH,<-h4];simp[forL,hg,h1]
theorem gC{α β:Type}{f:α->List β}{k:Nat}:∀{xs:List α},(∀x∈xs,(f x).length<=k)->(xs.flatMap f).length<=xs.length*k
 |[],_=>by simp
 |x::xs,h=>by
  have:=gC λy hy=>h y (Gat x hy);have:=h x (by simp);simp only[GbJ,Gal,GaE,Nat.succ_mul];lia
theorem CJ{s:Stf}(K:nI s):(stW s).length<=6:=by
 have:=K.cl;unfold stW;split<;>simp<;>lia
theorem CK{gs ss a b}{o:Ord}(K:iH gs ss o):(gB a b o).length<=9:=by
 have:o.ts.length<=6:=by
  have:=K.ts;cases h:o.d with
  |asked b=>rw[h] at this;rw[show o.ts=[] from this];simp
  |due _ _ _ _ _=>rw[h] at this;exact this.1
 unfold gB;simp;lia
theorem me{w:Wld}(K:WOk w):(iV w).length<=200:=by
 have z1:=K.g.len;have z2:=K.s.len;have z3:=K.b.len;have z4:=K.o.len;have f1:=gC (f:=stW) (k:=6) λs hs=>CJ (K.s.ok s hs);have f2:=gC (f:=gB (w.gs.map (·.1)) (w.ss.map (·.n))) (k:=9) λs hs=>CK (K.o.ok s hs);unfold iV;simp only[Gal,Gax];lia
theorem nH.wds{c:Str×List Int}(K:nH c):∀d∈fI c,Wd d:=λd hd=>by
 obtain⟨⟨lows,_,e2⟩,_,e4⟩:=K;rcases Gah.mp hd with rfl|hd
 .exact iF "cap" (by decide)
 .rcases Gah.mp hd with rfl|hd
  .exact e4
  .exact kh e2 d hd
theorem nI.wds{s:Stf}(K:nI s):∀d∈(.str "stuff":: .str s.n::(s.p::s.r).map D.int:List D),Wd d:=λd hd=>by
 rcases Gah.mp hd with rfl|hd
 .exact iF "stuff" (by decide)
 .rcases Gah.mp hd with rfl|hd
  .exact K.n.wd
  .exact kh (iN λx hx=> ⟨(K.z.top x hx).1,(K.z.top x hx).2.2⟩) d hd
theorem CL{y:Int}(h:Num y):∀d∈([.str "young",.int y]:List D),Wd d:=λd hd=>by
 simp at hd;rcases hd with rfl|rfl
 .exact iF "young" (by decide)
 .exact h
theorem CM{c:Str×List Int}(K:nH c):aW [.tup (.str "cap":: .str c.1::c.2.map D.int)]=some (lD (fI c)):=gz K.wds (by have:=K.len;simp[fI];lia)
theorem CN{s:Stf}(K:nI s):cO [stD s]=some (.lst ((stW s).map lD)):=by
 obtain⟨n,p,r,cs,y⟩:=s;have kl:r.length<=7:=K.z.len;have l1:=gz K.wds (by simp;lia);have l3:=gz (CL K.y) (by simp);have cl:=K.cl;simp only at l1 l3 cl;have e0:=stE n p r cs y;have z:=iD (p::r);have zl:2+((p::r).map D.int).length<=16777216:=by simp;lia
 have w1:stW ⟨n,p,r,cs,y⟩=(.str "stuff":: .str n::(p::r).map D.int)::(cs.map fI++if y=0 then[] else[[.str "young",.int y]]):=rfl;generalize hI:(p::r).map D.int=I at*;generalize hA:stD ⟨n,p,r,cs,y⟩=A at*;unfold cO;refine bc rfl ?_;unfold fR;refine(aj (e:=[some (.sh A),some (.own (.lst [lD (.str "stuff":: .str n::I)])),none]) (by rw[e0];simp[l1,zl,a7,lD])).trans ?_;obtain⟨x,_,h1⟩:=dn (g:=gN 2) (body:=bA 1 (aQ aW (af (opE ae (dq (af (kS "cap") az)) (vE 2)) az))) fZ (λc=>[lD (fI c)]) (λacc x _=>[some (.sh A),some (.own (.lst acc)),x]) (λ_ _ _ _=>rfl) cs [lD (.str "stuff":: .str n::I)] none none (by
  have:=gC (f:=λc:Str×List Int=>[lD (fI c)]) (k:=1) (xs:=cs) (λ_ _=>by simp);rw[Gal,Gbt];lia) (λc hc acc e hl=>by
  have t:=CM (K.c c hc);have ln:=(K.c c hc).len;have z1:1+(c.2.length+1)<=16777216:=by lia
  have z2:acc.length<16777216:=by simp at hl;lia
  refine⟨none, ?_⟩;simp[fZ,t,z1,z2,a7,lD])
 have fm:(cs.flatMap λc=>[lD (fI c)])=(cs.map fI).map lD:=by rw[Gaw];exact GcA.symm
 rw[fm] at h1;rw[w1,Gau,GaA];generalize hX:[lD (.str "stuff":: .str n::I)]++(cs.map fI).map lD=X at h1;have xl:X.length<16777216:=by rw[<-hX];simp;lia
 have xi:ag X=true:=by rw[<-hX,dX,aS (λ_ _=>rfl)];rfl
 refine(aj (e:=[some (.sh A),some (.own (.lst X)),x]) (by rw[e0] at h1⊢;simp[h1,freed])).trans ?_;rw[show lD (.str "stuff":: .str n::I)::((cs.map fI).map lD++(if y=0 then[] else[[.str "young",.int y]]).map lD)=X++(if y=0 then[] else[[.str "young",.int y]]).map lD by rw[<-hX];rfl];by_cases hy:y=0
 .subst hy;rw[e0];simp[xi]
 .refine(aj (e:=[some (.sh A),some (.own (.lst (X++[lD [.str "young",.int y]]))),x]) (by rw[e0];simp[hy,l3,xl,a7,lD])).trans ?_;rw[Gam hy];simp[xi,lD]
theorem iH.w1{gs ss}{o:Ord}(G:nG gs)(S:l0 ss)(K:iH gs ss o):∀d∈([.str "order",.str o.n,.str (fF (gs.map (·.1)) o.g),.str (fF (ss.map (·.n)) o.s)]:List D),Wd d:=λd hd=>by
 simp at hd;rcases hd with rfl|rfl|rfl|rfl
 .exact iF "order" (by decide)
 .exact K.n.wd
 .obtain⟨q,hq,e⟩:=GaJ.mp (l5 (ns:=gs.map (·.1)) K.g0 (by simpa using K.g1));rw[<-e];exact(G.ok q hq).1.wd
 .obtain⟨q,hq,e⟩:=GaJ.mp (l5 (ns:=ss.map (·.n)) K.s0 (by simpa using K.s1));rw[<-e];exact(S.ok q hq).n.wd
theorem iH.w2{gs ss}{o:Ord}(K:iH gs ss o):∀d∈([.str "dose",.str o.w,.int o.t,.int o.p,.int o.k]:List D),Wd d:=λd hd=>by
 have a:∀w∈(["down","up","near"]:List Str),(decide (32∉w.cps.toList)&&decide (w.length<=10))=true:=by decide+kernel
 simp at hd;rcases hd with rfl|rfl|rfl|rfl|rfl
 .exact iF "dose" (by decide)
 .have:=a o.w (by simpa using K.w);rw[Gad] at this;have b:=Gas this.1;exact⟨b,Gas this.2⟩
 .exact K.t
 .exact K.p
 .exact K.k
theorem iH.w3{gs ss}{o:Ord}(K:iH gs ss o):(∀d∈cJ o.d,Wd d)/\(cJ o.d).length<=6:=by
 have k:=K.d;cases h:o.d with
 |asked b=>
  rw[h] at k;refine⟨λd hd=> ?_,by simp[cJ]⟩;simp[cJ] at hd;rcases hd with rfl|rfl
  .exact iF "asked" (by decide)
  .exact k
 |due i1 i2 i3 i4 i5=>
  rw[h] at k;obtain⟨e1,e2,e3,e4,e5,_⟩:=k;refine⟨λd hd=> ?_,by simp[cJ]⟩;simp[cJ] at hd;rcases hd with rfl|rfl|rfl|rfl|rfl|rfl
  .exact iF "due" (by decide)
  all_goals assumption
theorem iH.w4{gs ss}{o:Ord}(K:iH gs ss o):o.ts.length<=6/\∀t∈o.ts,∀d∈tpW t,Wd d:=by
 have k:=K.ts;have kd:=K.d;cases h:o.d with
 |asked b=>
  rw[h] at k;rw[show o.ts=[] from k];exact⟨by simp,λt ht=>by simp at ht⟩
 |due i1 i2 i3 i4 i5=>
  rw[h] at k kd;obtain⟨_,_,m,_,_,_,_,m2,_⟩:=kd;refine⟨k.1,λt ht d hd=> ?_⟩;obtain⟨a1,a2,a3,a4,a5⟩:=k.2.2 t ht;simp[tpW] at hd;rcases hd with rfl|rfl|rfl|rfl
  .exact iF "taper" (by decide)
  .exact⟨by lia,by lia⟩
  .exact⟨by lia,by lia⟩
  .exact⟨by lia,by lia⟩
theorem nK{α:Type}{l:List α}{f:α->Str}(h0:0<=i)(h1:i<l.length):∃x∈l,l[i.toNat]? =some x/\fF (l.map f) i=f x:=by
 have hi:i.toNat<l.length:=by lia
 refine⟨l[i.toNat],Gbk _,Gaf hi, ?_⟩;unfold fF;rw[Gap,Gaf hi]
 rfl
theorem gD{α:Type}{l:List α}{f:α->D}{x:α}(h0:0<=i)(h:l[i.toNat]? =some x):atD (l.map f) i=some (f x):=pJ h0 (by rw[Gap,h];rfl)
theorem orE(o:Ord):orD o= .tup [.str o.n,.int o.g,.int o.s,.tup [.str o.w,.int o.t,.int o.p,.int o.k],.tup (cJ o.d),.tup (o.ts.map tpD)]:=rfl
theorem CO{gs ss}{o:Ord}(G:nG gs)(S:l0 ss)(K:iH gs ss o):cP [.tup (gs.map guD),.tup (ss.map stD),orD o]=some (.lst ((gB (gs.map (·.1)) (ss.map (·.n)) o).map lD)):=by
 obtain⟨x,hx,e1,e2⟩:=nK (f:=(·.1)) K.g0 K.g1;obtain⟨q,hq,f1,f2⟩:=nK (f:=λs:Stf=>s.n) K.s0 K.s1;have a1:=gD (f:=guD) K.g0 e1;have a2:=gD (f:=stD) K.s0 f1;have l1:=gz (K.w1 G S) (by simp);have l2:=gz K.w2 (by simp);have l3:=gz K.w3.1 (by have:=K.w3.2;lia);rw[e2,f2] at l1;have dl:=K.w3.2;have w1:gB (gs.map (·.1)) (ss.map (·.n)) o=[.str "order",.str o.n,.str x.1,.str q.n]::[.str "dose",.str o.w,.int o.t,.int o.p,.int o.k]::cJ o.d::o.ts.map tpW:=by unfold gB;rw[e2,f2]
 have x0:ixD (guD x) (.int 0)=some (.str x.1):=rfl;have q0:ixD (stD q) (.int 0)=some (.str q.n):=rfl;have e0:=orE o;rw[w1];generalize hA:orD o=A at*;generalize hG:gs.map guD=GG at*;generalize hS:ss.map stD=SS at*;generalize guD x=xD at*;generalize stD q=qD at*;generalize hX:[lD [.str "order",.str o.n,.str x.1,.str q.n],lD [.str "dose",.str o.w,.int o.t,.int o.p,.int o.k],lD (cJ o.d)]=X;have xi:ag X=true:=by rw[<-hX];rfl
 unfold cP;refine bc rfl ?_;unfold fS;refine(aj (e:=[some (.sh (.tup GG)),some (.sh (.tup SS)),some (.sh A),some (.own (.lst X)),none]) (by rw[e0,<-hX];simp[a1,a2,x0,q0,l1,l2,l3,a7,lD])).trans ?_;obtain⟨x',_,h1⟩:=dn (g:=gN 4) (body:=bA 3 (aQ aW (af (opE ae (dq (af (kS "taper") az)) (vE 4)) az))) tpD (λt=>[lD (tpW t)]) (λacc x _=>[some (.sh (.tup GG)),some (.sh (.tup SS)),some (.sh A),some (.own (.lst acc)),x]) (λ_ _ _ _=>rfl) o.ts X none none (by
  have:=gC (f:=λc:Int×Int×Int=>[lD (tpW c)]) (k:=1) (xs:=o.ts) (λ_ _=>by simp);have:=K.w4.1;rw[Gal,<-hX];simp only[GaE,List.length_nil];lia) (λc hc acc e hl=>by
  have t:aW [.tup [.str "taper",.int c.1,.int c.2.1,.int c.2.2]]=some (lD (tpW c)):=gz (K.w4.2 c hc) (by simp[tpW]);have z2:acc.length<16777216:=by simp at hl;lia
  refine⟨none, ?_⟩;simp[tpD,t,z2,a7,lD])
 rw[show(o.ts.flatMap λc=>[lD (tpW c)])=(o.ts.map tpW).map lD by rw[Gaw];exact GcA.symm] at h1;have ti:ag ((o.ts.map tpW).map lD)=true:=aS λ_ _=>rfl;refine(aj (e:=[some (.sh (.tup GG)),some (.sh (.tup SS)),some (.sh A),some (.own (.lst (X++(o.ts.map tpW).map lD))),x']) (by rw[e0] at h1⊢;simp at h1;simp[h1,freed])).trans ?_;rw[Gau,Gau,Gau,show lD [.str "order",.str o.n,.str x.1,.str q.n]::lD [.str "dose",.str o.w,.int o.t,.int o.p,.int o.k]::lD (cJ o.d)::(o.ts.map tpW).map lD=X++(o.ts.map tpW).map lD by rw[<-hX];rfl];generalize (o.ts.map tpW).map lD=T at*;simp[xi,ti]
theorem nG.wd{gs}(G:nG gs){p:Str×Int}(hp:p∈gs):∀d∈guW p,Wd d:=λd hd=>by
 simp[guW] at hd;rcases hd with rfl|rfl|rfl
 .exact iF "guest" (by decide)
 .exact(G.ok p hp).1.wd
 .exact(G.ok p hp).2
theorem JT{ss:List Stf}(S:l0 ss){p:Br}(B:JQ ss.length p):∀d∈iU (ss.map (·.n)) p,Wd d:=λd hd=>by
 have wd:∀i,0<=i->i<(ss.length:Int)->Wd (.str (fF (ss.map (·.n)) i)):=λi h0 h1=>by
  obtain⟨q,hq,e⟩:=GaJ.mp (l5 (ns:=ss.map (·.n)) h0 (by simpa using h1));rw[<-e];exact(S.ok q hq).n.wd
 obtain⟨b0,b1,b2,b3,_⟩:=B;simp[iU] at hd;rcases hd with rfl|rfl|rfl|rfl
 .exact iF "bar" (by decide)
 .exact wd _ b0 (by lia)
 .exact wd _ (by lia) b2
 .exact b3
theorem ki{α:Type}(f:α->D)(l:List α):(l.flatMap λx=>[f x])=l.map f:=GcA.symm
theorem kj{α:Type}(f:α->List (List D))(l:List α):(l.flatMap λx=>(f x).map lD)=(l.flatMap f).map lD:=by rw[List.map_flatMap]
section
variable{w:Wld}(K:WOk w)
include K
theorem rD{sl:SpF}(QS:∀ws:List D,(∀d∈ws,Wd d)->ws.length<=20->sl [.tup ws]=some (.str (dS ws))){p:Br}(hp:p∈w.bs){i j:Nat}{e:DL.Env}(h1:e[i]? =some (some (.sh (.tup (w.ss.map stD)))))(h2:e[j]? =some (some (.sh (bF p)))):
  aQ sl (af (dq (af (kS "bar") (af (ixE (ixE (vE i) (ixE (vE j) (kI 0))) (kI 0)) (af (ixE (ixE (vE i) (ixE (vE j) (kI 1))) (kI 0)) (af (ixE (vE j) (kI 2)) az))))) az) e=some ⟨.c,lD (iU (w.ss.map (·.n)) p)⟩:=by
 have B:=K.b.ok p hp;obtain⟨x,hx,e1,e2⟩:=nK (f:=λs:Stf=>s.n) (l:=w.ss) B.lo (by have:=B.le;have:=B.hi;lia);obtain⟨q,hq,f1,f2⟩:=nK (f:=λs:Stf=>s.n) (l:=w.ss) (i:=p.2.1) (by have:=B.lo;have:=B.le;lia) B.hi;have a1:=gD (f:=stD) B.lo e1;have a2:=gD (f:=stD) (show 0<=p.2.1 by have:=B.lo;have:=B.le;lia) f1;have t:=QS (iU (w.ss.map (·.n)) p) (JT K.s B) (by simp[iU]);unfold iU at t⊢;rw[e2,f2] at t⊢;have x0:ixD (stD x) (.int 0)=some (.str x.n):=rfl;have q0:ixD (stD q) (.int 0)=some (.str q.n):=rfl;generalize w.ss.map stD=SS at*;generalize stD x=xD at*;generalize stD q=qD at*;simp[h1,h2,bF,a1,a2,x0,q0,t,a7,lD]
theorem CP:ke [gM w]=some (.lst (iV w)):=by
 have z1:=K.g.len;have z2:=K.s.len;have z3:=K.b.len;have z4:=K.o.len;have ll:=me K;have c:bN (gN 0) aK (aQ aW (af (opE ae (dq (af (kS "guest") az)) (vE 0)) az)) (w.gs.map guD) [none]=some (w.gs.map λp=>lD (guW p)):=by
  refine cI guD (λe=>∃z,e=[z]) _ _ _ ⟨_,rfl⟩ ?_;rintro p hp e ⟨z,rfl⟩;have t:aW [.tup [.str "guest",.str p.1,.int p.2]]=some (lD (guW p)):=gz (K.g.wd hp) (by simp[guW]);refine⟨_,rfl,⟨_,rfl⟩,.c, ?_,rfl⟩;simp[guD,c9,guR,t,a7]
  rfl
 have cl:(w.gs.map guD).length<=a7:=by simp[a7];lia
 have e0:gM w= .tup [.tup (w.gs.map guD),.tup (w.ss.map stD),.tup (w.bs.map bF),.tup (w.os.map orD)]:=rfl;have fin:=md w;unfold iV at ll fin⊢;simp only[Gal] at ll;rw[<-ki (λp=>lD (iU (w.ss.map (·.n)) p)),<-kj,<-kj] at ll fin⊢;generalize hA:gM w=A at*;generalize hX:(w.gs.map λp=>lD (guW p))=X at*;unfold ke;refine bc rfl ?_;unfold qb;refine(aj (e:=[some (.sh A),some (.sh (.tup (w.gs.map guD))),none,none,none,none,none]) (by rw[e0];simp)).trans ?_;refine(aj (e:=[some (.sh A),some (.sh (.tup (w.gs.map guD))),some (.sh (.tup (w.ss.map stD))),none,none,none,none]) (by rw[e0];simp)).trans ?_;refine(aj (e:=[some (.sh A),some (.sh (.tup (w.gs.map guD))),some (.sh (.tup (w.ss.map stD))),some (.own (.lst X)),none,none,none]) (by
  generalize hG:w.gs.map guD=GG at*;simp[c,cl,DL.compEnv])).trans ?_
 obtain⟨x4,_,h1⟩:=dn (g:=gN 4) (body:=vM 3 (aQ cO (af (vE 4) az))) stD (λs=>(stW s).map lD) (λacc x _=>[some (.sh A),some (.sh (.tup (w.gs.map guD))),some (.sh (.tup (w.ss.map stD))),some (.own (.lst acc)),x,none,none]) (λ_ _ _ _=>rfl) w.ss X none none (by rw[Gal];lia) (λs hs acc e hl=>by
  have t:=CN (K.s.ok s hs);have ti:ag ((stW s).map lD)=true:=aS λ_ _=>rfl;refine⟨none, ?_⟩;generalize (stW s).map lD=T at*;generalize stD s=sD at*;rw[Gal] at hl;have z:acc.length+T.length<=16777216:=by lia
  simp[t,z,a7,ti])
 obtain⟨x5,_,h2⟩:=dn (g:=gN 5) (body:=bA 3 (aQ aW (af (dq (af (kS "bar") (af (ixE (ixE (vE 2) (ixE (vE 5) (kI 0))) (kI 0)) (af (ixE (ixE (vE 2) (ixE (vE 5) (kI 1))) (kI 0)) (af (ixE (vE 5) (kI 2)) az))))) az))) bF (λp=>[lD (iU (w.ss.map (·.n)) p)]) (λacc x _=>[some (.sh A),some (.sh (.tup (w.gs.map guD))),some (.sh (.tup (w.ss.map stD))),some (.own (.lst acc)),x4,x,none]) (λ_ _ _ _=>rfl) w.bs (X++w.ss.flatMap λs=>(stW s).map lD) none none (by rw[Gal,Gal];lia) (λp hp acc e hl=>by
  have t:=rD K (sl:=aW) (λws a b=>gz a b) hp (i:=2) (j:=5) (e:=[some (.sh A),some (.sh (.tup (w.gs.map guD))),some (.sh (.tup (w.ss.map stD))),some (.own (.lst acc)),x4,some (.sh (bF p)),none]) rfl rfl;refine⟨none, ?_⟩;have z:acc.length<16777216:=by simp at hl;lia
  unfold bA;rw[t];simp[z,a7,lD])
 obtain⟨x6,_,h3⟩:=dn (g:=gN 6) (body:=vM 3 (aQ cP (af (vE 1) (af (vE 2) (af (vE 6) az))))) orD (λo=>(gB (w.gs.map (·.1)) (w.ss.map (·.n)) o).map lD) (λacc x _=>[some (.sh A),some (.sh (.tup (w.gs.map guD))),some (.sh (.tup (w.ss.map stD))),some (.own (.lst acc)),x4,x5,x]) (λ_ _ _ _=>rfl) w.os ((X++w.ss.flatMap λs=>(stW s).map lD)++w.bs.flatMap λp=>[lD (iU (w.ss.map (·.n)) p)]) none none (by rw[Gal,Gal,Gal];lia) (λo ho acc e hl=>by
  have t:=CO K.g K.s (K.o.ok o ho);have ti:ag ((gB (w.gs.map (·.1)) (w.ss.map (·.n)) o).map lD)=true:=aS λ_ _=>rfl;refine⟨none, ?_⟩;generalize (gB (w.gs.map (·.1)) (w.ss.map (·.n)) o).map lD=T at*;generalize orD o=oD at*;rw[Gal] at hl;have z:acc.length+T.length<=16777216:=by lia
  simp[t,z,a7,ti])
 simp only[GaH] at h2 h3;generalize hG:w.gs.map guD=GG at*;generalize hS:w.ss.map stD=SS at*;generalize hB:w.bs.map bF=BB at*;generalize hO:w.os.map orD=OO at*;generalize (w.ss.flatMap λs=>(stW s).map lD)=X1 at*;generalize (w.bs.flatMap λp=>[lD (iU (w.ss.map (·.n)) p)])=X2 at*;generalize (w.os.flatMap λo=>(gB (w.gs.map (·.1)) (w.ss.map (·.n)) o).map lD)=X3 at*;refine(aj (e:=[some (.sh A),some (.sh (.tup GG)),some (.sh (.tup SS)),some (.own (.lst (X++X1))),x4,none,none]) (by simp[h1,freed])).trans ?_;refine(aj (e:=[some (.sh A),some (.sh (.tup GG)),some (.sh (.tup SS)),some (.own (.lst (X++(X1++X2)))),x4,x5,none]) (by rw[e0] at h2⊢;simp[h2,freed])).trans ?_;refine(aj (e:=[some (.sh A),some (.sh (.tup GG)),some (.sh (.tup SS)),some (.own (.lst (X++(X1++(X2++X3))))),x4,x5,x6]) (by rw[e0] at h3⊢;simp[h3,freed])).trans ?_;generalize X++(X1++(X2++X3))=Y at*;simp[fin]
end
theorem Fy(p:Str×Int):Str.ofString "guest "++p.1++Str.ofString " "++gy p.2=dS (guW p):=by
 show _=Str.ofString "guest"++Str.ofString " "++(p.1++Str.ofString " "++gy p.2);rw[show Str.ofString "guest "=Str.ofString "guest"++Str.ofString " " by decide+kernel];exact qc (by simp[GbL])
theorem Fz(y:Int):Str.ofString "young "++gy y=dS [.str "young",.int y]:=by
 show _=Str.ofString "young"++Str.ofString " "++gy y;rw[show Str.ofString "young "=Str.ofString "young"++Str.ofString " " by decide+kernel]
theorem len_app(x y:Str):(x++y).length=x.length+y.length:=by
 show(x++y).cps.size=_;rw[GbL,Array.size_append];rfl
section
variable{w:Wld}(K:WOk w)
include K
noncomputable def lE(A:D)(X:List D)(x2:Os)(S:D)(x4:Os)(B:D)(x6:Os)(O G:D)(x9 hU:Os):DL.Env:=[some (.sh A),some (.own (.lst X)),x2,some (.sh S),x4,some (.sh B),x6,some (.sh O),some (.sh G),x9,hU]
omit K in
theorem tM{A S B O G:D}{x4 x6 hU:Os}{s:Stf}(Ks:nI s)(acc:List D)(y:Os)(hl:(acc++(stW s).map lD).length<=1000):∃y',ak (bA 1 (aQ aA (af (opE ae (dq (af (kS "stuff") (af (ixE (vE 2) (kI 0)) az))) (ixE (vE 2) (kI 1))) az))) (ak (cL none (ssI (ixE (vE 2) (kI 2))) (gN 9) (bA 1 (aQ aA (af (opE ae (dq (af (kS "cap") az)) (vE 9)) az)))) (ifS (av gtB (ixE (vE 2) (kI 3)) (kI 0)) (bA 1 (opE ae (kS "young ") (je (orS iR iT) (af (ixE (vE 2) (kI 3)) az)))) aD))
  (lE A acc (some (.sh (stD s))) S x4 B x6 O G y hU)=some (.nx (lE A (acc++(stW s).map lD) (some (.sh (stD s))) S x4 B x6 O G y' hU)):=by
 obtain⟨n,p,r,cs,y0⟩:=s;have kl:r.length<=7:=Ks.z.len;have l1:=gA Ks.wds (by simp;lia);have cl:=Ks.cl;have hy:Num y0:=Ks.y;simp only at l1 cl;have e0:=stE n p r cs y0;have zl:2+((p::r).map D.int).length<=16777216:=by simp;lia
 have w1:stW ⟨n,p,r,cs,y0⟩=(.str "stuff":: .str n::(p::r).map D.int)::(cs.map fI++if y0=0 then[] else[[.str "young",.int y0]]):=rfl;rw[w1,Gau,GaA] at hl⊢;simp only[Gal,GaE,Gax] at hl;generalize hI:(p::r).map D.int=I at*;generalize hT:stD ⟨n,p,r,cs,y0⟩=T at*;have al:acc.length<16777216:=by lia
 obtain⟨x,_,h1⟩:=dn (g:=gN 9) (body:=bA 1 (aQ aA (af (opE ae (dq (af (kS "cap") az)) (vE 9)) az))) fZ (λc=>[lD (fI c)]) (λacc x _=>lE A acc (some (.sh T)) S x4 B x6 O G x hU) (λ_ _ _ _=>rfl) cs (acc++[lD (.str "stuff":: .str n::I)]) y none (by
  have:=gC (f:=λc:Str×List Int=>[lD (fI c)]) (k:=1) (xs:=cs) (λ_ _=>by simp);simp only[Gal,Gbt];lia) (λc hc acc e hl=>by
  have t:aA [.tup (.str "cap":: .str c.1::c.2.map D.int)]=some (lD (fI c)):=gA (Ks.c c hc).wds (by have:=(Ks.c c hc).len;simp[fI];lia);have ln:=(Ks.c c hc).len;have z1:1+(c.2.length+1)<=16777216:=by lia
  have z2:acc.length<16777216:=by simp at hl;lia
  refine⟨none, ?_⟩;unfold lE;simp[fZ,t,z1,z2,a7,lD])
 rw[show(cs.flatMap λc=>[lD (fI c)])=(cs.map fI).map lD by rw[Gaw];exact ki _ _] at h1;refine⟨x,(aj (e:=lE A (acc++[lD (.str "stuff":: .str n::I)]) (some (.sh T)) S x4 B x6 O G y hU) (by rw[e0];unfold lE;simp[l1,zl,al,a7,lD])).trans ?_⟩;rw[show acc++lD (.str "stuff":: .str n::I)::((cs.map fI).map lD++(if y0=0 then[] else[[.str "young",.int y0]]).map lD)=(acc++[lD (.str "stuff":: .str n::I)]++(cs.map fI).map lD)++(if y0=0 then[] else[[.str "young",.int y0]]).map lD by simp];generalize hX:acc++[lD (.str "stuff":: .str n::I)]++(cs.map fI).map lD=X at*;have xl:X.length<16777216:=by rw[<-hX];simp;lia
 refine(aj (e:=lE A X (some (.sh T)) S x4 B x6 O G x hU) (by rw[e0] at h1⊢;unfold lE at h1⊢;simp[h1,freed])).trans ?_;by_cases h0:y0=0
 .subst h0;rw[e0];unfold lE;simp
 .have hy1:0<y0:=by have:=hy.1;lia
  have st:=Wd.str (d:= .int y0) hy;have yt:=Fz y0;have yl:=qe hy;have y2:(Str.ofString "young ").length+(gy y0).length<=16777216:=by rw[show(Str.ofString "young ").length=6 by decide+kernel];lia
  rw[Gam h0,e0];unfold lE;simp only[wS] at st;generalize gy y0=ny at*;generalize Str.ofString "young "=yo at*;simp[hy1,st,y2,xl,a7,lD,yt,-Ci]
end
variable{x9:Os}{A:D}
theorem tN{B O:D}{ss:List Stf}(G:nG gs)(S:l0 ss){x4:Os}{o:Ord}(K:iH gs ss o)(acc:List D)(y:Os)(hl:(acc++(gB (gs.map (·.1)) (ss.map (·.n)) o).map lD).length<=1000):
  ∃y',ak (bA 1 (aQ aA (af (dq (af (kS "order") (af (ixE (vE 6) (kI 0)) (af (ixE (ixE (vE 8) (ixE (vE 6) (kI 1))) (kI 0)) (af (ixE (ixE (vE 3) (ixE (vE 6) (kI 2))) (kI 0)) az))))) az))) (ak (bA 1 (aQ aA (af (opE ae (dq (af (kS "dose") az)) (ixE (vE 6) (kI 3))) az))) (ak (bA 1 (aQ aA (af (ixE (vE 6) (kI 4)) az))) (cL none (ssI (ixE (vE 6) (kI 5))) (gN 10) (bA 1 (aQ aA (af (opE ae (dq (af (kS "taper") az)) (vE 10)) az))))))
   (lE A acc x2 (.tup (ss.map stD)) x4 B (some (.sh (orD o))) O (.tup (gs.map guD)) x9 y)=some (.nx (lE A (acc++(gB (gs.map (·.1)) (ss.map (·.n)) o).map lD) x2 (.tup (ss.map stD)) x4 B (some (.sh (orD o))) O (.tup (gs.map guD)) x9 y')):=by
 obtain⟨x,hx,e1,e2⟩:=nK (f:=(·.1)) K.g0 K.g1;obtain⟨q,hq,f1,f2⟩:=nK (f:=λs:Stf=>s.n) K.s0 K.s1;have a1:=gD (f:=guD) K.g0 e1;have a2:=gD (f:=stD) K.s0 f1;have l1:=gA (K.w1 G S) (by simp);have l2:=gA K.w2 (by simp);have l3:=gA K.w3.1 (by have:=K.w3.2;lia);rw[e2,f2] at l1;have w1:gB (gs.map (·.1)) (ss.map (·.n)) o=[.str "order",.str o.n,.str x.1,.str q.n]::[.str "dose",.str o.w,.int o.t,.int o.p,.int o.k]::cJ o.d::o.ts.map tpW:=by unfold gB;rw[e2,f2]
 have x0:ixD (guD x) (.int 0)=some (.str x.1):=rfl;have q0:ixD (stD q) (.int 0)=some (.str q.n):=rfl;have e0:=orE o;rw[w1] at hl⊢;generalize hA:orD o=T at*;generalize hG:gs.map guD=GG at*;generalize hS:ss.map stD=SS at*;generalize guD x=xD at*;generalize stD q=qD at*;simp only[Gau,Gal,GaE,Gax] at hl⊢;generalize zx:[D.str "order",D.str o.n,D.str x.1,D.str q.n]=W1 at*;generalize zY:[D.str "dose",D.str o.w,D.int o.t,D.int o.p,D.int o.k]=W2 at*;obtain⟨x',_,h1⟩:=dn (g:=gN 10) (body:=bA 1 (aQ aA (af (opE ae (dq (af (kS "taper") az)) (vE 10)) az))) tpD (λt=>[lD (tpW t)]) (λacc x _=>lE A acc x2 (.tup SS) x4 B (some (.sh T)) O (.tup GG) x9 x) (λ_ _ _ _=>rfl) o.ts (acc++[lD W1]++[lD W2]++[lD (cJ o.d)]) y none (by
  have:=gC (f:=λc:Int×Int×Int=>[lD (tpW c)]) (k:=1) (xs:=o.ts) (λ_ _=>by simp);simp only[Gal,Gbt];lia) (λc hc acc e hl=>by
  have t:aA [.tup [.str "taper",.int c.1,.int c.2.1,.int c.2.2]]=some (lD (tpW c)):=gA (K.w4.2 c hc) (by simp[tpW]);have z2:acc.length<16777216:=by simp at hl;lia
  refine⟨none, ?_⟩;unfold lE;simp[tpD,t,z2,a7,lD])
 rw[show(o.ts.flatMap λc=>[lD (tpW c)])=(o.ts.map tpW).map lD by rw[Gaw];exact ki _ _] at h1;refine⟨x', ?_⟩;have z1:acc.length<16777216:=by lia
 have z2:acc.length+1<16777216:=by lia
 have z3:acc.length+1+1<16777216:=by lia
 refine(aj (e:=lE A (acc++[lD W1]) x2 (.tup SS) x4 B (some (.sh T)) O (.tup GG) x9 y) (by rw[e0];unfold lE;simp[a1,a2,x0,q0,zx,l1,z1,a7,lD])).trans ?_;refine(aj (e:=lE A (acc++[lD W1]++[lD W2]) x2 (.tup SS) x4 B (some (.sh T)) O (.tup GG) x9 y) (by rw[e0];unfold lE;simp[zY,l2,z2,a7,lD])).trans ?_;refine(aj (e:=lE A (acc++[lD W1]++[lD W2]++[lD (cJ o.d)]) x2 (.tup SS) x4 B (some (.sh T)) O (.tup GG) x9 y) (by rw[e0];unfold lE;simp[l3,z3,a7,lD])).trans ?_;rw[show acc++lD W1::lD W2::lD (cJ o.d)::(o.ts.map tpW).map lD=acc++[lD W1]++[lD W2]++[lD (cJ o.d)]++(o.ts.map tpW).map lD by simp];generalize acc++[lD W1]++[lD W2]++[lD (cJ o.d)]=Y0 at*;generalize (o.ts.map tpW).map lD=TT at*;rw[e0] at h1⊢;unfold lE at h1⊢;simp[h1,freed]
section
variable{w:Wld}(K:WOk w)
include K
theorem CQ:fP [gM w]=some (.lst (iV w)):=by
 have z1:=K.g.len;have ll:=me K;have c:bN (gN 0) aK (opE ae (opE ae (opE ae (kS "guest ") (ixE (vE 0) (kI 0))) (kS " ")) (je (orS iR iT) (af (ixE (vE 0) (kI 1)) az))) (w.gs.map guD) [none]=some (w.gs.map λp=>lD (guW p)):=by
  refine cI guD (λe=>∃z,e=[z]) _ _ _ ⟨_,rfl⟩ ?_;rintro p hp e ⟨z,rfl⟩;have hn:=(K.g.ok p hp).1;have hb:=(K.g.ok p hp).2;have st:=Wd.str (d:= .int p.2) hb;have t:=Fy p;have y1:(Str.ofString "guest ").length=6:=by decide+kernel
  have y2:(Str.ofString " ").length=1:=by decide+kernel
  have y3:=qe hb;have y4:=hn.2.1;have y5:=len_app (Str.ofString "guest ") p.1;have y6:=len_app (Str.ofString "guest "++p.1) (Str.ofString " ");refine⟨_,rfl,⟨_,rfl⟩,.c, ?_,rfl⟩;simp only[wS] at st;generalize gy p.2=ny at*;generalize Str.ofString "guest "=gu at*;generalize Str.ofString " "=bl at*;have a1:gu.length+p.1.length<=16777216:=by lia
  have a2:(gu++p.1).length+bl.length<=16777216:=by lia
  have a3:(gu++p.1++bl).length+ny.length<=16777216:=by lia
  simp[guD,c9,guR,st,a1,a2,a3,a7,t,lD,-Ci]
 have cl:(w.gs.map guD).length<=a7:=by simp[a7];lia
 have e0:gM w= .tup [.tup (w.gs.map guD),.tup (w.ss.map stD),.tup (w.bs.map bF),.tup (w.os.map orD)]:=rfl;have fin:=md w;unfold iV at ll fin⊢;simp only[Gal] at ll;rw[<-ki (λp=>lD (iU (w.ss.map (·.n)) p)),<-kj,<-kj] at ll fin⊢;generalize hA:gM w=A at*;generalize hX:(w.gs.map λp=>lD (guW p))=X at*;have h1:=λ(x4 x6 hU x y:Os)=>dn (g:=gN 2) (body:=ak (bA 1 (aQ aA (af (opE ae (dq (af (kS "stuff") (af (ixE (vE 2) (kI 0)) az))) (ixE (vE 2) (kI 1))) az))) (ak (cL none (ssI (ixE (vE 2) (kI 2))) (gN 9) (bA 1 (aQ aA (af (opE ae (dq (af (kS "cap") az)) (vE 9)) az)))) (ifS (av gtB (ixE (vE 2) (kI 3)) (kI 0)) (bA 1 (opE ae (kS "young ") (je (orS iR iT) (af (ixE (vE 2) (kI 3)) az)))) aD))) stD (λs=>(stW s).map lD) (λacc x y=>lE A acc x (.tup (w.ss.map stD)) x4 (.tup (w.bs.map bF)) x6 (.tup (w.os.map orD)) (.tup (w.gs.map guD)) y hU) (λ_ _ _ _=>rfl) w.ss X x y (by rw[Gal];lia) (λs hs acc y hl=>tM (K.s.ok s hs) acc y hl);obtain⟨x2,x9,h1⟩:=h1 none none none none none;obtain⟨x4,_,h2⟩:=dn (g:=gN 4) (body:=bA 1 (aQ aA (af (dq (af (kS "bar") (af (ixE (ixE (vE 3) (ixE (vE 4) (kI 0))) (kI 0)) (af (ixE (ixE (vE 3) (ixE (vE 4) (kI 1))) (kI 0)) (af (ixE (vE 4) (kI 2)) az))))) az))) bF (λp=>[lD (iU (w.ss.map (·.n)) p)]) (λacc x _=>lE A acc x2 (.tup (w.ss.map stD)) x (.tup (w.bs.map bF)) none (.tup (w.os.map orD)) (.tup (w.gs.map guD)) x9 none) (λ_ _ _ _=>rfl) w.bs (X++w.ss.flatMap λs=>(stW s).map lD) none none (by rw[Gal,Gal];lia) (λp hp acc e hl=>by
  have t:=rD K (sl:=aA) (λws a b=>gA a b) hp (i:=3) (j:=4) (e:=lE A acc x2 (.tup (w.ss.map stD)) (some (.sh (bF p))) (.tup (w.bs.map bF)) none (.tup (w.os.map orD)) (.tup (w.gs.map guD)) x9 none) rfl rfl;refine⟨none, ?_⟩;have z:acc.length<16777216:=by simp at hl;lia
  unfold bA;rw[t];unfold lE;simp[z,a7,lD])
 obtain⟨x6,hU,h3⟩:=dn (g:=gN 6) (body:=ak (bA 1 (aQ aA (af (dq (af (kS "order") (af (ixE (vE 6) (kI 0)) (af (ixE (ixE (vE 8) (ixE (vE 6) (kI 1))) (kI 0)) (af (ixE (ixE (vE 3) (ixE (vE 6) (kI 2))) (kI 0)) az))))) az))) (ak (bA 1 (aQ aA (af (opE ae (dq (af (kS "dose") az)) (ixE (vE 6) (kI 3))) az))) (ak (bA 1 (aQ aA (af (ixE (vE 6) (kI 4)) az))) (cL none (ssI (ixE (vE 6) (kI 5))) (gN 10) (bA 1 (aQ aA (af (opE ae (dq (af (kS "taper") az)) (vE 10)) az))))))) orD (λo=>(gB (w.gs.map (·.1)) (w.ss.map (·.n)) o).map lD) (λacc x y=>lE A acc x2 (.tup (w.ss.map stD)) x4 (.tup (w.bs.map bF)) x (.tup (w.os.map orD)) (.tup (w.gs.map guD)) x9 y) (λ_ _ _ _=>rfl) w.os ((X++w.ss.flatMap λs=>(stW s).map lD)++w.bs.flatMap λp=>[lD (iU (w.ss.map (·.n)) p)]) none none (by rw[Gal,Gal,Gal];lia) (λo ho acc y hl=>tN K.g K.s (K.o.ok o ho) acc y hl);simp only[GaH] at h2 h3;generalize hG:w.gs.map guD=GG at*;generalize hS:w.ss.map stD=SS at*;generalize hB:w.bs.map bF=BB at*;generalize hO:w.os.map orD=OO at*;generalize (w.ss.flatMap λs=>(stW s).map lD)=X1 at*;generalize (w.bs.flatMap λp=>[lD (iU (w.ss.map (·.n)) p)])=X2 at*;generalize (w.os.flatMap λo=>(gB (w.gs.map (·.1)) (w.ss.map (·.n)) o).map lD)=X3 at*;unfold fP;refine bc rfl ?_;unfold iC;unfold lE at h1 h2 h3;simp only[ssI] at h1 h3;refine(aj (e:=[some (.sh A),none,none,some (.sh (.tup SS)),none,some (.sh (.tup BB)),none,some (.sh (.tup OO)),some (.sh (.tup GG)),none,none]) (by rw[e0];simp[Ax])).trans ?_;refine(aj (e:=[some (.sh A),some (.own (.lst X)),none,some (.sh (.tup SS)),none,some (.sh (.tup BB)),none,some (.sh (.tup OO)),some (.sh (.tup GG)),none,none]) (by simp[c,cl,DL.compEnv])).trans ?_;refine(aj (e:=[some (.sh A),some (.own (.lst (X++X1))),x2,some (.sh (.tup SS)),none,some (.sh (.tup BB)),none,some (.sh (.tup OO)),some (.sh (.tup GG)),x9,none]) (by simp[h1,freed])).trans ?_;refine(aj (e:=[some (.sh A),some (.own (.lst (X++(X1++X2)))),x2,some (.sh (.tup SS)),x4,some (.sh (.tup BB)),none,some (.sh (.tup OO)),some (.sh (.tup GG)),x9,none]) (by simp[h2,freed])).trans ?_;refine(aj (e:=[some (.sh A),some (.own (.lst (X++(X1++(X2++X3))))),x2,some (.sh (.tup SS)),x4,some (.sh (.tup BB)),x6,some (.sh (.tup OO)),some (.sh (.tup GG)),x9,hU]) (by simp[h3,freed])).trans ?_;generalize X++(X1++(X2++X3))=Y at*;simp[fin]
end
def SmN:Nat->D->Prop
 |_,.int _=>True
 |_,.str _=>True
 |n+1,.tup ds=>ds.length<=1000/\∀d∈ds,SmN n d
 |n+1,.lst ds=>ds.length<=1000/\∀d∈ds,SmN n d
 |_,_=>False
theorem nL(ds:List D):iS ds ds=ds.map λd=> .tup [d,d]:=by
 induction ds with
 |nil=>rfl
 |cons d ds ih=>unfold iS at ih⊢;rw[List.zipWith_cons_cons,ih];rfl
theorem pj{f:SpF}(h:∀d∈ds,f [d,d]=some (.bl true)):bN (gT [0,1]) aK (aQ f (af (vE 0) (af (vE 1) az))) (iS ds ds) [none,none]=some ((ds.map λ_=>true).map D.bl):=by
 rw[nL,Gaw];refine cI (λd=> .tup [d,d]) (λe=>∃x y,e=[x,y]) _ _ _ ⟨_,_,rfl⟩ ?_;rintro d hd e ⟨x,y,rfl⟩;have t:=h d hd;refine⟨[some (.sh d),some (.sh d)],rfl,⟨_,_,rfl⟩,.c, ?_,rfl⟩;simp[t]
theorem MO:neB (.bl true) (.bl true)=some false:=rfl
theorem MP:neB (.bl false) (.bl false)=some false:=rfl
theorem all_true(ds:List D):(ds.map λ_=>true).all id=true:=by simp
theorem CT{f:SpF}(hl:ds.length<=1000)(h:∀d∈ds,f [d,d]=some (.bl true)):cA 2 2 (bB f) [.tup ds,.tup ds]=some (.bl true):=by
 have c:=pj h;have a:=all_true ds;generalize (ds.map λ_=>true)=B at*;have z:(iS ds ds).length<=a7:=by rw[nL];simp[a7];lia
 have zl:nW (.tup ds)=some (true,ds):=rfl;refine bc rfl ?_;unfold bB;refine v5 ?_;simp[zl,z,DL.compEnv,c,a,MO,MP]
theorem CU{f:SpF}(hl:ds.length<=1000)(h:∀d∈ds,f [d,d]=some (.bl true)):cA 2 2 (bB f) [.lst ds,.lst ds]=some (.bl true):=by
 have c:=pj h;have a:=all_true ds;generalize (ds.map λ_=>true)=B at*;have z:(iS ds ds).length<=a7:=by rw[nL];simp[a7];lia
 have zl:nW (.lst ds)=some (false,ds):=rfl;refine bc rfl ?_;unfold bB;refine v5 ?_;simp[zl,z,DL.compEnv,c,a,MO,MP]
theorem vc(n:Nat):∀d:D,SmN n d->cE (n+1) [d,d]=some (.bl true):=by
 induction n with
 |zero=>
  intro d h;show cA 2 2 (bB (cE 0)) [d,d]=_;cases d with
  |int i=>unfold bB;simp
  |str x=>unfold bB;simp
  |_=>exact(show False from h).elim
 |succ n ih=>
  intro d h;show cA 2 2 (bB (cE (n+1))) [d,d]=_;cases d with
  |int i=>unfold bB;simp
  |str x=>unfold bB;simp
  |tup ds=>exact CT h.1 λd hd=>ih d (h.2 d hd)
  |lst ds=>exact CU h.1 λd hd=>ih d (h.2 d hd)
  |_=>exact(show False from h).elim
theorem FA(h:is.length<=1000):SmN (n+1) (.tup (is.map D.int)):=⟨by simpa using h,λd hd=>by
 obtain⟨i,_,rfl⟩:=GaJ.mp hd;cases n<;>trivial⟩
theorem JU{w:Wld}(K:WOk w):SmN 6 (.lst (iV w)):=by
 refine⟨by have:=me K;lia,λd hd=> ?_⟩;unfold iV at hd;simp only[Gbs,GaJ] at hd;rcases hd with⟨_,_,rfl⟩| ⟨_,_,rfl⟩| ⟨_,_,rfl⟩| ⟨_,_,rfl⟩<;>trivial
theorem l8{α:Type}{f:α->D}{l:List α}(hl:l.length<=1000)(h:∀x∈l,SmN n (f x)):SmN (n+1) (.tup (l.map f)):=⟨by simpa using hl,λd hd=>by
 obtain⟨x,hx,rfl⟩:=GaJ.mp hd;exact h x hx⟩
theorem gE(hl:ds.length<=1000)(h:∀d∈ds,SmN n d):SmN (n+1) (.tup ds):=⟨hl,h⟩
theorem MQ{s:Stf}(K:nI s):SmN 4 (stD s):=by
 obtain⟨n,p,r,cs,y⟩:=s;rw[stE];refine gE (by simp) λd hd=> ?_;simp only[Gah,GaB,GaT] at hd;rcases hd with rfl|rfl|rfl|rfl
 .trivial
 .exact FA (by have:r.length<=7:=K.z.len;simp;lia)
 .refine l8 (by have:cs.length<=4:=K.cl;lia) λc hc=> ?_;have:=(K.c c hc).len;refine gE (by simp;lia) λd hd=> ?_;rcases Gah.mp hd with rfl|hd
  .trivial
  .obtain⟨i,_,rfl⟩:=GaJ.mp hd
   trivial
 .trivial
theorem MR{gs ss}{o:Ord}(K:iH gs ss o):SmN 4 (orD o):=by
 rw[orE];refine gE (by simp) λd hd=> ?_;simp only[Gah,GaB,GaT] at hd;rcases hd with rfl|rfl|rfl|rfl|rfl|rfl
 .trivial
 .trivial
 .trivial
 .refine gE (by simp) λd hd=> ?_;simp only[Gah,GaB,GaT] at hd;rcases hd with rfl|rfl|rfl|rfl<;>trivial
 .refine gE (by have:=K.w3.2;lia) λd hd=> ?_;have:=K.w3.1 d hd;cases d with
  |int i=>trivial
  |str x=>trivial
  |_=>exact(show False from this).elim
 .refine l8 (by have:=K.w4.1;lia) λt _=> ?_;refine gE (by simp) λd hd=> ?_;simp only[Gah,GaB,GaT] at hd;rcases hd with rfl|rfl|rfl<;>trivial
theorem JV{w:Wld}(K:WOk w):SmN 6 (gM w):=by
 have z1:=K.g.len;have z2:=K.s.len;have z3:=K.b.len;have z4:=K.o.len;refine gE (by simp) λd hd=> ?_;simp only[Gah,GaB,GaT] at hd;rcases hd with rfl|rfl|rfl|rfl
 .refine l8 (by lia) λp _=>gE (by simp[guR]) λd hd=> ?_;simp only[guR,Gah,GaB,GaT] at hd;rcases hd with rfl|rfl<;>trivial
 .exact l8 (by lia) λs hs=>MQ (K.s.ok s hs)
 .refine l8 (by lia) λp _=>gE (by simp) λd hd=> ?_;simp only[Gah,GaB,GaT] at hd;rcases hd with rfl|rfl|rfl<;>trivial
 .exact l8 (by lia) λo ho=>MR (K.o.ok o ho)
theorem FC(w:Wld):(gM w).imm=true:=by
 have a:ag (w.gs.map guD)=true:=aS λ_ _=>rfl;have b:ag (w.ss.map stD)=true:=aS λ_ _=>nJ;have c:=iG w.bs;have d:ag (w.os.map orD)=true:=aS λ_ _=>tL;unfold gM;simp[a,b,c,d]
theorem JW{ns:List Int}{w:Wld}(h:cV [.scr ns]=some (gM w))(K:WOk w):lT [.scr ns]=some (.bl true):=by
 have l1:=CQ K;have l2:=CP K;have l3:=JS K;have s1:cF [.lst (iV w),.lst (iV w)]=some (.bl true):=vc 6 _ (JU K);have s2:cF [gM w,gM w]=some (.bl true):=vc 6 _ (JV K);have i1:=md w;have i2:=FC w;have n1:(iV w).length<16777216:=by have:=me K;lia
 have n2:(iV w).length<=16777216:=by lia
 have tw:gV (gM w)=⟨.c,gM w⟩:=rfl;have to:(gM w).top=false:=rfl;generalize iV w=L at*;generalize gM w=W at*;unfold lT;refine bc rfl ?_;unfold Ca;refine(aj (e:=[some (.sh (.scr ns)),some (.sh W),none,none,none,none]) (by simp[h,tw])).trans ?_;refine(aj (e:=[some (.sh (.scr ns)),some (.sh W),some (.own (.lst L)),none,none,none]) (by simp[l1])).trans ?_;refine(aj (e:=[some (.sh (.scr ns)),some (.sh W),some (.own (.lst L)),some (.own (.lst L)),none,none]) (by simp[l2])).trans ?_;refine(aj (e:=[some (.sh (.scr ns)),some (.sh W),some (.own (.lst L)),some (.own (.lst L)),none,none]) (by simp[s1])).trans ?_;refine(aj (e:=[some (.sh (.scr ns)),some (.sh W),some (.own (.lst L)),some (.own (.lst (L++[.str "young 1"]))),none,none]) (by simp[n1,a7])).trans ?_;refine(aj (e:=[some (.sh (.scr ns)),some (.sh W),some (.own (.lst L)),some (.own (.lst (L++[.str "young 1"]))),some (.own (.lst L)),none]) (by simp[n2,a7,listS])).trans ?_;refine(aj (e:=[some (.sh (.scr ns)),some (.sh W),some (.own (.lst L)),some (.own (.lst (L++[.str "young 1"]))),some (.own (.lst L)),some (.sh W)]) (by simp[rdE,l3,i1,i2])).trans ?_;refine(aj (e:=[some (.sh (.scr ns)),some (.sh W),some (.own (.lst L)),some (.own (.lst (L++[.str "young 1"]))),some (.own (.lst L)),some (.sh W)]) (by simp[s1])).trans ?_;refine(aj (e:=[some (.sh (.scr ns)),some (.sh W),some (.own (.lst L)),some (.own (.lst (L++[.str "young 1"]))),some (.own (.lst [])),some (.sh W)]) (by simp)).trans ?_;refine(aj (e:=[some (.sh (.scr ns)),some (.sh W),some (.own (.lst L)),some (.own (.lst (L++[.str "young 1"]))),some (.own (.lst [])),some (.sh W)]) (by simp[l2,s1])).trans ?_;simp[rdE,l3,i1,i2,s2]
def cell(ns:List Int)(k:Int):Int:=if ns.length=0 then 0 else ns[(k%ns.length).toNat]?.getD 0%2147483647
def drw(ns:List Int)(k m:Int):Int:=(cell ns k*48271+(k+1)*(k+5)*69621)%2147483629%m
theorem FD(ns:List Int)(k:Int):0<=cell ns k/\cell ns k<2147483647:=by
 unfold cell;split
 .lia
 .exact⟨Gcw _ (by lia),GbW _ (by lia)⟩
theorem bh(ns:List Int)(k m:Int)(hm:0<m):0<=drw ns k m/\drw ns k m<m:=⟨Gcw _ (by lia),GbW _ hm⟩
theorem FE{ns:List Int}{k:Int}(h:0<ns.length):atD ns (k%ns.length)=some (ns[(k%ns.length).toNat]?.getD 0):=by
 unfold atD;have h1:0<=k%(ns.length:Int):=Gcw _ (by lia);have h2:k%(ns.length:Int)<ns.length:=GbW _ (by lia);rw[Gak h1];have h3:(k%(ns.length:Int)).toNat<ns.length:=by lia
 simp[h3]
theorem mf(h: -18446744073709551616<i)(h2:i<18446744073709551616):bp i j=true:=by
 unfold bp;rw[Gbh];exact .inl (Gbl (by lia))
theorem vd(h: -18446744073709551616<j)(h2:j<18446744073709551616):bp i j=true:=by
 unfold bp;rw[Gbh];exact .inr (Gbl (by lia))
theorem aX{ns:List Int}{k:Int}(hk:0<=k)(xG:k<1000000)(hm:0<m):a9 [.scr ns,.int k,.int m]=some (.int (drw ns k m)):=by
 have c:=FD ns k;have e1:∀j,bp (k+1) j=true:=λj=>mf (by lia) (by lia);have e2:∀i,bp i 48271=true:=λi=>vd (by lia) (by lia);have e3:∀i,bp i 69621=true:=λi=>vd (by lia) (by lia);unfold a9 ju;by_cases h:0<ns.length
 .have hc:cell ns k=ns[(k%ns.length).toNat]?.getD 0%2147483647:=by unfold cell;rw[Gam (by lia)]
  have h' :(0:Int)<ns.length:=by lia
  simp[h,h',FE h,e1,e2,e3,hm,<-hc,drw]
 .have hc:cell ns k=0:=by unfold cell;rw[Gak (by lia)]
  have h' :¬(0:Int)<ns.length:=by lia
  simp[h,h',e1,e2,e3,hm,drw,hc]
theorem cj(h1: -4611686018427387904<=i)(h2:i<4611686018427387904):bz i=true:=by
 unfold bz;rw[Gad];exact⟨Gbl h1,Gbl h2⟩
theorem iO{g:DG}{body:DS}(I:Nat->DL.Env->Prop):∀(ds:List D) (k:Nat) (env:DL.Env),I k env->(∀(i:Nat) d e,ds[i]? =some d->I (k+i) e->∃e1 e2,g d e=some e1/\body e1=some (.nx e2)/\I (k+i+1) e2)->∃e,forL g body ds env=some (.nx e)/\I (k+ds.length) e
 |[],k,env,h,_=> ⟨env,rfl,h⟩
 |d::ds,k,env,h,st=>by
  obtain⟨e1,e2,h1,h2,h3⟩:=st 0 d env rfl h;obtain⟨e,h4,h5⟩:=iO I ds (k+1) e2 h3 λi d' e' hd hI=>by
   have:=st (i+1) d' e' (by simpa using hd) (by rw[show k+(i+1)=k+1+i by lia];exact hI);rw[show k+(i+1)+1=k+1+i+1 by lia] at this;exact this
  refine⟨e,by simp[forL,h1,h2,h4], ?_⟩;rw[show k+(d::ds).length=k+1+ds.length by simp;lia];exact h5
variable{lo:Int}
theorem bC{i:Nat}(h:(aV lo n)[i]? =some d):i<n/\d= .int (lo+i):=by
 unfold aV at h;rw[Gap] at h;by_cases hi:i<n
 .rw[List.getElem?_range hi] at h;cases h;exact⟨hi,rfl⟩
 .rw[GaZ (by simp;lia)] at h;cases h
theorem aN:(aV lo n).length=n:=by simp[aV]
theorem bH{ns:List Int}{k:Int}(hk:0<=k)(xG:k<900000)(hm:0<m):∃n,aC [.scr ns,.int k,.int m]=some (.int n)/\1<=n/\n<=m:=by
 have d1:=aX (ns:=ns) hk (by lia) (show(0:Int)<6 by lia);have d2:=aX (ns:=ns) (show 0<=k+1 by lia) (by lia) (show(0:Int)<20 by lia);have d3:=aX (ns:=ns) (show 0<=k+1 by lia) (by lia) hm;have r2:=bh ns (k+1) 20 (by lia);have r3:=bh ns (k+1) m hm;generalize drw ns k 6=a at*;generalize drw ns (k+1) 20=b at*;generalize drw ns (k+1) m=c at*;have b1:0<=b%m:=Gcw _ (by lia);have b2:b%m<m:=GbW _ hm;unfold aC gw;by_cases h1:a<4
 .exact⟨1+b%m,by simp[d1,d2,h1,hm],by lia,by lia⟩
 .by_cases h2:a=4
  .exact⟨m,by simp[d1,h2],by lia,by lia⟩
  .exact⟨1+c,by simp[d1,d3,h1,h2],by lia,by lia⟩
theorem iI{n:Int}(h:1<=n/\n<=1000000000):Num n:=⟨by lia,h.2⟩
theorem Pe:lkT c6 (.inr "flat")=some (([1,1]:List Int).map .inl):=by decide+kernel
theorem Pf:lkT c6 (.inr "kilo")=some (([1,1,1]:List Int).map .inl):=by decide+kernel
theorem Pg:lkT c6 (.inr "ever")=some (([1]:List Int).map .inl):=by decide+kernel
theorem MS{ns:List Int}{k:Int}(hk:0<=k)(xG:k<800000):∃c,fY [.scr ns,.int k]=some (fZ c)/\nH c:=by
 obtain⟨n1,e1,a1⟩:=bH (ns:=ns) (k:=k+1) (m:=1000000000) (by lia) (by lia) (by lia);obtain⟨n2,e2,a2⟩:=bH (ns:=ns) (k:=k+3) (m:=1000000000) (by lia) (by lia) (by lia);obtain⟨n3,e3,a3⟩:=bH (ns:=ns) (k:=k+5) (m:=1000000000) (by lia) (by lia) (by lia);have d1:=aX (ns:=ns) hk (by lia) (show(0:Int)<3 by lia);generalize drw ns k 3=a at*;have wf:∀x∈(["flat","kilo","ever"]:List Str),(decide (32∉x.cps.toList)&&decide (x.length<=10))=true:=by decide+kernel
 have wd:∀x∈(["flat","kilo","ever"]:List Str),Wd (.str x):=λx hx=>by
  have:=wf x hx;rw[Gad] at this;have b:=Gas this.1;exact⟨b,Gas this.2⟩
 unfold fY kZ;by_cases h1:a=0
 .refine⟨("flat",[n1,n2]),by simp[e1,e2,d1,h1,fZ,a7],⟨[1,1],Pe,iI a1,a1.1,iI a2,a2.1,trivial⟩,by simp,wd _ (by simp)⟩
 .by_cases h2:a=1
  .refine⟨("kilo",[n1,n2,n3]),by simp[e1,e2,e3,d1,h2,fZ,a7],⟨[1,1,1],Pf,iI a1,a1.1,iI a2,a2.1,iI a3,a3.1,trivial⟩,by simp,wd _ (by simp)⟩
  .refine⟨("ever",[n2]),by simp[e1,e2,d1,h1,h2,fZ,a7],⟨[1],Pg,iI a2,a2.1,trivial⟩,by simp,wd _ (by simp)⟩
theorem JX{ns:List Int}{k:Int}(hk:0<=k)(xG:k<800000):∃d,gx [.scr ns,.int k]=some (.tup (cJ d))/\CH d:=by
 obtain⟨n1,e1,a1⟩:=bH (ns:=ns) (k:=k) (m:=500000000) (by lia) (by lia) (by lia);obtain⟨n2,e2,a2⟩:=bH (ns:=ns) (k:=k+3) (m:=1000000000) (by lia) (by lia) (by lia);obtain⟨n3,e3,a3⟩:=bH (ns:=ns) (k:=k+5) (m:=60) (by lia) (by lia) (by lia);have d1:=aX (ns:=ns) (show 0<=k+2 by lia) (by lia) (show(0:Int)<3 by lia);generalize drw ns (k+2) 3=a at*;unfold gx jw;by_cases h1:a=0
 .exact⟨.asked (n1 -1),by simp[e1,d1,h1,cJ,a7],show Num (n1 -1) from⟨by lia,by lia⟩⟩
 .have mn:(0:Int)<(if n2<n1+1 then n2 else n1+1):=by split<;>lia
  have d2:=aX (ns:=ns) (show 0<=k+7 by lia) (by lia) mn;have r2:=bh ns (k+7) _ mn;generalize drw ns (k+7) (if n2<n1+1 then n2 else n1+1)=b at*;have lb:b<n2/\b<=n1:=by
   have:=r2.2;split at this<;>lia
  have d3:=aX (ns:=ns) (show 0<=k+8 by lia) (by lia) (show(0:Int)<n2 -b by lia);have r3:=bh ns (k+8) (n2 -b) (by lia);generalize drw ns (k+8) (n2 -b)=c at*;refine⟨.due n1 n2 n3 b c, ?_,⟨by lia,by lia⟩,⟨by lia,by lia⟩,⟨by lia,by lia⟩,⟨by lia,by lia⟩,⟨by lia,by lia⟩,a2.1,a3.1,a3.2,by lia,lb.2⟩;simp[e1,e2,e3,d1,d2,d3,h1,cJ,a7,lK]
def tE(ns:List Int)(k:Int)(A:D)(ts:List (Int×Int×Int))(x y:Os):DL.Env:=[some (.sh (.scr ns)),some (.sh (.int k)),some (.sh A),some (.own (.lst (ts.map tpD))),x,y]
structure TI(m:Int)(j:Int)(ts:List (Int×Int×Int)):Prop where
 len:ts.length<=6
 pw:(ts.map (·.1)).Pairwise (· < ·)
 ok:∀t∈ts,1<=t.1/\t.1<j/\1<=t.2.1/\t.2.1<=t.2.2/\t.2.2<=1000
theorem FF{ns:List Int}{k:Int}{ts:List (Int×Int×Int)}{x:Os}(hk:0<=k)(xG:k<700000)(hj:1<=j)(Rq:j<1000)(h:TI m j ts):
  ∃zm y',ifS (dF (av ltB (dv 3) (kI 6)) (dF (av eqB (caE a9 [vE 0,vE 1,kI 4]) (kI 0)) (av eqB (caE a9 [vE 0,opE ae (opE ae (vE 1) (kI 1)) (vE 4),kI 3]) (kI 0)))) (ak (aq 5 (caE aC [vE 0,opE ae (vE 1) (kI 62),kI 1000])) (bA 3 (tpE [vE 4,opE ae (kI 1) (caE a9 [vE 0,opE ae (opE ae (vE 1) (kI 64)) (vE 4),vE 5]),vE 5]))) aD (tE ns k A ts (some (.sh (.int j))) y)=some (.nx (tE ns k A zm (some (.sh (.int j))) y'))/\TI m (j+1) zm :=by
 have up:TI m (j+1) ts:=⟨h.len,h.pw,λt ht=>by have:=h.ok t ht;lia⟩
 have d1:=aX (ns:=ns) hk (by lia) (show(0:Int)<4 by lia);have d2:=aX (ns:=ns) (show 0<=k+1+j by lia) (by lia) (show(0:Int)<3 by lia);generalize drw ns k 4=a at*;generalize drw ns (k+1+j) 3=b at*;unfold tE;by_cases h1:(ts.length:Int)<6
 .by_cases h2:a=0
  .by_cases h3:b=0
   .obtain⟨n,e1,a1⟩:=bH (ns:=ns) (k:=k+62) (m:=1000) (by lia) (by lia) (by lia);have d3:=aX (ns:=ns) (show 0<=k+64+j by lia) (by lia) (show(0:Int)<n by lia);have r3:=bh ns (k+64+j) n (by lia);generalize drw ns (k+64+j) n=c at*;refine⟨ts++[(j,1+c,n)],some (.sh (.int n)), ?_, ?_, ?_, ?_⟩
    .have z:ts.length<16777216:=by lia
     simp[h1,h2,h3,d1,d2,d3,e1,z,a7,tpD]
    .simp;lia
    .rw[GaA,List.pairwise_append];refine⟨h.pw,by simp,λu hu v hv=> ?_⟩;simp at hv;obtain⟨t,ht,rfl⟩:=GaJ.mp hu;have:=h.ok t ht;lia
    .intro t ht;rcases Gbs.mp ht with ht|ht
     .have:=h.ok t ht;lia
     .simp at ht;subst ht;simp only;lia
   .exact⟨ts,y,by simp[h1,h2,h3,d1,d2],up⟩
  .exact⟨ts,y,by simp[h1,h2,d1],up⟩
 .exact⟨ts,y,by simp[h1],up⟩
theorem CV{ns:List Int}{k:Int}{d:Due}(hk:0<=k)(xG:k<700000)(K:CH d):∃ts,dk [.scr ns,.int k,.tup (cJ d)]=some (.tup (ts.map tpD))/\Fw d ts:=by
 cases d with
 |asked b=>
  refine⟨[], ?_,rfl⟩;unfold dk dW;simp[cJ,aP]
 |due i1 i2 m i4 i5=>
  obtain⟨_,_,_,_,_,_,m1,m2,_⟩:=K;obtain⟨e,h1,ts,x,y,rfl,h2⟩:=iO (g:=gN 4) (body:=ifS (dF (av ltB (dv 3) (kI 6)) (dF (av eqB (caE a9 [vE 0,vE 1,kI 4]) (kI 0)) (av eqB (caE a9 [vE 0,opE ae (opE ae (vE 1) (kI 1)) (vE 4),kI 3]) (kI 0)))) (ak (aq 5 (caE aC [vE 0,opE ae (vE 1) (kI 62),kI 1000])) (bA 3 (tpE [vE 4,opE ae (kI 1) (caE a9 [vE 0,opE ae (opE ae (vE 1) (kI 64)) (vE 4),vE 5]),vE 5]))) aD) (λi e=>∃ts x y,e=tE ns k (.tup (cJ (.due i1 i2 m i4 i5))) ts x y/\TI m (1+(i:Int)) ts) (aV 1 (m -1).toNat) 0 (tE ns k (.tup (cJ (.due i1 i2 m i4 i5))) [] none none) ⟨[],none,none,rfl,by simp,by simp,by simp⟩ (by
   rintro i d e hd ⟨ts,x,y,rfl,h⟩;obtain⟨hi,rfl⟩:=bC hd;rw[GaG] at h;obtain⟨zm,y',h3,h4⟩:=FF (ns:=ns) (k:=k) (A:= .tup (cJ (.due i1 i2 m i4 i5))) (y:=y) (x:=x) hk xG (show 1<=1+(i:Int) by lia) (by lia) h;refine⟨_,_,rfl,h3,zm,_,y',rfl, ?_⟩;rw[GaG,show(1+((i+1:Nat):Int))=1+(i:Int)+1 by lia];exact h4)
  rw[aN,GaG] at h2;refine⟨ts, ?_,h2.len,h2.pw,λt ht=> ?_⟩
  .have sm:bz m=true:=cj (by lia) (by lia);have ti:=qf ts;have tl:ts.length<=16777216:=by have:=h2.len;lia
   unfold dk;refine bc rfl ?_;unfold dW;refine(aj (e:=tE ns k (.tup (cJ (.due i1 i2 m i4 i5))) [] none none) (by simp[tE])).trans ?_;refine(aj (e:=tE ns k (.tup (cJ (.due i1 i2 m i4 i5))) ts x y) ?_).trans ?_
   .simp only[caE,aL,tpE] at h1;unfold tE at h1⊢;simp only[cJ] at h1⊢;generalize ts.map tpD=T at*;have s1:bz 1=true:=rfl;rw[show(m -1).toNat=m.toNat -1 by lia,Gcm] at h1;simp[sm,s1,h1,freed]
   .unfold tE;simp[aP,ti]
  .have:=h2.ok t ht;lia
theorem MT(h:0<=i/\i<3):∃w:Str,atD [D.str "down",D.str "up",D.str "near"] i=some (.str w)/\(w="down"\/w="up"\/w="near"):=by
 have:i=0\/i=1\/i=2:=by lia
 rcases this with rfl|rfl|rfl
 .exact⟨_,rfl,.inl rfl⟩
 .exact⟨_,rfl,.inr (.inl rfl)⟩
 .exact⟨_,rfl,.inr (.inr rfl)⟩
theorem FG{ns:List Int}{k:Int}{n:Str}{ss:List Stf}(hk:0<=k)(xG:k<600000)(hn:Nam n)(S:l0 ss)(hp:∀s∈ss,s.p<=400000)(hg:0<gs.length)(hs:0<ss.length)(ya:gs.length<=6):
  ∃o,dJ [.scr ns,.int k,.str n,.tup (gs.map guD),.tup (ss.map stD)]=some (orD o)/\iH gs ss o/\o.n=n:=by
 have eW:=S.len;have d1:=aX (ns:=ns) hk (by lia) (show(0:Int)<gs.length by lia);have r1:=bh ns k gs.length (by lia);have d2:=aX (ns:=ns) (show 0<=k+1 by lia) (by lia) (show(0:Int)<ss.length by lia);have r2:=bh ns (k+1) ss.length (by lia);generalize drw ns k gs.length=g at*;generalize drw ns (k+1) ss.length=s at*;obtain⟨q,hq,f1,_⟩:=nK (f:=λs:Stf=>s.n) r2.1 r2.2;have a2:=gD (f:=stD) r2.1 f1;have z:=(S.ok q hq).z;have zp:=z.pos;have p4:=hp q hq;have x0:ixD (stD q) (.int 1)=some (.tup ((q.p::q.r).map D.int)):=rfl;have d3:=aX (ns:=ns) (show 0<=k+3 by lia) (by lia) (show(0:Int)<2 by lia);have r3:=bh ns (k+3) 2 (by lia);generalize drw ns (k+3) 2=b at*;obtain⟨M,eM,hM⟩:∃M:Int,atD [D.int 20,D.int (1999*q.p+1)] b=some (.int M)/\0<M:=by
  have:b=0\/b=1:=by lia
  rcases this with rfl|rfl
  .exact⟨20,rfl,by lia⟩
  .exact⟨_,rfl,by lia⟩
 have d4:=aX (ns:=ns) (show 0<=k+2 by lia) (by lia) hM;have r4:=bh ns (k+2) M hM;generalize drw ns (k+2) M=c at*;obtain⟨n4,e4,a4⟩:=bH (ns:=ns) (k:=k+4) (m:=1000000000) (by lia) (by lia) (by lia);have d6:=aX (ns:=ns) (show 0<=k+6 by lia) (by lia) (show(0:Int)<3 by lia);generalize drw ns (k+6) 3=d at*;have d7:=aX (ns:=ns) (show 0<=k+7 by lia) (by lia) (show(0:Int)<3 by lia);have r7:=bh ns (k+7) 3 (by lia);generalize drw ns (k+7) 3=e at*;obtain⟨w,ew,hw⟩:=MT r7;obtain⟨n8,e8,a8⟩:=bH (ns:=ns) (k:=k+8) (m:=1000000000) (by lia) (by lia) (by lia);obtain⟨du,ed,kd⟩:=JX (ns:=ns) (k:=k+10) (by lia) (by lia);obtain⟨ts,et,kt⟩:=CV (ns:=ns) (k:=k+20) (by lia) (by lia) kd;have dt:gV (.tup (cJ du))=⟨.c,.tup (cJ du)⟩:=rfl;have m1:bp 1999 q.p=true:=by simp[bp]
 have m2:bp 2000 q.p=true:=by simp[bp]
 have m3:∀i:Int,bp n4 i=true:=λi=>mf (by lia) (by lia);obtain⟨P,eP,kP⟩:∃P:Int,n4*(if decide (0<d) then 1 else 0)=P/\Num P:=by
  by_cases h:0<d
  .exact⟨n4,by simp[h],by lia,a4.2⟩
  .exact⟨0,by simp[h],by lia,by lia⟩
 obtain⟨k8,ek,R9⟩:∃k8:Int,(if 2000*q.p<q.p+c then 2000*q.p else q.p+c)=k8/\q.p<=k8/\k8<=2000*q.p:=by
  refine⟨_,rfl, ?_⟩;split<;>lia
 refine⟨⟨n,g,s,w,n8,P,k8,du,ts⟩, ?_,⟨hn,r1.1,r1.2,r2.1,r2.2,hw,iI a8,a8.1,kP,(show Num k8 from⟨by lia,by lia⟩),λq' h' =>by rw[f1] at h';cases h';exact R9,kd,kt⟩,rfl⟩;have ln1:((gs.map guD).length:Int)=gs.length:=by simp
 have ln2:((ss.map stD).length:Int)=ss.length:=by simp
 generalize gs.map guD=GG at*;generalize ss.map stD=SS at*;generalize stD q=qD at*;rw[orE];have dl:=Fx du;have tl:=qf ts;generalize cJ du=DL at*;generalize ts.map tpD=TL at*;unfold dJ;refine bc rfl ?_;unfold iA;refine(aj (e:=[some (.sh (.scr ns)),some (.sh (.int k)),some (.sh (.str n)),some (.sh (.tup GG)),some (.sh (.tup SS)),some (.sh (.int g)),none,none,none,none,none,none]) (by simp[ln1,d1])).trans ?_;refine(aj (e:=[some (.sh (.scr ns)),some (.sh (.int k)),some (.sh (.str n)),some (.sh (.tup GG)),some (.sh (.tup SS)),some (.sh (.int g)),some (.sh (.int s)),none,none,none,none,none]) (by simp[ln2,d2])).trans ?_;refine(aj (e:=[some (.sh (.scr ns)),some (.sh (.int k)),some (.sh (.str n)),some (.sh (.tup GG)),some (.sh (.tup SS)),some (.sh (.int g)),some (.sh (.int s)),some (.sh (.int q.p)),none,none,none,none]) (by simp[a2,x0])).trans ?_;refine(aj (e:=[some (.sh (.scr ns)),some (.sh (.int k)),some (.sh (.str n)),some (.sh (.tup GG)),some (.sh (.tup SS)),some (.sh (.int g)),some (.sh (.int s)),some (.sh (.int q.p)),some (.sh (.int (q.p+c))),none,none,none]) (by simp[d3,eM,d4,m1,a7])).trans ?_;refine(aj (e:=[some (.sh (.scr ns)),some (.sh (.int k)),some (.sh (.str n)),some (.sh (.tup GG)),some (.sh (.tup SS)),some (.sh (.int g)),some (.sh (.int s)),some (.sh (.int q.p)),some (.sh (.int k8)),none,none,none]) (by simp[m2,lK,ek])).trans ?_;refine(aj (e:=[some (.sh (.scr ns)),some (.sh (.int k)),some (.sh (.str n)),some (.sh (.tup GG)),some (.sh (.tup SS)),some (.sh (.int g)),some (.sh (.int s)),some (.sh (.int q.p)),some (.sh (.int k8)),some (.sh (.int P)),none,none]) (by simp[e4,d6,m3,mS];simpa using eP)).trans ?_;refine(aj (e:=[some (.sh (.scr ns)),some (.sh (.int k)),some (.sh (.str n)),some (.sh (.tup GG)),some (.sh (.tup SS)),some (.sh (.int g)),some (.sh (.int s)),some (.sh (.int q.p)),some (.sh (.int k8)),some (.sh (.int P)),some (.sh (.tup [.str w,.int n8,.int P,.int k8])),none]) (by simp[d7,ew,e8,a7])).trans ?_;refine(aj (e:=[some (.sh (.scr ns)),some (.sh (.int k)),some (.sh (.str n)),some (.sh (.tup GG)),some (.sh (.tup SS)),some (.sh (.int g)),some (.sh (.int s)),some (.sh (.int q.p)),some (.sh (.int k8)),some (.sh (.int P)),some (.sh (.tup [.str w,.int n8,.int P,.int k8])),some (.sh (.tup DL))]) (by simp[ed])).trans ?_;simp[et,a7,dl,tl]
def sE(ns:List Int)(k:Int)(n:Str)(p:Int)(sz:List Int)(f:Int)(x:Os):DL.Env:=[some (.sh (.scr ns)),some (.sh (.int k)),some (.sh (.str n)),some (.sh (.int p)),some (.own (.lst (sz.map D.int))),some (.sh (.int f)),x,none,none]
structure SI(p:Int)(j:Nat)(f:Int)(r:List Int):Prop where
 len:r.length=j
 f1:1<=f
 f2:f<=1+285*j
 ris:nZ (p::r)
 ok:∀x∈p::r,∃c:Int,x=c*p/\1<=c/\c<=f
 last:∃l x,p::r=l++[x]/\x=f*p
theorem pk:∀{l:List Int} {x y:Int},nZ (l++[x])->x<y->nZ (l++[x]++[y])
 |[],x,y,_,h=> ⟨h,trivial⟩
 |[a],x,y,h,h2=> ⟨h.1,h2,trivial⟩
 |a::b::l,x,y,h,h2=> ⟨h.1,pk (l:=b::l) h.2 h2⟩
theorem FH{ns:List Int}{k f:Int}{n:Str}{r:List Int}{j:Nat}{x:Os}(hk:0<=k)(xG:k<800000)(hp:1<=p)(yZ:p<=400000)(hj:j<7)(h:SI p j f r):
  ∃f' r',ak (aq 5 (opE ae (opE ae (vE 5) (kI 1)) (aQ a9 (af (vE 0) (af (opE ae (opE ae (vE 1) (kI 3)) (vE 6)) (af (ixE (gK (af (kI 4) (af (kI 285) az))) (aQ a9 (af (vE 0) (af (opE ae (vE 1) (kI 11)) (af (kI 2) az))))) az)))))) (bA 4 (opE ck (vE 5) (vE 3))) (sE ns k n p (p::r) f (some (.sh (.int (j:Int)))))=some (.nx (sE ns k n p (p::r') f' (some (.sh (.int (j:Int))))))/\SI p (j+1) f' r' :=by
 have d1:=aX (ns:=ns) (show 0<=k+11 by lia) (by lia) (show(0:Int)<2 by lia);have r1:=bh ns (k+11) 2 (by lia);generalize drw ns (k+11) 2=b at*;obtain⟨M,eM,hM⟩:∃M:Int,atD [D.int 4,D.int 285] b=some (.int M)/\0<M/\M<=285:=by
  have:b=0\/b=1:=by lia
  rcases this with rfl|rfl
  .exact⟨4,rfl,by lia⟩
  .exact⟨285,rfl,by lia⟩
 have d2:=aX (ns:=ns) (show 0<=k+3+(j:Int) by lia) (by lia) hM.1;have r2:=bh ns (k+3+(j:Int)) M hM.1;generalize drw ns (k+3+(j:Int)) M=c at*;obtain⟨h1,h2,h3,h4,h5,l,x0,h6,h7⟩:=h;have m:bp (f+1+c) p=true:=mf (by lia) (by lia);have hf:f*p<(f+1+c)*p:=Int.mul_lt_mul_of_pos_right (by lia) (by lia);refine⟨f+1+c,r++[(f+1+c)*p], ?_,by simp[h1],by lia,by lia, ?_, ?_,p::r,_,rfl,rfl⟩
 .have z:r.length+1<16777216:=by lia
  generalize (j:Int)=J at*;unfold sE;simp[d1,d2,eM,m,z,a7]
 .rw[<-GbP,h6];exact pk (by rw[<-h6];exact h4) (by rw[h7];exact hf)
 .intro x hx;rw[<-GbP,Gbs] at hx;rcases hx with hx|hx
  .obtain⟨c',e,q1,q2⟩:=h5 x hx;exact⟨c',e,q1,by lia⟩
  .simp at hx;exact⟨_,hx,by lia,by lia⟩
theorem pq:∀{l:List Int} {n:Nat},nZ l->nZ (l.take n)
 |[],n,h=>by simp;trivial
 |[a],0,h=>trivial
 |[a],n+1,h=>by simp;exact trivial
 |a::b::l,0,h=>trivial
 |a::b::l,1,h=>trivial
 |a::b::l,n+2,h=> ⟨h.1,pq (l:=b::l) (n:=n+1) h.2⟩
theorem rF:∀{l:List Int} {y:Int},nZ l->(∀x∈l,x<y)->nZ (l++[y])
 |[],y,_,_=>trivial
 |[a],y,_,h=> ⟨h a (by simp),trivial⟩
 |a::b::l,y,h,h2=> ⟨h.1,rF (l:=b::l) h.2 λx hx=>h2 x (by simp at hx⊢;exact .inr hx)⟩
theorem dM{α:Type}{g:DG}{f:DE}(emb:α->D)(R:Nat->α->Prop)(C:DL.Env->Prop):∀(ds:List D) (j:Nat) (e:DL.Env),C e->(∀(i:Nat) d,ds[i]? =some d->∀e,C e->∃e',g d e=some e' /\C e' /\∃x k,f e' =some ⟨k,emb x⟩/\RV.free ⟨k,emb x⟩=true/\R (j+i) x)->
  ∃xs:List α,bN g aK f ds e=some (xs.map emb)/\xs.length=ds.length/\∀(i:Nat) x,xs[i]? =some x->R (j+i) x
 |[],j,e,_,_=> ⟨[],rfl,rfl,λi x h=>by simp at h⟩
 |d::ds,j,e,hC,st=>by
  obtain⟨e',h1,h2,x,k,h3,h4,h5⟩:=st 0 d rfl e hC;obtain⟨xs,h6,h7,h8⟩:=dM emb R C ds (j+1) e' h2 λi d' hd e he=>by
   have:=st (i+1) d' (by simpa using hd) e he;rw[show j+(i+1)=j+1+i by lia] at this;exact this
  refine⟨x::xs,by simp[bN,h1,h3,h4,h6],by simp[h7],λi y hy=> ?_⟩;cases i with
  |zero=>cases hy;exact h5
  |succ i=>
   rw[show j+(i+1)=j+1+i by lia];exact h8 i y (by simpa using hy)
theorem rG{f:Int}{j:Nat}{r:List Int}(hp:1<=p)(yZ:p<=400000)(hj:j<=7)(h:SI p j f r):p7 p r:=by
 refine⟨by rw[h.len];exact hj,hp,h.ris,λx hx=> ?_,λx hx=> ?_⟩
 .obtain⟨c,rfl,_⟩:=h.ok x hx;exact Int.mul_emod_left c p
 .obtain⟨c,rfl,c1,c2⟩:=h.ok x hx;have:=h.f2;have u1:1*1<=c*p:=Int.mul_le_mul c1 hp (by lia) (by lia);have u2:c*p<=2000*p:=Int.mul_le_mul_of_nonneg_right (by lia) (by lia);lia
theorem A1{f:Int}{j:Nat}{r:List Int}(hp:1<=p)(yZ:p<=400000)(hj:j<=7)(h:SI p j f r):p7 p (r.take 6++[2000*p]):=by
 have S:=rG hp yZ hj h;have mem:∀x∈p::r.take 6,x∈p::r:=λx hx=>by
  rcases Gah.mp hx with rfl|hx
  .simp
  .exact Gat _ (Gbx hx)
 refine⟨by simp;lia,hp, ?_,λx hx=> ?_,λx hx=> ?_⟩
 .rw[<-GbP,show p::r.take 6=(p::r).take 7 from rfl];refine rF (pq h.ris) λx hx=> ?_;obtain⟨c,rfl,c1,c2⟩:=h.ok x (Gbx hx);have:=h.f2;exact Int.mul_lt_mul_of_pos_right (by lia) (by lia)
 .rw[<-GbP,Gbs] at hx;rcases hx with hx|hx
  .exact S.dvd x (mem x hx)
  .simp at hx;subst hx;exact Int.mul_emod_left 2000 p
 .rw[<-GbP,Gbs] at hx;rcases hx with hx|hx
  .exact S.top x (mem x hx)
  .simp at hx;subst hx;lia
theorem FI{ns:List Int}{k:Int}{n:Str}(hk:0<=k)(xG:k<700000)(hn:Nam n):∃s:Stf,dI [.scr ns,.int k,.str n]=some (stD s)/\nI s/\s.n=n/\s.p<=400000:=by
 obtain⟨p,e1,p1,p2⟩:=bH (ns:=ns) (k:=k) (m:=400000) (by lia) (by lia) (by lia);have d2:=aX (ns:=ns) (show 0<=k+2 by lia) (by lia) (show(0:Int)<8 by lia);have r2:=bh ns (k+2) 8 (by lia);generalize drw ns (k+2) 8=c at*;obtain⟨e,h1,f,r,x,rfl,h2⟩:=iO (g:=gN 6) (body:=ak (aq 5 (opE ae (opE ae (vE 5) (kI 1)) (aQ a9 (af (vE 0) (af (opE ae (opE ae (vE 1) (kI 3)) (vE 6)) (af (ixE (gK (af (kI 4) (af (kI 285) az))) (aQ a9 (af (vE 0) (af (opE ae (vE 1) (kI 11)) (af (kI 2) az))))) az)))))) (bA 4 (opE ck (vE 5) (vE 3)))) (λi e=>∃f r x,e=sE ns k n p (p::r) f x/\SI p i f r) (aV 0 c.toNat) 0 (sE ns k n p [p] 1 none) ⟨1,[],none,rfl,rfl,by lia,by lia,trivial,λx hx=> ⟨1,by simpa using hx,by lia,by lia⟩,[],p,rfl,by lia⟩ (by
  rintro i d e hd ⟨f,r,x,rfl,h⟩;obtain⟨hi,rfl⟩:=bC hd;rw[GaG] at h;obtain⟨f',r',h3,h4⟩:=FH (ns:=ns) (k:=k) (n:=n) (x:=x) hk (by lia) p1 p2 (by lia) h;rw[show(0:Int)+(i:Int)=(i:Int) by lia];exact⟨_,_,rfl,h3,f',r',_,rfl,by rw[GaG];exact h4⟩)
 rw[aN,GaG] at h2;have d3:=aX (ns:=ns) (show 0<=k+48 by lia) (by lia) (show(0:Int)<8 by lia);generalize drw ns (k+48) 8=b at*;obtain⟨r',K,er⟩:∃r',p7 p r' /\(if b=0 then p::(r.take 6++[2000*p]) else p::r)=p::r' :=by
  by_cases hb:b=0
  .exact⟨_,A1 p1 p2 (by lia) h2,by rw[Gak hb]⟩
  .exact⟨r,rG p1 p2 (by lia) h2,by rw[Gam hb]⟩
 have d4:=aX (ns:=ns) (show 0<=k+44 by lia) (by lia) (show(0:Int)<5 by lia);have r4:=bh ns (k+44) 5 (by lia);generalize drw ns (k+44) 5=m at*;obtain⟨cs,h3,h4,h5⟩:=dM (g:=gN 0) (f:=aQ fY (af (vE 1) (af (opE ae (opE ae (vE 2) (kI 12)) (opE ck (kI 8) (vE 0))) az))) fZ (λ_ c=>nH c) (λe=>∃z,e=[z,some (.sh (.scr ns)),some (.sh (.int k))]) (aV 0 m.toNat) 0 [none,some (.sh (.scr ns)),some (.sh (.int k))] ⟨_,rfl⟩ (by
  rintro i d hd e ⟨z,rfl⟩;obtain⟨hi,rfl⟩:=bC hd;obtain⟨c,ec,kc⟩:=MS (ns:=ns) (k:=k+12+8*(0+(i:Int))) (by lia) (by lia);refine⟨_,rfl,⟨_,rfl⟩,c,.c, ?_,rfl,kc⟩;generalize (0+(i:Int))=I at*;have mm:bp 8 I=true:=by simp[bp]
  have ct:gV (fZ c)=⟨.c,fZ c⟩:=rfl;simp[mm,ec,ct])
 rw[aN] at h4;obtain⟨y,e5,a5⟩:=bH (ns:=ns) (k:=k+45) (m:=1000000000) (by lia) (by lia) (by lia);have d6:=aX (ns:=ns) (show 0<=k+47 by lia) (by lia) (show(0:Int)<3 by lia);generalize drw ns (k+47) 3=u at*;have m3:∀i:Int,bp y i=true:=λi=>mf (by lia) (by lia);obtain⟨Y,eY,kY⟩:∃Y:Int,y*(if decide (u=0) then 1 else 0)=Y/\Num Y:=by
  by_cases h:u=0
  .exact⟨y,by simp[h],by lia,a5.2⟩
  .exact⟨0,by simp[h],by lia,by lia⟩
 refine⟨⟨n,p,r',cs,Y⟩, ?_,⟨hn,K,by show cs.length<=4;lia,λc hc=> ?_,kY⟩,rfl,p2⟩
 rotate_left
 .obtain⟨i,hi⟩:=GaN hc;exact h5 i c hi
 have kl:=K.len;have rl:=h2.len;have zM:bz c=true:=cj (by lia) (by lia);have zL:bz m=true:=cj (by lia) (by lia);have m2:bp 2000 p=true:=by simp[bp]
 have si:=iD (p::r');have ci:=CF cs;rw[stE];unfold dI;refine bc rfl ?_;unfold iz;refine(aj (e:=[some (.sh (.scr ns)),some (.sh (.int k)),some (.sh (.str n)),some (.sh (.int p)),none,none,none,none,none]) (by simp[e1])).trans ?_;refine(aj (e:=[some (.sh (.scr ns)),some (.sh (.int k)),some (.sh (.str n)),some (.sh (.int p)),some (.own (.lst [.int p])),none,none,none,none]) (by simp[a7])).trans ?_;refine(aj (e:=sE ns k n p [p] 1 none) (by simp[sE])).trans ?_;refine(aj (e:=sE ns k n p (p::r) f x) (by
  unfold sE at h1⊢;simp only[Gau,Gcm] at h1;simp[d2,zM,h1,freed])).trans ?_
 refine(aj (e:=sE ns k n p (p::r') f x) (by
  rw[<-er];unfold sE;by_cases hb:b=0
  .have z1:((p::r).map D.int).length=r.length+1:=by simp
   have cu:cutD ((p::r).map D.int) none (some 7)=((p::r).take 7).map D.int:=by
    rw[GcF];generalize (p::r).map D.int=L;simp[cutD,sIx]
   have z2:(((p::r).take 7).map D.int).length+1<=16777216:=by simp;lia
   rw[Gak hb];rw[show(p::(r.take 6++[2000*p])).map D.int=((p::r).take 7).map D.int++[.int (2000*p)] by simp];generalize ((p::r).take 7).map D.int=C at*;generalize (p::r).map D.int=L at*;simp[d3,hb,m2,cu,z2,a7]
  .rw[Gam hb];generalize (p::r).map D.int=L at*;simp[d3,hb])).trans ?_
 have z3:((p::r').map D.int).length<=16777216:=by simp;lia
 generalize hSZ:(p::r').map D.int=SZ at*;have cl:cs.length<=16777216:=by lia
 generalize cs.map fZ=CS at*;refine(aj (e:=[some (.sh (.scr ns)),some (.sh (.int k)),some (.sh (.str n)),some (.sh (.int p)),some (.own (.lst SZ)),some (.sh (.int f)),x,some (.sh (.tup CS)),none]) (by
  have rl:(aV 0 m.toNat).length<=a7:=by rw[aN];unfold a7;lia
  unfold sE;rw[hSZ];simp[d4,zL,rl,DL.compEnv,cG,h3,aP,ci])).trans ?_
 refine(aj (e:=[some (.sh (.scr ns)),some (.sh (.int k)),some (.sh (.str n)),some (.sh (.int p)),some (.own (.lst SZ)),some (.sh (.int f)),x,some (.sh (.tup CS)),some (.sh (.int Y))]) (by simp[e5,d6,m3,mS];simpa using eY)).trans ?_;simp[aP,a7,si,ci]
structure BI(n:Nat)(a b:Int)(bs:List Br):Prop where
 len:bs.length<=12
 nd:(bs.map λp=>(p.1,p.2.1)).Nodup
 ok:∀p∈bs,JQ n p/\(p.1<a\/p.1=a/\p.2.1<b)
variable{a b:Int}
theorem BI.up{a' b' :Int}{bs:List Br}(h:BI n a b bs)(q:∀x y:Int,y<n->x<a\/x=a/\y<b->x<a' \/x=a' /\y<b'):BI n a' b' bs:=⟨h.len,h.nd,λp hp=> ⟨(h.ok p hp).1,q _ _ (h.ok p hp).1.hi (h.ok p hp).2⟩⟩
theorem BI.ins{n:Nat}{a b g:Int}{bs:List Br}{j:Nat}(h:BI n a b bs)(hl:bs.length<12)(h0:0<=a)(h1:a<=b)(h2:b<n)(hg:1<=g/\g<=1000000000):BI n a (b+1) (bs.take j++(a,b,g)::bs.drop j):=by
 have pm:(bs.take j++(a,b,g)::bs.drop j).Perm ((a,b,g)::bs):=by
  have:=List.perm_middle (a:=((a,b,g):Br)) (l₁:=bs.take j) (l₂:=bs.drop j);rw[List.take_append_drop] at this;exact this
 refine⟨by rw[pm.length_eq];simp;lia, ?_,λp hp=> ?_⟩
 .rw[(pm.map _).nodup_iff,Gau,GaP];refine⟨λz=> ?_,h.nd⟩;obtain⟨p,hp,e⟩:=GaJ.mp z;simp only[GcE] at e;have:=(h.ok p hp).2;lia
 .rcases Gah.mp (pm.mem_iff.mp hp) with rfl|hp
  .exact⟨⟨h0,h1,h2,iI hg,hg.1⟩,.inr ⟨rfl,by show b<b+1;lia⟩⟩
  .have:=h.ok p hp;exact⟨this.1,this.2.imp id λz=> ⟨z.1,by lia⟩⟩
def bE'(ns:List Int)(k:Int)(m:Int)(bs:List Br)(x y z:Os):DL.Env:=[some (.sh (.scr ns)),some (.sh (.int k)),some (.sh (.int m)),some (.own (.lst (bs.map bF))),x,y,z]
def rH:DS:=ak (aq 6 (opE ae (vE 1) (opE ck (kI 3) (opE ae (opE ck (kI 6) (vE 4)) (vE 5))))) (ifS (dF (av ltB (dv 3) (kI 12)) (av gtB (aQ a9 (af (vE 0) (af (vE 6) (af (kI 3) az)))) (kI 0))) (Ez 3 (aQ a9 (af (vE 0) (af (vE 6) (af (opE ae (dv 3) (kI 1)) az)))) (dq (af (vE 4) (af (vE 5) (af (aQ aC (af (vE 0) (af (opE ae (vE 6) (kI 1)) (af (kI 1000000000) az)))) az))))) aD)
variable{N:Int}
theorem CW{ns:List Int}{k:Int}{bs:List Br}{z:Os}(hk:0<=k)(xG:k<700000)(h0:0<=a)(h1:a<=b)(h2:b<n)(h6:b<6)(h:BI n a b bs):
  ∃xn z',rH
   (bE' ns k N bs (some (.sh (.int a))) (some (.sh (.int b))) z)=some (.nx (bE' ns k N xn (some (.sh (.int a))) (some (.sh (.int b))) z'))/\BI n a (b+1) xn :=by
 unfold rH;have up:BI n a (b+1) bs:=h.up λx y _ q=>by lia
 obtain⟨i,ei⟩:∃i,i=k+3*(6*a+b):=⟨_,rfl⟩
 have i1:0<=i:=by lia
 have i2:i<800000:=by lia
 have m1:bp 6 a=true:=by simp[bp]
 have m2:bp 3 (6*a+b)=true:=by simp[bp]
 have d1:=aX (ns:=ns) i1 (by lia) (show(0:Int)<3 by lia);generalize drw ns i 3=c at*;have s1:aq 6 (opE ae (vE 1) (opE ck (kI 3) (opE ae (opE ck (kI 6) (vE 4)) (vE 5)))) (bE' ns k N bs (some (.sh (.int a))) (some (.sh (.int b))) z)=some (.nx (bE' ns k N bs (some (.sh (.int a))) (some (.sh (.int b))) (some (.sh (.int i))))):=by
  unfold bE';rw[ei];simp[m1,m2]
 by_cases h3:(bs.length:Int)<12/\0<c
 .obtain⟨g,e1,a1⟩:=bH (ns:=ns) (k:=i+1) (m:=1000000000) (by lia) (by lia) (by lia);have d2:=aX (ns:=ns) i1 (by lia) (show(0:Int)<(bs.length:Int)+1 by lia);have r2:=bh ns i ((bs.length:Int)+1) (by lia);generalize drw ns i ((bs.length:Int)+1)=j at*;refine⟨_,some (.sh (.int i)),(aj s1).trans ?_,BI.ins (j:=min j.toNat bs.length) h (by lia) h0 h1 h2 a1⟩
  .have sm:bz j=true:=cj (by lia) (by lia);have z1:bs.length<16777216:=by lia
   have j0:¬j<0:=by lia
   have e2:(bs.take (min j.toNat bs.length)++((a,b,g):Br)::bs.drop (min j.toNat bs.length)).map bF=fV (bs.map bF) j (.tup [.int a,.int b,.int g]):=by
    unfold fV;rw[Gam j0,Gax];simp[bF]
   unfold bE';rw[e2];have ln:((bs.map bF).length:Int)=bs.length:=by simp
   have ln2:(bs.map bF).length<16777216:=by simpa using z1
   generalize bs.map bF=BB at*;simp[ln,h3.1,h3.2,d1,d2,e1,sm,ln2,a7]
 .refine⟨bs,some (.sh (.int i)),(aj s1).trans ?_,up⟩;have ln:((bs.map bF).length:Int)=bs.length:=by simp
  unfold bE';generalize bs.map bF=BB at*;by_cases h4:(bs.length:Int)<12
  .have h5:¬0<c:=λz=>h3 ⟨h4,z⟩;simp[ln,h4,h5,d1]
  .simp[ln,h4]
theorem sm6{x:Int}(h0:0<=x)(h1:x<=6):bz x=true:=cj (by lia) (by lia)
theorem JY{ns:List Int}{k A:Int}{bs:List Br}{z:Os}(hk:0<=k)(xG:k<700000)(h0:0<=A)(h1:A<N)(h6:N<=6)(hN:N=n)(h:BI n A A bs):∃xn y' z',cL none (fJ (vE 4) (vE 2)) (gN 5) rH (bE' ns k N bs (some (.sh (.int A))) y z)=some (.nx (bE' ns k N xn (some (.sh (.int A))) y' z'))/\BI n (A+1) (A+1) xn :=by
 obtain⟨e,h2,xn,y',z',rfl,h3⟩:=iO (g:=gN 5) (body:=rH) (λi e=>∃xn y' z',e=bE' ns k N xn (some (.sh (.int A))) y' z' /\BI n A (A+(i:Int)) xn) (aV A (N -A).toNat) 0 (bE' ns k N bs (some (.sh (.int A))) y z) ⟨bs,y,z,rfl,by rw[show A+((0:Nat):Int)=A by lia];exact h⟩ (by
  rintro i d e hd ⟨xn,y',z',rfl,h⟩;obtain⟨hi,rfl⟩:=bC hd;rw[GaG] at h;obtain⟨Qa,z2,h3,h4⟩:=CW (ns:=ns) (k:=k) (N:=N) (z:=z') hk xG h0 (show A<=A+(i:Int) by lia) (by lia) (by lia) h;refine⟨_,_,rfl,h3,Qa,_,z2,rfl, ?_⟩;rw[GaG,show A+((i+1:Nat):Int)=A+i+1 by lia];exact h4)
 rw[aN,GaG] at h3;refine⟨xn,y',z', ?_,h3.up λx y hy q=>by lia⟩;have s1:=sm6 h0 (by lia);have s2:=sm6 (x:=N) (by lia) h6;clear h3 h hN;unfold bE' at h2⊢;generalize xn.map bF=B1 at*;generalize bs.map bF=B0 at*;generalize rH=bb at*;simp[s1,s2,h2,freed]
theorem JZ{ns:List Int}{k:Int}(hk:0<=k)(xG:k<700000)(h0:0<=N)(h6:N<=6)(hN:N=n):∃bs,fE [.scr ns,.int k,.int N]=some (.tup (bs.map bF))/\Fv n bs:=by
 obtain⟨e,h2,xn,x',y',z',rfl,h3⟩:=iO (g:=gN 4) (body:=cL none (fJ (vE 4) (vE 2)) (gN 5) rH) (λi e=>∃xn x' y' z',e=bE' ns k N xn x' y' z' /\BI n (i:Int) (i:Int) xn) (aV 0 N.toNat) 0 (bE' ns k N [] none none none) ⟨[],none,none,none,rfl,by simp,by simp,by simp⟩ (by
  rintro i d e hd ⟨xn,x',y',z',rfl,h⟩;obtain⟨hi,rfl⟩:=bC hd;rw[GaG] at h;rw[show(0:Int)+(i:Int)=i by lia];obtain⟨Qa,y2,z2,h3,h4⟩:=JY (ns:=ns) (k:=k) (N:=N) (A:=(i:Int)) (y:=y') (z:=z') hk xG (by lia) (by lia) h6 hN h;refine⟨_,_,rfl,h3,Qa,_,y2,z2,rfl, ?_⟩;rw[GaG];exact h4)
 refine⟨xn, ?_,h3.len,h3.nd,λp hp=>(h3.ok p hp).1⟩;have s2:=sm6 h0 h6;have bi:=iG xn;have bl:xn.length<=16777216:=by have:=h3.len;lia
 clear h3 hN;unfold fE;refine bc rfl ?_;rw[show jv=ak (aq 3 (gK az)) (ak (cL none (aZ (vE 2)) (gN 4) (cL none (fJ (vE 4) (vE 2)) (gN 5) rH)) (retS (blE aP [vE 3]))) from rfl];refine(aj (e:=bE' ns k N [] none none none) (by simp[bE'])).trans ?_;refine(aj (e:=bE' ns k N xn x' y' z') (by
  unfold bE' at h2⊢;generalize xn.map bF=B1 at*;generalize cL none (fJ (vE 4) (vE 2)) (gN 5) rH=bb at*;rw[Gcm] at h2⊢;simp[s2,h2,freed])).trans ?_
 unfold bE';generalize xn.map bF=B1 at*;simp[aP,bi]
theorem nil_eq:Str.ofString ""=⟨#[]⟩:=by decide+kernel
theorem join_nil:∀l:List Nat,Str.join ⟨#[]⟩ (l.map λc=> ⟨#[c]⟩)=⟨l.toArray⟩
 |[]=>rfl
 |[c]=>rfl
 |c::d::l=>by
  show(⟨#[c]⟩:Str)++ ⟨#[]⟩++Str.join ⟨#[]⟩ ((d::l).map λc=> ⟨#[c]⟩)=_;rw[join_nil (d::l)];exact qc (by simp[GbL])
theorem CY(l:List Nat):k6 (l.map bf)=some (l.map λc=> ⟨#[c]⟩):=by
 rw[show l.map bf=(l.map λc=>(⟨#[c]⟩:Str)).map D.str by rw[Gaw];rfl,strs_map]
theorem nM{l:List Nat}(h:l.length<=100):cB "" (.lst (l.map bf))=some ⟨.c,.str ⟨l.toArray⟩⟩:=by
 have s:((l.map λc=>(⟨#[c]⟩:Str)).map (·.length)).sum=l.length:=by
  induction l with
  |nil=>rfl
  |cons c l ih=>
   have:=ih (by simp at h;lia);simp only[Gau,List.sum_cons,this,GaE];show 1+l.length=_;lia
 rw[iM,CY,nil_eq,Option.bind_some,s,Gak (by show _+_*0<=_;unfold a7;lia),join_nil]
def Low(l:List Nat):Prop:=l.all (λc=>decide (97<=c)&&decide (c<=122))=true
theorem Low.app{l m:List Nat}(h:Low l)(h2:Low m):Low (l++m):=by unfold Low at*;rw[List.all_append,h,h2];rfl
theorem Low.take{l:List Nat}(h:Low l)(n:Nat):Low (l.take n):=Gao.mpr λc hc=>Gao.mp h c (Gbx hc)
theorem Low.drop{l:List Nat}(h:Low l)(n:Nat):Low (l.drop n):=Gao.mpr λc hc=>Gao.mp h c (List.mem_of_mem_drop hc)
theorem Low.nam{l:List Nat}(h:Low l)(h1:1<=l.length)(h2:l.length<=8):Nam ⟨l.toArray⟩:=⟨h1,h2,h⟩
theorem MU(xs:List Str)(x:Str):ddS (xs++[x])=if x∈ddS xs then ddS xs else ddS xs++[x]:=by
 unfold ddS;rw[Gca]
 rfl
theorem CZ(xs:List Str):(∀x,x∈ddS xs↔x∈xs)/\(ddS xs).length<=xs.length/\((ddS xs).length=xs.length->xs.Nodup):=by
 rw[<-List.reverse_reverse xs];induction xs.reverse with
 |nil=>simp[ddS]
 |cons x r ih=>
  obtain⟨h1,h2,h3⟩:=ih;rw[List.reverse_cons,MU];by_cases q:x∈ddS r.reverse
  .rw[Gak q];refine⟨λy=> ?_,by simp at h2⊢;lia,λz=>by simp at h2 z;lia⟩;rw[h1];have:=(h1 x).mp q;constructor
   .intro h;simp at h⊢;exact .inl h
   .intro h;simp at h this⊢;rcases h with h|h
    .exact h
    .subst h;exact this
  .rw[Gam q];refine⟨λy=> ?_,by simp at h2⊢;lia,λz=> ?_⟩
   .simp[h1]
   .have:=h3 (by simp at z⊢;exact z);rw[GbI];refine⟨this,by simp,λa ha b hb e=> ?_⟩;simp at hb;subst hb;subst e;exact q ((h1 _).mpr ha)
theorem FJ:(Str.ofString "abcdefghijklmnopqrstuvwxyz").cps.toList=List.range' 97 26:=by decide+kernel
theorem D0{d:Int}(h0:0<=d)(h1:d<26):ixD (.str "abcdefghijklmnopqrstuvwxyz") (.int d)=some (bf (97+d.toNat)):=by
 rw[jR,Gak (by decide+kernel),FJ];unfold atD;rw[Gak h0,List.getElem?_range' (by lia)];simp[bf]
def Pre(m:Nat)(xs:List Str):Prop:=xs.length=m/\∀x∈xs,1<=x.length/\Low x.cps.toList/\x.length<=100
variable{v:Int}
theorem nN{α:Type}{xs:List α}(h:0<=v):cutD xs none (some v)=xs.take v.toNat:=by
 unfold cutD sIx;dsimp only;rw[Gam (by lia)];simp
theorem D3{α:Type}{xs:List α}(h:0<=v)(h2:v<=xs.length):cutD xs (some v) none=xs.drop v.toNat:=by
 unfold cutD sIx;dsimp only;rw[Gam (by lia),Nat.min_eq_left (by lia),List.take_of_length_le (by simp)]
theorem max_le:∀{ns:List Int} {i:Int},nS i ns<=8->i<=8/\∀n∈ns,n<=8
 |[],i,h=> ⟨h,λn hn=>by simp at hn⟩
 |a::ns,i,h=>by
  obtain⟨h1,h2⟩:=max_le (ns:=ns) (i:=if a>i then a else i) h;refine⟨by split at h1<;>lia,λn hn=> ?_⟩;rcases Gah.mp hn with rfl|hn
  .split at h1<;>lia
  .exact h2 n hn
variable{xs:List Str}
theorem K0{m:Nat}(P:Pre m xs)(h1:m<=(ddS xs).length)(h2:nS 0 (xs.map λx=>(x.length:Int))<=8):xs.length=m/\xs.Nodup/\∀x∈xs,Nam x:=by
 have f:=CZ xs;refine⟨P.1,f.2.2 (by have:=f.2.1;have:=P.1;lia),λx hx=> ?_⟩;have:=(max_le h2).2 (x.length:Int) (GbB hx);exact⟨(P.2 x hx).1,by lia,(P.2 x hx).2.1⟩
noncomputable def w12:List Str:=["order","cap","due","young","flat","kilo","ever","bar","down","guest","stuff","asked"]
theorem K2:∀x∈w12,1<=x.length/\Low x.cps.toList/\x.length<=100:=by
 have:(w12.all λx=>decide (1<=x.length)&&(decide (x.length<=100)&&x.cps.toList.all λc=>decide (97<=c)&&decide (c<=122)))=true:=by decide+kernel
 intro x hx;have:=Gao.mp this x hx;rw[Gad,Gad] at this;exact⟨Gas this.1,this.2.2,Gas this.2.1⟩
theorem K3(h:0<=i)(h2:i<2):Low (Txt.slice "zz" none (some i)).cps.toList/\(Txt.slice "zz" none (some i)).length<=2:=by
 have:i=0\/i=1:=by lia
 rcases this with rfl|rfl
 .exact⟨by unfold Low;decide+kernel,by decide+kernel⟩
 .exact⟨by unfold Low;decide+kernel,by decide+kernel⟩
theorem MV{c:Int}(h1:0<=a/\a<12)(h2:0<=b/\b<12)(e:(c+7*a)%26=(c+7*b)%26):a=b:=by lia
noncomputable abbrev abc:D:= .str "abcdefghijklmnopqrstuvwxyz"
def nE(ns:List Int)(b m:Int)(w:D)(s:Int)(x6 x7 x8 x9 hU:Os):DL.Env:=[some (.sh (.scr ns)),some (.sh (.int b)),some (.sh (.int m)),some (.sh abc),some (.own w),some (.sh (.int s)),x6,x7,x8,x9,hU]
noncomputable def cz(xs:List Str):Os:=some (.own (.lst (xs.map D.str)))
variable{x6 x7 x8 hU:Os}{cs:List Nat}{s:Int}
theorem st1{ns:List Int}(hm:0<=m)(xM:m<=12)(hc:cs.length=8)(hl:Low cs):
  ∃xs,aq 6 (bq none 1 [4] (aZ (vE 2)) (gN 0) aK (opE ae (unE (cB "") (slE (vE 1) noO (bK (opE ae (kI 1) (opE dE (vE 0) (kI 8)))))) (sZ "zz" (opE jN (vE 0) (kI 8))))) (nE ns b m (.lst (cs.map bf)) s x6 x7 x8 x9 hU)=some (.nx (nE ns b m (.lst (cs.map bf)) s (cz xs) x7 x8 x9 hU))/\Pre m.toNat xs:=by
 have sm:bz m=true:=cj (by lia) (by lia);obtain⟨xs,h1,h2,h3⟩:=dM (g:=gN 0) (f:=opE ae (unE (cB "") (slE (vE 1) noO (bK (opE ae (kI 1) (opE dE (vE 0) (kI 8)))))) (sZ "zz" (opE jN (vE 0) (kI 8)))) D.str (λ_ x=>1<=x.length/\Low x.cps.toList/\x.length<=100) (λe=>∃z,e=[z,some (.bor (.lst (cs.map bf)))]) (aV 0 m.toNat) 0 [none,some (.bor (.lst (cs.map bf)))] ⟨_,rfl⟩ (by
  rintro i d hd e ⟨z,rfl⟩;obtain⟨hi,rfl⟩:=bC hd;obtain⟨j,ej⟩:∃j:Int,j=0+(i:Int):=⟨_,rfl⟩
  rw[<-ej];have j1:0<=j/\j<12:=by lia
  have j2:0<=1+j%8/\1+j%8<=8:=by lia
  have j3:0<=j/8/\j/8<2:=by lia
  clear ej hi hd;have cu:=nN (xs:=cs.map bf) j2.1;rw[<-GcF] at cu;have jn:=nM (l:=cs.take (1+j%8).toNat) (by simp;lia);have zz:=K3 j3.1 j3.2;have lw:=hl.take (1+j%8).toNat;have ll:(cs.take (1+j%8).toNat).length=(1+j%8).toNat:=by rw[GaQ];lia
  generalize cs.take (1+j%8).toNat=l at*;generalize ht:Txt.slice "zz" none (some (j/8))=t at*;refine⟨_,rfl,⟨_,rfl⟩,(⟨l.toArray⟩:Str)++t,.c, ?_,rfl, ?_, ?_, ?_⟩
  .have z1:(⟨l.toArray⟩:Str).length+t.length<=16777216:=by have:(⟨l.toArray⟩:Str).length=l.length:=rfl;lia
   have z2:(Str.ofString "zz").length<=16777216:=by decide+kernel
   generalize l.map bf=L at*;simp[cu,jn,sZ,z2,z1,ht,a7,-iM]
  .rw[len_app];show 1<=l.length+_;lia
  .rw[GbL,Gcz];exact lw.app zz.1
  .rw[len_app];show l.length+_<=100;lia)
 rw[aN] at h2;refine⟨xs, ?_,h2,λx hx=> ?_⟩
 .have rl:(aV 0 m.toNat).length<=a7:=by rw[aN];unfold a7;lia
  unfold nE cz;generalize cs.map bf=W at*;generalize xs.map D.str=X at*;simp[sm,rl,DL.compEnv,cG,h1]
 .obtain⟨i,hi⟩:=GaN hx;exact h3 i x hi
theorem st2{ns:List Int}(hm:0<=m)(xM:m<=12)(hc:cs.length=8)(hl:Low cs):
  ∃xs,aq 6 (bq none 1 [4] (aZ (vE 2)) (gN 0) aK (unE (cB "") (slE (vE 1) (bK (opE kA (kI 7) (opE dE (vE 0) (kI 8)))) noO))) (nE ns b m (.lst (cs.map bf)) s x6 x7 x8 x9 hU)=some (.nx (nE ns b m (.lst (cs.map bf)) s (cz xs) x7 x8 x9 hU))/\Pre m.toNat xs:=by
 have sm:bz m=true:=cj (by lia) (by lia);obtain⟨xs,h1,h2,h3⟩:=dM (g:=gN 0) (f:=unE (cB "") (slE (vE 1) (bK (opE kA (kI 7) (opE dE (vE 0) (kI 8)))) noO)) D.str (λ_ x=>1<=x.length/\Low x.cps.toList/\x.length<=100) (λe=>∃z,e=[z,some (.bor (.lst (cs.map bf)))]) (aV 0 m.toNat) 0 [none,some (.bor (.lst (cs.map bf)))] ⟨_,rfl⟩ (by
  rintro i d hd e ⟨z,rfl⟩;obtain⟨hi,rfl⟩:=bC hd;obtain⟨j,ej⟩:∃j:Int,j=0+(i:Int):=⟨_,rfl⟩
  rw[<-ej];have j1:0<=j/\j<12:=by lia
  have j2:0<=7 -j%8/\7 -j%8<=7:=by lia
  clear ej hi hd;have cu:=D3 (xs:=cs.map bf) j2.1 (by simp;lia);rw[<-List.map_drop] at cu;have jn:=nM (l:=cs.drop (7 -j%8).toNat) (by simp;lia);have lw:=hl.drop (7 -j%8).toNat;have ll:1<=(cs.drop (7 -j%8).toNat).length:=by rw[GbA];lia
  have l3:(cs.drop (7 -j%8).toNat).length<=100:=by rw[GbA];lia
  generalize cs.drop (7 -j%8).toNat=l at*;refine⟨_,rfl,⟨_,rfl⟩,(⟨l.toArray⟩:Str),.c, ?_,rfl,ll,lw,l3⟩;generalize l.map bf=L at*;simp[cu,jn,-iM])
 rw[aN] at h2;refine⟨xs, ?_,h2,λx hx=> ?_⟩
 .have rl:(aV 0 m.toNat).length<=a7:=by rw[aN];unfold a7;lia
  unfold nE cz;generalize cs.map bf=W at*;generalize xs.map D.str=X at*;simp[sm,rl,DL.compEnv,cG,h1]
 .obtain⟨i,hi⟩:=GaN hx;exact h3 i x hi
variable{z:Int}
theorem FK{ns:List Int}{c:Int}{k:Int}(hb:0<=b)(zf:b<900000)(hc:cs.length=8)(hl:Low cs)(hz:1<=z/\z<=8)(ha:0<=a/\a<z)(hk:0<=k/\k<12)(hx:xs.length<1000)(ec:drw ns (b+11) 26=c):
  ∃x' :Os,ak (aq 10 (slE (vE 4) noO (bK (vE 7)))) (ak (qG 10 (vE 8) (ixE (vE 3) (opE dE (opE ae (aQ a9 (af (vE 0) (af (opE ae (vE 1) (kI 11)) (af (kI 26) az)))) (opE ck (kI 7) (vE 9))) (kI 26)))) (bA 6 (unE (cB "") (vE 10)))) (nE ns b m (.lst (cs.map bf)) s (cz xs) (some (.sh (.int z))) (some (.sh (.int a))) (some (.sh (.int k))) hU)
   =some (.nx (nE ns b m (.lst (cs.map bf)) s (cz (xs++[⟨((cs.take z.toNat).set a.toNat (97+((c+7*k)%26).toNat)).toArray⟩])) (some (.sh (.int z))) (some (.sh (.int a))) (some (.sh (.int k))) x')):=by
 have d1:=aX (ns:=ns) (show 0<=b+11 by lia) (by lia) (show(0:Int)<26 by lia);rw[ec] at d1;have mm:bp 7 k=true:=by simp[bp]
 have lt:=D0 (d:=(c+7*k)%26) (by lia) (by lia);have cu:=nN (xs:=cs.map bf) (show 0<=z by lia);rw[<-GcF] at cu;have tl:(cs.take z.toNat).length=z.toNat:=by rw[GaQ];lia
 have st:((cs.take z.toNat).map bf).set a.toNat (bf (97+((c+7*k)%26).toNat))=((cs.take z.toNat).set a.toNat (97+((c+7*k)%26).toNat)).map bf:=by rw[List.map_set]
 have jn:=nM (l:=(cs.take z.toNat).set a.toNat (97+((c+7*k)%26).toNat)) (by rw[Gcl];lia);have pd:putD (.lst ((cs.take z.toNat).map bf)) (.int a) (bf (97+((c+7*k)%26).toNat))=some (.lst (((cs.take z.toNat).set a.toNat (97+((c+7*k)%26).toNat)).map bf)):=by
  rw[<-st];show(if 0<=a/\a<((cs.take z.toNat).map bf).length then _ else _)=_;rw[Gak ⟨ha.1,by rw[Gax,tl];lia⟩]
 have xl:(xs.map D.str).length<16777216:=by simp;lia
 have xm:(xs++[(⟨((cs.take z.toNat).set a.toNat (97+((c+7*k)%26).toNat)).toArray⟩:Str)]).map D.str=xs.map D.str++[.str ⟨((cs.take z.toNat).set a.toNat (97+((c+7*k)%26).toNat)).toArray⟩]:=by simp
 unfold cz;rw[xm];generalize xs.map D.str=X at*;generalize (⟨((cs.take z.toNat).set a.toNat (97+((c+7*k)%26).toNat)).toArray⟩:Str)=y at*;generalize ((cs.take z.toNat).set a.toNat (97+((c+7*k)%26).toNat)).map bf=J at*;generalize (cs.take z.toNat).map bf=T at*;generalize cs.map bf=W at*;generalize hq:bf (97+((c+7*k)%26).toNat)=q at*;refine⟨some (.own (.lst J)), ?_⟩;unfold nE;refine(aj (e:=[some (.sh (.scr ns)),some (.sh (.int b)),some (.sh (.int m)),some (.sh abc),some (.own (.lst W)),some (.sh (.int s)),some (.own (.lst X)),some (.sh (.int z)),some (.sh (.int a)),some (.sh (.int k)),some (.own (.lst T))]) (by simp[cu])).trans ?_;refine(aj (e:=[some (.sh (.scr ns)),some (.sh (.int b)),some (.sh (.int m)),some (.sh abc),some (.own (.lst W)),some (.sh (.int s)),some (.own (.lst X)),some (.sh (.int z)),some (.sh (.int a)),some (.sh (.int k)),some (.own (.lst J))]) (by simp[d1,mm,lt,pd,RV.free,-jR])).trans ?_;simp[jn,xl,a7,-iM]
noncomputable def nm(cs:List Nat)(z a c:Int)(i:Nat):Str:=⟨((cs.take z.toNat).set a.toNat (97+((c+7*(i:Int))%26).toNat)).toArray⟩
theorem MW{c:Int}(hc:cs.length=8)(hl:Low cs)(hz:1<=z/\z<=8)(i:Nat):Nam (nm cs z a c i):=by
 have tl:(cs.take z.toNat).length=z.toNat:=by rw[GaQ];lia
 refine Low.nam (Gao.mpr λx hx=> ?_) (by rw[Gcl];lia) (by rw[Gcl];lia);rcases List.mem_or_eq_of_mem_set hx with h|h
 .exact Gao.mp hl x (Gbx h)
 .have:0<=(c+7*(i:Int))%26/\(c+7*(i:Int))%26<26:=by lia
  subst h;simp;lia
theorem K4{c:Int}(hc:cs.length=8)(hz:1<=z/\z<=8)(ha:0<=a/\a<z){i j:Nat}(hi:i<12)(hj:j<12)(e:nm cs z a c i=nm cs z a c j):i=j:=by
 have tl:(cs.take z.toNat).length=z.toNat:=by rw[GaQ];lia
 have e2:(cs.take z.toNat).set a.toNat (97+((c+7*(i:Int))%26).toNat)=(cs.take z.toNat).set a.toNat (97+((c+7*(j:Int))%26).toNat):=congrArg (λx:Str=>x.cps.toList) e;have e3:=congrArg (λl:List Nat=>l[a.toNat]?) e2;rw[Gav (by lia),Gav (by lia)] at e3;have e4:=Option.some.inj e3;have:=MV (c:=c) (a:=i) (b:=j) (by lia) (by lia) (by lia);lia
theorem A2{α:Type}{f:Nat->α}{m:Nat}(h:∀i j,i<m->j<m->f i=f j->i=j):((List.range m).map f).Nodup:=by
 rw[List.Nodup,List.pairwise_map];refine List.Pairwise.imp_of_mem (R:=(· < ·)) (λ{a b} ha hb hab e=> ?_) List.pairwise_lt_range;have:=h a b (Gbp.mp ha) (Gbp.mp hb) e;lia
theorem D4{ns:List Int}(hb:0<=b)(zf:b<900000)(hm:0<=m)(xM:m<=12)(hc:cs.length=8)(hl:Low cs):
  ∃xs y7 y8 y9 yT,ak (aq 7 (opE ae (kI 1) (aQ a9 (af (vE 0) (af (opE ae (vE 1) (kI 9)) (af (kI 8) az)))))) (ak (aq 8 (aQ a9 (af (vE 0) (af (opE ae (vE 1) (kI 10)) (af (vE 7) az))))) (ak (aq 6 (gK az)) (cL none (aZ (vE 2)) (gN 9) (ak (aq 10 (slE (vE 4) noO (bK (vE 7)))) (ak (qG 10 (vE 8) (ixE (vE 3) (opE dE (opE ae (aQ a9 (af (vE 0) (af (opE ae (vE 1) (kI 11)) (af (kI 26) az)))) (opE ck (kI 7) (vE 9))) (kI 26)))) (bA 6 (unE (cB "") (vE 10))))))))
   (nE ns b m (.lst (cs.map bf)) s x6 x7 x8 x9 hU)=some (.nx (nE ns b m (.lst (cs.map bf)) s (cz xs) y7 y8 y9 yT))/\xs.length=m.toNat/\xs.Nodup/\∀x∈xs,Nam x:=by
 have d1:=aX (ns:=ns) (show 0<=b+9 by lia) (by lia) (show(0:Int)<8 by lia);have r1:=bh ns (b+9) 8 (by lia);generalize drw ns (b+9) 8=z0 at*;obtain⟨z,ez⟩:∃z,z=1+z0:=⟨_,rfl⟩
 have hz:1<=z/\z<=8:=by lia
 have d2:=aX (ns:=ns) (show 0<=b+10 by lia) (by lia) (show(0:Int)<z by lia);have r2:=bh ns (b+10) z (by lia);generalize drw ns (b+10) z=a at*;obtain⟨c,ec⟩:∃c,drw ns (b+11) 26=c:=⟨_,rfl⟩
 obtain⟨e,h1,zk,xU,rfl⟩:=iO (g:=gN 9) (body:=ak (aq 10 (slE (vE 4) noO (bK (vE 7)))) (ak (qG 10 (vE 8) (ixE (vE 3) (opE dE (opE ae (aQ a9 (af (vE 0) (af (opE ae (vE 1) (kI 11)) (af (kI 26) az)))) (opE ck (kI 7) (vE 9))) (kI 26)))) (bA 6 (unE (cB "") (vE 10))))) (λi e=>∃zk xU,e=nE ns b m (.lst (cs.map bf)) s (cz ((List.range i).map (nm cs z a c))) (some (.sh (.int z))) (some (.sh (.int a))) zk xU) (aV 0 m.toNat) 0 (nE ns b m (.lst (cs.map bf)) s (cz []) (some (.sh (.int z))) (some (.sh (.int a))) x9 hU) ⟨x9,hU,rfl⟩ (by
  rintro i d e hd ⟨zk,xU,rfl⟩;obtain⟨hi,rfl⟩:=bC hd;rw[GaG,show(0:Int)+(i:Int)=(i:Int) by lia];obtain⟨x',h⟩:=FK (ns:=ns) (b:=b) (m:=m) (s:=s) (z:=z) (a:=a) (c:=c) (cs:=cs) (xs:=(List.range i).map (nm cs z a c)) (k:=(i:Int)) (hU:=xU) hb zf hc hl hz r2 (by lia) (by simp;lia) ec;refine⟨_,_,rfl,h,some (.sh (.int (i:Int))),x', ?_⟩;rw[Gcv,GaA]
  rfl)
 rw[aN,GaG] at h1;refine⟨(List.range m.toNat).map (nm cs z a c),some (.sh (.int z)),some (.sh (.int a)),zk,xU, ?_,by simp,A2 λi j hi hj e=>K4 hc hz r2 (by lia) (by lia) e,λx hx=> ?_⟩
 rotate_left
 .obtain⟨i,_,rfl⟩:=GaJ.mp hx;exact MW hc hl hz i
 have sm:bz m=true:=cj (by lia) (by lia);generalize (List.range m.toNat).map (nm cs z a c)=xs at*;generalize cs.map bf=W at*;refine(aj (e:=nE ns b m (.lst W) s x6 (some (.sh (.int z))) x8 x9 hU) (by unfold nE;rw[ez];simp[d1])).trans ?_;refine(aj (e:=nE ns b m (.lst W) s x6 (some (.sh (.int z))) (some (.sh (.int a))) x9 hU) (by unfold nE;simp[d2])).trans ?_;refine(aj (e:=nE ns b m (.lst W) s (cz []) (some (.sh (.int z))) (some (.sh (.int a))) x9 hU) (by unfold nE cz;simp)).trans ?_;unfold nE at h1⊢;generalize hbd:(ak (aq 10 (slE (vE 4) noO (bK (vE 7)))) (ak (qG 10 (vE 8) (ixE (vE 3) (opE dE (opE ae (aQ a9 (af (vE 0) (af (opE ae (vE 1) (kI 11)) (af (kI 26) az)))) (opE ck (kI 7) (vE 9))) (kI 26)))) (bA 6 (unE (cB "") (vE 10)))))=bd at*;simp[sm,h1,freed]
variable{w:D}
theorem FL{ns:List Int}(hx:xs.length<=12)(hl:∀x∈xs,x.length<=100)(hs:s≠3):
  orT (av eqB (vE 5) (kI 3)) (orT (av ltB (unE kb (vE 6)) (vE 2)) (av gtB (je oy (af (opE ae (gK (af (kI 0) az)) (bq (some 6) 1 [] (ssI (vE 6)) (gN 0) aK (dv 0))) az)) (kI 8))) (nE ns b m w s (cz xs) x7 x8 x9 hU)=some (decide (((ddS xs).length:Int)<m)||decide (8<nS 0 (xs.map λx=>(x.length:Int)))):=by
 have c:bN (gN 0) aK (dv 0) (xs.map D.str) [none]=some ((xs.map λx=>(x.length:Int)).map D.int):=by
  rw[Gaw];refine cI D.str (λe=>∃z,e=[z]) _ _ _ ⟨_,rfl⟩ ?_;rintro x hx e ⟨z,rfl⟩;have:=hl x hx;have h2:x.length<=16777216:=by lia
  exact⟨_,rfl,⟨_,rfl⟩,.c,by simp[h2,a7],rfl⟩
 have st:=strs_map xs;have l1:xs.length<4000:=by lia
 have l2:(xs.map D.str).length<=16777216:=by simp;lia
 have mx:oy [.lst (.int 0::(xs.map λx=>(x.length:Int)).map D.int)]=some ⟨.c,.int (nS 0 (xs.map λx=>(x.length:Int)))⟩:=by
  have:=wW (0::xs.map λx=>(x.length:Int));simp only[Gau] at this;show(ox (.int 0::(xs.map λx=>(x.length:Int)).map D.int)).bind _=_;rw[this]
  rfl
 have l3:((xs.map λx=>(x.length:Int)).map D.int).length+1<=16777216:=by simp;lia
 have ls:kb (.lst (xs.map D.str))=some ⟨.c,.int (ddS xs).length⟩:=by rw[kR,st,Option.bind_some,Gak l1]
 generalize ((ddS xs).length:Int)=q at*;generalize nS 0 (xs.map λx=>(x.length:Int))=M at*;generalize (xs.map λx=>(x.length:Int)).map D.int=I at*;unfold nE cz;generalize xs.map D.str=X at*;have l4:1+I.length<=16777216:=by lia
 by_cases h1:q<m
 .simp[hs,ls,h1,-kR]
 .simp[hs,ls,h1,c,l2,l4,mx,a7,DL.compEnv,-kR]
abbrev Gy:DT:=orT (av eqB (vE 5) (kI 3)) (orT (av ltB (unE kb (vE 6)) (vE 2)) (av gtB (je oy (af (opE ae (gK (af (kI 0) az)) (bq (some 6) 1 [] (ssI (vE 6)) (gN 0) aK (dv 0))) az)) (kI 8)))
abbrev bLast:DS:=ak (aq 7 (opE ae (kI 1) (aQ a9 (af (vE 0) (af (opE ae (vE 1) (kI 9)) (af (kI 8) az)))))) (ak (aq 8 (aQ a9 (af (vE 0) (af (opE ae (vE 1) (kI 10)) (af (vE 7) az))))) (ak (aq 6 (gK az)) (cL none (aZ (vE 2)) (gN 9) (ak (aq 10 (slE (vE 4) noO (bK (vE 7)))) (ak (qG 10 (vE 8) (ixE (vE 3) (opE dE (opE ae (aQ a9 (af (vE 0) (af (opE ae (vE 1) (kI 11)) (af (kI 26) az)))) (opE ck (kI 7) (vE 9))) (kI 26)))) (bA 6 (unE (cB "") (vE 10))))))))
abbrev MX:DS:=aq 6 (bq none 1 [4] (aZ (vE 2)) (gN 0) aK (opE ae (unE (cB "") (slE (vE 1) noO (bK (opE ae (kI 1) (opE dE (vE 0) (kI 8)))))) (sZ "zz" (opE jN (vE 0) (kI 8)))))
abbrev MY:DS:=aq 6 (bq none 1 [4] (aZ (vE 2)) (gN 0) aK (unE (cB "") (slE (vE 1) (bK (opE kA (kI 7) (opE dE (vE 0) (kI 8)))) noO)))
theorem D5:iu=ak (aq 3 (kS "abcdefghijklmnopqrstuvwxyz")) (ak (aq 4 (bq none 1 [0,1,3] (aZ (kI 8)) (gN 0) aK (ixE (vE 3) (caE a9 [vE 1,opE ae (vE 2) (vE 0),kI 26])))) (ak (aq 5 (caE a9 [vE 0,opE ae (vE 1) (kI 8),kI 4])) (ak (aq 6 (slE (lsE [kS "order",kS "cap",kS "due",kS "young",kS "flat",kS "kilo",kS "ever",kS "bar",kS "down",kS "guest",kS "stuff",kS "asked"]) noO (bK (vE 2)))) (ak (ifS (av eqB (vE 5) (kI 1)) MX aD) (ak (ifS (av eqB (vE 5) (kI 2)) MY aD) (ak (ifS (av eqB (vE 5) (kI 3)) (aq 6 (gK az)) aD) (ak (ifS Gy bLast aD) (retS (vE 6))))))))):=rfl
theorem nO{t:DT}{e:DL.Env}{v:Bool}(h:t e=some v):ifS t f g e=if v then f e else g e:=by simp[ifS,h]
theorem l9{ns:List Int}:retS (vE 6) (nE ns b m w s (cz xs) x7 x8 x9 hU)=some (.ret (.lst (xs.map D.str))):=by
 have i:ag (xs.map D.str)=true:=aS λ_ _=>rfl;unfold nE cz;generalize xs.map D.str=X at*;simp[i]
theorem qg{ns:List Int}(hb:0<=b)(zf:b<800000)(hm:0<=m)(xM:m<=12):∃xs:List Str,bG [.scr ns,.int b,.int m]=some (.lst (xs.map D.str))/\xs.length=m.toNat/\xs.Nodup/\∀x∈xs,Nam x:=by
 obtain⟨cs,h1,h2,h3⟩:=dM (g:=gN 0) (f:=ixE (vE 3) (aQ a9 (af (vE 1) (af (opE ae (vE 2) (vE 0)) (af (kI 26) az))))) bf (λ_ c=>97<=c/\c<=122) (λe=>∃z,e=[z,some (.sh (.scr ns)),some (.sh (.int b)),some (.sh abc)]) (aV 0 8) 0 [none,some (.sh (.scr ns)),some (.sh (.int b)),some (.sh abc)] ⟨_,rfl⟩ (by
  rintro i d hd e ⟨z,rfl⟩;obtain⟨hi,rfl⟩:=bC hd;have d1:=aX (ns:=ns) (k:=b+(0+(i:Int))) (by lia) (by lia) (show(0:Int)<26 by lia);have r1:=bh ns (b+(0+(i:Int))) 26 (by lia);generalize (0+(i:Int))=I at*;generalize drw ns (b+I) 26=d at*;have lt:=D0 r1.1 r1.2;refine⟨_,rfl,⟨_,rfl⟩,97+d.toNat,.c, ?_,rfl,by lia,by lia⟩;generalize bf (97+d.toNat)=q at*;simp[d1,lt,-jR])
 rw[aN] at h2;have hl:Low cs:=Gao.mpr λc hc=>by
  obtain⟨i,hi⟩:=GaN hc;have:=h3 i c hi;simp[this.1,this.2]
 have d5:=aX (ns:=ns) (show 0<=b+8 by lia) (by lia) (show(0:Int)<4 by lia);generalize drw ns (b+8) 4=s at*;have first:∀g:DS,ak (aq 3 (kS "abcdefghijklmnopqrstuvwxyz")) (ak (aq 4 (bq none 1 [0,1,3] (aZ (kI 8)) (gN 0) aK (ixE (vE 3) (caE a9 [vE 1,opE ae (vE 2) (vE 0),kI 26])))) (ak (aq 5 (caE a9 [vE 0,opE ae (vE 1) (kI 8),kI 4])) (ak (aq 6 (slE (lsE [kS "order",kS "cap",kS "due",kS "young",kS "flat",kS "kilo",kS "ever",kS "bar",kS "down",kS "guest",kS "stuff",kS "asked"]) noO (bK (vE 2)))) g))) (fQ 11 [.scr ns,.int b,.int m])=g (nE ns b m (.lst (cs.map bf)) s (cz (w12.take m.toNat)) none none none none):=λg=>by
  have s8:bz 8=true:=rfl;have cu:=nN (xs:=w12.map D.str) hm;rw[<-GcF] at cu;have wl:w12.map D.str=[.str "order",.str "cap",.str "due",.str "young",.str "flat",.str "kilo",.str "ever",.str "bar",.str "down",.str "guest",.str "stuff",.str "asked"]:=rfl;rw[wl] at cu;unfold nE cz;generalize (w12.take m.toNat).map D.str=X at*;generalize cs.map bf=W at*;refine(aj (e:=[some (.sh (.scr ns)),some (.sh (.int b)),some (.sh (.int m)),some (.sh abc),none,none,none,none,none,none,none]) (by simp)).trans ?_;refine(aj (e:=[some (.sh (.scr ns)),some (.sh (.int b)),some (.sh (.int m)),some (.sh abc),some (.own (.lst W)),none,none,none,none,none,none]) (by simp[s8,DL.compEnv,cG,aN,a7,h1])).trans ?_;refine(aj (e:=[some (.sh (.scr ns)),some (.sh (.int b)),some (.sh (.int m)),some (.sh abc),some (.own (.lst W)),some (.sh (.int s)),none,none,none,none,none]) (by simp[d5])).trans ?_;exact aj (by simp[cu,a7])
 obtain⟨xs,yV,P⟩:∃xs,(∀g:DS,ak (ifS (av eqB (vE 5) (kI 1)) MX aD) (ak (ifS (av eqB (vE 5) (kI 2)) MY aD) g) (nE ns b m (.lst (cs.map bf)) s (cz (w12.take m.toNat)) none none none none)=g (nE ns b m (.lst (cs.map bf)) s (cz xs) none none none none))/\Pre m.toNat xs:=by
  have t:∀(k:Int) (xs:List Str),av eqB (vE 5) (kI k) (nE ns b m (.lst (cs.map bf)) s (cz xs) none none none none)=some (s==k):=λk xs=>by
   unfold nE;simp
  by_cases e1:s=1
  .obtain⟨xs,h,P⟩:=st1 (ns:=ns) (b:=b) (m:=m) (s:=s) (cs:=cs) (x6:=cz (w12.take m.toNat)) (x7:=none) (x8:=none) (x9:=none) (hU:=none) hm xM h2 hl;refine⟨xs,λg=>(aj (e:=nE ns b m (.lst (cs.map bf)) s (cz xs) none none none none) ?_).trans (aj ?_),P⟩
   .rw[nO (t 1 _),Gak (by simp[e1])];exact h
   .rw[nO (t 2 _),Gam (by simp[e1])];rfl
  .by_cases e2:s=2
   .obtain⟨xs,h,P⟩:=st2 (ns:=ns) (b:=b) (m:=m) (s:=s) (cs:=cs) (x6:=cz (w12.take m.toNat)) (x7:=none) (x8:=none) (x9:=none) (hU:=none) hm xM h2 hl;refine⟨xs,λg=>(aj (e:=nE ns b m (.lst (cs.map bf)) s (cz (w12.take m.toNat)) none none none none) ?_).trans (aj ?_),P⟩
    .rw[nO (t 1 _),Gam (by simp[e1])];rfl
    .rw[nO (t 2 _),Gak (by simp[e2])];exact h
   .refine⟨w12.take m.toNat,λg=>(aj (e:=nE ns b m (.lst (cs.map bf)) s (cz (w12.take m.toNat)) none none none none) ?_).trans (aj ?_), ?_,λx hx=>K2 x (Gbx hx)⟩
    .rw[nO (t 1 _),Gam (by simp[e1])];rfl
    .rw[nO (t 2 _),Gam (by simp[e2])];rfl
    .rw[GaQ,show w12.length=12 from rfl];lia
 have t3:∀(x6:Os),av eqB (vE 5) (kI 3) (nE ns b m (.lst (cs.map bf)) s x6 none none none none)=some (s==3):=λx6=>by
  unfold nE;simp
 have go:∀{d:D},ak (ifS (av eqB (vE 5) (kI 3)) (aq 6 (gK az)) aD) (ak (ifS Gy bLast aD) (retS (vE 6))) (nE ns b m (.lst (cs.map bf)) s (cz xs) none none none none)=some (.ret d)->bG [.scr ns,.int b,.int m]=some d:=λ{d} h=>by
  unfold bG;refine bc rfl ?_;rw[D5,first,yV];exact h
 have lastW:=λx6=>D4 (ns:=ns) (b:=b) (m:=m) (s:=s) (cs:=cs) (x6:=x6) (x7:=none) (x8:=none) (x9:=none) (hU:=none) hb (by lia) hm xM h2 hl;by_cases e3:s=3
 .obtain⟨ys,y7,y8,y9,yT,h,q⟩:=lastW (cz []);refine⟨ys,go ((aj (e:=nE ns b m (.lst (cs.map bf)) s (cz []) none none none none) ?_).trans ((aj (e:=nE ns b m (.lst (cs.map bf)) s (cz ys) y7 y8 y9 yT) ?_).trans l9)),q⟩
  .rw[nO (t3 _),Gak (by simp[e3])];unfold nE cz;simp
  .rw[nO (v:=true) (by unfold nE;simp[e3]),Gak rfl];exact h
 .have sk:ifS (av eqB (vE 5) (kI 3)) (aq 6 (gK az)) aD (nE ns b m (.lst (cs.map bf)) s (cz xs) none none none none)=some (.nx (nE ns b m (.lst (cs.map bf)) s (cz xs) none none none none)):=by rw[nO (t3 _),Gam (by simp[e3])];rfl
  have tt:=FL (ns:=ns) (b:=b) (m:=m) (s:=s) (w:= .lst (cs.map bf)) (xs:=xs) (x7:=none) (x8:=none) (x9:=none) (hU:=none) (by have:=P.1;lia) (λx hx=>(P.2 x hx).2.2) e3;by_cases v:(decide (((ddS xs).length:Int)<m)||decide (8<nS 0 (xs.map λx=>(x.length:Int))))=true
  .obtain⟨ys,y7,y8,y9,yT,h,q⟩:=lastW (cz xs);refine⟨ys,go ((aj sk).trans ((aj (e:=nE ns b m (.lst (cs.map bf)) s (cz ys) y7 y8 y9 yT) ?_).trans l9)),q⟩;rw[nO tt,Gak v];exact h
  .refine⟨xs,go ((aj sk).trans ((aj (e:=nE ns b m (.lst (cs.map bf)) s (cz xs) none none none none) ?_).trans l9)), ?_⟩
   .rw[nO tt,Gam v];rfl
   .simp only[Gbh,decide_eq_true_eq,not_or,Int.not_lt] at v;exact K0 P (by lia) v.2
variable{L:List Str}
theorem lg{α:Type}{f:α->Str}{xs:List α}(hl:xs.length=L.length)(h:∀(i:Nat) x,xs[i]? =some x->L[i]? =some (f x)):xs.map f=L:=by
 refine GcH λi=> ?_;rw[Gap];cases q:xs[i]? with
 |none=>
  have:=List.getElem?_eq_none_iff.mp q;rw[GaZ (by lia)];rfl
 |some x=>rw[h i x q];rfl
theorem qh{i:Nat}(h:i<L.length):atD (L.map D.str) (i:Int)=some (.str L[i]):=by
 unfold atD;rw[Gak (by lia),Gap,show((i:Int)).toNat=i by lia,Gaf h]
 rfl
theorem tP{α:Type}{P:α->Prop}{xs:List α}(h:∀(i:Nat) x,xs[i]? =some x->P x):∀x∈xs,P x:=λx hx=>by
 obtain⟨i,hi⟩:=GaN hx;exact h i x hi
def guF:DE:=dq (af (ixE (vE 2) (vE 0)) (af (opE kA (aQ aC (af (vE 1) (af (opE ae (kI 20) (opE ck (kI 2) (vE 0))) (af (kI 1000000001) az)))) (kI 1)) az))
theorem FN{ns:List Int}(hm:0<=m)(xM:m<=12)(hL:L.length=m.toNat)(hN:∀x∈L,Nam x):∃gs:List (Str×Int),bN (gN 0) aK guF (aV 0 m.toNat) [none,some (.sh (.scr ns)),some (.bor (.lst (L.map D.str)))]=some (gs.map guD)/\gs.map (·.1)=L/\gs.length=m.toNat/\∀p∈gs,Nam p.1/\Num p.2:=by
 obtain⟨gs,h1,h2,h3⟩:=dM (g:=gN 0) (f:=guF) guD (λi p=>L[i]? =some p.1/\Nam p.1/\Num p.2) (λe=>∃z,e=[z,some (.sh (.scr ns)),some (.bor (.lst (L.map D.str)))]) (aV 0 m.toNat) 0 [none,some (.sh (.scr ns)),some (.bor (.lst (L.map D.str)))] ⟨_,rfl⟩ (by
  rintro i d hd e ⟨z,rfl⟩;obtain⟨hi,rfl⟩:=bC hd;have xo :i<L.length:=by lia
  have a:=qh xo;rw[show(0:Int)+(i:Int)=(i:Int) by lia,GaG];obtain⟨I,eI⟩:∃I:Int,I=(i:Int):=⟨_,rfl⟩
  rw[<-eI] at a⊢;obtain⟨n,e1,a1⟩:=bH (ns:=ns) (k:=20+2*I) (m:=1000000001) (by lia) (by lia) (by lia);have mm:bp 2 I=true:=by simp[bp]
  refine⟨_,rfl,⟨_,rfl⟩,(L[i],n -1),.c, ?_,rfl,Gaf xo,hN _ (Gbk _),by show 0<=n -1;lia,by show n -1<=_;lia⟩;generalize L.map D.str=LL at*;generalize L[i]=nm at*;clear eI hd hi xo;unfold guF;simp[a,mm,e1,guD,guR,c9,a7])
 rw[aN] at h2;refine⟨gs,h1,lg (by lia) λi x hx=> ?_,h2,tP λi x hx=> ?_⟩
 .have:=(h3 i x hx).1;rw[GaG] at this;exact this
 .exact(h3 i x hx).2
def stF:DE:=aQ dI (af (vE 1) (af (opE ae (kI 60) (opE ck (kI 50) (vE 0))) (af (ixE (vE 2) (vE 0)) az)))
theorem FP{ns:List Int}(hm:0<=m)(xM:m<=12)(hL:L.length=m.toNat)(hN:∀x∈L,Nam x):∃ss:List Stf,bN (gN 0) aK stF (aV 0 m.toNat) [none,some (.sh (.scr ns)),some (.bor (.lst (L.map D.str)))]=some (ss.map stD)/\ss.map (·.n)=L/\ss.length=m.toNat/\∀s∈ss,nI s/\s.p<=400000:=by
 obtain⟨ss,h1,h2,h3⟩:=dM (g:=gN 0) (f:=stF) stD (λi s=>L[i]? =some s.n/\nI s/\s.p<=400000) (λe=>∃z,e=[z,some (.sh (.scr ns)),some (.bor (.lst (L.map D.str)))]) (aV 0 m.toNat) 0 [none,some (.sh (.scr ns)),some (.bor (.lst (L.map D.str)))] ⟨_,rfl⟩ (by
  rintro i d hd e ⟨z,rfl⟩;obtain⟨hi,rfl⟩:=bC hd;have xo :i<L.length:=by lia
  have a:=qh xo;rw[show(0:Int)+(i:Int)=(i:Int) by lia,GaG];obtain⟨I,eI⟩:∃I:Int,I=(i:Int):=⟨_,rfl⟩
  rw[<-eI] at a⊢;obtain⟨s,e1,k1,k2,k3⟩:=FI (ns:=ns) (k:=60+50*I) (n:=L[i]) (by lia) (by lia) (hN _ (Gbk _));have mm:bp 50 I=true:=by simp[bp]
  refine⟨_,rfl,⟨_,rfl⟩,s,.c, ?_,rfl,by rw[k2];exact Gaf xo,k1,k3⟩;have rv:gV (stD s)=⟨.c,stD s⟩:=rfl;generalize stD s=sD at*;generalize L.map D.str=LL at*;generalize L[i]=nm at*;clear eI hd hi xo;unfold stF;simp[a,mm,e1,rv])
 rw[aN] at h2;refine⟨ss,h1,lg (by lia) λi x hx=> ?_,h2,tP λi x hx=> ?_⟩
 .have:=(h3 i x hx).1;rw[GaG] at this;exact this
 .exact(h3 i x hx).2
def orF:DE:=aQ dJ (af (vE 1) (af (opE ae (kI 500) (opE ck (kI 160) (vE 0))) (af (ixE (vE 2) (vE 0)) (af (vE 3) (af (vE 4) az)))))
theorem FQ{ns:List Int}{ss:List Stf}(hm:0<=m)(xM:m<=12)(hL:L.length=m.toNat)(hN:∀x∈L,Nam x)(S:l0 ss)(hp:∀s∈ss,s.p<=400000)(hz:0<m->0<gs.length/\0<ss.length)(ya:gs.length<=6):∃os:List Ord,bN (gN 0) aK orF (aV 0 m.toNat) [none,some (.sh (.scr ns)),some (.bor (.lst (L.map D.str))),some (.sh (.tup (gs.map guD))),some (.sh (.tup (ss.map stD)))]=some (os.map orD)/\os.map (·.n)=L/\os.length=m.toNat/\∀o∈os,iH gs ss o:=by
 obtain⟨os,h1,h2,h3⟩:=dM (g:=gN 0) (f:=orF) orD (λi o=>L[i]? =some o.n/\iH gs ss o) (λe=>∃z,e=[z,some (.sh (.scr ns)),some (.bor (.lst (L.map D.str))),some (.sh (.tup (gs.map guD))),some (.sh (.tup (ss.map stD)))]) (aV 0 m.toNat) 0 [none,some (.sh (.scr ns)),some (.bor (.lst (L.map D.str))),some (.sh (.tup (gs.map guD))),some (.sh (.tup (ss.map stD)))] ⟨_,rfl⟩ (by
  rintro i d hd e ⟨z,rfl⟩;obtain⟨hi,rfl⟩:=bC hd;have xo :i<L.length:=by lia
  have a:=qh xo;rw[show(0:Int)+(i:Int)=(i:Int) by lia,GaG];obtain⟨I,eI⟩:∃I:Int,I=(i:Int):=⟨_,rfl⟩
  rw[<-eI] at a⊢;obtain⟨o,e1,k1,k2⟩:=FG (ns:=ns) (k:=500+160*I) (n:=L[i]) (gs:=gs) (ss:=ss) (by lia) (by lia) (hN _ (Gbk _)) S hp (hz (by lia)).1 (hz (by lia)).2 ya;have mm:bp 160 I=true:=by simp[bp]
  refine⟨_,rfl,⟨_,rfl⟩,o,.c, ?_,rfl,by rw[k2];exact Gaf xo,k1⟩;have rv:gV (orD o)=⟨.c,orD o⟩:=rfl;generalize orD o=oD at*;generalize gs.map guD=GG at*;generalize ss.map stD=SS at*;generalize L.map D.str=LL at*;generalize L[i]=nm at*;clear eI hd hi xo;unfold orF;simp[a,mm,e1,rv])
 rw[aN] at h2;refine⟨os,h1,lg (by lia) λi x hx=> ?_,h2,tP λi x hx=> ?_⟩
 .have:=(h3 i x hx).1;rw[GaG] at this;exact this
 .exact(h3 i x hx).2
theorem K5{x:Int}(h0:0<=x)(h1:x<=12):bz x=true:=cj (by lia) (by lia)
theorem D6:iB=ak (aq 1 (bq none 1 [0] (aZ (kI 2)) (gN 0) aK (caE a9 [vE 1,vE 0,kI 7]))) (ak (aq 2 (caE bG [vE 0,kI 2,ixE (vE 1) (kI 0)])) (ak (aq 3 (blE aP [bq none 1 [0,2] (aZ (ixE (vE 1) (kI 0))) (gN 0) aK guF])) (ak (aq 2 (caE bG [vE 0,kI 40,ixE (vE 1) (kI 1)])) (ak (aq 4 (blE aP [bq none 1 [0,2] (aZ (ixE (vE 1) (kI 1))) (gN 0) aK stF])) (ak (aq 5 (caE fE [vE 0,kI 360,ixE (vE 1) (kI 1)])) (ak (aq 6 (kI 0)) (ak (ifS (dF (av gtB (ixE (vE 1) (kI 0)) (kI 0)) (av gtB (ixE (vE 1) (kI 1)) (kI 0))) (aq 6 (ixE (lsE [caE a9 [vE 0,kI 480,kI 4],caE a9 [vE 0,kI 480,kI 13]]) (caE a9 [vE 0,kI 481,kI 2]))) aD) (ak (aq 2 (caE bG [vE 0,kI 482,vE 6])) (ak (aq 7 (bq none 1 [0,2,3,4] (aZ (vE 6)) (gN 0) aK orF)) (retS (tpE [vE 3,vE 4,vE 5,blE aP [vE 7]]))))))))))):=rfl
theorem FR(ns:List Int):∃w,cV [.scr ns]=some (gM w)/\WOk w:=by
 have d0:=aX (ns:=ns) (show(0:Int)<=0 by lia) (by lia) (show(0:Int)<7 by lia);have r0:=bh ns 0 7 (by lia);generalize drw ns 0 7=m0 at*;have d1:=aX (ns:=ns) (show(0:Int)<=1 by lia) (by lia) (show(0:Int)<7 by lia);have r1:=bh ns 1 7 (by lia);generalize drw ns 1 7=m1 at*;obtain⟨L0,l1,l2,l3,l4⟩:=qg (ns:=ns) (b:=2) (m:=m0) (by lia) (by lia) r0.1 (by lia);obtain⟨gs,g1,g2,g3,g4⟩:=FN (ns:=ns) r0.1 (by lia) l2 l4;obtain⟨L1,p1,p2,p3,p4⟩:=qg (ns:=ns) (b:=40) (m:=m1) (by lia) (by lia) r1.1 (by lia);obtain⟨ss,s1,s2,s3,s4⟩:=FP (ns:=ns) r1.1 (by lia) p2 p4;have S:l0 ss:=⟨by lia,by rw[s2];exact p3,λs hs=>(s4 s hs).1⟩
 have G:nG gs:=⟨by lia,by rw[g2];exact l3,g4⟩
 obtain⟨bs,b1,b2⟩:=JZ (ns:=ns) (k:=360) (N:=m1) (n:=ss.length) (by lia) (by lia) r1.1 (by lia) (by lia);have d2:=aX (ns:=ns) (show(0:Int)<=480 by lia) (by lia) (show(0:Int)<4 by lia);have r2:=bh ns 480 4 (by lia);generalize drw ns 480 4=u at*;have d3:=aX (ns:=ns) (show(0:Int)<=480 by lia) (by lia) (show(0:Int)<13 by lia);have r3:=bh ns 480 13 (by lia);generalize drw ns 480 13=v at*;have d4:=aX (ns:=ns) (show(0:Int)<=481 by lia) (by lia) (show(0:Int)<2 by lia);have r4:=bh ns 481 2 (by lia);generalize drw ns 481 2=t at*;obtain⟨M,eM,hM⟩:∃M:Int,atD [D.int u,D.int v] t=some (.int M)/\0<=M/\M<=12:=by
  have:t=0\/t=1:=by lia
  rcases this with rfl|rfl
  .exact⟨u,rfl,by lia⟩
  .exact⟨v,rfl,by lia⟩
 obtain⟨m2,e2,h2,h3⟩:∃m2:Int,(if 0<m0/\0<m1 then M else 0)=m2/\(0<=m2/\m2<=12)/\(0<m2->0<m0/\0<m1):=by
  refine⟨_,rfl, ?_⟩;split
  .rename_i h;exact⟨hM,λ_=>h⟩
  .exact⟨by lia,λz=>by lia⟩
 obtain⟨L2,q1,q2,q3,q4⟩:=qg (ns:=ns) (b:=482) (m:=m2) (by lia) (by lia) h2.1 h2.2;obtain⟨os,o1,o2,o3,o4⟩:=FQ (ns:=ns) (gs:=gs) (ss:=ss) h2.1 h2.2 q2 q4 S (λs hs=>(s4 s hs).2) (λz=>by have:=h3 z;lia) (by lia);refine⟨⟨gs,ss,bs,os⟩, ?_,G,S,b2,⟨by show os.length<=12;lia,by rw[o2];exact q3,o4⟩⟩;have gi:ag (gs.map guD)=true:=aS λ_ _=>rfl;have si:ag (ss.map stD)=true:=aS λ_ _=>nJ;have bi:=iG bs;have oi:ag (os.map orD)=true:=aS λ_ _=>tL;have sm0:=K5 r0.1 (by lia);have zM:=K5 r1.1 (by lia);have zL:=K5 h2.1 h2.2;have z0:(aV 0 m0.toNat).length<=a7:=by rw[aN];unfold a7;lia
 have z1:(aV 0 m1.toNat).length<=a7:=by rw[aN];unfold a7;lia
 have z2:(aV 0 m2.toNat).length<=a7:=by rw[aN];unfold a7;lia
 have cm:bN (gN 0) aK (aQ a9 (af (vE 1) (af (vE 0) (af (kI 7) az)))) (aV 0 2) [none,some (.sh (.scr ns))]=some [.int m0,.int m1]:=by
  rw[show aV 0 2=[.int 0,.int 1] from rfl];simp[d0,d1,RV.free]
 show cV [.scr ns]=some (.tup [.tup (gs.map guD),.tup (ss.map stD),.tup (bs.map bF),.tup (os.map orD)]);clear g2 g3 g4 s2 s3 s4 S G b2 o2 o3 o4 l2 l3 l4 p2 p3 p4 q2 q3 q4;generalize gs.map guD=GG at*;generalize ss.map stD=SS at*;generalize bs.map bF=BB at*;generalize os.map orD=OO at*;generalize L0.map D.str=N0 at*;generalize L1.map D.str=N1 at*;generalize L2.map D.str=N2 at*;unfold cV;refine bc rfl ?_;rw[D6];refine(aj (e:=[some (.sh (.scr ns)),some (.own (.lst [.int m0,.int m1])),none,none,none,none,none,none]) (by
  have s2:bz 2=true:=rfl;simp[s2,DL.compEnv,cG,aN,a7,cm])).trans ?_
 refine(aj (e:=[some (.sh (.scr ns)),some (.own (.lst [.int m0,.int m1])),some (.own (.lst N0)),none,none,none,none,none]) (by simp[l1])).trans ?_;refine(aj (e:=[some (.sh (.scr ns)),some (.own (.lst [.int m0,.int m1])),some (.own (.lst N0)),some (.sh (.tup GG)),none,none,none,none]) (by simp[sm0,z0,DL.compEnv,cG,g1,aP,gi])).trans ?_;refine(aj (e:=[some (.sh (.scr ns)),some (.own (.lst [.int m0,.int m1])),some (.own (.lst N1)),some (.sh (.tup GG)),none,none,none,none]) (by simp[p1])).trans ?_;refine(aj (e:=[some (.sh (.scr ns)),some (.own (.lst [.int m0,.int m1])),some (.own (.lst N1)),some (.sh (.tup GG)),some (.sh (.tup SS)),none,none,none]) (by simp[zM,z1,DL.compEnv,cG,s1,aP,si])).trans ?_;refine(aj (e:=[some (.sh (.scr ns)),some (.own (.lst [.int m0,.int m1])),some (.own (.lst N1)),some (.sh (.tup GG)),some (.sh (.tup SS)),some (.sh (.tup BB)),none,none]) (by simp[b1])).trans ?_;refine(aj (e:=[some (.sh (.scr ns)),some (.own (.lst [.int m0,.int m1])),some (.own (.lst N1)),some (.sh (.tup GG)),some (.sh (.tup SS)),some (.sh (.tup BB)),some (.sh (.int 0)),none]) (by simp)).trans ?_;refine(aj (e:=[some (.sh (.scr ns)),some (.own (.lst [.int m0,.int m1])),some (.own (.lst N1)),some (.sh (.tup GG)),some (.sh (.tup SS)),some (.sh (.tup BB)),some (.sh (.int m2)),none]) (by
  rw[<-e2];by_cases h0:0<m0
  .by_cases h1:0<m1
   .rw[Gak ⟨h0,h1⟩];simp[h0,h1,d2,d3,d4,eM,a7]
   .rw[Gam (λz=>h1 z.2)];simp[h0,h1]
  .rw[Gam (λz=>h0 z.1)];simp[h0])).trans ?_
 refine(aj (e:=[some (.sh (.scr ns)),some (.own (.lst [.int m0,.int m1])),some (.own (.lst N2)),some (.sh (.tup GG)),some (.sh (.tup SS)),some (.sh (.tup BB)),some (.sh (.int m2)),none]) (by simp[q1])).trans ?_;refine(aj (e:=[some (.sh (.scr ns)),some (.own (.lst [.int m0,.int m1])),some (.own (.lst N2)),some (.sh (.tup GG)),some (.sh (.tup SS)),some (.sh (.tup BB)),some (.sh (.int m2)),some (.own (.lst OO))]) (by simp[zL,z2,DL.compEnv,cG,o1])).trans ?_;simp[aP,a7,gi,si,bi,oi]
theorem D7:∀ns:List Int,ns.length<=63->lT [.scr ns]=some (.bl true):=λns _=>by
 obtain⟨w,h,K⟩:=FR ns;exact JW h K
end Maths
namespace Der
open PySem PySem.Spec PyProof.Rows L2 DL
section
variable{Pm:Params}{mg:Str->Option Value}
def Txt(Pm:Params)(mg:Str->Option Value):Prop:=∃h:Heap,(Hd.K Pm).In h/\h.Ns mainGlobals mg
variable{n:Str}
theorem Txt.at{v:Value}(T:Txt Pm mg)(e:PySem.W.nsIn (Hd.K Pm) mainGlobals n=some (some v):=by kernel_rfl):mg n=some v:=let⟨_,X,G⟩:=T;PySem.W.mg_of X G e
theorem Txt.no(T:Txt Pm mg)(e:PySem.W.nsIn (Hd.K Pm) mainGlobals n=some none:=by kernel_rfl):mg n=none:=let⟨_,X,G⟩:=T;PySem.W.mg_none_of X G e
theorem mkI{x q:Str}{st:Stmt}{f:Addr}{pm cd:Value}(l:(Hd.K Pm).lookup f=some (Hd.fo (PySem.W.fnOf x q (g8 st) (cp st) (ay st) .none .none .none pm none cd .none)):=by kernel_rfl)(c:PySem.W.codeIn (Hd.K Pm) cd q=true:=by kernel_rfl)(k:PySem.W.keepIn (Hd.K Pm) (.ref f)=true:=by kernel_rfl):Fun (Hd.K Pm) x q st f (PySem.W.fnOf x q (g8 st) (cp st) (ay st) .none .none .none pm none cd .none):=Hn l c k
theorem iJ{us:List Value}{n:Nat}(h:us.length=n+1):∃a t,us=a::t/\t.length=n:=by
 cases us with
 |nil=>cases h
 |cons a t=>exact⟨a,t,rfl,Nat.succ.inj h⟩
theorem all1{K:PySem.W.Frag}{fd:FuncData}{p0:Str}(h:∀v0:Value,bindArgs fd ⟨[v0],[]⟩=pure ([p0].zip [v0])):Binds K fd [p0] []:= .all λus hl=>by
 obtain⟨v0,t0,rfl,hZ⟩:=iJ hl;cases GbE.mp hZ;exact h v0
variable{p1:Str}
theorem all2{K:PySem.W.Frag}{fd:FuncData}{p0:Str}(h:∀v0 v1:Value,bindArgs fd ⟨[v0,v1],[]⟩=pure ([p0,p1].zip [v0,v1])):Binds K fd [p0,p1] []:= .all λus hl=>by
 obtain⟨v0,t0,rfl,h0⟩:=iJ hl;obtain⟨v1,t1,rfl,hZ⟩:=iJ h0;cases GbE.mp hZ;exact h v0 v1
variable{p2:Str}
theorem qi{K:PySem.W.Frag}{fd:FuncData}{p0:Str}(h:∀v0 v1 v2:Value,bindArgs fd ⟨[v0,v1,v2],[]⟩=pure ([p0,p1,p2].zip [v0,v1,v2])):Binds K fd [p0,p1,p2] []:= .all λus hl=>by
 obtain⟨v0,t0,rfl,h0⟩:=iJ hl;obtain⟨v1,t1,rfl,h1⟩:=iJ h0;obtain⟨v2,t2,rfl,hZ⟩:=iJ h1;cases GbE.mp hZ;exact h v0 v1 v2
theorem Ph{K:PySem.W.Frag}{fd:FuncData}{p0 p3 p4:Str}(h:∀v0 v1 v2 v3 v4:Value,bindArgs fd ⟨[v0,v1,v2,v3,v4],[]⟩=pure ([p0,p1,p2,p3,p4].zip [v0,v1,v2,v3,v4])):Binds K fd [p0,p1,p2,p3,p4] []:= .all λus hl=>by
 obtain⟨v0,t0,rfl,h0⟩:=iJ hl;obtain⟨v1,t1,rfl,h1⟩:=iJ h0;obtain⟨v2,t2,rfl,h2⟩:=iJ h1;obtain⟨v3,t3,rfl,h3⟩:=iJ h2;obtain⟨v4,t4,rfl,hZ⟩:=iJ h3;cases GbE.mp hZ;exact h v0 v1 v2 v3 v4
theorem MZ:L2.Cls (Hd.K Pm) 100:=⟨by kernel_rfl,by kernel_rfl,by kernel_rfl,by kernel_rfl⟩
theorem Pj:Mk (Hd.K Pm) 100 97:=⟨by kernel_rfl,by kernel_rfl,by kernel_rfl,by kernel_rfl⟩
noncomputable abbrev fs:List Str:=["head","guests","stuffs","bars","orders"]
theorem Pk:∀n∈fs,bO (Hd.K Pm) 100 n:=by
 simp only[List.forall_mem_cons];exact⟨by unfold bO;kernel_rfl,by unfold bO;kernel_rfl,by unfold bO;kernel_rfl,by unfold bO;kernel_rfl,by unfold bO;kernel_rfl,λ_ h=>nomatch h⟩
theorem N3:Kt (Hd.K Pm) 67 [.inr "guest",.inr "stuff",.inr "bar",.inr "order"]:=⟨({cls:= .type "tuple",data:= .seq #[.str "guest" 268,.str "stuff" 269,.str "bar" 270,.str "order" 271]}:Obj),_,_,by kernel_rfl,rfl,rfl,by decide,(.cons ⟨_,rfl⟩ (.cons ⟨_,rfl⟩ (.cons ⟨_,rfl⟩ (.cons ⟨_,rfl⟩ .nil))))⟩
theorem N4:Kt (Hd.K Pm) 68 [.inr "guest",.inr "stuff",.inr "bar",.inr "order"]:=⟨({cls:= .type "tuple",data:= .seq #[.str "guest" 273,.str "stuff" 274,.str "bar" 275,.str "order" 276]}:Obj),_,_,by kernel_rfl,rfl,rfl,by decide,(.cons ⟨_,rfl⟩ (.cons ⟨_,rfl⟩ (.cons ⟨_,rfl⟩ (.cons ⟨_,rfl⟩ .nil))))⟩
theorem N5:Kt (Hd.K Pm) 69 [.inr "cap",.inr "young",.inr "stuff",.inr "bar",.inr "order"]:=⟨({cls:= .type "tuple",data:= .seq #[.str "cap" 278,.str "young" 279,.str "stuff" 280,.str "bar" 281,.str "order" 282]}:Obj),_,_,by kernel_rfl,rfl,rfl,by decide,(.cons ⟨_,rfl⟩ (.cons ⟨_,rfl⟩ (.cons ⟨_,rfl⟩ (.cons ⟨_,rfl⟩ (.cons ⟨_,rfl⟩ .nil)))))⟩
theorem N6:Kt (Hd.K Pm) 70 [.inr "cap",.inr "young",.inr "stuff",.inr "bar",.inr "order"]:=⟨({cls:= .type "tuple",data:= .seq #[.str "cap" 284,.str "young" 285,.str "stuff" 286,.str "bar" 287,.str "order" 288]}:Obj),_,_,by kernel_rfl,rfl,rfl,by decide,(.cons ⟨_,rfl⟩ (.cons ⟨_,rfl⟩ (.cons ⟨_,rfl⟩ (.cons ⟨_,rfl⟩ (.cons ⟨_,rfl⟩ .nil)))))⟩
theorem N7:Kt (Hd.K Pm) 71 [.inr "stuff",.inr "bar",.inr "order"]:=⟨({cls:= .type "tuple",data:= .seq #[.str "stuff" 290,.str "bar" 291,.str "order" 292]}:Obj),_,_,by kernel_rfl,rfl,rfl,by decide,(.cons ⟨_,rfl⟩ (.cons ⟨_,rfl⟩ (.cons ⟨_,rfl⟩ .nil)))⟩
theorem N8:Kt (Hd.K Pm) 72 [.inr "bar",.inr "order"]:=⟨({cls:= .type "tuple",data:= .seq #[.str "bar" 294,.str "order" 295]}:Obj),_,_,by kernel_rfl,rfl,rfl,by decide,(.cons ⟨_,rfl⟩ (.cons ⟨_,rfl⟩ .nil))⟩
theorem N9:Kt (Hd.K Pm) 73 [.inr "dose"]:=⟨({cls:= .type "tuple",data:= .seq #[.str "dose" 297]}:Obj),_,_,by kernel_rfl,rfl,rfl,by decide,(.cons ⟨_,rfl⟩ .nil)⟩
theorem Na:Kt (Hd.K Pm) 74 [.inr "asked",.inr "due"]:=⟨({cls:= .type "tuple",data:= .seq #[.str "asked" 299,.str "due" 300]}:Obj),_,_,by kernel_rfl,rfl,rfl,by decide,(.cons ⟨_,rfl⟩ (.cons ⟨_,rfl⟩ .nil))⟩
theorem Nb:Kt (Hd.K Pm) 75 [.inr "order"]:=⟨({cls:= .type "tuple",data:= .seq #[.str "order" 302]}:Obj),_,_,by kernel_rfl,rfl,rfl,by decide,(.cons ⟨_,rfl⟩ .nil)⟩
theorem Nc:Kt (Hd.K Pm) 76 [.inr "taper",.inr "order"]:=⟨({cls:= .type "tuple",data:= .seq #[.str "taper" 304,.str "order" 305]}:Obj),_,_,by kernel_rfl,rfl,rfl,by decide,(.cons ⟨_,rfl⟩ (.cons ⟨_,rfl⟩ .nil))⟩
theorem Nd:Kt (Hd.K Pm) 77 [.inr "taper",.inr "order"]:=⟨({cls:= .type "tuple",data:= .seq #[.str "taper" 307,.str "order" 308]}:Obj),_,_,by kernel_rfl,rfl,rfl,by decide,(.cons ⟨_,rfl⟩ (.cons ⟨_,rfl⟩ .nil))⟩
theorem Nf:Kt (Hd.K Pm) 78 [.inr "order",.inr "dose"]:=⟨({cls:= .type "tuple",data:= .seq #[.str "order" 321,.str "dose" 322]}:Obj),_,_,by kernel_rfl,rfl,rfl,by decide,(.cons ⟨_,rfl⟩ (.cons ⟨_,rfl⟩ .nil))⟩
theorem Ng:Kt (Hd.K Pm) 80 [.inl 1,.inl 1]:=⟨({cls:= .type "tuple",data:= .seq #[.int 1 325,.int 1 326]}:Obj),_,_,by kernel_rfl,rfl,rfl,by decide,(.cons ⟨_,rfl⟩ (.cons ⟨_,rfl⟩ .nil))⟩
theorem Nh:Kt (Hd.K Pm) 81 [.inl 1,.inl 1,.inl 1]:=⟨({cls:= .type "tuple",data:= .seq #[.int 1 328,.int 1 329,.int 1 330]}:Obj),_,_,by kernel_rfl,rfl,rfl,by decide,(.cons ⟨_,rfl⟩ (.cons ⟨_,rfl⟩ (.cons ⟨_,rfl⟩ .nil)))⟩
theorem Ni:Kt (Hd.K Pm) 82 [.inl 1]:=⟨({cls:= .type "tuple",data:= .seq #[.int 1 332]}:Obj),_,_,by kernel_rfl,rfl,rfl,by decide,(.cons ⟨_,rfl⟩ .nil)⟩
theorem Nj:Kt (Hd.K Pm) 83 [.inr "down",.inr "up",.inr "near"]:=⟨({cls:= .type "tuple",data:= .seq #[.str "down" 337,.str "up" 338,.str "near" 339]}:Obj),_,_,by kernel_rfl,rfl,rfl,by decide,(.cons ⟨_,rfl⟩ (.cons ⟨_,rfl⟩ (.cons ⟨_,rfl⟩ .nil)))⟩
noncomputable abbrev nP:List (Str×Nat×Value):=[("",267,.ref 67),("guest",272,.ref 68),("stuff",277,.ref 69),("cap",283,.ref 70),("young",289,.ref 71),("bar",293,.ref 72),("order",296,.ref 73),("dose",298,.ref 74),("asked",301,.ref 75),("due",303,.ref 76),("taper",306,.ref 77)]
variable{w:World}{P:Program}
theorem A3:KDk P w (Hd.K w.params) 66 Den.ij:=C8 (o:={cls:= .type "dict",data:= .dict (nP.map (C9 w.params)).toArray 11}) rfl (by kernel_rfl) ⟨rfl,rfl,rfl⟩ rfl (rz nP) (qa nP) (by decide) (.cons ⟨rfl,67,rfl,N3⟩ (.cons ⟨rfl,68,rfl,N4⟩ (.cons ⟨rfl,69,rfl,N5⟩ (.cons ⟨rfl,70,rfl,N6⟩ (.cons ⟨rfl,71,rfl,N7⟩ (.cons ⟨rfl,72,rfl,N8⟩ (.cons ⟨rfl,73,rfl,N9⟩ (.cons ⟨rfl,74,rfl,Na⟩ (.cons ⟨rfl,75,rfl,Nb⟩ (.cons ⟨rfl,76,rfl,Nc⟩ (.cons ⟨rfl,77,rfl,Nd⟩ .nil)))))))))))
noncomputable abbrev jx:List (Str×Nat×Value):=[("flat",324,.ref 80),("kilo",327,.ref 81),("ever",331,.ref 82)]
theorem rJ:KDk P w (Hd.K w.params) 79 Den.c6:=C8 (o:={cls:= .type "dict",data:= .dict (jx.map (C9 w.params)).toArray 3}) rfl (by kernel_rfl) ⟨rfl,rfl,rfl⟩ rfl (rz jx) (qa jx) (by decide) (.cons ⟨rfl,80,rfl,Ng⟩ (.cons ⟨rfl,81,rfl,Nh⟩ (.cons ⟨rfl,82,rfl,Ni⟩ .nil)))
def csT:Str->Option D:=upS "LETTERS" (.str "abcdefghijklmnopqrstuvwxyz") (upS "FIGURES" (.str "0123456789") (upS "LONGEST_NAME" (.int 8) (upS "GREATEST" (.int 1000000000) (upS "MOST_FIGURES" (.int 10) (upS "MOST_GUESTS" (.int 6) (upS "MOST_STUFFS" (.int 6) (upS "MOST_BARS" (.int 12) (upS "MOST_ORDERS" (.int 12) (upS "MOST_SIZES" (.int 8) (upS "MOST_CAPS" (.int 4) (upS "MOST_TAPERS" (.int 6) (upS "MOST_DUES" (.int 60) (upS "MOST_DEN" (.int 1000) (upS "MOST_PARTS" (.int 2000) (upS "UNENDED" (.kt [.inr "order",.inr "dose"]) (upS "WAYS" (.kt [.inr "down",.inr "up",.inr "near"]) (λ_=>none)))))))))))))))))
def dsT:Str->Option (List (DL.Key×List DL.Key)):=upS "CAP_LOWS" Den.c6 (upS "BEHIND" Den.ij (λ_=>none))
noncomputable abbrev bls:List Str:=["all","len","int","enumerate","zip","tuple","isinstance","list","bool","str","max","min","range","sum","set"]
def T0:Tbl:=⟨λ_=>none,λ_=>none,λ_=>none,λ_=>none,bls,csT,dsT,100,fs,false⟩
variable{P:Program}{w:World}{base:Heap}
theorem Nk(T:Txt w.params mg):∀x d,csT x=some d->CsM (Hd.K w.params) mg x d:=bI (q:=CsM (Hd.K w.params) mg) ⟨234,T.at⟩ (bI (q:=CsM (Hd.K w.params) mg) ⟨236,T.at⟩ (bI (q:=CsM (Hd.K w.params) mg) ⟨238,T.at⟩ (bI (q:=CsM (Hd.K w.params) mg) ⟨240,T.at⟩ (bI (q:=CsM (Hd.K w.params) mg) ⟨242,T.at⟩ (bI (q:=CsM (Hd.K w.params) mg) ⟨341,T.at⟩ (bI (q:=CsM (Hd.K w.params) mg) ⟨343,T.at⟩ (bI (q:=CsM (Hd.K w.params) mg) ⟨345,T.at⟩ (bI (q:=CsM (Hd.K w.params) mg) ⟨347,T.at⟩ (bI (q:=CsM (Hd.K w.params) mg) ⟨349,T.at⟩ (bI (q:=CsM (Hd.K w.params) mg) ⟨351,T.at⟩ (bI (q:=CsM (Hd.K w.params) mg) ⟨353,T.at⟩ (bI (q:=CsM (Hd.K w.params) mg) ⟨355,T.at⟩ (bI (q:=CsM (Hd.K w.params) mg) ⟨357,T.at⟩ (bI (q:=CsM (Hd.K w.params) mg) ⟨359,T.at⟩ (bI (q:=CsM (Hd.K w.params) mg) ⟨78,T.at,Nf⟩ (bI (q:=CsM (Hd.K w.params) mg) ⟨83,T.at,Nj⟩ (λ_ _ h=>nomatch h)))))))))))))))))
theorem Nl(T:Txt w.params mg):∀x t,dsT x=some t->∃a,mg x=some (Value.ref a)/\KDk P w (Hd.K w.params) a t:=bI (q:=λx t=>∃a,mg x=some (Value.ref a)/\KDk P w (Hd.K w.params) a t) ⟨79,T.at,rJ⟩ (bI (q:=λx t=>∃a,mg x=some (Value.ref a)/\KDk P w (Hd.K w.params) a t) ⟨66,T.at,A3⟩ (λ_ _ h=>nomatch h))
theorem noB(T:Txt Pm mg):∀x∈bls,mg x=none:=by
 simp only[List.forall_mem_cons];exact⟨T.no,T.no,T.no,T.no,T.no,T.no,T.no,T.no,T.no,T.no,T.no,T.no,T.no,T.no,T.no,λ_ h=>nomatch h⟩
theorem t0(T:Txt w.params mg):aF P w (Hd.K w.params) mg base 2 T0 where
 fn:=λ_ _ _ h=>nomatch h
 fw:=λ_ _ _ _ h=>nomatch h
 rd:=λ_ _ h=>nomatch h
 mo:=λ_ _ _ h=>nomatch h
 bl:=noB T
 cs:=Nk T
 ds:=Nl T
 cl:=λ_=>MZ
 na:=Pk
def T1:Tbl:={T0 with fn:=upS "is_made_of" (2,Den.dU) T0.fn}
theorem t1(T:Txt w.params mg):aF P w (Hd.K w.params) mg base 3 T1:=(t0 T).dG (bt (N:=["text","signs"]) (t0 T) (sd:=(Hd.top 9)) (fd:=Hd.jD) (fa:=51) mkI bS rfl (show _=some Den.gg by kernel_rfl)) T.at (by kernel_rfl) (all2 λ_ _=>rfl)
def T2:Tbl:={T1 with fn:=upS "is_name" (1,Den.f6) T1.fn}
theorem t2(T:Txt w.params mg):aF P w (Hd.K w.params) mg base 4 T2:=(t1 T).dG (bt (N:=["text"]) (t1 T) (sd:=(Hd.top 10)) (fd:=Hd.oq) (fa:=58) mkI bS rfl (show _=some Den.kX by kernel_rfl)) T.at (by kernel_rfl) (all1 λ_=>rfl)
def T3:Tbl:={T2 with fn:=upS "number_of" (1,Den.cU) T2.fn}
theorem t3(T:Txt w.params mg):aF P w (Hd.K w.params) mg base 5 T3:=(t2 T).dG (bt (N:=["text","number"]) (t2 T) (sd:=(Hd.top 11)) (fd:=Hd.ly) (fa:=65) mkI bS rfl (show _=some Den.ik by kernel_rfl)) T.at (by kernel_rfl) (all1 λ_=>rfl)
def T4:Tbl:={T3 with mo:=upS "Draft" (100,Den.ma) T3.mo}
theorem t4(T:Txt w.params mg):aF P w (Hd.K w.params) mg base 7 T4:=(t3 T).ON Pj (cH (N:=["self"]) (nm:=[]) (t3 T) (sd:=(Hd.inn 27 0)) (fd:=Hd.qB) (fa:=97) mkI bS rfl (by decide) (show _=some Den.uU by kernel_rfl)) T.at (all1 λ_=>rfl)
def T5:Tbl:={T4 with fn:=upS "place_of" (2,Den.cC) T4.fn}
theorem t5(T:Txt w.params mg):aF P w (Hd.K w.params) mg base 8 T5:=(t4 T).dG (bt (N:=["rows","name","k","row"]) (t4 T) (sd:=(Hd.top 28)) (fd:=Hd.my) (fa:=111) mkI bS rfl (show _=some Den.jm by kernel_rfl)) T.at (by kernel_rfl) (all2 λ_ _=>rfl)
def T6:Tbl:={T5 with fn:=upS "has_new_name" (2,Den.bT) T5.fn}
theorem t6(T:Txt w.params mg):aF P w (Hd.K w.params) mg base 9 T6:=(t5 T).dG (bt (N:=["rows","words"]) (t5 T) (sd:=(Hd.top 29)) (fd:=Hd.gU) (fa:=118) mkI bS rfl (show _=some Den.fA by kernel_rfl)) T.at (by kernel_rfl) (all2 λ_ _=>rfl)
def T7:Tbl:={T6 with fn:=upS "numbers_of" (2,Den.aB) T6.fn}
theorem t7(T:Txt w.params mg):aF P w (Hd.K w.params) mg base 10 T7:=(t6 T).dG (bt (N:=["words","lows","found","word","low","number"]) (t6 T) (sd:=(Hd.top 30)) (fd:=Hd.jE) (fa:=125) mkI bS rfl (show _=some Den.gh by kernel_rfl)) T.at (by kernel_rfl) (all2 λ_ _=>rfl)
def T8:Tbl:={T7 with fn:=upS "with_part" (3,Den.aM) T7.fn}
theorem t8(T:Txt w.params mg):aF P w (Hd.K w.params) mg base 11 T8:=(t7 T).dG (bt (N:=["row","k","part"]) (t7 T) (sd:=(Hd.top 31)) (fd:=Hd.lA) (fa:=132) mkI bS rfl (show _=some Den.cD by kernel_rfl)) T.at (by kernel_rfl) (qi λ_ _ _=>rfl)
def T9:Tbl:={T8 with fw:=upS "take_guest" (2,[0],Den.d8) T8.fw}
theorem t9(T:Txt w.params mg):aF P w (Hd.K w.params) mg base 12 T9:=(t8 T).addW (cH (N:=["draft","words","born"]) (nm:=["words","rest"]) (J:=[0]) (t8 T) (sd:=(Hd.top 32)) (fd:=Hd.jF) (fa:=139) mkI bS rfl (by decide) (show _=some Den.gj by kernel_rfl)) T.at (by kernel_rfl) (all2 λ_ _=>rfl)
def T10:Tbl:={T9 with fn:=upS "sizes_fit" (1,Den.fO) T9.fn}
theorem t10(T:Txt w.params mg):aF P w (Hd.K w.params) mg base 13 T10:=(t9 T).dG (bt (N:=["sizes","part","rises"]) (t9 T) (sd:=(Hd.top 33)) (fd:=Hd.lB) (fa:=144) mkI bS rfl (show _=some Den.ip by kernel_rfl)) T.at (by kernel_rfl) (all1 λ_=>rfl)
def T11:Tbl:={T10 with fw:=upS "take_stuff" (2,[0],Den.d9) T10.fw}
theorem t11(T:Txt w.params mg):aF P w (Hd.K w.params) mg base 14 T11:=(t10 T).addW (cH (N:=["draft","words","sizes"]) (nm:=["words","rest"]) (J:=[0]) (t10 T) (sd:=(Hd.top 34)) (fd:=Hd.jG) (fa:=149) mkI bS rfl (by decide) (show _=some Den.gk by kernel_rfl)) T.at (by kernel_rfl) (all2 λ_ _=>rfl)
def T12:Tbl:={T11 with fw:=upS "take_cap" (2,[0],Den.fB) T11.fw}
theorem t12(T:Txt w.params mg):aF P w (Hd.K w.params) mg base 15 T12:=(t11 T).addW (cH (N:=["draft","words","caps","numbers","cap"]) (nm:=["words","rest"]) (J:=[0]) (t11 T) (sd:=(Hd.top 35)) (fd:=Hd.mz) (fa:=156) mkI bS rfl (by decide) (show _=some Den.jo by kernel_rfl)) T.at (by kernel_rfl) (all2 λ_ _=>rfl)
def T13:Tbl:={T12 with fw:=upS "take_young" (2,[0],Den.da) T12.fw}
theorem t13(T:Txt w.params mg):aF P w (Hd.K w.params) mg base 16 T13:=(t12 T).addW (cH (N:=["draft","words","age"]) (nm:=["words","rest"]) (J:=[0]) (t12 T) (sd:=(Hd.top 36)) (fd:=Hd.jH) (fa:=163) mkI bS rfl (by decide) (show _=some Den.gp by kernel_rfl)) T.at (by kernel_rfl) (all2 λ_ _=>rfl)
def T14:Tbl:={T13 with fw:=upS "take_bar" (2,[0],Den.fC) T13.fw}
theorem t14(T:Txt w.params mg):aF P w (Hd.K w.params) mg base 17 T14:=(t13 T).addW (cH (N:=["draft","words","gap","stuff","other"]) (nm:=["words","rest"]) (J:=[0]) (t13 T) (sd:=(Hd.top 37)) (fd:=Hd.mB) (fa:=168) mkI bS rfl (by decide) (show _=some Den.jq by kernel_rfl)) T.at (by kernel_rfl) (all2 λ_ _=>rfl)
def T15:Tbl:={T14 with fw:=upS "take_order" (2,[0],Den.de) T14.fw}
theorem t15(T:Txt w.params mg):aF P w (Hd.K w.params) mg base 18 T15:=(t14 T).addW (cH (N:=["draft","words","guest","stuff"]) (nm:=["words","rest"]) (J:=[0]) (t14 T) (sd:=(Hd.top 38)) (fd:=Hd.jI) (fa:=175) mkI bS rfl (by decide) (show _=some Den.gq by kernel_rfl)) T.at (by kernel_rfl) (all2 λ_ _=>rfl)
def T16:Tbl:={T15 with fw:=upS "take_dose" (2,[0],Den.dH) T15.fw}
theorem t16(T:Txt w.params mg):aF P w (Hd.K w.params) mg base 19 T16:=(t15 T).addW (cH (N:=["draft","words","order","part","numbers"]) (nm:=["words","rest"]) (J:=[0]) (t15 T) (sd:=(Hd.top 39)) (fd:=Hd.lC) (fa:=182) mkI bS rfl (by decide) (show _=some Den.iq by kernel_rfl)) T.at (by kernel_rfl) (all2 λ_ _=>rfl)
def T17:Tbl:={T16 with fw:=upS "take_asked" (2,[0],Den.df) T16.fw}
theorem t17(T:Txt w.params mg):aF P w (Hd.K w.params) mg base 20 T17:=(t16 T).addW (cH (N:=["draft","words","begin"]) (nm:=["words","rest"]) (J:=[0]) (t16 T) (sd:=(Hd.top 40)) (fd:=Hd.jJ) (fa:=189) mkI bS rfl (by decide) (show _=some Den.gr by kernel_rfl)) T.at (by kernel_rfl) (all2 λ_ _=>rfl)
def T18:Tbl:={T17 with fw:=upS "take_due" (2,[0],Den.fD) T17.fw}
theorem t18(T:Txt w.params mg):aF P w (Hd.K w.params) mg base 21 T18:=(t17 T).addW (cH (N:=["draft","words","numbers","early","late"]) (nm:=["words","rest"]) (J:=[0]) (t17 T) (sd:=(Hd.top 41)) (fd:=Hd.mC) (fa:=196) mkI bS rfl (by decide) (show _=some Den.jr by kernel_rfl)) T.at (by kernel_rfl) (all2 λ_ _=>rfl)
def T19:Tbl:={T18 with fw:=upS "take_taper" (2,[0],Den.dh) T18.fw}
theorem t19(T:Txt w.params mg):aF P w (Hd.K w.params) mg base 22 T19:=(t18 T).addW (cH (N:=["draft","words","order","tapers","least","numbers","many"]) (nm:=["words","rest"]) (J:=[0]) (t18 T) (sd:=(Hd.top 42)) (fd:=Hd.jK) (fa:=203) mkI bS rfl (by decide) (show _=some Den.gv by kernel_rfl)) T.at (by kernel_rfl) (all2 λ_ _=>rfl)
def T20:Tbl:={T19 with fw:=upS "take_of_order" (3,[0],Den.cQ) T19.fw}
theorem t20(T:Txt w.params mg):aF P w (Hd.K w.params) mg base 23 T20:=(t19 T).addW (cH (N:=["draft","head","words"]) (nm:=["words","rest"]) (J:=[0]) (t19 T) (sd:=(Hd.top 43)) (fd:=Hd.gF) (fa:=210) mkI bS rfl (by decide) (show _=some Den.dR by kernel_rfl)) T.at (by kernel_rfl) (qi λ_ _ _=>rfl)
def T21:Tbl:={T20 with fw:=upS "take" (2,[0],Den.jt) T20.fw}
theorem t21(T:Txt w.params mg):aF P w (Hd.K w.params) mg base 24 T21:=(t20 T).addW (cH (N:=["draft","line","words","head","rest"]) (nm:=["words","rest"]) (J:=[0]) (t20 T) (sd:=(Hd.top 44)) (fd:=Hd.Au) (fa:=217) mkI bS rfl (by decide) (show _=some Den.tq by kernel_rfl)) T.at (by kernel_rfl) (all2 λ_ _=>rfl)
def T22:Tbl:={T21 with rd:=upS "read" Den.ir T21.rd}
theorem t22(T:Txt w.params mg):aF P w (Hd.K w.params) mg base 25 T22:=(t21 T).OM (Fm (N:=["lines","draft","place","line"]) (nm:=[]) (mv:=[1]) ((t21 T).nev (b:=true)) (sd:=(Hd.top 45)) (fd:=Hd.Av) (fa:=224) mkI bS rfl (show _=some Den.tx by kernel_rfl)) T.at (by kernel_rfl) (all1 λ_=>rfl)
def T23:Tbl:={T22 with fn:=upS "line_of" (1,Den.aW) T22.fn}
theorem t23(T:Txt w.params mg):aF P w (Hd.K w.params) mg base 26 T23:=(t22 T).dG (bt (N:=["words"]) (t22 T) (sd:=(Hd.top 47)) (fd:=Hd.ot) (fa:=229) mkI bS rfl (show _=some Den.oW by kernel_rfl)) T.at (by kernel_rfl) (all1 λ_=>rfl)
def T24:Tbl:={T23 with fn:=upS "stuff_lines" (1,Den.cO) T23.fn}
theorem t24(T:Txt w.params mg):aF P w (Hd.K w.params) mg base 27 T24:=(t23 T).dG (bt (N:=["stuff","lines","cap"]) (t23 T) (sd:=(Hd.top 48)) (fd:=Hd.iW) (fa:=236) mkI bS rfl (show _=some Den.fR by kernel_rfl)) T.at (by kernel_rfl) (all1 λ_=>rfl)
def T25:Tbl:={T24 with fn:=upS "order_lines" (3,Den.cP) T24.fn}
theorem t25(T:Txt w.params mg):aF P w (Hd.K w.params) mg base 28 T25:=(t24 T).dG (bt (N:=["guests","stuffs","order","lines","taper"]) (t24 T) (sd:=(Hd.top 49)) (fd:=Hd.iX) (fa:=243) mkI bS rfl (show _=some Den.fS by kernel_rfl)) T.at (by kernel_rfl) (qi λ_ _ _=>rfl)
def T26:Tbl:={T25 with fn:=upS "shown" (1,Den.ke) T25.fn}
theorem t26(T:Txt w.params mg):aF P w (Hd.K w.params) mg base 29 T26:=(t25 T).dG (bt (N:=["world","guests","stuffs","lines","stuff","bar","order"]) (t25 T) (sd:=(Hd.top 50)) (fd:=Hd.ub) (fa:=248) mkI bS rfl (show _=some Den.qb by kernel_rfl)) T.at (by kernel_rfl) (all1 λ_=>rfl)
def T27:Tbl:={T26 with fn:=upS "_law_draw" (3,Den.a9) T26.fn}
theorem t27(T:Txt w.params mg):aF P w (Hd.K w.params) mg base 30 T27:=(t26 T).dG (bt (N:=["_law_script","_law_k","_law_many","_law_cell"]) (t26 T) (sd:=(Hd.top 52)) (fd:=Hd.mD) (fa:=255) mkI bS rfl (show _=some Den.ju by kernel_rfl)) T.at (by kernel_rfl) (qi λ_ _ _=>rfl)
theorem ve(T:Txt w.params mg):∀n:Nat,cy P w (Hd.K w.params) mg base CX0 (30+n+1) 260 Hd.g9 ["_law_found","_law_due"] (spD (Hd.K w.params) 2 (Den.cE n))
 |0=>(bt (N:=["_law_found","_law_due"]) ((t27 T).nev (b:=true)) (sd:=(Hd.top 53)) (fd:=Hd.g9) (fa:=260) mkI bS rfl (wR (d:=dP) (by kernel_rfl))).imp λ_ _ _ _ ⟨_,_,_,_,h,_⟩=>nomatch h
 |n+1=>bt (N:=["_law_found","_law_due"]) (((t27 T).mono (Gch 30 n)).dG (x:="_law_same") (ve T n) T.at (by kernel_rfl) (all2 λ_ _=>rfl)) (sd:=(Hd.top 53)) (fd:=Hd.g9) (fa:=260) mkI bS rfl (show _=some (Den.bB (Den.cE n)) by kernel_rfl)
def T28:Tbl:={T27 with fn:=upS "_law_same" (2,Den.cF) T27.fn}
theorem t28(T:Txt w.params mg):aF P w (Hd.K w.params) mg base 38 T28:=((t27 T).mono (by decide)).dG (ve T 7) T.at (by kernel_rfl) (all2 λ_ _=>rfl)
def T29:Tbl:={T28 with fn:=upS "_law_names" (3,Den.bG) T28.fn}
theorem t29(T:Txt w.params mg):aF P w (Hd.K w.params) mg base 39 T29:=(t28 T).dG (bt (N:=["_law_script","_law_base","_law_many","_law_letters","_law_word","_law_style","_law_names_here","_law_size","_law_at","_law_k","_law_signs"]) (t28 T) (sd:=(Hd.top 54)) (fd:=Hd.lF) (fa:=265) mkI bS rfl (show _=some Den.iu by kernel_rfl)) T.at (by kernel_rfl) (qi λ_ _ _=>rfl)
def T30:Tbl:={T29 with fn:=upS "_law_number" (3,Den.aC) T29.fn}
theorem t30(T:Txt w.params mg):aF P w (Hd.K w.params) mg base 40 T30:=(t29 T).dG (bt (N:=["_law_script","_law_k","_law_most","_law_way"]) (t29 T) (sd:=(Hd.top 55)) (fd:=Hd.jL) (fa:=272) mkI bS rfl (show _=some Den.gw by kernel_rfl)) T.at (by kernel_rfl) (qi λ_ _ _=>rfl)
def T31:Tbl:={T30 with fn:=upS "_law_cap" (2,Den.fY) T30.fn}
theorem t31(T:Txt w.params mg):aF P w (Hd.K w.params) mg base 41 T31:=(t30 T).dG (bt (N:=["_law_script","_law_at","_law_hours","_law_top","_law_kind"]) (t30 T) (sd:=(Hd.top 56)) (fd:=Hd.ou) (fa:=279) mkI bS rfl (show _=some Den.kZ by kernel_rfl)) T.at (by kernel_rfl) (all2 λ_ _=>rfl)
def T32:Tbl:={T31 with fn:=upS "_law_stuff" (3,Den.dI) T31.fn}
theorem t32(T:Txt w.params mg):aF P w (Hd.K w.params) mg base 42 T32:=(t31 T).dG (bt (N:=["_law_script","_law_at","_law_name","_law_part","_law_sizes","_law_factor","_law_k","_law_caps","_law_young"]) (t31 T) (sd:=(Hd.top 57)) (fd:=Hd.lG) (fa:=284) mkI bS rfl (show _=some Den.iz by kernel_rfl)) T.at (by kernel_rfl) (qi λ_ _ _=>rfl)
def T33:Tbl:={T32 with fn:=upS "_law_bars" (3,Den.fE) T32.fn}
theorem t33(T:Txt w.params mg):aF P w (Hd.K w.params) mg base 43 T33:=(t32 T).dG (bt (N:=["_law_script","_law_at","_law_many","_law_bars_here","_law_one","_law_other","_law_k"]) (t32 T) (sd:=(Hd.top 58)) (fd:=Hd.mE) (fa:=291) mkI bS rfl (show _=some Den.jv by kernel_rfl)) T.at (by kernel_rfl) (qi λ_ _ _=>rfl)
def T34:Tbl:={T33 with fn:=upS "_law_dues" (2,Den.gx) T33.fn}
theorem t34(T:Txt w.params mg):aF P w (Hd.K w.params) mg base 44 T34:=(t33 T).dG (bt (N:=["_law_script","_law_at","_law_begin","_law_every","_law_many","_law_early","_law_late"]) (t33 T) (sd:=(Hd.top 59)) (fd:=Hd.mF) (fa:=298) mkI bS rfl (show _=some Den.jw by kernel_rfl)) T.at (by kernel_rfl) (all2 λ_ _=>rfl)
def T35:Tbl:={T34 with fn:=upS "_law_tapers" (3,Den.dk) T34.fn}
theorem t35(T:Txt w.params mg):aF P w (Hd.K w.params) mg base 45 T35:=(t34 T).dG (bt (N:=["_law_script","_law_at","_law_dues_here","_law_tapers_here","_law_k","_law_den"]) (t34 T) (sd:=(Hd.top 60)) (fd:=Hd.jM) (fa:=305) mkI bS rfl (show _=some Den.dW by kernel_rfl)) T.at (by kernel_rfl) (qi λ_ _ _=>rfl)
def T36:Tbl:={T35 with fn:=upS "_law_order" (5,Den.dJ) T35.fn}
theorem t36(T:Txt w.params mg):aF P w (Hd.K w.params) mg base 46 T36:=(t35 T).dG (bt (N:=["_law_script","_law_at","_law_name","_law_guests","_law_stuffs","_law_guest","_law_stuff_here","_law_part","_law_most","_law_per","_law_rule","_law_dues_here"]) (t35 T) (sd:=(Hd.top 61)) (fd:=Hd.lH) (fa:=312) mkI bS rfl (show _=some Den.iA by kernel_rfl)) T.at (by kernel_rfl) (Ph λ_ _ _ _ _=>rfl)
def T37:Tbl:={T36 with fn:=upS "_law_world" (1,Den.cV) T36.fn}
theorem t37(T:Txt w.params mg):aF P w (Hd.K w.params) mg base 47 T37:=(t36 T).dG (bt (N:=["_law_script","_law_many","_law_names_here","_law_guests","_law_stuffs","_law_bars_here","_law_orders","_law_made"]) (t36 T) (sd:=(Hd.top 62)) (fd:=Hd.lI) (fa:=317) mkI bS rfl (show _=some Den.iB by kernel_rfl)) T.at (by kernel_rfl) (all1 λ_=>rfl)
def T38:Tbl:={T37 with fn:=upS "_law_line" (1,Den.aA) T37.fn}
theorem t38(T:Txt w.params mg):aF P w (Hd.K w.params) mg base 48 T38:=(t37 T).dG (bt (N:=["_law_words"]) (t37 T) (sd:=(Hd.top 63)) (fd:=Hd.mG) (fa:=322) mkI bS rfl (show _=some Den.nu by kernel_rfl)) T.at (by kernel_rfl) (all1 λ_=>rfl)
def T39:Tbl:={T38 with fn:=upS "_law_lines" (1,Den.fP) T38.fn}
theorem t39(T:Txt w.params mg):aF P w (Hd.K w.params) mg base 49 T39:=(t38 T).dG (bt (N:=["_law_world_here","_law_lines_here","_law_stuff_here","_law_stuffs","_law_bar","_law_bars_here","_law_order_here","_law_orders","_law_guests","_law_cap_here","_law_taper"]) (t38 T) (sd:=(Hd.top 64)) (fd:=Hd.lJ) (fa:=327) mkI bS rfl (show _=some Den.iC by kernel_rfl)) T.at (by kernel_rfl) (all1 λ_=>rfl)
theorem K6(T:Txt w.params mg):cy P w (Hd.K w.params) mg base CX0 50 334 Hd.Aw ["_law_script"] (spD (Hd.K w.params) 1 Den.lT):=bt (N:=["_law_script","_law_world_here","_law_lines_here","_law_told","_law_handed","_law_found"]) (t39 T) (sd:=(Hd.top 65)) (fd:=Hd.Aw) (fa:=334) mkI bS rfl (show _=some Den.Ca by kernel_rfl)
end
theorem all_mk{l:PySem.W.OpenLaw}{w:World}{h:Heap}{mg:Str->Option Value}{fa:Addr}(X:(Hd.K w.params).In h)(G:h.Ns mainGlobals mg)(Ra:mg "law"=some (.ref fa)):
  ∃fd:FuncData,(∀(s:Shared) (v:Value),BindsTo s fd ⟨[v],[]⟩ [("_law_script",v)])/\∀base:Heap,(Hd.K w.params).In base->base.Ns mainGlobals mg->cy l.prog w (Hd.K w.params) mg base CX0 50 fa fd ["_law_script"] (spD (Hd.K w.params) 1 Den.lT):=by
 have T:Txt w.params mg:=⟨h,X,G⟩
 have e:=Ra.symm.trans (T.at:mg "law"=some (.ref 334));cases e;exact⟨_,λs v=> .of_eq rfl,λbase _ _=>K6 T⟩
theorem walk{l:PySem.W.OpenLaw}{q:Program}{loose:List Str}{XP:(Str->Option Value)->Heap->Prop}{YP:World->Heap->Prop}{d:DefRec}{K:Params->PySem.W.Frag}(hn:l.most=some 63)(zc:d.params.defaults=[])
  (hY:∀(w:World) (h:Heap),YP w h->(K w.params).In h)(yU:∀ns:List Int,ns.length<=63->Den.lT [.scr ns]=some (.bl true))
  (F:∀(w:World) (mg:Str->Option Value) (fa:Addr) (h:Heap),(K w.params).In h->h.Ns mainGlobals mg->mg d.name=some (.ref fa)->
   ∃fd:FuncData,(∀(s:Shared) (u:Value),BindsTo s fd ⟨[u],[]⟩ [("_law_script",u)])/\∀base:Heap,(K w.params).In base->base.Ns mainGlobals mg->cy l.prog w (K w.params) mg base CX0 50 fa fd ["_law_script"] (spD (K w.params) 1 Den.lT)):
  PySem.W.WalkO q loose XP YP l.row.toRowW d [] (λf vs=>PySem.call f vs):=
 L2.DC (n:=63) (k:=50) (x:="_law_script") (CX:=λ_=>CX0) (sp:=λw=>spD (K w.params) 1 Den.lT) hn (by decide) zc ⟨rfl,by decide,by decide⟩ hY F (λ_ _ a ns hl hO hS=>HY hO hS (yU ns hl)) λ_ _ _ _ _ z=>z
end Der
open PySem PySem.W PyProof.Rows
set_option maxRecDepth 100000 in
set_option maxHeartbeats 0 in
theorem PySem.Challenge.cw_dosehouse_k07_shown_and_read_holds : PySem.Challenge.rw_dosehouse_k07_shown_and_read.Holds := by
 refine holds_law (by kernel_rfl) λzN=> ?_;refine holds_open (q:=Hd.view) (loose:=["BEHIND","CAP_LOWS"]) (Xt:=Hd.xt) (XP:=XL Hd.view []) (Yf:=Hook.obs Hd.hook) (Ya:=Hook.val Hd.hook) (YP:=Hook.says Hd.hook) (N:=4794) Hd.left (Hook.of Hd.hook) (Hook.keeps Hd.hook) (λs e=>xl_of s (Bool.and_eq_true_iff.mp e).1) XL.keeps (by rfl) (by rfl) (by rfl) (λs e=>recFacts_of (Bool.and_eq_true_iff.mp e).2) (by rfl) zN (by decide+kernel) ⟨rfl,rfl,rfl,rfl,rfl,by decide+kernel⟩ ?hw ?hc
 case hw=>w_witness2
 case hc=>exact Der.walk (l:=PySem.Challenge.rw_dosehouse_k07_shown_and_read) (K:=Hd.K) rfl rfl (λw h Y=>PySem.W.kIn_of Y) Maths.D7 λw mg fa h KX G z9=>Der.all_mk KX G z9
