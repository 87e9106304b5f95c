import PyProof.Rows.All
import Wide.All
import OpenK.AllK
import PySem.Challenge.RW_dosehouse_k09_lines_by_what_stands_above
set_option Elab.async false
set_option linter.all false
set_option maxRecDepth 100000
set_option maxHeartbeats 0
noncomputable section
set_option genSizeOf false
set_option compiler.extract_closed false
set_option genInjectivity false
theorem Za1(h:True:=by rfl):True:=h
theorem Za2(h:True:=by decide):True:=h
theorem Za3(h:True:=by first|exact .inl rfl|exact .inr rfl|assumption):True:=h
def Gaa:=@Option.map_eq_some_iff
def Gab:=@List.getElem?_set_ne
def Gac:=@List.getElem?_eq_some_iff
def Gad:=@Bool.and_eq_true
def Gae:=@PySem.wpAny_bind
def Gaf:=@PySem.Heap.get?_push_of_some
def Gag:=@List.size_toArray
def Gah:=@Nat.lt_of_lt_of_le
def Gai:=@Bool.false_ne_true
def Gaj:=@PySem.Heap.lt_size
def Gak:=@if_pos
def Gal:=@List.getElem?_eq_getElem
def Gam:=@if_neg
def Gan:=@List.mem_cons
def Gao:=@PySem.wpAny_pure
def Gap:=@Nat.le_refl
def Gaq:=@Nat.ne_of_lt
def Gar:=@PySem.Heap.get?_push_size
def Gas:=@List.lookup_cons
def Gat:=@List.mem_cons_of_mem
def Gau:=@List.all_eq_true
def Gav:=@List.getElem?_set_self
def Gaw:=@List.getElem?_map
def Gax:=@List.length_map
def Gay:=@beq_iff_eq
def Gaz:=@List.not_mem_nil
def GaA:=@List.mem_cons_self
def GaB:=@of_decide_eq_true
def GaC:=@List.mem_of_getElem?
def GaD:=@List.mem_append_right
def GaE:=@Nat.le_trans
def GaF:=@List.eq_nil_of_length_eq_zero
def GaG:=@Ne.symm
def GaH:=@List.getElem?_append_left
def GaI:=@Nat.lt_irrefl
def GaJ:=@List.length_append
def GaK:=@List.length_cons
def GaL:=@List.getElem?_append_right
def GaM:=@List.nodup_cons
def GaN:=@decide_eq_true_eq
def GaO:=@PySem.wpAny_mono
def GaP:=@Nat.zero_add
def GaQ:=@beq_eq_false_iff_ne
def GaR:=@PySem.wpAny_truthy_bool
def GaS:=@List.getElem?_eq_none
def GaT:=@Bool.or_eq_true
def GaU:=@List.range_succ
def GaV:=@List.map_append
def GaW:=@List.zip_cons_cons
def GaX:=@or_false
def GaY:=@Nat.ne_of_gt
def GaZ:=@decide_eq_false
def Gba:=@List.append_nil
def Gbb:=@PySem.Heap.size_push
def Gbc:=@PySem.F.plainAttrs_list
def Gbd:=@PySem.wpAny_newObj_type
def Gbe:=@PyProof.Rows.callWith_type1
def Gbf:=@Option.map_some
def Gbg:=@PySem.Heap.get?_update_other
def Gbh:=@Array.getElem?_eq_some_iff
def Gbi:=@List.length_take
def Gbj:=@PySem.wpAny_ite_true
def Gbk:=@Nat.le_succ
def Gbl:=@PySem.W.kia_one
def Gbm:=@List.getElem?_of_mem
def Gbn:=@List.map_cons
def Gbo:=@List.all_cons
def Gbp:=@List.getElem?_replicate
def Gbq:=@PySem.wpAny_callSpecial?_slot
def Gbr:=@List.length_eq_zero_iff
def Gbs:=@Nat.lt_succ_self
def Gbt:=@decide_eq_true
def Gbu:=@PySem.wpAny_Call_Name_kw
def Gbv:=@List.mem_singleton
def Gbw:=@List.findIdx?_cons
def Gbx:=@PySem.Heap.get?_update_self
def Gby:=@Array.getElem?_setIfInBounds_self
def Gbz:=@PySem.wpAny_seqItems
def GbA:=@PyProof.Rows.slot_tuple_getitem
def GbB:=@List.getElem?_cons_succ
def GbC:=@List.getElem?_cons_zero
def GbD:=@PySem.wpAny_execs_nil
def GbE:=@PySem.wpAny_pyIter_tuple
def GbF:=@PySem.wpAny_ite_false
def GbG:=@PySem.wpAny_setField_rec
def GbH:=@PySem.wpAny_loadPart_at
def GbI:=@Bool.not_eq_true'
def GbJ:=@List.mem_range
def GbK:=@PySem.codeAny_mono
def GbL:=@Bool.and_false
def GbM:=@List.contains_iff_mem
def GbN:=@PySem.wpAny_call_entry
def GbO:=@List.getElem_mem
def GbP:=@PySem.F.excBase_ValueError
def GbQ:=@PySem.sizeLine_eq
def GbR:=@PySem.wpAny_passesOwn
def GbS:=@List.drop_eq_getElem_cons
def GbT:=@List.getElem?_zip_eq_some
def GbU:=@PySem.F.args_tuple_add_2
def GbV:=@PySem.F.slot_list_append
def GbW:=@PySem.F.type_list_append
def GbX:=@PySem.F.slot_list_extend
def GbY:=@Int.zero_add
def GbZ:=@PySem.wpAny_call
def Gca:=@PySem.call_meets
def Gcb:=@PySem.F.entry_tuple_add
def Gcc:=@Nat.lt_succ_of_lt
def Gce:=@PySem.wpAny_pyIter_enum
def Gcf:=@PySem.F.slot_tuple_add
def Gcg:=@List.range_succ_eq_map
def Gch:=@PySem.wpAny_onRaise
def Gci:=@List.length_drop
def Gcj:=@List.length_replicate
def Gck:=@if_true
def Gcl:=@List.length_singleton
def Gcm:=@List.eq_nil_or_concat
def Gcn:=@List.concat_eq_append
def Gco:=@PySem.Heap.get?_none_of_le
def Gcp:=@List.mem_append
def Gcq:=@List.mem_append_left
def Gcr:=@PyProof.Rows.callWith_builtin1
def Gcs:=@List.forIn_cons
def Gct:=@PySem.codeAny_call_builtin
def Gcu:=@PySem.wpAny_updateSeq_pair
def Gcv:=@PySem.F.slot_zip_next
def Gcw:=@Bool.or_eq_false_iff
def Gcx:=@List.filterMap_cons
def Gcy:=@Array.length_toList
def Gcz:=@PySem.W.callWith_K
def GcA:=@Int.emod_lt_of_pos
def GcB:=@List.append_assoc
def GcC:=@not_false_eq_true
def GcD:=@Nat.le_of_lt
def GcE:=@Nat.le_of_eq
def GcF:=@List.set_set
def GcG:=@Bool.or_true
def GcH:=@List.map_map
abbrev VSP:=PySem.Value->PySem.Shared->Prop
abbrev LAO:=List (PySem.Addr×PySem.Obj)
namespace L2
open PySem PySem.Spec PyProof.Rows
abbrev Key:=Sum Int Str
def mV:Key->Value->Bool
 | .inl k,v=>Value.isInt k v
 | .inr x,v=>Value.isStrOf x v
noncomputable def NO(w:World):Key->Int
 | .inl k=>hashInt k
 | .inr x=>hashStr w x
theorem bG:∀{k:Key} {v:Value},mV k v=true->(∃i t,k=Sum.inl i/\v=Value.int i t)\/(∃x t,k=Sum.inr x/\v=Value.str x t)
 | .inl i,v,h=>by
  obtain⟨t,e⟩:=Value.isInt_shape (k:=i) (v:=v) h;exact .inl ⟨i,t,rfl,e⟩
 | .inr x,v,h=>by
  obtain⟨t,e⟩:=Value.isStrOf_shape (x:=x) (v:=v) h;exact .inr ⟨x,t,rfl,e⟩
theorem uA(i:Int)(t:Tok):mV (.inl i) (.int i t)=true:=by simp[mV,Value.isInt]
theorem uB(x:Str)(t:Tok):mV (.inr x) (.str x t)=true:=by simp[mV,Value.isStrOf]
theorem GI(a b:Int):decide ((Sum.inl a:Key)=Sum.inl b)=(a==b):=by
 by_cases e:a=b
 .subst e;simp
 .have h:¬(Sum.inl a:Key)=Sum.inl b:=λq=>e (Sum.inl.inj q);rw[GaZ h];exact(GaQ.mpr e).symm
theorem GJ(a b:Str):decide ((Sum.inr a:Key)=Sum.inr b)=decide (a=b):=by
 by_cases e:a=b
 .subst e;simp
 .have h:¬(Sum.inr a:Key)=Sum.inr b:=λq=>e (Sum.inr.inj q);rw[GaZ h,GaZ e]
theorem GK(a:Int)(b:Str):decide ((Sum.inl a:Key)=Sum.inr b)=false:=GaZ (λq=>nomatch q)
theorem GL(a:Str)(b:Int):decide ((Sum.inr a:Key)=Sum.inl b)=false:=GaZ (λq=>nomatch q)
def dO(prog:Program)(w:World):PySem.KeyKind prog w Key where
 is:=mV
 hash:=NO w
 inj:=λv a b ha hb=>by
  rcases bG ha with⟨i,t,rfl,rfl⟩| ⟨x,t,rfl,rfl⟩
  .rcases bG hb with⟨j,u,rfl,e⟩| ⟨y,u,rfl,e⟩
   .injection e with e1 _;rw[e1]
   .exact nomatch e
  .rcases bG hb with⟨j,u,rfl,e⟩| ⟨y,u,rfl,e⟩
   .exact nomatch e
   .injection e with e1 _;rw[e1]
 byValue:=λk v h=>by
  rcases bG h with⟨i,t,rfl,rfl⟩| ⟨x,t,rfl,rfl⟩<;>rfl
 pyHash:=λhv h=>by
  rcases bG hv with⟨i,t,rfl,rfl⟩| ⟨x,t,rfl,rfl⟩
  .exact wpAny_pyHash_int h
  .exact wpAny_pyHash_str h
 eqBool:=λhu hv h=>by
  rcases bG hu with⟨i,t,rfl,rfl⟩| ⟨x,t,rfl,rfl⟩
  .rcases bG hv with⟨j,u,rfl,rfl⟩| ⟨y,u,rfl,rfl⟩
   .rw[GI] at h;exact wpAny_eqBool_int h
   .rw[GK] at h;exact SeqAt.EqAt.int_str i t y u _ _ _ _ h
  .rcases bG hv with⟨j,u,rfl,rfl⟩| ⟨y,u,rfl,rfl⟩
   .rw[GL] at h;exact SeqAt.EqAt.str_int x t j u _ _ _ _ h
   .rw[GJ] at h;exact wpAny_eqBool_str h
 «strs» :=λk x t v h=>by
  rcases bG h with⟨i,u,rfl,e⟩| ⟨y,u,rfl,e⟩
  .exact nomatch e
  .injection e with e1 _
   subst e1;cases v<;>rfl
theorem oW(prog:Program)(w:World)(i:Int)(t:Tok):(dO prog w).is (.inl i) (.int i t)=true:=uA i t
theorem gX(prog:Program)(w:World)(x:Str)(t:Tok):(dO prog w).is (.inr x) (.str x t)=true:=uB x t
set_option genInjectivity true in
inductive V where
 |non|bl (b:Bool)|int (i:Int)|str (x:Str)|ref (a:Addr)|ty (n:String)
 deriving DecidableEq
def RelV:V->Value->Prop
 | .non,u=>u=Value.none
 | .bl b,u=>u=Value.bool b
 | .int i,u=>∃t,u=Value.int i t
 | .str x,u=>∃t,u=Value.str x t
 | .ref a,u=>u=Value.ref a
 | .ty n,u=>u=Value.type n
abbrev Vals:List V->List Value->Prop:=Paired RelV
theorem Vals.length{xs:List V}{us:List Value}(r:Vals xs us):xs.length=us.length:=Paired.length r
theorem Vals.get:∀{xs:List V} {us:List Value} {i:Nat} {x:V},Vals xs us->xs[i]? =some x->∃u,us[i]? =some u/\RelV x u
 |_,_,_,_,.nil,e=>by simp at e
 |_,_,0,_,.cons r _,e=>by simp at e;subst e;exact⟨_,rfl,r⟩
 |_,_,i+1,x,.cons _ t,e=>by
  obtain⟨u,h1,h2⟩:=Vals.get (i:=i) (x:=x) t (by simpa using e);exact⟨u,by simpa using h1,h2⟩
theorem Vals.set{x:V}{u:Value}(r:RelV x u):∀{xs:List V} {us:List Value} (i:Nat),Vals xs us->Vals (xs.set i x) (us.set i u)
 |_,_,_,.nil=> .nil
 |_,_,0,.cons _ t=> .cons r t
 |_,_,i+1,.cons q t=> .cons q (Vals.set r i t)
theorem Vals.append{xs ys:List V}{us ws:List Value}(p:Vals xs us)(s:Vals ys ws):Vals (xs++ys) (us++ws):=by
 induction p with
 |nil=>exact s
 |cons r t ih=>exact .cons r ih
theorem Vals.take:∀{xs:List V} {us:List Value} (n:Nat),Vals xs us->Vals (xs.take n) (us.take n)
 |_,_,0,_=> .nil
 |_,_,_+1,.nil=> .nil
 |_,_,n+1,.cons r t=> .cons r (Vals.take n t)
theorem Vals.drop:∀{xs:List V} {us:List Value} (n:Nat),Vals xs us->Vals (xs.drop n) (us.drop n)
 |_,_,0,r=>r
 |_,_,_+1,.nil=> .nil
 |_,_,n+1,.cons _ t=>Vals.drop n t
def qy:Option V->Option Value->Prop
 |some v,some u=>RelV v u
 |none,none=>True
 |_,_=>False
noncomputable def kV:Key->V
 | .inl i=> .int i
 | .inr x=> .str x
inductive HO where
 |lst (xs:List V)
 |tup (xs:List V)
 |ins (C dx:Addr) (fs:List (Str×V))
 |own (x:Addr)
 |xd (fs:List (Str×V))
 |rng (lo hi:Int)
 |frz (o:Obj) (u:HO)
 |tbl (ps:Array Value)
 |ext (φ:Heap->Prop)
abbrev Hp:=Addr->Option HO
noncomputable def upd(H:Hp)(a:Addr)(o:HO):Hp:=λb=>if b=a then some o else H b
variable{o:HO}{a:Addr}{H:Hp}
theorem aE:upd H a o a=some o:=by unfold upd;rw[Gak rfl]
variable{b:Addr}
theorem ak(h:b≠a):upd H a o b=H b:=by unfold upd;rw[Gam h]
variable{u:HO}
theorem CO:upd (upd H a o) a u=upd H a u:=by
 funext b;unfold upd;split<;>rfl
theorem wa(h:H a=some o)(h' :H b=some u)(d:o≠u):a≠b:=by
 intro e;subst e;rw[h] at h';exact d (Option.some.inj h')
theorem aN(h:H a=some o)(h' :H b=none):a≠b:=by
 intro e;subst e;rw[h] at h';cases h'
section
variable(P:Program)(w:World)
def bu(P:Program)(w:World)(H:Hp)(h:Heap)(a:Addr):HO->Prop
 | .lst xs=>xs.length<=sizeLine/\∃(eg:List Value) (n:Nat),Vals xs eg/\h.get? a=some {cls:= .type "list",data:= .seq eg.toArray n}
 | .tup xs=>xs.length<=sizeLine/\∃eg:List Value,Vals xs eg/\IsTup h a eg.toArray
 | .ins C dx fs=>H dx=some (.own a)/\fs.length<=1000/\dx≠a/\h.get? a=some (PySem.W.instObj C dx)/\
   ∃mA,h.Ns1 dx mA/\(∀f,qy (fs.lookup f) (mA f))/\PySem.Within mA (fs.map (·.1))
 | .own _=>∃o,h.get? a=some o
 | .xd fs=>∃mA,h.Ns1 a mA/\∀f,qy (fs.lookup f) (mA f)
 | .rng lo hi=>∃t u v,h.get? a=some {cls:= .type "range",data:= .fields #[.int lo t,.int hi u,.int 1 v]}
 | .frz o u=>h.get? a=some o/\bu P w H h a u
 | .tbl ps=>h.get? a=some {cls:= .none,data:= .fields ps}
 | .ext φ=>φ h/\(∃o,h.get? a=some o)/\∀h1 h2:Heap,φ h1->(∀o,h1.get? a=some o->h2.get? a=some o)->φ h2
def HOk(H:Hp)(h:Heap):Prop:=∀a o,H a=some o->bu P w H h a o
end
section
variable{P:Program}{w:World}{H H' :Hp}{h h' :Heap}{a:Addr}{o:HO}
theorem bu.lt(x:bu P w H h a o):a<h.objs.size:=by
 cases o with
 |lst xs=>obtain⟨_,_,_,_,e⟩:=x;exact Gaj e
 |tup xs=>obtain⟨_,_,_,p⟩:=x;exact p.lt
 |ins C dx fs=>obtain⟨_,_,_,e,_⟩:=x;exact Gaj e
 |own y=>obtain⟨_,e⟩:=x;exact Gaj e
 |xd fs=>obtain⟨_,⟨_,_,_,e,_⟩,_⟩:=x;exact Gaj e
 |rng lo hi=>obtain⟨_,_,_,e⟩:=x;exact Gaj e
 |frz ob u=>obtain⟨e,_⟩:=x;exact Gaj e
 |tbl ps=>exact Gaj (show h.get? a=some _ from x)
 |ext φ=>obtain⟨_,⟨_,e⟩,_⟩:=x;exact Gaj e
theorem Paired.NP{α β:Type}{F G:α->β->Prop}{l₁:List α}{l₂:List β}(p:Paired F l₁ l₂)(f:∀a b,F a b->G a b):Paired G l₁ l₂:=by
 induction p with
 |nil=>exact .nil
 |cons r t ih=>exact .cons (f _ _ r) ih
theorem bu.fW(x:bu P w H h a o)(k:∀b u,(b=a\/H b=some (.own a))->h.get? b=some u->h'.get? b=some u)
  (ho:∀b,H b=some (.own a)->H' b=some (.own a))(ht:∀b xs,H b=some (.tup xs)->H' b=some (.tup xs)):bu P w H' h' a o:=by
 induction o with
 |lst xs=>obtain⟨z,eg,n,r,e⟩:=x;exact⟨z,eg,n,r,k _ _ (.inl rfl) e⟩
 |tup xs=>obtain⟨z,eg,r,ob,e,c⟩:=x;exact⟨z,eg,r,ob,k _ _ (.inl rfl) e,c⟩
 |ins C dx fs=>
  obtain⟨d,z,ne,e,mA,⟨od,es,ep,e2,c⟩,r⟩:=x;exact⟨ho _ d,z,ne,k _ _ (.inl rfl) e,mA,⟨od,es,ep,k _ _ (.inr d) e2,c⟩,r⟩
 |own y=>obtain⟨ob,e⟩:=x;exact⟨ob,k _ _ (.inl rfl) e⟩
 |xd fs=>obtain⟨mA,⟨od,es,ep,e,c⟩,r⟩:=x;exact⟨mA,⟨od,es,ep,k _ _ (.inl rfl) e,c⟩,r⟩
 |rng lo hi=>obtain⟨t,u,v,e⟩:=x;exact⟨t,u,v,k _ _ (.inl rfl) e⟩
 |frz ob u ih=>obtain⟨e,q⟩:=x;exact⟨k _ _ (.inl rfl) e,ih q⟩
 |tbl ps=>
  have e:h.get? a=some {cls:= .none,data:= .fields ps}:=x;show h'.get? a=some {cls:= .none,data:= .fields ps};exact k a _ (.inl rfl) e
 |ext φ=>obtain⟨p,⟨o,e⟩,st⟩:=x;exact⟨st _ _ p λo q=>k _ _ (.inl rfl) q,⟨o,k _ _ (.inl rfl) e⟩,st⟩
theorem HOk.lt(x:HOk P w H h)(e:H a=some o):a<h.objs.size:=(x a o e).lt
theorem HOk.fresh(x:HOk P w H h)(e:h.objs.size<=a):H a=none:=by
 cases q:H a with
 |none=>rfl
 |some u=>exact absurd (Gah (x.lt q) e) (GaI _)
theorem HOk.kept(x:HOk P w H h)(k:∀b u,h.get? b=some u->h'.get? b=some u):HOk P w H h' :=λa o e=>
 (x a o e).fW (λb u _ q=>k b u q) (λ_ q=>q) λ_ _ q=>q
theorem HOk.laid(x:HOk P w H h)(k:∀b u,h.get? b=some u->h'.get? b=some u)(hp:h.objs.size<=a)(new:bu P w (upd H a o) h' a o):HOk P w (upd H a o) h' :=λb u e=>by
 have hn:=x.fresh hp;by_cases hb:b=a
 .subst hb;rw[aE] at e;cases e;exact new
 .rw[ak hb] at e;exact(x b u e).fW (λc v _ q=>k c v q) (λc q=>by rw[ak (aN q hn)];exact q) λc xs q=>by rw[ak (aN q hn)];exact q
end
def Rd(H:Hp)(a:Addr)(u:HO):Prop:=H a=some u\/∃o,H a=some (.frz o u)
theorem Rd.of(h:H a=some u):Rd H a u:= .inl h
variable{h:Heap}
theorem Rd.ok{P:Program}{w:World}(r:Rd H a u)(x:HOk P w H h):bu P w H h a u:=by
 rcases r with r| ⟨o,r⟩
 .exact x a u r
 .obtain⟨_,q⟩:=x a _ r;exact q
def Mut:Option HO->Prop
 |some (.lst _)=>True
 |some (.ins _ _ _)=>True
 |some (.ext _)=>True
 |_=>False
section
variable{P:Program}{w:World}{H:Hp}{h h' :Heap}{x e:Addr}{o' :HO}
theorem HOk.write(ok:HOk P w H h)(mu:Mut (H x))(he:e=x\/H e=some (.own x))(k:∀b u,b≠e->h.get? b=some u->h'.get? b=some u)(yY:∃u,h'.get? e=some u)
  (new:bu P w (upd H x o') h' x o'):HOk P w (upd H x o') h' :=λb u q=>by
 have nown:∀c y,H c=some (.own y)->c≠x:=λc y r z=>by subst z;rw[r] at mu;exact mu
 have ntup:∀c xs,H c=some (.tup xs)->c≠x:=λc xs r z=>by subst z;rw[r] at mu;exact mu
 by_cases hb:b=x
 .subst hb;rw[aE] at q;cases q;exact new
 .rw[ak hb] at q;by_cases hbe:b=e
  .have q' :H b=some (.own x):=by
    rcases he with z|z
    .exact absurd (hbe.trans z) hb
    .rw[hbe];exact z
   rw[q] at q';cases q'
   obtain⟨v,hv⟩:=yY;exact⟨v,by rw[hbe];exact hv⟩
  .refine(ok b u q).fW (λc v hc r=>k c v ?_ r) (λc r=>by rw[ak (nown c b r)];exact r) λc xs r=>by rw[ak (ntup c xs r)];exact r
   rcases hc with rfl|hc
   .exact hbe
   .rintro rfl;rcases he with z|z
    .exact nown c b hc z
    .rw[hc] at z;cases z;exact hb rfl
end
structure Un(fs ex:List Addr)(H H' :Hp)(h h' :Heap):Prop where
 keep:∀b o,h.get? b=some o->H b=none->b∉fs->b∉ex->h'.get? b=some o
 slot:∀b o,h.get? b=some o->H b=none->b∈fs->b∉ex->∃sl,h'.get? b=some {o with slots:=sl}
 free:∀b o,h.get? b=some o->H b=none->b∉ex->H' b=none
 there:∀b o,h.get? b=some o->b∉ex->∃o',h'.get? b=some o'
 iG:∀b xs,H b=some (.tup xs)->H' b=some (.tup xs)
 iz:∀b o u,H b=some (.frz o u)->H' b=some (.frz o u)
 jU:∀b ps,H b=some (.tbl ps)->∃more,H' b=some (.tbl (ps++more))
section
variable{fs Q9 ex RQ :List Addr}{H H1 H2:Hp}{h h1 h2 h' :Heap}{a x e:Addr}{o:HO}
theorem Un.any(u:Un fs ex H H1 h h1){b:Addr}{ob:Obj}(q:h.get? b=some ob)(n:H b=none)(hx:b∉ex):∃sl,h1.get? b=some {ob with slots:=sl}:=by
 by_cases hb:b∈fs
 .exact u.slot b ob q n hb hx
 .exact⟨ob.slots,u.keep b ob q n hb hx⟩
theorem Un.kept(k:∀b u,h.get? b=some u->h'.get? b=some u):Un fs ex H H h h' :=
 ⟨λb ob q _ _ _=>k b ob q,λb ob q _ _ _=> ⟨ob.slots,k b ob q⟩,λ_ _ _ n _=>n,λb ob q _=> ⟨ob,k b ob q⟩,λ_ _ q=>q,λ_ _ _ q=>q,λ_ ps q=> ⟨#[],by rw[q];simp⟩⟩
theorem Un.refl:Un fs ex H H h h:=Un.kept λ_ _ q=>q
theorem Un.laid(k:∀b u,h.get? b=some u->h'.get? b=some u)(hp:h.objs.size<=a)(hn:H a=none):Un fs ex H (upd H a o) h h' where
 keep:=λb u q _ _ _=>k b u q
 slot:=λb u q _ _ _=> ⟨u.slots,k b u q⟩
 free:=λb u q n _=>by rw[ak (Gaq (Gah (Gaj q) hp))];exact n
 there:=λb u q _=> ⟨u,k b u q⟩
 iG:=λb xs q=>by rw[ak (aN q hn)];exact q
 iz:=λb u xs q=>by rw[ak (aN q hn)];exact q
 jU:=λb ps q=> ⟨#[],by rw[ak (aN q hn),q];simp⟩
theorem Un.write(mu:Mut (H x))(he:e=x\/H e=some (.own x))(k:∀b u,b≠e->h.get? b=some u->h'.get? b=some u)(yY:∃u,h'.get? e=some u):Un fs ex H (upd H x o) h h' :=by
 have hx:∀b,H b=none->b≠x:=λb n z=>by subst z;rw[n] at mu;exact mu
 have hb:∀b,H b=none->b≠e:=λb n z=>by
  subst z;rcases he with r|r
  .exact hx b n r
  .rw[n] at r;cases r
 have hm:∀b u,H b=some u->¬Mut (some u)->b≠x:=λb u q nm z=>by subst z;rw[q] at mu;exact nm mu
 refine⟨λb u q n _ _=>k b u (hb b n) q,λb u q n _ _=> ⟨u.slots,k b u (hb b n) q⟩,λb u q n _=>by rw[ak (hx b n)];exact n,λb u q _=> ?_,
  λb xs q=>by rw[ak (hm b _ q λz=>z)];exact q,λb u xs q=>by rw[ak (hm b _ q λz=>z)];exact q,λb ps q=> ⟨#[],by rw[ak (hm b _ q λz=>z),q];simp⟩⟩
 by_cases hbe:b=e
 .subst hbe;exact yY
 .exact⟨u,k b u hbe q⟩
end
noncomputable def trk(h:Heap)(H:Hp):List Addr:=(List.range h.objs.size).filter λa=>(H a).isSome
def nQ(h:Heap)(H:Hp):Heap:=PySem.W.hideAll h (trk h H)
theorem uC(h:Heap)(H:Hp):(nQ h H).objs.size=h.objs.size:=PySem.W.hideAll_size _ _
theorem wc{o:Obj}(e:h.get? b=some o)(n:H b=none):(nQ h H).get? b=some o:=
 PySem.W.hideAll_get _ e λhm=>by
  have q:(H b).isSome=true:=(List.mem_filter.mp hm).2;rw[n] at q;simp at q
theorem CP{o:Obj}(e:(nQ h H).get? b=some o):h.get? b=some o/\H b=none:=by
 have e' :h.get? b=some o:=PySem.W.of_hideAll (trk h H) e;refine⟨e', ?_⟩;cases q:H b with
 |none=>rfl
 |some x=>
  have hm:b∈trk h H:=List.mem_filter.mpr ⟨GbJ.mpr (Gaj e'),by simp[q]⟩;have z:(nQ h H).get? b=none:=PySem.W.hideAll_none (trk h H) hm;rw[z] at e;cases e
noncomputable def CQ(g h:Heap)(L:Addr):LAO:=(List.range h.objs.size).filterMap λa=>if a=L\/(g.get? a).isSome=true then none else(h.get? a).map λo=>(a,o)
def rest(g h:Heap)(L d:Addr):LAO:=(CQ g h L).filter λp=>decide (p.1≠d)
structure Mod(K:PySem.W.Frag)(mg:Str->Option Value)(base:Heap):Prop where
 kin:K.In base
 glob:base.Ns mainGlobals mg
 blt:∃mb,base.Ns builtinsNs mb/\∀x:Str,x≠"__name__"->mb x=bootBuiltins x
 nolimit:base.NoLimit
structure Cx where
 prog:Program
 w:World
 K:PySem.W.Frag
 mg:Str->Option Value
 base:Heap
 A:Around
 N:List Str
 s₀:Shared
 H0:Hp
 env:Env
 outer:List Env
 stack:List Env
 ex:List Addr
 fn:Str->Bool
 calm:Bool
 pn:LAO
 xe:VSP
noncomputable def frs(l:List Env):List Addr:=l.filterMap (·.frame)
abbrev Cx.fs (X:Cx):List Addr:=frs X.outer
def Vis(sc:Scope)(x:Str):Prop:=sc.names.lookup x=some .local\/sc.names.lookup x=some .cell\/sc.names.lookup x=some .free
def Loc(sc:Scope)(x:Str):Prop:=sc.names.lookup x=some .local\/sc.names.lookup x=some .cell
def Look(env:Env)(h:Heap)(m:Str->Option Value)(x:Str)(u:Value):Prop:=
 (env.kindOf x=some .local/\m x=some u)\/((env.kindOf x=some .cell\/env.kindOf x=some .free)/\∃c,env.cells.lookup x=some c/\h.IsCell c (some u))
structure Cx.Ok(X:Cx):Prop where
 mod:Mod X.K X.mg X.base
 kind:X.env.scope.kind= .function
 glob:X.env.globals=mainGlobals
 blt:X.env.builtins=builtinsNs
 above:X.s₀.heap.objs.size<=X.env.locals
 inj:∀x y c,X.env.cells.lookup x=some c->X.env.cells.lookup y=some c->x=y
 has:∀x,(X.env.kindOf x=some .cell\/X.env.kindOf x=some .free)->∃c,X.env.cells.lookup x=some c
 cab:∀x c,X.fn x=true->X.env.cells.lookup x=some c->X.s₀.heap.objs.size<=c
 hd:X.calm=true->X.A.handled=none
 frames:X.A.frames=some X.stack
 stk:X.stack=X.outer\/(X.stack=X.env::X.outer/\X.env.frame=some X.env.locals)
 exf:∀b∈X.ex,b≠X.env.locals/\∀x c,X.env.cells.lookup x=some c->c≠b
 bs:∀b o,X.base.get? b=some o->X.s₀.heap.get? b=some o/\X.H0 b=none
 bsz:X.base.objs.size<=X.s₀.heap.objs.size
 rV:∀b o,X.base.get? b=some o->b∉X.ex
 rW:∀b∈X.ex,b∉X.fs
 jd:X.s₀.heap.FunFrames X.base X.outer
 frf:∀b∈X.fs,X.H0 b=none
structure Inv(X:Cx)(e7:LAO)(Z:List (Option V))(H:Hp)(s:Shared):Prop where
 ok:X.Ok
 os:s.os=X.s₀.os
 bare:AllBare s.gens
 base:Un X.fs X.ex X.H0 H X.s₀.heap s.heap
 loc:∃m,s.heap.Ns X.env.locals m/\∀(i:Nat) (x:Str) (v:V),X.N[i]? =some x->Z[i]? =some (some v)->Vis X.env.scope x->∃u,RelV v u/\Look X.env s.heap m x u
 cell:∀x c,X.env.cells.lookup x=some c->∃v,s.heap.IsCell c v
 free:H X.env.locals=none
 fV:∀x c,X.env.cells.lookup x=some c->H c=none
 pin:∀p∈X.pn++e7,s.heap.get? p.1=some p.2/\H p.1=none/\p.1≠X.env.locals/\p.1∉X.fs/\∀v,p.2.data≠ .cell v
 hok:HOk X.prog X.w H s.heap
 len:Z.length=X.N.length
section
variable{X:Cx}{e7:LAO}{Z:List (Option V)}{H H' :Hp}{s:Shared}{h' :Heap}
theorem Cx.Ok.NQ(ok:X.Ok){b:Addr}{o:Obj}(e:X.base.get? b=some o):b∉X.fs:=λhb=>by
 have:=(ok.jd.mem hb).1;rw[e] at this;cases this
theorem Inv.bs(I:Inv X e7 Z H s):∀b o,X.base.get? b=some o->s.heap.get? b=some o/\H b=none:=λb o e=>
 ⟨I.base.keep b o (I.ok.bs b o e).1 (I.ok.bs b o e).2 (I.ok.NQ e) (I.ok.rV b o e),I.base.free b o (I.ok.bs b o e).1 (I.ok.bs b o e).2 (I.ok.rV b o e)⟩
theorem Inv.bk(I:Inv X e7 Z H s):∀b o,X.base.get? b=some o->s.heap.get? b=some o:=λb o e=>(I.bs b o e).1
theorem Inv.mod(I:Inv X e7 Z H s):Mod X.K X.mg X.base:=I.ok.mod
theorem Inv.kIn(I:Inv X e7 Z H s):X.K.In s.heap:=I.ok.mod.kin.keeps I.bk
theorem Inv.lt(I:Inv X e7 Z H s):X.env.locals<s.heap.objs.size:=let⟨_,hn,_⟩:=I.loc;hn.lt
theorem Inv.sz(I:Inv X e7 Z H s):X.s₀.heap.objs.size<=s.heap.objs.size:=GaE I.ok.above (GcD I.lt)
theorem Inv.NR(I:Inv X e7 Z H s){a:Addr}(h:s.heap.objs.size<=a):a∉X.fs:=λhb=>by
 obtain⟨_,o,ho,_⟩:=I.ok.jd.mem hb;exact absurd (Gah (Gaj ho) (GaE I.sz h)) (GaI _)
theorem Inv.cne(I:Inv X e7 Z H s):∀x c,X.env.cells.lookup x=some c->c≠X.env.locals:=λx c e z=>by
 obtain⟨v,o,ho,hd⟩:=I.cell x c e;obtain⟨m,⟨o',es,ep,xD,xb,_⟩,_⟩:=I.loc;rw[z,xD] at ho;cases ho;rw[xb] at hd;cases hd
theorem Inv.jd(I:Inv X e7 Z H s):s.heap.FunFrames X.base X.outer:=by
 have all:∀(l:List Env),(∀b∈frs l,b∈X.fs)->X.s₀.heap.FunFrames X.base l->s.heap.FunFrames X.base l:=by
  intro l;induction l with
  |nil=>intro _ _;trivial
  |cons env r ih=>
   intro hs hl;obtain⟨hk,⟨L,o,hf,hn,ho,hd⟩,hr⟩:=hl;have hL:L∈X.fs:=hs L (by unfold frs;rw[Gcx,hf];exact GaA);obtain⟨sl,e⟩:=I.base.slot L o ho (I.ok.frf L hL) hL λz=>I.ok.rW L z hL;exact⟨hk,⟨L,_,hf,hn,e,hd⟩,ih (λb hb=>hs b (by unfold frs;rw[Gcx,hf];exact Gat _ hb)) hr⟩
 exact all X.outer (λ_ hb=>hb) I.ok.jd
theorem Inv.stack(I:Inv X e7 Z H s):s.heap.FunFrames X.base X.stack:=by
 rcases I.ok.stk with e| ⟨e,hf⟩
 .rw[e];exact I.jd
 .rw[e];obtain⟨m,hn,_⟩:=I.loc;refine .cons (by rw[I.ok.kind];decide) hf hn ?_ I.jd;exact Gco (GaE I.ok.bsz I.ok.above)
theorem Inv.lD(I:Inv X e7 Z H s):∀b∈frs X.stack,b∈X.env.locals::X.fs:=λb hb=>by
 rcases I.ok.stk with e| ⟨e,hf⟩
 .rw[e] at hb;exact Gat _ hb
 .rw[e] at hb;unfold frs at hb;rw[Gcx,hf] at hb;exact hb
theorem Inv.je(I:Inv X e7 Z H s):∀b∈frs X.stack,H b=none:=λb hb=>by
 rcases Gan.mp (I.lD b hb) with e|hb
 .rw[e];exact I.free
 .obtain⟨_,o,ho,_⟩:=I.ok.jd.mem hb;exact I.base.free b o ho (I.ok.frf b hb) λz=>I.ok.rW b z hb
variable{ch:List Addr}{t' :Nat}
theorem Inv.step{g' :Array GenState}{d' :Drawn}(I:Inv X e7 Z H s)
  (yg:∀b∈ch,(b∈X.ex\/X.s₀.heap.objs.size<=b)/\b≠X.env.locals/\(∀x c,X.env.cells.lookup x=some c->c≠b)/\∀p∈X.pn++e7,p.1≠b)
  (keep:∀b o,b≠X.env.locals->b∉X.fs->b∉ch->s.heap.get? b=some o->H b=none->h'.get? b=some o)
  (slot:∀b o,b≠X.env.locals->b∈X.fs->b∉ch->s.heap.get? b=some o->H b=none->∃sl,h'.get? b=some {o with slots:=sl})(free:∀b o,b∉ch->s.heap.get? b=some o->H b=none->H' b=none)
  (there:∀b o,b∉ch->s.heap.get? b=some o->∃o',h'.get? b=some o')
  (iG:∀b xs,H b=some (.tup xs)->H' b=some (.tup xs))(iz:∀b o u,H b=some (.frz o u)->H' b=some (.frz o u))(jU:∀b ps,H b=some (.tbl ps)->∃more,H' b=some (.tbl (ps++more)))
  (ns:∀m,s.heap.Ns X.env.locals m->h'.Ns X.env.locals m)(hok:HOk X.prog X.w H' h')(hg:AllBare g'):
  Inv X e7 Z H' {s with heap:=h',gens:=g',drawn:=d',toks:=t' }:=by
 have neL:∀b o,X.s₀.heap.get? b=some o->b≠X.env.locals:=λb o e=>Gaq (Gah (Gaj e) I.ok.above);have neC:∀b o,X.s₀.heap.get? b=some o->b∉X.ex->b∉ch:=λb o e hx hb=>by
  rcases(yg b hb).1 with z|z
  .exact hx z
  .exact absurd (Gah (Gaj e) z) (GaI _)
 have cellK:∀x c,X.env.cells.lookup x=some c->∀v,s.heap.IsCell c v->h'.IsCell c v:=λx c e v ⟨o,ho,hd⟩=>by
  have nch:c∉ch:=λz=>(yg c z).2.2.1 x c e rfl;by_cases hc:c∈X.fs
  .obtain⟨sl,q⟩:=slot c o (I.cne x c e) hc nch ho (I.fV x c e);exact⟨_,q,hd⟩
  .exact⟨o,keep c o (I.cne x c e) hc nch ho (I.fV x c e),hd⟩
 refine⟨I.ok,I.os,hg,⟨λb o e n hb hx=> ?_,λb o e n hb hx=> ?_,λb o e n hx=> ?_,λb o e hx=> ?_,λb xs e=>iG b xs (I.base.iG b xs e),λb o xs e=>iz b o xs (I.base.iz b o xs e),λb ps e=> ?_⟩, ?_,λx c e=> ?_, ?_,λx c e=> ?_,λp hp=> ?_,hok,I.len⟩
 .exact keep b o (neL b o e) hb (neC b o e hx) (I.base.keep b o e n hb hx) (I.base.free b o e n hx)
 .obtain⟨sl,e1⟩:=I.base.slot b o e n hb hx;obtain⟨zK,e2⟩:=slot b _ (neL b o e) hb (neC b o e hx) e1 (I.base.free b o e n hx);exact⟨zK,e2⟩
 .obtain⟨o',e1⟩:=I.base.there b o e hx;exact free b o' (neC b o e hx) e1 (I.base.free b o e n hx)
 .obtain⟨o',e1⟩:=I.base.there b o e hx;exact there b o' (neC b o e hx) e1
 .obtain⟨m1,e1⟩:=I.base.jU b ps e;obtain⟨m2,e2⟩:=jU b _ e1;exact⟨m1++m2,by rw[e2,Array.append_assoc]⟩
 .obtain⟨m,hn,hl⟩:=I.loc;refine⟨m,ns m hn,λi x v e1 e2 e3=> ?_⟩;obtain⟨u,r,l⟩:=hl i x v e1 e2 e3;refine⟨u,r, ?_⟩;rcases l with l| ⟨k,c,e,z⟩
  .exact .inl l
  .exact .inr ⟨k,c,e,cellK x c e _ z⟩
 .obtain⟨v,z⟩:=I.cell x c e;exact⟨v,cellK x c e v z⟩
 .obtain⟨m,⟨o,_,_,ho,_⟩,_⟩:=I.loc;exact free _ o (λz=>(yg _ z).2.1 rfl) ho I.free
 .obtain⟨v,o,ho,hd⟩:=I.cell x c e;exact free c o (λz=>(yg c z).2.2.1 x c e rfl) ho (I.fV x c e)
 .obtain⟨e,n,ne,nf,d⟩:=I.pin p hp;have nch:p.1∉ch:=λz=>(yg p.1 z).2.2.2 p hp rfl;exact⟨keep p.1 p.2 ne nf nch e n,free p.1 p.2 nch e n,ne,nf,d⟩
theorem Inv.un(I:Inv X e7 Z H s)(u:Un X.fs [] H H' s.heap h')(hok:HOk X.prog X.w H' h'):Inv X e7 Z H' {s with heap:=h',toks:=t' }:=by
 obtain⟨m,⟨o,es,ep,ho,r⟩,_⟩:=id I.loc;obtain⟨sl,hL⟩:=u.any ho I.free (by simp);exact I.step (g' :=s.gens) (d' :=s.drawn) (ch:=[]) (λ_ z=>nomatch z) (λb o _ hb _ e n=>u.keep b o e n hb (by simp)) (λb o _ hb _ e n=>u.slot b o e n hb (by simp)) (λb o _ e n=>u.free b o e n (by simp)) (λb o _ e=>u.there b o e (by simp)) u.iG u.iz u.jU (λm' hm=>by
  obtain⟨o',Qb,Qc,xD,r'⟩:=hm;rw[ho] at xD;cases xD
  exact⟨_,Qb,Qc,hL,r'⟩) hok I.bare
theorem Inv.call{g' :Array GenState}{d' :Drawn}(I:Inv X e7 Z H s)(u:Un (frs X.stack) ch H H' s.heap h')(hok:HOk X.prog X.w H' h')(hg:AllBare g')
  (yg:∀b∈ch,(b∈X.ex\/X.s₀.heap.objs.size<=b)/\b≠X.env.locals/\(∀x c,X.env.cells.lookup x=some c->c≠b)/\∀p∈X.pn++e7,p.1≠b):
  Inv X e7 Z H' {s with heap:=h',gens:=g',drawn:=d',toks:=t' }:=by
 obtain⟨m,⟨o,es,ep,ho,r⟩,_⟩:=id I.loc;obtain⟨sl,hL⟩:=u.any ho I.free λz=>(yg _ z).2.1 rfl;exact I.step (ch:=ch) yg (λb o hL hb hc e n=>u.keep b o e n (λz=>(Gan.mp (I.lD b z)).elim hL hb) hc) (λb o _ _ hc e n=>u.any e n hc) (λb o hc e n=>u.free b o e n hc) (λb o hc e=>u.there b o e hc) u.iG u.iz u.jU (λm' hm=>by
  obtain⟨o',Qb,Qc,xD,r'⟩:=hm;rw[ho] at xD;cases xD
  exact⟨_,Qb,Qc,hL,r'⟩) hok hg
theorem Inv.turned{it:Addr}(I:Inv X e7 Z H s)(k:∀b o,b≠it->s.heap.get? b=some o->h'.get? b=some o)(hn:H it=none)(hL:it≠X.env.locals)
  (h1:it∈X.ex\/X.s₀.heap.objs.size<=it)(h2:∀x c,X.env.cells.lookup x=some c->c≠it)(h3:∀p∈X.pn++e7,p.1≠it):Inv X e7 Z H {s with heap:=h',toks:=t' }:=by
 have nit:∀b u,H b=some u->b≠it:=λb u e z=>by rw[z,hn] at e;cases e
 refine I.step (g' :=s.gens) (d' :=s.drawn) (ch:=[it]) (λb hb=> ?_) (λb o _ _ hc e _=>k b o (λz=>hc (by simp[z])) e) (λb o _ _ hc e _=> ⟨o.slots,k b o (λz=>hc (by simp[z])) e⟩) (λ_ _ _ _ n=>n)
  (λb o hc e=> ⟨o,k b o (λz=>hc (by simp[z])) e⟩) (λ_ _ e=>e) (λ_ _ _ e=>e) (λb ps e=> ⟨#[],by rw[e];simp⟩) (λm hm=> ?_) (λb u e=> ?_) I.bare
 .have e:b=it:=by simpa using hb
  subst e;exact⟨h1,hL,h2,h3⟩
 .obtain⟨o,es,ep,ho,r⟩:=hm;exact⟨o,es,ep,k _ o (GaG hL) ho,r⟩
 .refine(I.hok b u e).fW (λc v hc q=>k c v ?_ q) (λ_ q=>q) λ_ _ q=>q;rcases hc with z|z
  .rw[z];exact nit b u e
  .exact nit c _ z
theorem Inv.tok(I:Inv X e7 Z H s)(t:Nat):Inv X e7 Z H {s with toks:=t}:=I.un (h' :=s.heap) (t' :=t) Un.refl I.hok
theorem Inv.kept{t' :Nat}(I:Inv X e7 Z H s)(k:∀b u,s.heap.get? b=some u->h'.get? b=some u):Inv X e7 Z H {s with heap:=h',toks:=t' }:=I.un (Un.kept k) (I.hok.kept k)
theorem Inv.laid{a:Addr}{o:HO}{t' :Nat}(I:Inv X e7 Z H s)(k:∀b u,s.heap.get? b=some u->h'.get? b=some u)(hp:s.heap.objs.size<=a)(new:bu X.prog X.w (upd H a o) h' a o):
  Inv X e7 Z (upd H a o) {s with heap:=h',toks:=t' }:=I.un (Un.laid k hp (I.hok.fresh hp)) (I.hok.laid k hp new)
theorem Inv.write{x e:Addr}{o:HO}{t' :Nat}(I:Inv X e7 Z H s)(mu:Mut (H x))(he:e=x\/H e=some (.own x))(k:∀b u,b≠e->s.heap.get? b=some u->h'.get? b=some u)(yY:∃u,h'.get? e=some u)
  (new:bu X.prog X.w (upd H x o) h' x o):Inv X e7 Z (upd H x o) {s with heap:=h',toks:=t' }:=I.un (Un.write mu he k yY) (I.hok.write mu he k yY new)
theorem Inv.rX{xN :LAO}(I:Inv X e7 Z H s)(h:∀p∈xN,s.heap.get? p.1=some p.2/\H p.1=none/\p.1≠X.env.locals/\p.1∉X.fs/\∀v,p.2.data≠ .cell v):Inv X xN Z H s:=
 ⟨I.ok,I.os,I.bare,I.base,I.loc,I.cell,I.free,I.fV,λp hp=>(Gcp.mp hp).elim (λz=>I.pin p (Gcq _ z)) (h p),I.hok,I.len⟩
variable{x:Str}{i:Nat}
theorem lF{N:List Str}(hN:N.Nodup){j:Nat}(a:N[i]? =some x)(b:N[j]? =some x):i=j:=by
 obtain⟨h1,e1⟩:=Gac.mp a;obtain⟨h2,e2⟩:=Gac.mp b;exact(List.getElem_inj hN).mp (e1.trans e2.symm)
variable{u:Value}{v:V}{A:Around}
theorem mW{M:Model}{E:VSP}{Q:Unit->Shared->Prop}(I:Inv X e7 Z H s)(hN:X.N.Nodup)(hi:X.N[i]? =some x)(hx:Loc X.env.scope x)(r:RelV v u)
  (h:∀s',Inv X e7 (Z.set i (some v)) H s' ->(∃a,Heap.SameBut a s.heap s'.heap/\(a=X.env.locals\/X.env.cells.lookup x=some a))->Q () s')(hf:autoParam (X.fn x=true\/X.env.scope.names.lookup x=some .local) Za3._auto_1):wpAny M A (storeName X.env x u) Q E s:=by
 obtain⟨m,hn,hl⟩:=id I.loc;have hcls:(X.env.scope.kind== .class||(X.env.scope.kind== .module&&X.env.locals !=X.env.globals))=false:=by rw[I.ok.kind];rfl
 have hiZ:i<Z.length:=by rw[I.len];exact(Gac.mp hi).1
 have cne:=I.cne;have tracked:∀{a:Addr} {h' :Heap},(∃o,s.heap.get? a=some o/\H a=none)->Heap.SameBut a s.heap h' ->HOk X.prog X.w H h' :=λ{a h'} ha hs b ob e=>by
  obtain⟨_,_,xQ⟩:=ha;refine(I.hok b ob e).fW (λc w' hc q=>(hs.2 c ?_).trans q) (λ_ q=>q) λ_ _ q=>q;rintro rfl;rcases hc with rfl|hc
  .rw[xQ] at e;cases e
  .rw[xQ] at hc;cases hc
 rcases hx with hk|hk
 .refine wpAny_storeName_local hk hn (λh' PX hs=> ?_) hcls;obtain⟨oL,_,_,Rf,_⟩:=id hn;refine h _ ⟨I.ok,I.os,I.bare,⟨λb o e n hb hx=> ?_,λb o e n hb hx=> ?_,I.base.free,λb o e hx=> ?_,I.base.iG,I.base.iz,I.base.jU⟩,⟨_,PX,λj y v' e1 e2 e3=> ?_⟩,λy c e=> ?_,I.free,I.fV,λp hp=> ?_,tracked ⟨oL,Rf,I.free⟩ hs,by simpa using I.len⟩ ⟨_,hs,.inl rfl⟩
  .exact(hs.2 b (Gaq (Gah (Gaj e) I.ok.above))).trans (I.base.keep b o e n hb hx)
  .obtain⟨sl,e1⟩:=I.base.slot b o e n hb hx;exact⟨sl,(hs.2 b (Gaq (Gah (Gaj e) I.ok.above))).trans e1⟩
  .obtain⟨o',e1⟩:=I.base.there b o e hx;exact⟨o',(hs.2 b (Gaq (Gah (Gaj e) I.ok.above))).trans e1⟩
  .by_cases hj:j=i
   .subst hj;rw[hi] at e1;cases e1
    rw[Gav hiZ] at e2;cases e2;exact⟨u,r,.inl ⟨hk,by simp⟩⟩
   .rw[Gab (GaG hj)] at e2;obtain⟨u',r',q⟩:=hl j y v' e1 e2 e3;refine⟨u',r', ?_⟩;rcases q with⟨k,e⟩| ⟨k,c,e,z⟩
    .refine .inl ⟨k, ?_⟩;have:y≠x:=λe=>hj (lF hN e1 (e▸hi));simp[this,e]
    .exact .inr ⟨k,c,e,z.sameBut hs (cne y c e)⟩
  .obtain⟨w',z⟩:=I.cell y c e;exact⟨w',z.sameBut hs (cne y c e)⟩
  .obtain⟨e,n,ne,nf,d⟩:=I.pin p hp;exact⟨(hs.2 p.1 ne).trans e,n,ne,nf,d⟩
 .have hfn:X.fn x=true:=by
   rcases hf with z|z
   .exact z
   .rw[z] at hk;cases hk
  obtain⟨c,hc⟩:=I.ok.has x (.inl hk);obtain⟨w',z⟩:=I.cell x c hc;refine wpAny_storeName_cell I.ok.kind hk hc z (λh' yn hs=> ?_);obtain⟨oc,QB,PU⟩:=id z;refine h {s with heap:=h' } ⟨I.ok,I.os,I.bare,⟨λb o e n hb hx=> ?_,λb o e n hb hx=> ?_,I.base.free,λb o e hx=> ?_,I.base.iG,I.base.iz,I.base.jU⟩,⟨m,hn.sameBut hs (GaG (cne x c hc)),λj y v' e1 e2 e3=> ?_⟩,λy c' e=> ?_,I.free,I.fV,λp hp=> ?_,tracked ⟨oc,QB,I.fV x c hc⟩ hs,by simpa using I.len⟩ ⟨c,hs,.inr hc⟩
  .exact(hs.2 b (Gaq (Gah (Gaj e) (I.ok.cab x c hfn hc)))).trans (I.base.keep b o e n hb hx)
  .obtain⟨sl,e1⟩:=I.base.slot b o e n hb hx;exact⟨sl,(hs.2 b (Gaq (Gah (Gaj e) (I.ok.cab x c hfn hc)))).trans e1⟩
  .obtain⟨o',e1⟩:=I.base.there b o e hx;exact⟨o',(hs.2 b (Gaq (Gah (Gaj e) (I.ok.cab x c hfn hc)))).trans e1⟩
  .by_cases hj:j=i
   .subst hj;rw[hi] at e1;cases e1
    rw[Gav hiZ] at e2;cases e2;exact⟨u,r,.inr ⟨.inl hk,c,hc,yn⟩⟩
   .rw[Gab (GaG hj)] at e2;obtain⟨u',r',q⟩:=hl j y v' e1 e2 e3;refine⟨u',r', ?_⟩;rcases q with q| ⟨k,c',e,z'⟩
    .exact .inl q
    .refine .inr ⟨k,c',e,z'.sameBut hs ?_⟩;rintro rfl;exact hj (lF hN e1 (I.ok.inj _ _ _ e hc▸hi))
  .by_cases hcc:c' =c
   .subst hcc;exact⟨_,yn⟩
   .obtain⟨w2,z2⟩:=I.cell y c' e;exact⟨w2,z2.sameBut hs hcc⟩
  .obtain⟨e,n,ne,nf,d⟩:=I.pin p hp;refine⟨(hs.2 p.1 ?_).trans e,n,ne,nf,d⟩;intro q;rw[q,QB] at e;have q' :oc=p.2:=Option.some.inj e;exact d w' (by rw[<-q'];exact PU)
theorem gY{M:Model}{E:VSP}{Q:Unit->Shared->Prop}(I:Inv X e7 Z H s)(hN:X.N.Nodup)(hi:X.N[i]? =some x)(hx:Loc X.env.scope x)(r:RelV v u)
  (h:∀s',Inv X e7 (Z.set i (some v)) H s' ->Q () s')(hf:autoParam (X.fn x=true\/X.env.scope.names.lookup x=some .local) Za3._auto_1):wpAny M A (storeName X.env x u) Q E s:=
 mW I hN hi hx r (λs' I' _=>h s' I') hf
theorem Inv.oX{s' :Shared}(I:Inv X e7 Z H s)(ho:s'.os=s.os)(u:Un (frs X.stack) ch H H' s.heap s'.heap)(hok:HOk X.prog X.w H' s'.heap)(hg:AllBare s'.gens)
  (yg:∀b∈ch,(b∈X.ex\/X.s₀.heap.objs.size<=b)/\b≠X.env.locals/\(∀x c,X.env.cells.lookup x=some c->c≠b)/\∀p∈X.pn++e7,p.1≠b):Inv X e7 Z H' s' :=by
 obtain⟨h',g',d',t',o'⟩:=s';have e:o' =s.os:=ho;subst e;exact I.call (g' :=g') (t' :=t') (d' :=d') u hok hg yg
end
abbrev XK:=Value->Option Addr->Hp->Prop
abbrev St:=List (Option V)
abbrev VK:=V->Hp->Prop
abbrev TE:=St->Hp->VK->Prop
abbrev TT:=St->Hp->(Bool->Hp->Prop)->Prop
abbrev TA:=St->Hp->(List V->Hp->Prop)->Prop
structure Ends where
 nx:St->Hp->Prop
 rt:VK
 bk:St->Hp->Prop:=λ_ _=>False
 ct:St->Hp->Prop:=λ_ _=>False
abbrev TS:=Ends->St->Hp->Prop
def EP(X:Cx)(e7:LAO)(Z:St)(Q:VK)(u:Value)(s' :Shared):Prop:=∃v H',Inv X e7 Z H' s' /\RelV v u/\Q v H'
def TP(X:Cx)(e7:LAO)(Z:St)(Q:Bool->Hp->Prop)(b:Bool)(s' :Shared):Prop:=∃H',Inv X e7 Z H' s' /\Q b H'
def AP(X:Cx)(e7:LAO)(Z:St)(Q:List V->Hp->Prop)(us:List Value)(s' :Shared):Prop:=∃vs H',Inv X e7 Z H' s' /\Vals vs us/\Q vs H'
def SP(X:Cx)(e7:LAO)(D:Ends)(f:Flow)(s' :Shared):Prop:=
 match f with
 | .next=>∃Z' H',Inv X e7 Z' H' s' /\D.nx Z' H'
 | .brk=>∃Z' H',Inv X e7 Z' H' s' /\D.bk Z' H'
 | .cont=>∃Z' H',Inv X e7 Z' H' s' /\D.ct Z' H'
 | .ret u=>∃v Z' H',Inv X e7 Z' H' s' /\RelV v u/\D.rt v H'
def PE(X:Cx)(e:Expr)(t:TE):Prop:=
 ∀(e7:LAO) (s:Shared) (Z:St) (H:Hp) (Q:VK),Inv X e7 Z H s->t Z H Q->wpAny (model X.prog X.w) X.A (eval e X.env) (EP X e7 Z Q) X.xe s
def PT(X:Cx)(e:Expr)(t:TT):Prop:=
 ∀(e7:LAO) (s:Shared) (Z:St) (H:Hp) (Q:Bool->Hp->Prop),Inv X e7 Z H s->t Z H Q->wpAny (model X.prog X.w) X.A (isTrue e X.env (eval e X.env)) (TP X e7 Z Q) X.xe s
def PW(X:Cx)(e:Expr)(t:TT):Prop:=
 ∀(whole:Sem Value) (e7:LAO) (s:Shared) (Z:St) (H:Hp) (Q:Bool->Hp->Prop),Inv X e7 Z H s->t Z H Q->wpAny (model X.prog X.w) X.A (isTrue e X.env whole) (TP X e7 Z Q) X.xe s
theorem PW.pt{X:Cx}{e:Expr}{t:TT}(h:PW X e t):PT X e t:=h _
def PA(X:Cx)(es:List Expr)(t:TA):Prop:=
 ∀(pos:Pos) (e7:LAO) (s:Shared) (Z:St) (H:Hp) (Q:List V->Hp->Prop),Inv X e7 Z H s->t Z H Q->wpAny (model X.prog X.w) X.A (spliced (backTo pos (starEach es X.env))) (AP X e7 Z Q) X.xe s
def PS(X:Cx)(st:Stmt)(t:TS):Prop:=
 ∀(e7:LAO) (s:Shared) (Z:St) (H:Hp) (D:Ends),Inv X e7 Z H s->t D Z H->wpAny (model X.prog X.w) X.A (exec st X.env) (SP X e7 D) X.xe s
def PSs(X:Cx)(st:List Stmt)(t:TS):Prop:=
 ∀(e7:LAO) (s:Shared) (Z:St) (H:Hp) (D:Ends),Inv X e7 Z H s->t D Z H->wpAny (model X.prog X.w) X.A (execs st X.env) (SP X e7 D) X.xe s
theorem thn{α:Type}{t:Sem α}{Q Q' :α->Shared->Prop}{M:Model}{A:Around}{E:VSP}{s:Shared}(h:wpAny M A t Q E s)(hQ:∀a s,Q a s->Q' a s):wpAny M A t Q' E s:=GaO h hQ λ_ _ x=>x
section
variable{X:Cx}
def qz(i:Nat):TE:=λZ H Q=>∃v,Z[i]? =some (some v)/\Q v H
def tC(v:V):TE:=λ_ H Q=>Q v H
variable{pos:Pos}{x:Str}
theorem ck{i:Nat}(hN:X.N[i]? =some x)(hv:Vis X.env.scope x)(hd:autoParam ((x==("__debug__":Str))=false) Za2._auto_1)(eV:autoParam ((x==("__classdict__":Str))=false) Za2._auto_1):PE X (.Name x pos) (qz i):=by
 intro e7 s Z H Q I h;obtain⟨v,e,h⟩:=h;obtain⟨m,hn,hl⟩:=I.loc;obtain⟨u,r,l⟩:=hl i x v hN e hv;have fin:EP X e7 Z Q u s:=⟨v,H,I,r,h⟩
 rcases l with⟨hk,hm⟩| ⟨hk,c,hc,xp⟩
 .exact wpAny_Name (wpAny_loadName_local I.ok.kind hk hn hm fin) hd
 .rcases hk with hk|hk
  .exact wpAny_Name (wpAny_loadName_cell I.ok.kind hk hc xp fin) hd
  .exact wpAny_Name (wpAny_loadName_free I.ok.kind hk hc xp fin eV) hd
theorem GN{i j pos}:PE X (.Constant (.int i) j pos) (tC (.int i)):=λ_ _ _ H _ I h=>wpAny_Constant_int ⟨.int i,H,I.tok _,⟨_,rfl⟩,h⟩
theorem KJ{b j pos}:PE X (.Constant (.bool b) j pos) (tC (.bl b)):=λ_ _ _ H _ I h=>Constant_bool ⟨.bl b,H,I,rfl,h⟩
theorem GO{j pos}:PE X (.Constant .none j pos) (tC .non):=λ_ _ _ H _ I h=>Constant_none ⟨.non,H,I,rfl,h⟩
theorem GP{x j pos}:PE X (.Constant (.str x) j pos) (tC (.str x)):=λ_ _ _ H _ I h=>Calls.Constant_str ⟨.str x,H,I.tok _,⟨_,rfl⟩,h⟩
def Gl(X:Cx)(x:Str):Prop:=X.env.kindOf x=some .globalImplicit
variable{u:Value}{H:Hp}{Z:St}{s:Shared}{e7:LAO}
theorem dw{E:VSP}{Q:VSP}(I:Inv X e7 Z H s)(hg:Gl X x)(hm:X.mg x=some u)(h:Q u s)
  (hd:autoParam ((x==("__debug__":Str))=false) Za2._auto_1):wpAny (model X.prog X.w) X.A (eval (.Name x pos) X.env) Q E s:=
 Calls.Name_function_global I.ok.kind hg (Calls.loadGlobal_global (by rw[I.ok.glob];exact I.mod.glob.keeps I.bk) hm h) hd
theorem iQ{E:VSP}{Q:VSP}(I:Inv X e7 Z H s)(hg:Gl X x)(hm:X.mg x=none)(hv:bootBuiltins x=some u)(h:Q u s)
  (hn:autoParam (x≠"__name__") Za2._auto_1)(hd:autoParam ((x==("__debug__":Str))=false) Za2._auto_1):wpAny (model X.prog X.w) X.A (eval (.Name x pos) X.env) Q E s:=by
 obtain⟨mb,h1,h2⟩:=I.mod.blt;exact Calls.Name_function_global I.ok.kind hg (Calls.loadGlobal_builtin (by rw[I.ok.glob];exact I.mod.glob.keeps I.bk) hm (by rw[I.ok.blt];exact h1.keeps I.bk) ((h2 x hn).trans hv) h) hd
variable{v:V}
theorem rY(hg:Gl X x)(hm:X.mg x=some u)(r:RelV v u)(hd:autoParam ((x==("__debug__":Str))=false) Za2._auto_1):PE X (.Name x pos) (tC v):=
 λ_ _ _ H _ I h=>dw I hg hm ⟨v,H,I,r,h⟩ hd
theorem CS(hg:Gl X x)(hm:X.mg x=none)(hv:bootBuiltins x=some u)(r:RelV v u)(hn:autoParam (x≠"__name__") Za2._auto_1)(hd:autoParam ((x==("__debug__":Str))=false) Za2._auto_1):PE X (.Name x pos) (tC v):=
 λ_ _ _ H _ I h=>iQ I hg hm hv ⟨v,H,I,r,h⟩ hn hd
variable{a b:Expr}{ta tb:TE}{pos:Pos}
def PC(X:Cx)(op:CmpOp)(a b:Expr)(t:TE):Prop:=
 ∀(e7:LAO) (s:Shared) (Z:St) (H:Hp) (Q:VK),Inv X e7 Z H s->t Z H Q->
  wpAny (model X.prog X.w) X.A (eval a X.env) (λv s₁=>wpAny (model X.prog X.w) X.A (eval b X.env) (λu s₂=>wpAny (model X.prog X.w) X.A (compareOp op v u) (EP X e7 Z Q) X.xe s₂) X.xe s₁) X.xe s
def tB(t:TE):TT:=λZ H Q=>t Z H λx H1=>∃c,x= .bl c/\Q c H1
variable{t:TE}
theorem GQ{op:CmpOp}(h:PC X op a b t)(h1:behindInMarks op b=false:=by first|exact nobehind _ (by decide) (by decide)|rfl):PT X (.Compare a [op] [b] pos) (tB t):=by
 intro e7 s Z H Q I hw;refine wpAny_isTrue_Compare1 (thn (h e7 s Z H _ I hw) λv s1 h1=>thn h1 λu s2 h2=>thn h2 λc s3 ⟨x,H1,I1,r1,q1⟩=> ?_) h1;obtain⟨d,rfl,q⟩:=q1;cases r1;exact GaR ⟨H1,I1,q⟩
theorem wd{e:Expr}(h:PE X e t)(he:∀whole,isTrue e X.env whole=(do let v<-whole;standAt e.pos;holding [v] (truthy v)):=by intro _;rfl):PT X e (tB t):=by
 intro e7 s Z H Q I hw;refine isTrue_plain (thn (h e7 s Z H _ I hw) λv s1 ⟨x,H1,I1,r1,q1⟩=> ?_) (he _);obtain⟨d,rfl,q⟩:=q1;cases r1;exact GaR ⟨H1,I1,q⟩
variable{tA zI :TT}{rest:List Expr}
def NS(t u:TT):TT:=λZ H Q=>t Z H λc H1=>if c=true then u Z H1 Q else Q false H1
def tOr(t u:TT):TT:=λZ H Q=>t Z H λc H1=>if c=true then Q true H1 else u Z H1 Q
def NT(t:TT):TT:=λZ H Q=>t Z H λc H1=>Q (!c) H1
theorem CT(ha:PT X a tA):PW X (.BoolOp .And [a] pos) tA:=by
 intro wh e7 s Z H Q I h;refine isTrue_and (thn (ha e7 s Z H Q I h) λc s1 e=> ?_);cases c with
 |true=>exact isTrue_and_nil e
 |false=>exact e
theorem GR(ha:PT X a tA):PW X (.BoolOp .Or [a] pos) tA:=by
 intro wh e7 s Z H Q I h;refine isTrue_or (thn (ha e7 s Z H Q I h) λc s1 e=> ?_);cases c with
 |false=>exact isTrue_or_nil e
 |true=>exact e
theorem GU(ha:PT X a tA)(hb:PW X (.BoolOp .And (b::rest) pos) zI):PW X (.BoolOp .And (a::b::rest) pos) (NS tA zI):=by
 intro wh e7 s Z H Q I h;refine isTrue_and (thn (ha e7 s Z H _ I h) λc s1 ⟨H1,I1,q1⟩=> ?_);cases c with
 |true=>exact hb wh e7 s1 Z H1 Q I1 q1
 |false=>exact⟨H1,I1,q1⟩
theorem KL(ha:PT X a tA)(hb:PW X (.BoolOp .Or (b::rest) pos) zI):PW X (.BoolOp .Or (a::b::rest) pos) (tOr tA zI):=by
 intro wh e7 s Z H Q I h;refine isTrue_or (thn (ha e7 s Z H _ I h) λc s1 ⟨H1,I1,q1⟩=> ?_);cases c with
 |true=>exact⟨H1,I1,q1⟩
 |false=>exact hb wh e7 s1 Z H1 Q I1 q1
theorem we(ha:PT X a tA):PT X (.UnaryOp .Not a pos) (NT tA):=by
 intro e7 s Z H Q I h;exact isTrue_not (ha e7 s Z H (λc H1=>Q (!c) H1) I h)
def KN(ta tb:TE):TE:=λZ H Q=>ta Z H λx H1=>∃c,x= .bl c/\if c=true then tb Z H1 Q else Q (.bl false) H1
def NU(ta tb:TE):TE:=λZ H Q=>ta Z H λx H1=>∃c,x= .bl c/\if c=true then Q (.bl true) H1 else tb Z H1 Q
def KO(ta:TE):TE:=λZ H Q=>ta Z H λx H1=>∃c,x= .bl c/\Q (.bl (!c)) H1
theorem GV{op}(h:PE X a t):PE X (.BoolOp op [a] pos) t:=λe7 s Z H Q I hw=>BoolOp_one (h e7 s Z H Q I hw)
theorem GW(ha:PE X a ta)(hb:PE X (.BoolOp .And (b::rest) pos) tb):PE X (.BoolOp .And (a::b::rest) pos) (KN ta tb):=by
 intro e7 s Z H Q I h;refine BoolOp_and (thn (ha e7 s Z H _ I h) λv s1 ⟨x,H1,I1,r1,q1⟩=> ?_);obtain⟨c,rfl,q1⟩:=q1;cases r1;refine GaR ?_;cases c with
 |true=>exact hb e7 s1 Z H1 Q I1 q1
 |false=>exact⟨.bl false,H1,I1,rfl,q1⟩
theorem KP(ha:PE X a ta)(hb:PE X (.BoolOp .Or (b::rest) pos) tb):PE X (.BoolOp .Or (a::b::rest) pos) (NU ta tb):=by
 intro e7 s Z H Q I h;refine BoolOp_or (thn (ha e7 s Z H _ I h) λv s1 ⟨x,H1,I1,r1,q1⟩=> ?_);obtain⟨c,rfl,q1⟩:=q1;cases r1;refine GaR ?_;cases c with
 |false=>exact hb e7 s1 Z H1 Q I1 q1
 |true=>exact⟨.bl true,H1,I1,rfl,q1⟩
theorem GX(ha:PE X a ta):PE X (.UnaryOp .Not a pos) (KO ta):=by
 intro e7 s Z H Q I h;refine UnaryOp_ (thn (ha e7 s Z H _ I h) λv s1 ⟨x,H1,I1,r1,q1⟩=> ?_);obtain⟨c,rfl,q1⟩:=q1;cases r1;exact not_of (GaR ⟨.bl (!c),H1,I1,rfl,q1⟩)
def tIf(t:TT)(ta tb:TE):TE:=λZ H Q=>t Z H λc H1=>if c=true then ta Z H1 Q else tb Z H1 Q
theorem wg{c:Expr}(hc:PT X c tA)(ha:PE X a ta)(hb:PE X b tb):PE X (.IfExp c a b pos) (tIf tA ta tb):=by
 intro e7 s Z H Q I h;refine wpAny_IfExp (thn (hc e7 s Z H _ I h) λd s1 ⟨H1,I1,q1⟩=> ?_);cases d with
 |true=>exact ha e7 s1 Z H1 Q I1 q1
 |false=>exact hb e7 s1 Z H1 Q I1 q1
end
def SqL(K:PySem.W.Frag)(H:Hp)(a:Addr)(xs:List V):Prop:=
 Rd H a (.lst xs)\/
  ∃(o:Obj) (eg:Array Value) (n:Nat),K.lookup a=some o/\o.cls= .type "list"/\o.dict=none/\o.data= .seq eg n/\eg.size<=sizeLine/\Vals xs eg.toList
def SqT(K:PySem.W.Frag)(H:Hp)(a:Addr)(xs:List V):Prop:=
 Rd H a (.tup xs)\/
  ∃(o:Obj) (eg:Array Value) (n:Nat),K.lookup a=some o/\o.cls= .type "tuple"/\o.data= .seq eg n/\eg.size<=sizeLine/\Vals xs eg.toList
noncomputable def NV:Value->Option V
 | .none=>some .non
 | .bool b=>some (.bl b)
 | .int i _=>some (.int i)
 | .str x _=>some (.str x)
 | .ref a=>some (.ref a)
 | .type n=>some (.ty n)
 |_=>none
variable{u:Value}
theorem RelV.abs{x:V}(r:RelV x u):NV u=some x:=by
 cases x with
 |non=>cases r;rfl
 |bl _=>cases r;rfl
 |int _=>obtain⟨t,rfl⟩:=r;rfl
 |str _=>obtain⟨t,rfl⟩:=r;rfl
 |ref _=>cases r;rfl
 |ty _=>cases r;rfl
theorem RelV.inj{x y:V}{u:Value}(r:RelV x u)(q:RelV y u):x=y:=Option.some.inj (r.abs.symm.trans q.abs)
theorem Vals.inj{xs ys:List V}{us:List Value}(p:Vals xs us)(q:Vals ys us):xs=ys:=by
 induction p generalizing ys with
 |nil=>cases q;rfl
 |cons r t ih=>cases q with|cons r' t' =>rw[r.inj r',ih t']
section
variable{X:Cx}{e7:LAO}{Z:St}{H:Hp}{s:Shared}{a:Addr}{xs ys:List V}
theorem SqL.of{K:PySem.W.Frag}(h:H a=some (.lst xs)):SqL K H a xs:= .inl (.inl h)
theorem SqT.of{K:PySem.W.Frag}(h:H a=some (.tup xs)):SqT K H a xs:= .inl (.inl h)
theorem Inv.list(I:Inv X e7 Z H s)(h:SqL X.K H a xs):∃eg:List Value,Vals xs eg/\PlainL s.heap a eg.toArray/\xs.length<=sizeLine:=by
 rcases h with h| ⟨o,eg,n,hk,hc,hd,hs,hz,r⟩
 .obtain⟨z,eg,n,r,e⟩:=h.ok I.hok;exact⟨eg,r,⟨_,n,e,rfl,rfl,rfl⟩,z⟩
 .refine⟨eg.toList,r,⟨o,n,I.kIn a o hk,hc,hd,by simpa using hs⟩, ?_⟩;have e:=r.length;simp only[Gcy] at e;lia
theorem Inv.tuple(I:Inv X e7 Z H s)(h:SqT X.K H a xs):∃eg:List Value,Vals xs eg/\IsTup s.heap a eg.toArray/\xs.length<=sizeLine:=by
 rcases h with h| ⟨o,eg,n,hk,hc,hs,hz,r⟩
 .obtain⟨z,eg,r,p⟩:=h.ok I.hok;exact⟨eg,r,p,z⟩
 .refine⟨eg.toList,r,⟨o,I.kIn a o hk,hc,n,by simpa using hs⟩, ?_⟩;have e:=r.length;simp only[Gcy] at e;lia
theorem Inv.lH(I:Inv X e7 Z H s)(h:SqL X.K H a xs)(h' :SqL X.K H a ys):xs=ys:=by
 obtain⟨eg,r,⟨o,n,e,_,_,d⟩,_⟩:=I.list h;obtain⟨its',r',⟨o',n',e',_,_,d'⟩,_⟩:=I.list h';rw[e] at e';cases e'
 rw[d] at d';injection d' with d1 _
 have:eg=its' :=by simpa using congrArg Array.toList d1
 subst this;exact r.inj r'
theorem Inv.jV(I:Inv X e7 Z H s)(h:SqT X.K H a xs)(h' :SqT X.K H a ys):xs=ys:=by
 obtain⟨eg,r,⟨o,e,_,n,d⟩,_⟩:=I.tuple h;obtain⟨its',r',⟨o',e',_,n',d'⟩,_⟩:=I.tuple h';rw[e] at e';cases e'
 rw[d] at d';injection d' with d1 _
 have:eg=its' :=by simpa using congrArg Array.toList d1
 subst this;exact r.inj r'
end
noncomputable abbrev Cx.cm (X:Cx) (E:VSP):Cx:={X with xe:=E}
abbrev Cx.nox (X:Cx):Cx:=X.cm λ_ _=>False
theorem Cx.Ok.cm{X:Cx}(ok:X.Ok)(E:VSP):(X.cm E).Ok:=
 ⟨ok.mod,ok.kind,ok.glob,ok.blt,ok.above,ok.inj,ok.has,ok.cab,ok.hd,ok.frames,ok.stk,ok.exf,ok.bs,ok.bsz,ok.rV,ok.rW,ok.jd,ok.frf⟩
variable{X:Cx}
theorem Cx.Ok.cz{E:VSP}(ok:(X.cm E).Ok):X.Ok:=
 ⟨ok.mod,ok.kind,ok.glob,ok.blt,ok.above,ok.inj,ok.has,ok.cab,ok.hd,ok.frames,ok.stk,ok.exf,ok.bs,ok.bsz,ok.rV,ok.rW,ok.jd,ok.frf⟩
section
variable{X:Cx}{e7:LAO}{Z:St}{H:Hp}{s:Shared}{E:VSP}
theorem Inv.cm(I:Inv X e7 Z H s)(E:VSP):Inv (X.cm E) e7 Z H s:=⟨I.ok.cm E,I.os,I.bare,I.base,I.loc,I.cell,I.free,I.fV,I.pin,I.hok,I.len⟩
theorem Inv.cz(I:Inv (X.cm E) e7 Z H s):Inv X e7 Z H s:=⟨I.ok.cz,I.os,I.bare,I.base,I.loc,I.cell,I.free,I.fV,I.pin,I.hok,I.len⟩
theorem SP.cz{D:Ends}{f:Flow}{s' :Shared}(h:SP (X.cm E) e7 D f s'):SP X e7 D f s' :=by
 cases f with
 |next=>obtain⟨Z',H',I,q⟩:=h;exact⟨Z',H',I.cz,q⟩
 |brk=>obtain⟨Z',H',I,q⟩:=h;exact⟨Z',H',I.cz,q⟩
 |cont=>obtain⟨Z',H',I,q⟩:=h;exact⟨Z',H',I.cz,q⟩
 |ret u=>obtain⟨v,Z',H',I,r,q⟩:=h;exact⟨v,Z',H',I.cz,r,q⟩
theorem PE.nox{e:Expr}{t:TE}(h:PE X.nox e t):PE X e t:=λe7 s Z H Q I hw=>
 GaO (h e7 s Z H Q (I.cm _) hw) (λ_ _ ⟨v,H',I',r,q⟩=> ⟨v,H',I'.cz,r,q⟩) λ_ _ z=>False.elim z
theorem PT.nox{e:Expr}{t:TT}(h:PT X.nox e t):PT X e t:=λe7 s Z H Q I hw=>
 GaO (h e7 s Z H Q (I.cm _) hw) (λ_ _ ⟨H',I',q⟩=> ⟨H',I'.cz,q⟩) λ_ _ z=>False.elim z
theorem PSs.nox{st:List Stmt}{t:TS}(h:PSs X.nox st t):PSs X st t:=λe7 s Z H D I hw=>
 GaO (h e7 s Z H D (I.cm _) hw) (λ_ _ q=>q.cz) λ_ _ z=>False.elim z
end
section
variable{X:Cx}{st:Stmt}{rest:List Stmt}{t u:TS}{e:Expr}{te:TE}{pos:Pos}
def KQ:TS:=λD Z H=>D.nx Z H
def NW(t u:TS):TS:=λD Z H=>t {D with nx:=u D} Z H
theorem CU:PSs X [] KQ:=λ_ _ Z H _ I h=>GbD ⟨Z,H,I,h⟩
theorem lJ(h1:PS X st t)(h2:PSs X rest u):PSs X (st::rest) (NW t u):=by
 intro e7 s Z H D I h;refine wpAny_execs_cons (thn (h1 e7 s Z H {D with nx:=u D} I h) λf s1 q=> ?_);cases f with
 |next=>
  obtain⟨Z',H',I',q⟩:=q;exact h2 e7 s1 Z' H' D I' q
 |ret v=>exact q
 |brk=>exact q
 |cont=>exact q
theorem nR(h1:PS X st t):PSs X [st] t:=by
 intro e7 s Z H D I h;refine wpAny_execs_cons (thn (h1 e7 s Z H D I h) λf s1 q=> ?_);cases f with
 |next=>exact GbD q
 |ret v=>exact q
 |brk=>exact q
 |cont=>exact q
theorem Inv.quiet{e7:LAO}{Z:St}{H:Hp}{s:Shared}(I:Inv X e7 Z H s):interactive X.env=false:=by simp[interactive,I.ok.kind]
def KR(te:TE):TS:=λD Z H=>te Z H λ_ H1=>D.nx Z H1
theorem gr(he:PE X e te)(hs:autoParam (swapsWith e none pos.line X.env=pure false) Za1._auto_1):PS X (.Expr e pos) (KR te):=by
 intro e7 s Z H D I h;exact wpAny_Expr_any (thn (he e7 s Z H _ I h) λv s1 ⟨x,H1,I1,r1,q1⟩=> ⟨Z,H1,I1,q1⟩) I.quiet hs
def NX(te:TE):TS:=λD Z H=>te Z H D.rt
theorem nS(he:PE X e te):PS X (.Return (some e) pos) (NX te):=by
 intro e7 s Z H D I h;exact wpAny_Return_some (thn (he e7 s Z H _ I h) λv s1 ⟨x,H1,I1,r1,q1⟩=> ⟨x,Z,H1,I1,r1,q1⟩)
def NY(c:TT)(t u:TS):TS:=λD Z H=>c Z H λb H1=>if b=true then t D Z H1 else u D Z H1
theorem wj{c:Expr}{a b:List Stmt}{tc:TT}(hc:PT X c tc)(ha:PSs X a t)(hb:PSs X b u):PS X (.If c a b pos) (NY tc t u):=by
 intro e7 s Z H D I h;refine wpAny_If (thn (hc e7 s Z H _ I h) λd s1 ⟨H1,I1,q1⟩=> ?_);cases d with
 |true=>exact ha e7 s1 Z H1 D I1 q1
 |false=>exact hb e7 s1 Z H1 D I1 q1
end
abbrev TG:=V->St->Hp->(St->Hp->Prop)->Prop
abbrev TGs:=List V->St->Hp->(St->Hp->Prop)->Prop
def PG(X:Cx)(target:Expr)(t:TG):Prop:=
 ∀(e7:LAO) (s:Shared) (Z:St) (H:Hp) (v:V) (u:Value) (Q:St->Hp->Prop),Inv X e7 Z H s->RelV v u->t v Z H Q->
  wpAny (model X.prog X.w) X.A (assign target X.env u) (λ_ s' =>∃Z' H',Inv X e7 Z' H' s' /\Q Z' H') X.xe s
def PGs(X:Cx)(ts:List Expr)(t:TGs):Prop:=
 ∀(e7:LAO) (s:Shared) (Z:St) (H:Hp) (vs:List V) (us:List Value) (Q:St->Hp->Prop),Inv X e7 Z H s->Vals vs us->t vs Z H Q->
  wpAny (model X.prog X.w) X.A (assignInOrder ((assignEach ts X.env).map (·.2)) us) (λ_ s' =>∃Z' H',Inv X e7 Z' H' s' /\Q Z' H') X.xe s
abbrev NZ:=V->V->V->Hp->(Hp->Prop)->Prop
def O0(X:Cx)(t:NZ):Prop:=
 ∀(e7:LAO) (s:Shared) (Z:St) (H:Hp) (o i v:V) (ov iv u:Value) (Q:Hp->Prop),Inv X e7 Z H s->RelV o ov->RelV i iv->RelV v u->t o i v H Q->
  wpAny (model X.prog X.w) X.A (setItem ov iv u) (λ_ s' =>∃H',Inv X e7 Z H' s' /\Q H') X.xe s
section
variable{X:Cx}{pos:Pos}
def FQ(i:Nat):TG:=λv Z H Q=>Q (Z.set i (some v)) H
variable{x:Str}{i:Nat}
theorem l9(hN:X.N.Nodup)(hi:X.N[i]? =some x)(hx:Loc X.env.scope x)(hf:autoParam (X.fn x=true\/X.env.scope.names.lookup x=some .local) Za3._auto_1):PG X (.Name x pos) (FQ i):=by
 intro e7 s Z H v u Q I r h;exact wpAny_assign_Name (gY I hN hi hx r (λs' I' => ⟨_,H,I',h⟩) hf)
def O4:TGs:=λvs Z H Q=>vs=[]/\Q Z H
def KS(t:TG)(u:TGs):TGs:=λvs Z H Q=>∃v r,vs=v::r/\t v Z H λZ' H' =>u r Z' H' Q
theorem rZ:PGs X [] O4:=by
 intro e7 s Z H vs us Q I r h;obtain⟨e,h⟩:=h;subst e;cases r;exact assignInOrder_nil ⟨Z,H,I,h⟩
variable{es:List Expr}
theorem lK{e:Expr}{t:TG}{u:TGs}(h1:PG X e t)(h2:PGs X es u)
  (hs:autoParam ((assignEach (e::es) X.env).map (·.2)=assign e X.env::(assignEach es X.env).map (·.2)) Za1._auto_1):PGs X (e::es) (KS t u):=by
 intro e7 s Z H vs us Q I r h;obtain⟨v,vr,e1,h⟩:=h;subst e1;cases r with
 |cons r rr=>
  rw[hs];refine assignInOrder_cons (thn (h1 e7 s Z H _ _ _ I r h) λ_ s1 ⟨Z1,H1,I1,q1⟩=> ?_);exact h2 e7 s1 Z1 H1 _ _ Q I1 rr q1
def O5(K:PySem.W.Frag)(n:Nat)(t:TGs):TG:=λv Z H Q=>∃a xs,v= .ref a/\SqT K H a xs/\xs.length=n/\t xs Z H Q
theorem wm{k:Nat}{t:TGs}{n:Nat}(hc:X.calm=true)(h:PGs X es t)
  (hn:autoParam ((assignEach es X.env).length=n) Za1._auto_1)(xw:autoParam ((assignEach es X.env).findIdx? (·.1)=none) Za1._auto_1):PG X (.Tuple es k pos) (O5 X.K n t):=by
 intro e7 s Z H v u Q I r hw;obtain⟨a,xs,e1,hq,hl,hw⟩:=hw;subst e1;cases r;obtain⟨eg,rv,ht,hz⟩:=I.tuple hq;refine assign_Tuple_tuple (I.ok.hd hc) ht (by simp[hn,<-hl,rv.length]) xw λh' hx=> ?_;have I1:Inv X e7 Z H {s with heap:=h' }:=I.kept (t' :=s.toks) λb o e=>hx b o (Gaq (Gaj e)) e;exact h e7 _ Z H xs _ Q I1 (by simpa using rv) hw
def KU(te:TE)(g:TG):TS:=λD Z H=>te Z H λx H1=>g x Z H1 D.nx
variable{te:TE}
theorem GY{tg e:Expr}{g:TG}(he:PE X e te)(hg:PG X tg g)(hs:autoParam (swapsWithSole [tg] e pos.line X.env=pure false) Za1._auto_1)(hw:autoParam (swappedStores [tg] e X.env=pure none) Za1._auto_1)
  (h1:autoParam ((assignEach [tg] X.env).map (·.2)=[assign tg X.env]) Za1._auto_1):PS X (.Assign [tg] e pos) (KU te g):=by
 intro e7 s Z H D I h;refine wpAny_Assign_stores (thn (he e7 s Z H _ I h) λv s1 ⟨x,H1,I1,r1,q1⟩=> ?_) hs hw;rw[h1];exact thn (hg e7 s1 Z H1 x v _ I1 r1 q1) λ_ s2 q=>q
theorem qA{e:Expr}{pos' :Pos}(hN:X.N.Nodup)(hi:X.N[i]? =some x)(hx:Loc X.env.scope x)(he:PE X e te)(hs:autoParam (swapsWith e (some (.Name x pos')) pos.line X.env=pure false) Za1._auto_1)(hf:autoParam (X.fn x=true\/X.env.scope.names.lookup x=some .local) Za3._auto_1):
  PS X (.Assign [.Name x pos'] e pos) (KU te (FQ i)):=by
 intro e7 s Z H D I h;refine wpAny_Assign_Name (thn (he e7 s Z H _ I h) λv s1 ⟨y,H1,I1,r1,q1⟩=> ?_) hs;exact gY I1 hN hi hx r1 (λs2 I2=> ⟨_,H1,I2,q1⟩) hf
end
structure It where
 go:Nat->Hp->Prop
 yld:Nat->Hp->V->Hp->Prop
 stop:Nat->Hp->Prop
def gU(X:Cx)(e7:LAO)(H:Hp)(b:Addr):Prop:=
 H b=none/\b≠X.env.locals/\b∉X.fs/\(b∈X.ex\/X.s₀.heap.objs.size<=b)/\(∀x c,X.env.cells.lookup x=some c->c≠b)/\∀p∈X.pn++e7,p.1≠b
variable{s:Shared}
theorem Inv.qB{e7:LAO}{Z:St}{H H' :Hp}{b:Addr}(I:Inv X e7 Z H s)(hb:s.heap.objs.size<=b)(hn:H' b=none):gU X e7 H' b:=by
 refine⟨hn,GaY (Gah I.lt hb),I.NR hb,.inr (GaE I.sz hb),λx c e z=> ?_,λp hp z=> ?_⟩
 .obtain⟨v,q⟩:=I.cell x c e;exact absurd (Gah q.lt (by rw[z];exact hb)) (GaI _)
 .exact absurd (Gah (Gaj (I.pin p hp).1) (by rw[z];exact hb)) (GaI _)
structure Turn(P:Program)(w:World)(K:PySem.W.Frag)(tg:Expr)(J:It)(fp:List Addr)(it:Addr)(tn:Nat->Heap->Prop):Prop where
 mem:it∈fp
 obj:∀i h,tn i h->∀b∈fp,∃o,h.get? b=some o/\∀v,o.data≠ .cell v
 keep:∀i h h',tn i h->(∀b∈fp,∀o,h.get? b=some o->h'.get? b=some o)->tn i h'
 item:∀(X:Cx),X.prog=P->X.w=w->X.K=K->X.calm=true->∀(i:Nat) (e7:LAO) (s:Shared) (Z:St) (H:Hp) (E:VSP),Inv X e7 Z H s->(∀b∈fp,gU X e7 H b)->tn i s.heap->J.go i H->
  wpAny (model P w) X.A (pyNext (.ref it)) (λr s1=>∃u,r=some u/\
   wpAny (model P w) X.A (letOwnedTupleGo tg (.ref it) u) (λ_ s2=>∃x H',Inv X e7 Z H' s2/\RelV x u/\J.yld i H x H' /\tn (i+1) s2.heap/\∀b∈fp,H' b=none) E s1) E s
 done:∀(X:Cx),X.prog=P->X.w=w->X.K=K->X.calm=true->∀(i:Nat) (e7:LAO) (s:Shared) (Z:St) (H:Hp) (E:VSP),Inv X e7 Z H s->(∀b∈fp,gU X e7 H b)->tn i s.heap->J.stop i H->
  wpAny (model P w) X.A (pyNext (.ref it)) (λr s1=>r=none/\Inv X e7 Z H s1) E s
 self:∀(A:Around) (i:Nat) (s:Shared) (Q:VSP) (E:VSP),tn i s.heap->Q (.ref it) s->wpAny (model P w) A (pyIter (.ref it)) Q E s
abbrev TI:=St->Hp->(It->Hp->Prop)->Prop
def PIE(X:Cx)(e7:LAO)(Z:St)(tg:Expr)(R:It->Hp->Prop)(zm:Value)(s2:Shared):Prop:=
 ∃(it:Addr) (fp:List Addr) (tn:Nat->Heap->Prop) (J:It) (H' :Hp),zm= .ref it/\Inv X e7 Z H' s2/\Turn X.prog X.w X.K tg J fp it tn/\tn 0 s2.heap/\(∀b∈fp,gU X e7 H' b)/\R J H'
def PI(X:Cx)(tg iter:Expr)(wi:TI):Prop:=
 ∀(e7:LAO) (s:Shared) (Z:St) (H:Hp) (R:It->Hp->Prop),Inv X e7 Z H s->wi Z H R->
  wpAny (model X.prog X.w) X.A (eval iter X.env) (λv s1=>wpAny (model X.prog X.w) X.A (pyIter v) (PIE X e7 Z tg R) X.xe s1) X.xe s
variable{tg:Expr}
theorem oY{M:Model}{A:Around}{E:VSP}{it:Addr}{o:Obj}{n:String}{vs:Array Value}{Q:Unit->Shared->Prop}(ho:s.heap.get? it=some o)(hc:o.cls= .type n)(hd:o.data= .fields vs)
  (hn:["enumerate","zip","dict_itemiterator","dict_reverseitemiterator","odict_iterator","itertools.zip_longest","itertools.pairwise"].contains n=false)(hQ:Q () s):wpAny M A (letOwnedTupleGo tg (.ref it) u) Q E s:=by
 unfold letOwnedTupleGo;cases tg<;>first
  |exact Gao hQ
  |(cases u<;>first
    |exact Gao hQ
    |(refine Gae (wpAny_load ho ?_)
      rw[hc,hd];show wpAny M A (if(["enumerate","zip","dict_itemiterator","dict_reverseitemiterator","odict_iterator","itertools.zip_longest","itertools.pairwise"].contains n&&vs[0]? ==some (rawInt _))=true then _ else _) Q E s;rw[Gam (by intro h;rw[hn,Bool.false_and] at h;cases h)];exact Gao hQ))
noncomputable def Itl(K:PySem.W.Frag)(a:Addr):It:=
 ⟨λi H=>∃xs x,SqL K H a xs/\xs[i]? =some x,λi H x H' =>H' =H/\∀xs,SqL K H a xs->xs[i]? =some x,λi H=>∃xs,SqL K H a xs/\xs.length<=i⟩
noncomputable def Itt(K:PySem.W.Frag)(a:Addr):It:=
 ⟨λi H=>∃xs x,SqT K H a xs/\xs[i]? =some x,λi H x H' =>H' =H/\∀xs,SqT K H a xs->xs[i]? =some x,λi H=>∃xs,SqT K H a xs/\xs.length<=i⟩
noncomputable def Itr(lo:Int)(n:Nat):It:=⟨λi _=>i<n,λi H x H' =>H' =H/\x= .int (lo+i),λi _=>n<=i⟩
variable{w:World}{P:Program}
theorem uD{K:PySem.W.Frag}(a it:Addr):Turn P w K tg (Itl K a) [it] it (λi h=>h.IsListIter it a i) where
 mem:=by simp
 obj:=λi h st b hb=>by
  have e:b=it:=by simpa using hb
  subst e;obtain⟨o,e,c,d⟩:=st;exact⟨o,e,λv z=>by rw[d] at z;cases z⟩
 keep:=λi h h' st k=>st.at λo e=>k it (by simp) o e
 item:=by
  intro X hP hw hK hc i e7 s Z H E I hf st hg;subst hP hw hK;obtain⟨xs,x,hq,hx⟩:=hg;obtain⟨eg,rv,p,hz⟩:=I.list hq;obtain⟨u,hu,ru⟩:=rv.get hx;obtain⟨f0,f1,f2,f3,f4,f5⟩:=hf it (by simp);refine wpAny_pyNext_list_item st p.isList (x:=u) (by simpa using hu) λh' xM sb=> ?_;have I1:Inv X e7 Z H {s with heap:=h' }:=I.turned (t' :=s.toks) (λb o hb e=>(sb.2 b hb).trans e) f0 f1 f3 f4 f5;obtain⟨o,e,c,d⟩:=id xM;exact⟨u,rfl,oY (s:={s with heap:=h' }) e c d (by decide) ⟨x,H,I1,ru,⟨rfl,λys hy=>by rw[I.lH hy hq];exact hx⟩,xM,λb hb=>(hf b hb).1⟩⟩
 done:=by
  intro X hP hw hK hc i e7 s Z H E I hf st hg;subst hP hw hK;obtain⟨xs,hq,hx⟩:=hg;obtain⟨eg,rv,p,hz⟩:=I.list hq;obtain⟨f0,f1,f2,f3,f4,f5⟩:=hf it (by simp);have hl:=rv.length;exact wpAny_pyNext_list_end (I.ok.hd hc) st p.isList (by simp;lia) λh' eb=> ⟨rfl,I.turned (t' :=s.toks) (λb o hb e=>eb b o hb e) f0 f1 f3 f4 f5⟩
 self:=λ_ _ _ _ _ st h=>wpAny_pyIter_listiter st h
theorem qC{K:PySem.W.Frag}(a it:Addr):Turn P w K tg (Itt K a) [it] it (λi h=>h.IsTupleIter it a i) where
 mem:=by simp
 obj:=λi h st b hb=>by
  have e:b=it:=by simpa using hb
  subst e;obtain⟨o,e,c,d⟩:=st;exact⟨o,e,λv z=>by rw[d] at z;cases z⟩
 keep:=λi h h' st k=>st.at λo e=>k it (by simp) o e
 item:=by
  intro X hP hw hK hc i e7 s Z H E I hf st hg;subst hP hw hK;obtain⟨xs,x,hq,hx⟩:=hg;obtain⟨eg,rv,p,hz⟩:=I.tuple hq;obtain⟨u,hu,ru⟩:=rv.get hx;obtain⟨f0,f1,f2,f3,f4,f5⟩:=hf it (by simp);refine wpAny_pyNext_tuple_item st (show s.heap.IsTuple a eg.toArray from p) (x:=u) (by simpa using hu) λh' xM sb=> ?_;have I1:Inv X e7 Z H {s with heap:=h' }:=I.turned (t' :=s.toks) (λb o hb e=>(sb.2 b hb).trans e) f0 f1 f3 f4 f5;obtain⟨o,e,c,d⟩:=id xM;exact⟨u,rfl,oY (s:={s with heap:=h' }) e c d (by decide) ⟨x,H,I1,ru,⟨rfl,λys hy=>by rw[I.jV hy hq];exact hx⟩,xM,λb hb=>(hf b hb).1⟩⟩
 done:=by
  intro X hP hw hK hc i e7 s Z H E I hf st hg;subst hP hw hK;obtain⟨xs,hq,hx⟩:=hg;obtain⟨eg,rv,p,hz⟩:=I.tuple hq;obtain⟨f0,f1,f2,f3,f4,f5⟩:=hf it (by simp);have hl:=rv.length;exact wpAny_pyNext_tuple_end (I.ok.hd hc) st (show s.heap.IsTuple a eg.toArray from p) (by simp;lia) λh' eb=> ⟨rfl,I.turned (t' :=s.toks) (λb o hb e=>eb b o hb e) f0 f1 f3 f4 f5⟩
 self:=λ_ _ _ _ _ st h=>wpAny_pyIter_tupleiter st h
theorem qD{K:PySem.W.Frag}(it:Addr)(lo:Int)(n:Nat):Turn P w K tg (Itr lo n) [it] it (λi h=>IsRangeIter h it (lo+(i:Nat)*1) ((n:Int)-(i:Nat)) 1) where
 mem:=by simp
 obj:=λi h st b hb=>by
  have e:b=it:=by simpa using hb
  subst e;exact⟨_,st,λv z=>by
   have z' :Data.fields _=Data.cell v:=z;cases z'⟩
 keep:=λi h h' st k=>k it (by simp) _ st
 item:=by
  intro X hP hw hK hc i e7 s Z H E I hf st hg;subst hP hw hK;obtain⟨f0,f1,f2,f3,f4,f5⟩:=hf it (by simp);have W:=Walks.range (prog:=X.prog) (w:=X.w) (I.ok.hd hc) it lo 1 n;refine W.item i s _ _ hg st λv h' tk hv xM kk=> ?_;obtain⟨t,rfl⟩:=hv;have I1:Inv X e7 Z H {s with heap:=h',toks:=tk}:=I.turned (λb o hb e=>kk b o (by simpa using hb) e) f0 f1 f3 f4 f5;refine⟨_,rfl,oY (s:={s with heap:=h',toks:=tk}) (n:="range_iterator") xM rfl rfl (by decide) ⟨.int (lo+i),H,I1,⟨t, ?_⟩,⟨rfl,rfl⟩,xM,λb hb=>(hf b hb).1⟩⟩;rw[Int.mul_one]
 done:=by
  intro X hP hw hK hc i e7 s Z H E I hf st hg;subst hP hw hK;obtain⟨f0,f1,f2,f3,f4,f5⟩:=hf it (by simp);exact wpAny_pyNext_range_end (I.ok.hd hc) st (by have:n<=i:=hg;lia) λh' eb=> ⟨rfl,I.turned (t' :=s.toks) (λb o hb e=>eb b o hb e) f0 f1 f3 f4 f5⟩
 self:=λ_ _ _ _ _ st h=>wpAny_pyIter_rangeiter st h
section
variable{X:Cx}{tg:Expr}
variable{s:Shared}{H:Hp}{Z:St}{e7:LAO}
theorem gZ{R:It->Hp->Prop}{E:VSP}{lo hi:Int}{t u v:Tok}{tk:Nat}(I:Inv X e7 Z H s)(h1: -(2^62)<=lo)(h2:lo<2^62)(h3: -(2^62)<=hi)(h4:hi<2^62)
  (q:R (Itr lo (hi -lo).toNat) H):wpAny (model X.prog X.w) X.A (pyIter (.ref s.heap.objs.size)) (PIE X e7 Z tg R) E {s with heap:=s.heap.push {cls:= .type "range",data:= .fields #[.int lo t,.int hi u,.int 1 v]},toks:=tk}:=by
 refine wpAny_pyIter_range (IsRange.new ..) (small_one h1 h2 h3 h4) ?_;have I1:Inv X e7 Z H {s with heap:=s.heap.push {cls:= .type "range",data:= .fields #[.int lo t,.int hi u,.int 1 v]},toks:=tk}:=I.kept λb o e=>Gaf _ e;refine⟨(s.heap.push {cls:= .type "range",data:= .fields #[.int lo t,.int hi u,.int 1 v]}).objs.size,[(s.heap.push {cls:= .type "range",data:= .fields #[.int lo t,.int hi u,.int 1 v]}).objs.size],_,_,H,rfl,
  I1.kept (t' :=tk) λb o e=>Gaf _ e,qD _ lo (hi -lo).toNat, ?_,λb hb=> ?_,q⟩
 .have e1:lo+((0:Nat):Int)*1=lo:=by simp
  have e2:(((hi -lo).toNat:Nat):Int)-((0:Nat):Int)=Builtin.Range.rangeSize lo hi 1:=by rw[rangeSize_one];split<;>lia
  show IsRangeIter _ _ (lo+((0:Nat):Int)*1) ((((hi -lo).toNat:Nat):Int)-((0:Nat):Int)) 1;rw[e1,e2];exact Gar _ rfl
 .have e:b=(s.heap.push {cls:= .type "range",data:= .fields #[.int lo t,.int hi u,.int 1 v]}).objs.size:=by simpa using hb
  subst e;exact I1.qB (Gap _) (I1.hok.fresh (Gap _))
def KV(ta:TA):TI:=λZ H R=>ta Z H λvs H1=>∃j:Int,vs=[.int j]/\-(2^62)<=j/\j<2^62/\R (Itr 0 j.toNat) H1
def KW(ta:TA):TI:=λZ H R=>ta Z H λvs H1=>∃i j:Int,vs=[.int i,.int j]/\(-(2^62)<=i/\i<2^62/\-(2^62)<=j/\j<2^62)/\R (Itr i (j -i).toNat) H1
variable{p pos:Pos}{ta:TA}{a:Expr}
theorem mX(hg:Gl X "range")(hm:X.mg "range"=none)(ha:PA X [a] ta)(hs:autoParam (starEach [a] X.env=[(false,eval a X.env)]) Za1._auto_1):PI X tg (.Call (.Name "range" p) [a] [] pos) (KV ta):=by
 intro e7 s Z H R I h;refine Call_ (iQ I hg hm boot_range (Gbe (thn (ha pos e7 s Z H _ I h) λus s1 ⟨vs,H1,I1,r1,q1⟩=> ?_) hs rfl));obtain⟨j,e,q1,q2,q⟩:=q1;subst e;cases r1 with
 |cons r rr=>
  cases rr;obtain⟨t,rfl⟩:=r;exact call_range_1 (gZ I1 (by lia) (by lia) q1 q2 (by simpa using q))
theorem uF{b:Expr}(hg:Gl X "range")(hm:X.mg "range"=none)(ha:PA X [a,b] ta)(hs:autoParam (starEach [a,b] X.env=[(false,eval a X.env),(false,eval b X.env)]) Za1._auto_1)(hW:autoParam (starEach [b] X.env=[(false,eval b X.env)]) Za1._auto_1):
  PI X tg (.Call (.Name "range" p) [a,b] [] pos) (KW ta):=by
 intro e7 s Z H R I h;refine Call_ (iQ I hg hm boot_range (Gbe (thn (ha pos e7 s Z H _ I h) λus s1 ⟨vs,H1,I1,r1,q1⟩=> ?_) (by rw[hs,hW]) (by rw[hW];rfl)));obtain⟨i,j,e,⟨q1,q2,q3,q4⟩,q⟩:=q1;subst e;cases r1 with
 |cons r rr=>
  cases rr with
  |cons r' rr=>
   cases rr;obtain⟨t,rfl⟩:=r;obtain⟨t',rfl⟩:=r';exact call_range_2 (gZ I1 q1 q2 q3 q4 q)
def KY(wi:TI)(g:TG)(tb:TS):TS:=λD Z H=>wi Z H λJ H1=>∃W:Nat->Nat->St->Hp->Prop,(∃m,W 0 m Z H1)/\∀i m Z H,W i m Z H->
 (J.stop i H/\D.nx Z H)\/(J.go i H/\∃N:St->Hp->Prop,(∀Z' H',N Z' H' ->∃m',m' <m/\W (i+1) m' Z' H')/\∀x H',J.yld i H x H' ->g x Z H' λZ2 H2=>tb {D with nx:=N,ct:=N,bk:=D.nx} Z2 H2)
noncomputable def jW(fp:List Addr)(h:Heap):LAO:=fp.filterMap λb=>(h.get? b).map λo=>(b,o)
variable{h:Heap}{fp:List Addr}
theorem d9{b:Addr}{o:Obj}(hb:b∈fp)(e:h.get? b=some o):(b,o)∈jW fp h:=List.mem_filterMap.mpr ⟨b,hb,by rw[e];rfl⟩
theorem uH{p:Addr×Obj}(hp:p∈jW fp h):p.1∈fp/\h.get? p.1=some p.2:=by
 obtain⟨b,hb,e⟩:=List.mem_filterMap.mp hp;cases q:h.get? b with
 |none=>rw[q] at e;cases e
 |some o=>
  rw[q] at e;have e' :(b,o)=p:=Option.some.inj e;subst e';exact⟨hb,q⟩
theorem Inv.pinned(I:Inv X e7 Z H s)(hf:∀b∈fp,gU X e7 H b)(ho:∀b∈fp,∃o,s.heap.get? b=some o/\∀v,o.data≠ .cell v):Inv X (e7++jW fp s.heap) Z H s:=
 I.rX λp hp=>(Gcp.mp hp).elim (λz=>I.pin p (GaD _ z)) λz=>by
  obtain⟨hb,e⟩:=uH z;obtain⟨f0,f1,f2,_⟩:=hf p.1 hb;obtain⟨o,e',d⟩:=ho p.1 hb;rw[e] at e';cases e'
  exact⟨e,f0,f1,f2,d⟩
theorem Inv.dX{pl:LAO}(I:Inv X (e7++pl) Z H s):Inv X e7 Z H s:=I.rX λp hp=>I.pin p (GaD _ (Gcq _ hp))
theorem GZ{iter:Expr}{body:List Stmt}{wi:TI}{g:TG}{tb:TS}(hp:PassesOwn (model X.prog X.w) X.A X.env X.xe)(hc:X.calm=true)(hi:PI X tg iter wi)(hg:PG X tg g)(hb:PSs X body tb)
  (hs:∀x,foldedSetIterable iter X.env x=pure x:=by intro _;rfl):PS X (.For tg iter body [] pos) (KY wi g tb):=by
 intro e7 s Z H D I h;refine wpAny_For (thn (hi e7 s Z H _ I h) λv s1 h1=>thn h1 λzm s2 h2=> ?_) hs;obtain⟨it,fp,tn,J,H2,e,I2,T,yB,f2,W,⟨m0,w0⟩,turn⟩:=h2;subst e;have stat:∀{H' :Hp},(∀b∈fp,H' b=none)->∀b∈fp,gU X e7 H' b:=λhn b hb=> ⟨hn b hb,(f2 b hb).2⟩;refine codeAny_forLoop_any (λn s' =>∃i Z' H',Inv X e7 Z' H' s' /\tn i s'.heap/\(∀b∈fp,H' b=none)/\W i n Z' H') ?_ m0 ⟨0,Z,H2,I2,yB,λb hb=>(f2 b hb).1,w0⟩;rintro n s3 ⟨i,Z3,H3,I3,zg,zz,w3⟩;rcases turn i n Z3 H3 w3 with⟨stop,qn⟩| ⟨go,N,hN,step⟩
 .refine GbR hp (thn (T.done X rfl rfl rfl hc i e7 s3 Z3 H3 X.xe I3 (stat zz) zg stop) λr s4 ⟨hr,I4⟩=> ?_);subst hr;exact GbD ⟨Z3,H3,I4,qn⟩
 .refine GbR hp (thn (T.item X rfl rfl rfl hc i e7 s3 Z3 H3 X.xe I3 (stat zz) zg go) λr s4 ⟨u,hr,h4⟩=> ?_);subst hr;refine GbR hp (thn h4 λ_ s5 ⟨x,H5,I5,r5,y5,y8,zy⟩=> ?_);have I5' :=I5.pinned (stat zy) (T.obj _ _ y8);refine GbR hp (thn (hg _ s5 Z3 H5 x u _ I5' r5 (step x H5 y5)) λ_ s6 ⟨Z6,H6,I6,q6⟩=> ?_);refine GbR hp (thn (hb _ s6 Z6 H6 _ I6 q6) λf s7 q7=> ?_);have again:∀{Z7:St} {H7:Hp},Inv X (e7++jW fp s5.heap) Z7 H7 s7->N Z7 H7->∃m,m<n/\∃i Z' H',Inv X e7 Z' H' s7/\tn i s7.heap/\(∀b∈fp,H' b=none)/\W i m Z' H' :=λ{Z7 H7} I7 n7=>by
   obtain⟨m',hm,w7⟩:=hN Z7 H7 n7;refine⟨m',hm,i+1,Z7,H7,I7.dX,T.keep _ _ _ y8 λb hb o e=>(I7.pin (b,o) (GaD _ (GaD _ (d9 hb e)))).1,λb hb=> ?_,w7⟩;obtain⟨o,e,d⟩:=T.obj _ _ y8 b hb;exact(I7.pin (b,o) (GaD _ (GaD _ (d9 hb e)))).2.1
  cases f with
  |next=>obtain⟨Z7,H7,I7,n7⟩:=q7;exact again I7 n7
  |cont=>obtain⟨Z7,H7,I7,n7⟩:=q7;exact again I7 n7
  |brk=>obtain⟨Z7,H7,I7,q7⟩:=q7;exact⟨Z7,H7,I7.dX,q7⟩
  |ret v=>obtain⟨x7,Z7,H7,I7,r7,q7⟩:=q7;exact⟨x7,Z7,H7,I7.dX,r7,q7⟩
end
abbrev R2:=V->V->Hp->VK->Prop
def OpR(X:Cx)(f:Value->Value->Sem Value)(r:R2):Prop:=
 ∀(e7:LAO) (s:Shared) (Z:St) (H:Hp) (x y:V) (v u:Value) (Q:VK),Inv X e7 Z H s->RelV x v->RelV y u->r x y H Q->
  wpAny (model X.prog X.w) X.A (f v u) (EP X e7 Z Q) X.xe s
def UnR(X:Cx)(f:Value->Sem Value)(r:V->Hp->VK->Prop):Prop:=
 ∀(e7:LAO) (s:Shared) (Z:St) (H:Hp) (x:V) (v:Value) (Q:VK),Inv X e7 Z H s->RelV x v->r x H Q->
  wpAny (model X.prog X.w) X.A (f v) (EP X e7 Z Q) X.xe s
def cY(X:Cx)(f:Value)(r:List V->Hp->VK->Prop):Prop:=
 ∀(e7:LAO) (s:Shared) (Z:St) (H:Hp) (xs:List V) (us:List Value) (Q:VK),Inv X e7 Z H s->Vals xs us->r xs H Q->
  wpAny (model X.prog X.w) X.A (call f us) (EP X e7 Z Q) X.xe s
def tOp(r:R2)(ta tb:TE):TE:=λZ H Q=>ta Z H λx H1=>tb Z H1 λy H2=>r x y H2 Q
def tUn(r:V->Hp->VK->Prop)(ta:TE):TE:=λZ H Q=>ta Z H λx H1=>r x H1 Q
def rI(C:Int->Int->Prop)(g:Int->Int->V):R2:=λx y H Q=>∃i j,x= .int i/\y= .int j/\C i j/\Q (g i j) H
def rI0(g:Int->Int->V):R2:=λx y H Q=>∃i j,x= .int i/\y= .int j/\Q (g i j) H
def rU(g:Int->V):V->Hp->VK->Prop:=λx H Q=>∃i,x= .int i/\Q (g i) H
section
variable{X:Cx}{a b c:Expr}{ta tb tc:TE}{pos:Pos}
theorem Ha(ha:PE X a ta)(hb:PE X b tb){e7:LAO}{s:Shared}{Z:St}{H:Hp}{R:V->V->Hp->Prop}(I:Inv X e7 Z H s)
  (h:ta Z H λx H1=>tb Z H1 λy H2=>R x y H2){Q:VSP}{f:Value->Value->Sem Value}
  (hf:∀v u s2 x y H2,Inv X e7 Z H2 s2->RelV x v->RelV y u->R x y H2->wpAny (model X.prog X.w) X.A (f v u) Q X.xe s2):
  wpAny (model X.prog X.w) X.A (eval a X.env) (λv s₁=>wpAny (model X.prog X.w) X.A (eval b X.env) (λu s₂=>wpAny (model X.prog X.w) X.A (f v u) Q X.xe s₂) X.xe s₁) X.xe s:=by
 refine thn (ha e7 s Z H _ I h) λv s1 ⟨x,H1,I1,r1,q1⟩=> ?_;refine thn (hb e7 s1 Z H1 _ I1 q1) λu s2 ⟨y,H2,I2,r2,q2⟩=> ?_;exact hf v u s2 x y H2 I2 r1 r2 q2
theorem KZ{op:Operator}{r:R2}(ho:OpR X (binaryOp op) r)(ha:PE X a ta)(hb:PE X b tb):PE X (.BinOp a op b pos) (tOp r ta tb):=by
 intro e7 s Z H Q I h;exact wpAny_BinOp (Ha ha hb I h λv u s2 x y H2 I2 rx ry q=>ho e7 s2 Z H2 x y v u Q I2 rx ry q)
theorem L0{op:UnaryOp}{r:V->Hp->VK->Prop}(ho:UnR X (unaryOp op) r)(ha:PE X a ta):PE X (.UnaryOp op a pos) (tUn r ta):=by
 intro e7 s Z H Q I h;exact UnaryOp_ (thn (ha e7 s Z H _ I h) λv s1 ⟨x,H1,I1,r1,q1⟩=>ho e7 s1 Z H1 x v Q I1 r1 q1)
variable{g:Int->Int->Int}
theorem opI{f:Value->Value->Sem Value}{C:Int->Int->Prop}
  (rule:∀(i j:Int) (t u:Tok) (s:Shared) (Q:VSP) (E:VSP),C i j->Q (.int (g i j) s.toks) {s with toks:=s.toks+1}->wpAny (model X.prog X.w) X.A (f (.int i t) (.int j u)) Q E s):
  OpR X f (rI C λi j=> .int (g i j)):=by
 intro e7 s Z H x y v u Q I rx ry h;obtain⟨i,j,rfl,rfl,hc,q⟩:=h;obtain⟨t,rfl⟩:=rx;obtain⟨t',rfl⟩:=ry;exact rule i j t t' s _ _ hc ⟨.int (g i j),H,I.tok _,⟨_,rfl⟩,q⟩
theorem L1{f:Value->Value->Sem Value}
  (rule:∀(i j:Int) (t u:Tok) (s:Shared) (Q:VSP) (E:VSP),Q (.int (g i j) s.toks) {s with toks:=s.toks+1}->wpAny (model X.prog X.w) X.A (f (.int i t) (.int j u)) Q E s):
  OpR X f (rI0 λi j=> .int (g i j)):=by
 intro e7 s Z H x y v u Q I rx ry h;obtain⟨i,j,rfl,rfl,q⟩:=h;obtain⟨t,rfl⟩:=rx;obtain⟨t',rfl⟩:=ry;exact rule i j t t' s _ _ ⟨.int (g i j),H,I.tok _,⟨_,rfl⟩,q⟩
theorem CV{f:Value->Value->Sem Value}{g:Int->Int->Bool}
  (rule:∀(i j:Int) (t u:Tok) (s:Shared) (Q:VSP) (E:VSP),Q (.bool (g i j)) s->wpAny (model X.prog X.w) X.A (f (.int i t) (.int j u)) Q E s):
  OpR X f (rI0 λi j=> .bl (g i j)):=by
 intro e7 s Z H x y v u Q I rx ry h;obtain⟨i,j,rfl,rfl,q⟩:=h;obtain⟨t,rfl⟩:=rx;obtain⟨t',rfl⟩:=ry;exact rule i j t t' s _ _ ⟨.bl (g i j),H,I,rfl,q⟩
def CW(i j:Int):Prop:=(-(2^64)<i/\i<2^64)\/(-(2^64)<j/\j<2^64)
theorem CW.ok{i j:Int}(h:CW i j):IntMulOk i j:=by
 rcases h with⟨h1,h2⟩| ⟨h1,h2⟩
 .exact .of_left (intBits_le_64 h1 h2)
 .exact .of_right (intBits_le_64 h1 h2)
theorem Hb:OpR X (binaryOp .Add) (rI0 λi j=> .int (i+j)):=L1 λ_ _ _ _ _ _ _ q=>add_int q
theorem Hc:OpR X (binaryOp .Sub) (rI0 λi j=> .int (i -j)):=L1 λ_ _ _ _ _ _ _ q=>sub_int q
theorem He:OpR X (binaryOp .Mult) (rI CW λi j=> .int (i*j)):=opI λ_ _ _ _ _ _ _ hc q=>mul_int q hc.ok
theorem Hg:OpR X (binaryOp .Mod) (rI (λ_ j=>0<j) λi j=> .int (i%j)):=opI λi j _ _ _ _ _ hc q=>by
 have h1:(0:Int)<j:=hc;exact mod_int' (by lia) (by rw[Int.fmod_eq_emod_of_nonneg i (by lia)];exact q)
theorem unI{f:Value->Sem Value}{g:Int->Int}
  (rule:∀(i:Int) (t:Tok) (s:Shared) (Q:VSP) (E:VSP),Q (.int (g i) s.toks) {s with toks:=s.toks+1}->wpAny (model X.prog X.w) X.A (f (.int i t)) Q E s):
  UnR X f (rU λi=> .int (g i)):=by
 intro e7 s Z H x v Q I rx h;obtain⟨i,rfl,q⟩:=h;obtain⟨t,rfl⟩:=rx;exact rule i t s _ _ ⟨.int (g i),H,I.tok _,⟨_,rfl⟩,q⟩
theorem Hh:UnR X (unaryOp .USub) (rU λi=> .int (-i)):=unI λ_ _ _ _ _ q=>neg_int q
end
section
variable{X:Cx}{a b c:Expr}{ta tb tc:TE}{pos:Pos}
theorem wq{e7:LAO}{Z:St}{H:Hp}{s:Shared}{Q:VK}{k k' :Bool}(I:Inv X e7 Z H s)(q:Q (.bl k) H)(e:k=k'):EP X e7 Z Q (.bool k') s:=by
 subst e;exact⟨.bl k,H,I,rfl,q⟩
theorem L3:OpR X (compareOp .Lt) (rI0 λi j=> .bl (decide (i<j))):=CV λ_ _ _ _ _ _ _ q=>lt_int q
theorem L4:OpR X (compareOp .LtE) (rI0 λi j=> .bl (decide (i<=j))):=CV λ_ _ _ _ _ _ _ q=>le_int q
theorem L5:OpR X (compareOp .Gt) (rI0 λi j=> .bl (decide (j<i))):=CV λ_ _ _ _ _ _ _ q=>gt_int q
theorem L6:OpR X (compareOp .GtE) (rI0 λi j=> .bl (decide (j<=i))):=CV λ_ _ _ _ _ _ _ q=>ge_int q
theorem Hj:OpR X (compareOp .Is) (λx y H Q=>y= .non/\Q (.bl (decide (x= .non))) H):=by
 intro e7 s Z H x y v u Q I rx ry h;obtain⟨rfl,q⟩:=h;cases ry;refine is_none_gen (wq I q ?_);cases x<;>first
  |(cases rx;rfl)
  |(obtain⟨t,rfl⟩:=rx;rfl)
theorem CY:OpR X (compareOp .IsNot) (λx y H Q=>y= .non/\Q (.bl (!decide (x= .non))) H):=by
 intro e7 s Z H x y v u Q I rx ry h;obtain⟨rfl,q⟩:=h;cases ry;refine isnot_none_gen (wq I q ?_);cases x<;>first
  |(cases rx;rfl)
  |(obtain⟨t,rfl⟩:=rx;rfl)
theorem OpR.or{f:Value->Value->Sem Value}{r r' :R2}(h:OpR X f r)(h' :OpR X f r'):OpR X f (λx y H Q=>r x y H Q\/r' x y H Q):=by
 intro e7 s Z H x y v u Q I rx ry q;rcases q with q|q
 .exact h e7 s Z H x y v u Q I rx ry q
 .exact h' e7 s Z H x y v u Q I rx ry q
theorem CZ{op:CmpOp}{r:R2}(ho:OpR X (compareOp op) r)(ha:PE X a ta)(hb:PE X b tb)(hm:behindInMarks op b=false):PE X (.Compare a [op] [b] pos) (tOp r ta tb):=by
 intro e7 s Z H Q I h;exact wpAny_Compare1 (Ha ha hb I h λv u s2 x y H2 I2 rx ry q=>ho e7 s2 Z H2 x y v u Q I2 rx ry q) hm
def FR(t:TE):TT:=λZ H Q=>t Z H λx H' =>∃k,x= .bl k/\Q k H'
theorem D0{op:CmpOp}{r:R2}(ho:OpR X (compareOp op) r)(ha:PE X a ta)(hb:PE X b tb)(hm:behindInMarks op b=false):PT X (.Compare a [op] [b] pos) (FR (tOp r ta tb)):=by
 intro e7 s Z H Q I h;refine wpAny_isTrue_Compare1 (thn (ha e7 s Z H _ I h) λv s1 ⟨x,H1,I1,r1,q1⟩=>thn (hb e7 s1 Z H1 _ I1 q1) λu s2 ⟨y,H2,I2,r2,q2⟩=>
  thn (ho e7 s2 Z H2 x y v u _ I2 r1 r2 q2) λc s3 ⟨z,H3,I3,r3,k,e,q3⟩=> ?_) hm
 subst e;cases r3;exact GaR ⟨H3,I3,q3⟩
def wt(r r' :R2)(ta tb tc:TE):TE:=λZ H Q=>ta Z H λx H1=>tb Z H1 λy H2=>r x y H2 λz H3=>∃k,z= .bl k/\
 (if k=true then tc Z H3 λw' H4=>r' y w' H4 Q else Q (.bl false) H3)
theorem wu{op xB :CmpOp}{r r' :R2}(ho:OpR X (compareOp op) r)(xD :OpR X (compareOp xB) r')(ha:PE X a ta)(hb:PE X b tb)(hc:PE X c tc)
  (hm:lastMarks [op,xB] [b,c]=false:=by with_unfolding_all rfl):PE X (.Compare a [op,xB] [b,c] pos) (wt r r' ta tb tc):=by
 intro e7 s Z H Q I h;refine Compare_chain (thn (ha e7 s Z H _ I h) λv s1 ⟨x,H1,I1,r1,q1⟩=>chain_link (thn (hb e7 s1 Z H1 _ I1 q1) λu s2 ⟨y,H2,I2,r2,q2⟩=>
  thn (ho e7 s2 Z H2 x y v u _ I2 r1 r2 q2) λd s3 ⟨z,H3,I3,r3,k,e,q3⟩=> ?_)) hm
 subst e;cases r3;refine GaR ?_;cases k with
 |false=>exact ite_ff ⟨.bl false,H3,I3,rfl,q3⟩
 |true=>exact ite_tt (chain_last (thn (hc e7 s3 Z H3 _ I3 q3) λw' s4 ⟨z',H4,I4,r4,q4⟩=>xD e7 s4 Z H4 y z' u w' Q I4 r2 r4 q4))
theorem wx{op xB :CmpOp}{r r' :R2}(ho:OpR X (compareOp op) r)(xD :OpR X (compareOp xB) r')(ha:PE X a ta)(hb:PE X b tb)(hc:PE X c tc)
  (hm:lastMarks [op,xB] [b,c]=false:=by with_unfolding_all rfl):PT X (.Compare a [op,xB] [b,c] pos) (FR (wt r r' ta tb tc)):=by
 intro e7 s Z H Q I h;refine isTrue_chain (thn (ha e7 s Z H _ I h) λv s1 ⟨x,H1,I1,r1,q1⟩=>test_link (thn (hb e7 s1 Z H1 _ I1 q1) λu s2 ⟨y,H2,I2,r2,q2⟩=>
  thn (ho e7 s2 Z H2 x y v u _ I2 r1 r2 q2) λd s3 ⟨z,H3,I3,r3,k,e,q3⟩=> ?_)) hm
 subst e;cases r3;refine GaR ?_;cases k with
 |false=>
  obtain⟨k',e',q'⟩:=q3;cases e';exact ite_ff ⟨H3,I3,q'⟩
 |true=>
  refine ite_tt (test_last (thn (hc e7 s3 Z H3 _ I3 q3) λw' s4 ⟨z',H4,I4,r4,q4⟩=>thn (xD e7 s4 Z H4 y z' u w' _ I4 r2 r4 q4) λd' s5 ⟨z2,H5,I5,r5,k2,e2,q5⟩=> ?_));subst e2;cases r5;exact GaR ⟨H5,I5,q5⟩
theorem lM:(sizeLine:Nat)<2^63:=by rw[GbQ];decide
theorem qE:OpR X (binaryOp .Add) (λx y H Q=>∃i j,x= .str i/\y= .str j/\i.length+j.length<=sizeLine/\Q (.str (i++j)) H):=by
 intro e7 s Z H x y v u Q I rx ry h;obtain⟨i,j,rfl,rfl,hz,q⟩:=h;obtain⟨t,rfl⟩:=rx;obtain⟨t',rfl⟩:=ry;exact add_str (λt' tk=> ⟨.str (i++j),H,I.tok _,⟨_,rfl⟩,q⟩) hz
variable{us:List Value}{x:V}
theorem vals1(r:Vals [x] us):∃u,us=[u]/\RelV x u:=by
 cases r with
 |cons r1 r2=>cases r2;exact⟨_,rfl,r1⟩
theorem vals2{y:V}(r:Vals [x,y] us):∃u w',us=[u,w']/\RelV x u/\RelV y w' :=by
 cases r with
 |cons r1 r2=>
  cases r2 with
  |cons r3 r4=>cases r4;exact⟨_,_,rfl,r1,r3⟩
theorem uI(hc:X.calm=true):cY X (.builtin "max") (λxs H Q=>∃i j,xs=[.int i,.int j]/\Q (.int (if j>i then j else i)) H):=by
 intro e7 s Z H xs us Q I r h;obtain⟨i,j,rfl,q⟩:=h;obtain⟨u,w',rfl,⟨t,rfl⟩,⟨t',rfl⟩⟩:=vals2 r;refine max_two_ints (I.ok.hd hc) λh' tk k=> ⟨_,H,I.kept k, ?_,q⟩;by_cases hj:j>i
 .rw[Gak hj,Gak hj];exact⟨_,rfl⟩
 .rw[Gam hj,Gam hj];exact⟨_,rfl⟩
theorem uJ(hc:X.calm=true):cY X (.builtin "min") (λxs H Q=>∃i j,xs=[.int i,.int j]/\Q (.int (if j<i then j else i)) H):=by
 intro e7 s Z H xs us Q I r h;obtain⟨i,j,rfl,q⟩:=h;obtain⟨u,w',rfl,⟨t,rfl⟩,⟨t',rfl⟩⟩:=vals2 r;refine min_two_ints (I.ok.hd hc) λh' tk k=> ⟨_,H,I.kept k, ?_,q⟩;by_cases hj:j<i
 .rw[Gak hj,Gak hj];exact⟨_,rfl⟩
 .rw[Gam hj,Gam hj];exact⟨_,rfl⟩
theorem uK:cY X (.type "int") (λxs H Q=>(∃i,xs=[.int i]/\Q (.int i) H)\/∃k,xs=[.bl k]/\Q (.int (if k then 1 else 0)) H):=by
 intro e7 s Z H xs us Q I r h;rcases h with⟨i,rfl,q⟩| ⟨k,rfl,q⟩
 .obtain⟨u,rfl,t,rfl⟩:=vals1 r;exact call_int_int ⟨.int i,H,I,⟨_,rfl⟩,q⟩
 .obtain⟨u,rfl,r1⟩:=vals1 r;cases r1;exact call_int_bool ⟨.int (if k then 1 else 0),H,I.tok _,⟨_,rfl⟩,q⟩
theorem nU:cY X (.type "str") (λxs H Q=>∃i,xs=[.int i]/\i.natAbs.log2<1920/\Q (.str (toString i)) H):=by
 intro e7 s Z H xs us Q I r h;obtain⟨i,rfl,hz,q⟩:=h;obtain⟨u,rfl,t,rfl⟩:=vals1 r;exact PySem.P.str_of_int hz ⟨.str _,H,I.tok _,⟨_,rfl⟩,q⟩
def L7(K:PySem.W.Frag)(x:V)(H:Hp)(n:Nat):Prop:=
 match x with
 | .str y=>y.length<=sizeLine/\n=y.length
 | .ref p=>(∃xs,SqL K H p xs/\n=xs.length)\/∃xs,SqT K H p xs/\n=xs.length
 |_=>False
theorem wz:cY X (.builtin "len") (λxs H Q=>∃x n,xs=[x]/\L7 X.K x H n/\Q (.int n) H):=by
 intro e7 s Z H xs us Q I r h;obtain⟨x,n,rfl,e,q⟩:=h;obtain⟨u,rfl,rx⟩:=vals1 r;have hl:=lM;have hs:sizeLine=16777216:=GbQ;cases x with
 |str y=>
  obtain⟨t,rfl⟩:=rx;obtain⟨hy,e'⟩:y.length<=sizeLine/\n=y.length:=e;subst e';exact len_str (by lia) ⟨.int _,H,I.tok _,⟨_,rfl⟩,q⟩
 |ref p=>
  cases rx;have e' :(∃xs,SqL X.K H p xs/\n=xs.length)\/∃xs,SqT X.K H p xs/\n=xs.length:=e;rcases e' with⟨xs,hx,e'⟩| ⟨xs,hx,e'⟩
  .subst e';obtain⟨eg,r',pl,hz⟩:=I.list hx;have eO:=r'.length;exact Calls.call_len_list pl.isList (by simp only[Gag];lia) ⟨.int xs.length,H,I.tok _,⟨_,by simp only[Gag];rw[eO]⟩,q⟩
  .subst e';obtain⟨eg,r',pl,hz⟩:=I.tuple hx;have eO:=r'.length;exact len_tuple pl (by simp only[Gag];lia) ⟨.int xs.length,H,I.tok _,⟨_,by simp only[Gag];rw[eO]⟩,q⟩
 |_=>exact(show False from e).elim
end
structure uM(h:Heap)(x dx C:Addr)(mA:Str->Option Value):Prop where
 obj:h.get? x=some (PySem.W.instObj C dx)
 ns:h.Ns1 dx mA
 ne:dx≠x
variable{mA:Str->Option Value}{dx:Addr}{h:Heap}
theorem uN(n:h.Ns1 dx mA):∃od,h.get? dx=some od/\∀name,PySem.W.lookIn name od=some (mA name):=by
 obtain⟨o,es,ep,ho,hd,hk,_,hm⟩:=n;refine⟨o,ho,λname=> ?_⟩;have e:=hm name;unfold nsFind findBy at e;rw[<-Array.find?_toList] at e;unfold PySem.W.lookIn;rw[hd];dsimp only;split
 .rename_i y q;rw[q] at e;exact congrArg some e
 .rename_i q;rw[q] at e;have a:es.toList.any (·.refKey)=false:=by
   rw[List.any_eq_false];intro y hy;obtain⟨z,t,Q1⟩:=hk y (Array.mem_toList_iff.mp hy);simp[DictEntry.refKey,Q1]
  have a' :¬es.toList.any (·.refKey)=true:=by rw[a];exact Gai
  rw[Gam a'];exact congrArg some e
variable{C:Addr}
theorem uM.look{x:Addr}(I:uM h x dx C mA):∃od,PySem.W.InstAt h x (PySem.W.instObj C dx) C (some od)/\∀name,PySem.W.lookIn name od=some (mA name):=
 let⟨od,ho,hl⟩:=uN I.ns
 ⟨od,⟨I.obj,rfl,rfl,ho⟩,hl⟩
section
variable{prog:Program}{w:World}{A:Around}{E:VSP}{s:Shared}{K:PySem.W.Frag}{x dx C f:Addr}{mA:Str->Option Value}{name:Str}{v:Value}
theorem get_map{expr:Bool}{Q:VSP}(X:K.In s.heap)(I:uM s.heap x dx C mA)(hg:PySem.W.plainGet K C name=true)(hh:PySem.W.hasDictIn K C=true)
  (ha:PySem.W.findIn K (.ref C) name=some none)(hv:mA name=some v)(zP :PySem.W.handedIn v=true)(h:Q v {s with toks:=s.toks+1}):
  wpAny (model prog w) A (getAttr (.ref x) name expr) Q E s:=by
 obtain⟨od,J,hl⟩:=I.look;exact PySem.W.get_value X J (PySem.W.plainGet_of hg).1 (PySem.W.findObj_own hh ha rfl (by rw[hl,hv])) zP h
theorem D3{ns:List Str}{Q:Unit->Shared->Prop}(X:K.In s.heap)(I:uM s.heap x dx C mA)
  (hs:PySem.W.findIn K (.ref C) "__setattr__"=some (some (.builtin "object.__setattr__")))(hp:PySem.W.plainOver K C=true)(ht:PySem.W.takerIn K C name=some none)(hh:PySem.W.hasDictIn K C=true)
  (hw:PySem.Within mA ns)(xF:ns.length<=sizeLine)
  (h:∀h',uM h' x dx C (λy=>if y=name then some v else mA y)->Heap.SameBut dx s.heap h' ->Q () {s with heap:=h',toks:=s.toks+2}):
  wpAny (model prog w) A (setAttr (.ref x) name v) Q E s:=by
 obtain⟨od,J,hl⟩:=I.look;refine PySem.W.set_plain X J hs (PySem.W.osa_open (s:={s with toks:=s.toks+1}) (r:=none) X J hp ht λb=> ?_);obtain⟨cd,hc,xb⟩:=PySem.W.any_some hh;have hx:s.heap.get? x=some ⟨.ref C,some dx,.plain,#[]⟩:=I.obj;refine Gae (Gao (Gae (Gae (wpAny_loadPart hx (Gae (PySem.W.Looks.here (s:={s with toks:=s.toks+1}) (PySem.W.looks_clsIn X hc) ?_))))));rw[xb];refine Gao (a:=some dx) (Gae (Gao (Gae ?_)));refine wpAny_nsSet1 (s:={s with toks:=s.toks+1}) I.ns λh' yU hW=> ?_;obtain⟨oD,RS,RT,Rg,Rw,Rx⟩:=yU.count (PySem.Within.cons name v hw);refine Gae (wpAny_lookBehind Rg (by rw[Rw];exact pastItsLine_dict (GaE Rx (by rw[GaK];lia))) ?_);exact Gao (h _ ⟨(hW.2 _ (GaG I.ne)).trans I.obj,yU,I.ne⟩ hW)
theorem wA{R:Result->Shared->Prop}{vs:List Value}{kw:List (Str×Value)}(X:K.In s.heap)(hm:PySem.W.makesIn K C=true)
  (hi:PySem.W.findIn K (.ref C) "__init__"=some (some (.ref f)))(hf:PySem.W.typeIn K (.ref f)=some (.type "function"))
  (h:codeAny (model prog w) (A.under (.builtin "type.__call__" ⟨.ref C::vs,kw⟩)) (.call (.ref f) ⟨.ref (s.heap.objs.size+1)::vs,kw⟩) (PySem.W.InitBack (s.heap.objs.size+1) R)
   {s with heap:=(s.heap.push PySem.W.emptyDict).push (PySem.W.instObj C s.heap.objs.size)}):
  codeAny (model prog w) A (.call (.ref C) ⟨vs,kw⟩) R s:=by
 obtain⟨hh,g,d,t,os⟩:=s;exact PySem.W.make_core (PySem.W.makes_of X hm) (PySem.W.looks_findIn X hi) (λself=>PySem.W.bind_fn X self hf) (.inl rfl) h
end
noncomputable def fE(f:Str)(v:V):List (Str×V)->List (Str×V)
 |[]=>[(f,v)]
 |(g,x)::r=>if g=f then(g,v)::r else(g,x)::fE f v r
theorem kr(f g:Str)(v:V):∀fs:List (Str×V),(fE f v fs).lookup g=if g=f then some v else fs.lookup g
 |[]=>by
  show List.lookup g [(f,v)]=_;by_cases h:g=f
  .have hb:(g==f)=true:=Gay.mpr h;simp only[List.lookup,hb,Gak h]
  .have hb:(g==f)=false:=GaQ.mpr h;simp only[List.lookup,hb,Gam h]
 |(k,x)::r=>by
  have ih:=kr f g v r;rw[show fE f v ((k,x)::r)=(if k=f then(k,v)::r else(k,x)::fE f v r) from rfl];by_cases hk:k=f
  .rw[Gak hk];by_cases h:g=k
   .have hb:(g==k)=true:=Gay.mpr h;simp only[List.lookup,hb,Gak (h.trans hk)]
   .have hb:(g==k)=false:=GaQ.mpr h;simp only[List.lookup,hb,Gam (λe:g=f=>h (e.trans hk.symm))]
  .rw[Gam hk];by_cases h:g=k
   .have hb:(g==k)=true:=Gay.mpr h;simp only[List.lookup,hb,Gam (λe:g=f=>hk (h.symm.trans e))]
   .have hb:(g==k)=false:=GaQ.mpr h;simp only[List.lookup,hb];exact ih
theorem jX(f:Str)(v:V):∀fs:List (Str×V),f∈(fE f v fs).map (·.1)/\∀g,g∈fs.map (·.1)->g∈(fE f v fs).map (·.1)
 |[]=> ⟨by simp[fE],λg h=>by simp at h⟩
 |(k,x)::r=>by
  obtain⟨i1,i2⟩:=jX f v r;rw[show fE f v ((k,x)::r)=(if k=f then(k,v)::r else(k,x)::fE f v r) from rfl];by_cases hk:k=f
  .rw[Gak hk];subst hk;exact⟨by simp,λg h=>by simpa using h⟩
  .rw[Gam hk];refine⟨?_,λg h=> ?_⟩
   .rw[Gbn];exact Gat _ i1
   .rw[Gbn] at h⊢;rcases Gan.mp h with e|e
    .exact Gan.mpr (.inl e)
    .exact Gat _ (i2 g e)
theorem ku(f:Str)(v:V):∀fs:List (Str×V),(fE f v fs).length<=fs.length+1
 |[]=>by simp[fE]
 |(k,x)::r=>by
  have ih:=ku f v r;rw[show fE f v ((k,x)::r)=(if k=f then(k,v)::r else(k,x)::fE f v r) from rfl];by_cases hk:k=f
  .rw[Gak hk,GaK,GaK];lia
  .rw[Gam hk,GaK,GaK];lia
variable{v:V}
theorem qy.some_of{o:Option Value}(r:qy (some v) o):∃u,o=some u/\RelV v u:=by
 cases o with
 |none=>exact(show False from r).elim
 |some u=>exact⟨u,rfl,r⟩
theorem uO{u:Value}(r:RelV v u):PySem.W.handedIn u=true:=by
 cases v with
 |non=>cases(show u=Value.none from r);rfl
 |bl b=>cases(show u=Value.bool b from r);rfl
 |int i=>obtain⟨t,e⟩:=(show∃t,u=Value.int i t from r);cases e;rfl
 |str x=>obtain⟨t,e⟩:=(show∃t,u=Value.str x t from r);cases e;rfl
 |ref a=>cases(show u=Value.ref a from r);rfl
 |ty n=>cases(show u=Value.type n from r);rfl
section
variable{P:Program}{w:World}{H H' :Hp}{h h' :Heap}{a C dx:Addr}{fs Q9 :List (Str×V)}
theorem nV(hok:HOk P w H h)(e:H a=some (.ins C dx fs)):∃mA,uM h a dx C mA/\(∀f,qy (fs.lookup f) (mA f))/\PySem.Within mA (fs.map (·.1))/\fs.length<=1000/\H dx=some (.own a):=by
 obtain⟨d,z,ne,ob,mA,n,r,q⟩:=(show bu P w H h a (.ins C dx fs) from hok a _ e)
 exact⟨mA,⟨ob,n,ne⟩,r,q,z,d⟩
end
structure Cls(K:PySem.W.Frag)(C:Addr):Prop where
 pg:PySem.W.plainGet K C Str.empty=true
 hd:PySem.W.hasDictIn K C=true
 po:PySem.W.plainOver K C=true
 sa:PySem.W.findIn K (.ref C) "__setattr__"=some (some (.builtin "object.__setattr__"))
theorem Cls.get{K:PySem.W.Frag}(c:Cls K C)(f:Str):PySem.W.plainGet K C f=true:=c.pg
def bL(K:PySem.W.Frag)(C:Addr)(f:Str):Prop:=PySem.W.findIn K (.ref C) f=some none
theorem bL.L8{K:PySem.W.Frag}{f:Str}(n:bL K C f):PySem.W.takerIn K C f=some none:=by
 unfold PySem.W.takerIn;rw[show PySem.W.findIn K (.ref C) f=some none from n]
 rfl
section
variable{X:Cx}{e7:LAO}{Z:St}{H:Hp}{s:Shared}{a C dx:Addr}{fs:List (Str×V)}{f:Str}{v:V}{A:Around}{E:VSP}
theorem qF{b:Bool}{Q:VSP}(I:Inv X e7 Z H s)(e:H a=some (.ins C dx fs))(c:Cls X.K C)(n:bL X.K C f)(l:fs.lookup f=some v)
  (h:∀u s',Inv X e7 Z H s' ->RelV v u->Q u s'):wpAny (model X.prog X.w) A (getAttr (.ref a) f b) Q E s:=by
 obtain⟨mA,O,r,_,_,_⟩:=nV I.hok e;obtain⟨u,hu,ru⟩:=qy.some_of (v:=v) (o:=mA f) (by rw[<-l];exact r f);exact get_map I.kIn O (c.get f) c.hd n hu (uO ru) (h u _ (I.tok _) ru)
theorem qG{y:V}{u:Value}{Q:Unit->Shared->Prop}(I:Inv X e7 Z H s)(e:H a=some (.ins C dx fs))(c:Cls X.K C)(n:bL X.K C f)(hl:fs.length<1000)(ry:RelV y u)
  (h:∀s',Inv X e7 Z (upd H a (.ins C dx (fE f y fs))) s' ->Q () s'):wpAny (model X.prog X.w) A (setAttr (.ref a) f u) Q E s:=by
 obtain⟨mA,O,r,wi,_,ho⟩:=nV I.hok e;have hz:(fs.map (·.1)).length<=sizeLine:=by rw[Gax,GbQ];lia
 refine D3 I.kIn O c.sa c.po n.L8 c.hd wi hz λh' O' sb=>h _ ?_;have hd:∃o,h'.get? dx=some o:=let⟨o,_,_,e',_⟩:=O'.ns;⟨o,e'⟩
 refine I.write (x:=a) (e:=dx) (by rw[e];exact True.intro) (.inr ho) (λb q hb z=>(sb.2 b hb).trans z) hd ?_;refine⟨by rw[ak O.ne];exact ho, ?_,O.ne,O'.obj,_,O'.ns,λg=> ?_,λg hg=> ?_⟩
 .have:=ku f y fs;lia
 .show qy ((fE f y fs).lookup g) (if g=f then some u else mA g);rw[kr];by_cases q:g=f
  .rw[Gak q,Gak q];exact ry
  .rw[Gam q,Gam q];exact r g
 .by_cases q:g=f
  .rw[q];exact(jX f y fs).1
  .refine(jX f y fs).2 g (wi g λz=>hg ?_);show(if g=f then some u else mA g)=none;rw[Gam q];exact z
theorem Inv.made(I:Inv X e7 Z H s):Inv X e7 Z (upd (upd H s.heap.objs.size (.own (s.heap.objs.size+1))) (s.heap.objs.size+1) (.ins C s.heap.objs.size []))
  {s with heap:=(s.heap.push PySem.W.emptyDict).push (PySem.W.instObj C s.heap.objs.size)}:=by
 have e1:(s.heap.push PySem.W.emptyDict).get? s.heap.objs.size=some PySem.W.emptyDict:=Gar s.heap rfl;have e2:((s.heap.push PySem.W.emptyDict).push (PySem.W.instObj C s.heap.objs.size)).get? (s.heap.objs.size+1)=some (PySem.W.instObj C s.heap.objs.size):=by
  have:=Gar (s.heap.push PySem.W.emptyDict) (o:=PySem.W.instObj C s.heap.objs.size) rfl
  rwa[Gbb] at this
 have e3:(s.heap.push PySem.W.emptyDict).Ns s.heap.objs.size (λ_=>none):=⟨PySem.W.emptyDict,#[],_,e1,rfl,(λe he=>absurd he (by simp)),λ_=>rfl⟩
 have I1:=I.laid (a:=s.heap.objs.size) (o:= .own (s.heap.objs.size+1)) (h' :=s.heap.push PySem.W.emptyDict) (t' :=s.toks) (λb u q=>Gaf _ q) (Gap _) ⟨_,e1⟩;refine I1.laid (a:=s.heap.objs.size+1) (o:= .ins C s.heap.objs.size []) (t' :=s.toks) (λb u q=>Gaf _ q) (GcE (Gbb _ _)) ?_;have ne:s.heap.objs.size≠s.heap.objs.size+1:=Gaq (Gbs _);refine⟨by rw[ak ne,aE],Nat.zero_le _,ne,e2,λ_=>none,(Heap.Ns1.of_empty e3).at λo q=>Gaf _ q,λ_=>True.intro,λy hy=>absurd rfl hy⟩
theorem se{prog:Program}{w:World}{env:Env}{e:Expr}{f:Str}{pos:Pos}{s:Shared}{Q:VSP}(hb:attributeBase e f env (eval e env)=eval e env)
  (h:wpAny (model prog w) A (eval e env) (λo s₁=>wpAny (model prog w) A (getAttr o f true) Q E s₁) E s):wpAny (model prog w) A (eval (.Attribute e f pos) env) Q E s:=
 Attribute_any_ h (by rw[arm_eval_Attribute,hb])
end
def O6(K:PySem.W.Frag)(ta:TE)(f:Str):TE:=λZ H Q=>ta Z H λx H1=>∃a C dx fs v,x= .ref a/\H1 a=some (.ins C dx fs)/\Cls K C/\bL K C f/\fs.lookup f=some v/\Q v H1
def O7(K:PySem.W.Frag)(ta tv:TE)(f:Str):TS:=λD Z H=>tv Z H λy H1=>ta Z H1 λx H2=>∃a C dx fs,x= .ref a/\H2 a=some (.ins C dx fs)/\Cls K C/\bL K C f/\fs.length<1000/\
 D.nx Z (upd H2 a (.ins C dx (fE f y fs)))
section
variable{X:Cx}{o e value:Expr}{f:Str}{pos pos' QO:Pos}{ta tv:TE}
theorem qH(he:PE X e ta)(hb:attributeBase e f X.env (eval e X.env)=eval e X.env):PE X (.Attribute e f pos) (O6 X.K ta f):=by
 intro e7 s Z H Q I h;refine se hb (thn (he e7 s Z H _ I h) λu s1 ⟨x,H1,I1,rx,a,C,dx,fs,v,ex,ea,c,n,l,q⟩=> ?_);subst ex;obtain rfl:u=Value.ref a:=rx;exact qF I1 ea c n l λu' s2 I2 ru=> ⟨v,H1,I2,ru,q⟩
theorem qI(ha:PE X o ta)(hv:PE X value tv)(hs:swapsWith value (some (.Attribute o f pos')) pos.line X.env=pure false):PS X (.Assign [.Attribute o f pos'] value pos) (O7 X.K ta tv f):=by
 intro e7 s Z H D I h;refine plainObj_wpAny_Assign_Attribute (thn (hv e7 s Z H _ I h) λu s1 ⟨y,H1,I1,ry,q⟩=>thn (ha e7 s1 Z H1 _ I1 q) λov s2 ⟨x,H2,I2,rx,a,C,dx,fs,ex,ea,c,n,l,q2⟩=> ?_) hs;subst ex;obtain rfl:ov=Value.ref a:=rx;exact qG I2 ea c n l ry λs3 I3=> ⟨Z,_,I3,q2⟩
end
section
variable{X:Cx}{e7:LAO}{Z:St}{H:Hp}{s:Shared}{A:Around}{E:VSP}{Q:VSP}{c:Value}{b:Bool}
inductive kU(K:PySem.W.Frag)(H:Hp):V->Value->Prop where
 |non:kU K H .non (.type "NoneType")
 |bl (x:Bool):kU K H (.bl x) (.type "bool")
 |int (i:Int):kU K H (.int i) (.type "int")
 |str (x:Str):kU K H (.str x) (.type "str")
 |lst {a:Addr} {xs:List V} (e:H a=some (.lst xs)):kU K H (.ref a) (.type "list")
 |frz {a:Addr} {o:Obj} {xs:List V} (e:H a=some (.frz o (.lst xs))):kU K H (.ref a) (.type "list")
 |tup {a:Addr} {xs:List V} (e:H a=some (.tup xs)):kU K H (.ref a) (.type "tuple")
 |ins {a C dx:Addr} {fs:List (Str×V)} (e:H a=some (.ins C dx fs)) (cl:Cls K C) (ha:PySem.W.findIn K (.ref C) "__class__"=some (some (.builtin "object.__class__")))
   (hn:PySem.W.specialIn K (.builtin "object.__class__") "__get__"=some (some (.builtin "getset_descriptor.__get__"))) (Qx:PySem.W.takesIn K (.builtin "object.__class__")=some true)
   (hm:PySem.W.mroIn K C (.type "object")=some true):kU K H (.ref a) (.ref C)
theorem uP{x:V}{u t:Value}(I:Inv X e7 Z H s)(rx:RelV x u)(ty:kU X.K H x t)(e:PySem.W.kitOne X.K t c=some b)(h:∀tk,Q (.bool b) {s with toks:=tk}):
  wpAny (model X.prog X.w) A (call (.builtin "isinstance") [u,c]) Q E s:=by
 cases ty with
 |non=>cases(show u=Value.none from rx);exact Gbl PySem.W.kitx_none I.kIn True.intro e (λz=>nomatch z) h
 |bl y=>cases(show u=Value.bool y from rx);exact Gbl PySem.W.kitx_bool I.kIn True.intro e (λz=>nomatch z) h
 |int i=>obtain⟨t,q⟩:=(show∃t,u=Value.int i t from rx);cases q;exact Gbl PySem.W.kitx_int I.kIn True.intro e (λz=>nomatch z) h
 |str y=>obtain⟨t,q⟩:=(show∃t,u=Value.str y t from rx);cases q;exact Gbl PySem.W.kitx_str I.kIn True.intro e (λz=>nomatch z) h
 | @lst a xs ea=>
  cases(show u=Value.ref a from rx);obtain⟨_,_,n,_,h1⟩:=(show bu X.prog X.w H s.heap a (.lst xs) from I.hok a _ ea)
  exact Gbl PySem.W.kitx_list I.kIn ⟨_,h1,rfl⟩ e (λz=>nomatch z) h
 | @frz a ob xs ea=>
  cases(show u=Value.ref a from rx);obtain⟨_,_,_,n,_,h1⟩:=(show bu X.prog X.w H s.heap a (.frz ob (.lst xs)) from I.hok a _ ea)
  exact Gbl PySem.W.kitx_list I.kIn ⟨_,h1,rfl⟩ e (λz=>nomatch z) h
 | @tup a xs ea=>
  cases(show u=Value.ref a from rx);obtain⟨_,_,_,p⟩:=(show bu X.prog X.w H s.heap a (.tup xs) from I.hok a _ ea)
  obtain⟨o,h1,h2,_⟩:=p;exact Gbl PySem.W.kitx_tuple I.kIn ⟨o,h1,h2⟩ e (λz=>nomatch z) h
 | @ins a C dx fs ea cl ha hn Qx hm=>
  cases(show u=Value.ref a from rx);obtain⟨mA,O,_⟩:=nV I.hok ea;obtain⟨od,J,_⟩:=O.look;exact Gbl (PySem.W.kitx_own (cl.get _) cl.hd ha hn Qx hm) I.kIn J e (λz=>nomatch z) h
end
structure bP(k:Nat)(A:Around):Prop where
 hd:A.handled=none
 dp:A.depth+3*k+5<recursionLimit
 un:A.units+16*k+200<cLine
variable{A:Around}
theorem bP.mono{j k:Nat}(r:bP k A)(h:j<=k):bP j A:=⟨r.hd,by have:=r.dp;lia,by have:=r.un;lia⟩
theorem bP.deeper{k:Nat}{A:Around}(r:bP (k+1) A)(env:Env):bP k (A.deeper env):=
 ⟨r.hd,by have:=r.dp;show A.depth+1+3*k+5<_;lia,by have:=r.un;show A.units+3+16*k+200<_;lia⟩
variable{kw:List (Str×Value)}{us:List Value}{C:Addr}
theorem qJ:(A.under (.builtin "type.__call__" ⟨.ref C::us,kw⟩)).depth=A.depth+1:=by
 first|rfl|simp[Around.under,Code.weight,Code.isCreation,Code.isGuard,Code.isCaller,Code.frames,Code.isFrame,guardIds]
theorem qK:(A.under (.builtin "type.__call__" ⟨.ref C::us,kw⟩)).units=A.units+1:=by
 first|rfl|simp[Around.under,Code.cUnits,Code.frames,Code.isFrame]
theorem bP.make{k:Nat}(r:bP (k+1) A)(C:Addr)(us:List Value)(kw:List (Str×Value)):bP k (A.under (.builtin "type.__call__" ⟨.ref C::us,kw⟩)):=
 ⟨r.hd,by have:=r.dp;rw[qJ];lia,by have:=r.un;rw[qK];lia⟩
theorem bP.depth{k:Nat}{A:Around}(r:bP k A):A.depth<recursionLimit:=by have:=r.dp;lia
theorem bP.units{k:Nat}{A:Around}(r:bP k A):A.units+64<cLine:=by have:=r.un;lia
def wB:TA:=λ_ H Q=>Q [] H
def oZ(ta:TE)(tr:TA):TA:=λZ H Q=>ta Z H λx H1=>tr Z H1 λxs H2=>Q (x::xs) H2
section
variable{X:Cx}{e:Expr}{es:List Expr}{te:TE}{t:TA}{pos:Pos}
theorem gu:PA X [] wB:=λ_ _ _ _ H Q I h=>Calls.spliced_nil ⟨[],H,I,.nil,h⟩
theorem cN(ha:PE X e te)(hr:PA X es t)(hs:autoParam (starEach (e::es) X.env=(false,eval e X.env)::starEach es X.env) Za1._auto_1):PA X (e::es) (oZ te t):=by
 intro pos e7 s Z H Q I h;rw[hs];show wpAny _ _ (spliced ((false,eval e X.env)::backTo pos (starEach es X.env))) _ _ s;refine Calls.spliced_cons (thn (ha e7 s Z H _ I h) λu s1 ⟨x,H1,I1,r1,q1⟩=> ?_);exact thn (hr pos e7 s1 Z H1 _ I1 q1) λus s2 ⟨xs,H2,I2,r2,q2⟩=> ⟨x::xs,H2,I2,.cons r1 r2,q2⟩
def O8(t:TA):TE:=λZ H Q=>t Z H λxs H1=>xs.length<=sizeLine/\∀p,H1 p=none->Q (.ref p) (upd H1 p (.tup xs))
def O9(t:TA):TE:=λZ H Q=>t Z H λxs H1=>xs.length<=sizeLine/\∀p,H1 p=none->Q (.ref p) (upd H1 p (.lst xs))
theorem wC{x1}(h:PA X es t):PE X (.Tuple es x1 pos) (O8 t):=by
 intro e7 s Z H Q I hq;refine wpAny_Tuple_spliced (thn (h pos e7 s Z H _ I hq) λus s1 ⟨xs,H1,I1,r,z,q⟩=> ⟨by rw[<-r.length];exact z, ?_⟩);have hf:H1 s1.heap.objs.size=none:=I1.hok.fresh (Gap _);refine⟨.ref s1.heap.objs.size,upd H1 s1.heap.objs.size (.tup xs),I1.laid (t' :=s1.toks) (λb u e=>Gaf _ e) (Gap _) ?_,rfl,q _ hf⟩;exact⟨z,us,r,⟨_,Gar _ rfl,rfl,_,rfl⟩⟩
theorem qL(h:PA X es t):PE X (.List es pos) (O9 t):=by
 intro e7 s Z H Q I hq;refine wpAny_List_spliced (thn (h pos e7 s Z H _ I hq) λus s1 ⟨xs,H1,I1,r,z,q⟩=> ⟨by rw[<-r.length];exact z, ?_⟩);have hf:H1 s1.heap.objs.size=none:=I1.hok.fresh (Gap _);refine⟨.ref s1.heap.objs.size,upd H1 s1.heap.objs.size (.lst xs),I1.laid (t' :=s1.toks) (λb u e=>Gaf _ e) (Gap _) ?_,rfl,q _ hf⟩;exact⟨z,us,0,r,Gar _ rfl⟩
end
abbrev Sp:=List V->Hp->VK->XK->Prop
abbrev CXT:=List Env->Hp->Shared->XK->VSP
structure qM(P:Program)(w:World)(K:PySem.W.Frag)(mg:Str->Option Value)(base:Heap)(A:Around)(outer:List Env)(s:Shared)(H:Hp):Prop where
 frames:A.frames=some outer
 mod:Mod K mg base
 bs:∀b o,base.get? b=some o->s.heap.get? b=some o/\H b=none
 bsz:base.objs.size<=s.heap.objs.size
 jd:s.heap.FunFrames base outer
 frf:∀b∈frs outer,H b=none
 hok:HOk P w H s.heap
 bare:AllBare s.gens
def CE(outer:List Env)(P:Program)(w:World)(H:Hp)(s:Shared)(Q:VK)(u:Value)(s' :Shared):Prop:=
 ∃v H',s'.os=s.os/\AllBare s'.gens/\Un (frs outer) [] H H' s.heap s'.heap/\HOk P w H' s'.heap/\RelV v u/\Q v H'
def CR(CX:CXT)(outer:List Env)(P:Program)(w:World)(H:Hp)(s:Shared)(Q:VK)(E:XK)(r:Result)(s' :Shared):Prop:=
 match r with
 | .ok (.ret u)=>CE outer P w H s Q u s'
 | .ok _=>False
 | .error e=>CX outer H s E e s'
structure bH(P:Program)(w:World)(K:PySem.W.Frag)(mg:Str->Option Value)(base:Heap)(CX:CXT)(k:Nat)(f:Addr)(fd:FuncData)(ps:List Str)(sp:Sp):Prop where
 len:∀vs H Q E,sp vs H Q E->vs.length=ps.length
 run:∀(A:Around) (outer:List Env) (s:Shared) (H:Hp) (args:Args) (us:List Value) (vs:List V) (Q:VK) (E:XK),bP k A->qM P w K mg base A outer s H->BindsTo s fd args (ps.zip us)->Vals vs us->sp vs H Q E->
  codeAny (model P w) A (.call (.ref f) args) (CR CX outer P w H s Q E) s
variable{H:Hp}{s:Shared}{outer:List Env}{base:Heap}{mg:Str->Option Value}{w:World}{P:Program}
theorem qM.make{K:PySem.W.Frag}(e:qM P w K mg base A outer s H)(C:Addr)(us:List Value)(kw:List (Str×Value)):
  qM P w K mg base (A.under (.builtin "type.__call__" ⟨.ref C::us,kw⟩)) outer s H:=⟨by first|exact e.frames|(simpa[Around.under,Code.envs,Code.isFrame,pushEnvs] using e.frames),e.mod,e.bs,e.bsz,e.jd,e.frf,e.hok,e.bare⟩
section
variable{X:Cx}{e7:LAO}{Z:St}{H:Hp}{s s' :Shared}
theorem Inv.D4(I:Inv X e7 Z H s):qM X.prog X.w X.K X.mg X.base X.A X.stack s H:=
 ⟨I.ok.frames,I.ok.mod,I.bs,GaE I.ok.bsz I.sz,I.stack,I.je,I.hok,I.bare⟩
theorem Inv.after{Q:VK}{u:Value}(I:Inv X e7 Z H s)(h:CE X.stack X.prog X.w H s Q u s'):EP X e7 Z Q u s' :=by
 obtain⟨v,H',os,bare,un,hok,r,q⟩:=h;obtain⟨hh,g,d,t,QS⟩:=s';obtain rfl:QS =s.os:=os;exact⟨v,H',I.call (h' :=hh) (g' :=g) (d' :=d) (t' :=t) (ch:=[]) un hok bare (λb z=>absurd z (by simp)),r,q⟩
end
def L9(sp:Sp)(dvs:List V)(E:XK)(t:TA):TE:=λZ H Q=>t Z H λvs H1=>sp (vs++dvs) H1 Q E
def La(C:Addr)(sp:Sp)(dvs:List V)(E:XK)(t:TA):TE:=λZ H Q=>t Z H λvs H1=>∀x dx,H1 x=none->H1 dx=none->dx≠x->
 sp (.ref x::(vs++dvs)) (upd (upd H1 dx (.own x)) x (.ins C dx [])) (λv H2=>v= .non/\Q (.ref x) H2) E
def Binds(K:PySem.W.Frag)(fd:FuncData)(ps:List Str)(ds:List Value):Prop:=
 ∀(s:Shared) (us:List Value),K.In s.heap->(us++ds).length=ps.length->BindsTo s fd ⟨us,[]⟩ (ps.zip (us++ds))
variable{ps:List Str}
theorem Binds.all{K:PySem.W.Frag}{fd:FuncData}(h:∀us:List Value,us.length=ps.length->bindArgs fd ⟨us,[]⟩=pure (ps.zip us)):Binds K fd ps []:=λs us _ hl=>by
 rw[Gba] at hl⊢;exact .of_eq (h us hl)
def Passes(CX:CXT)(X:Cx)(E:XK):Prop:=∀(e7:LAO) (Z:St) (H:Hp) (s:Shared) (e:Value) (s' :Shared),Inv X e7 Z H s->CX X.stack H s E e s' ->X.xe e s'
section
variable{X:Cx}{CX:CXT}{k:Nat}{f C:Addr}{fd:FuncData}{ps:List Str}{sp:Sp}{dvs:List V}{ds:List Value}{E:XK}{x m:Str}{p pos apos:Pos}{e o:Expr}{es:List Expr}{ta:TE}{t:TA}
variable{vs:List V}{us:List Value}{Q:VK}{s:Shared}{H:Hp}{Z:St}{e7:LAO}
theorem Hk(F:bH X.prog X.w X.K X.mg X.base CX k f fd ps sp)(hr:bP k X.A)(hb:Binds X.K fd ps ds)(hd:Vals dvs ds)(hx:Passes CX X E)
  (I:Inv X e7 Z H s)(r:Vals vs us)(h:sp (vs++dvs) H Q E):wpAny (model X.prog X.w) X.A (call (.ref f) us) (EP X e7 Z Q) X.xe s:=by
 have r2:Vals (vs++dvs) (us++ds):=r.append hd;have hl:(us++ds).length=ps.length:=by rw[<-r2.length];exact F.len _ _ _ _ h
 refine GbZ (GbK (F.run X.A X.stack s H ⟨us,[]⟩ (us++ds) (vs++dvs) Q E hr I.D4 (hb s us I.kIn hl) r2 h) λr s' hq=> ?_);cases r with
 |error e=>exact hx e7 Z H s e s' I hq
 |ok fl=>
  cases fl with
  |ret u=>exact I.after hq
  |next=>exact False.elim hq
  |brk=>exact False.elim hq
  |cont=>exact False.elim hq
theorem sg(F:bH X.prog X.w X.K X.mg X.base CX k f fd ps sp)(hr:bP k X.A)(hg:Gl X x)(hm:X.mg x=some (.ref f))(hk:PySem.W.keepIn X.K (.ref f)=true)(hb:Binds X.K fd ps ds)(hd:Vals dvs ds)(hx:Passes CX X E)
  (ha:PA X (e::es) t)(hV:autoParam ((x==("__debug__":Str))=false) Za2._auto_1)(he:autoParam (starEach (e::es) X.env=(false,eval e X.env)::starEach es X.env) Za1._auto_1)(hR:autoParam ((backTo pos (starEach es X.env)).any (·.1)=false) Za1._auto_1):
  PE X (.Call (.Name x p) (e::es) [] pos) (L9 sp dvs E t):=by
 intro e7 s Z H Q I h;refine Gbu (dw I hg hm ?_ hV);refine Gcz (h₀:=X.base) I.ok.mod.kin hk (thn (ha pos e7 s Z H _ I h) λus s1 ⟨vs,H1,I1,r,q⟩=> ⟨I1.kIn, ?_⟩) he hR;exact Hk F hr hb hd hx I1 r q
structure Mk(K:PySem.W.Frag)(C f:Addr):Prop where
 makes:PySem.W.makesIn K C=true
 init:PySem.W.findIn K (.ref C) "__init__"=some (some (.ref f))
 fn:PySem.W.isFn K (.ref f)=true
 kp:PySem.W.keepIn K (.ref C)=true
theorem wD(M:Mk X.K C f)(F:bH X.prog X.w X.K X.mg X.base CX k f fd ps sp)(hr:bP (k+1) X.A)(hb:Binds X.K fd ps ds)(hd:Vals dvs ds)
  (hx:Passes CX X E)(I:Inv X e7 Z H s)(r:Vals vs us)
  (h:∀x dx,H x=none->H dx=none->dx≠x->sp (.ref x::(vs++dvs)) (upd (upd H dx (.own x)) x (.ins C dx [])) (λv H2=>v= .non/\Q (.ref x) H2) E):
  wpAny (model X.prog X.w) X.A (call (.ref C) us) (EP X e7 Z Q) X.xe s:=by
 have hq:=h (s.heap.objs.size+1) s.heap.objs.size (I.hok.fresh (Gbk _)) (I.hok.fresh (Gap _)) (Gaq (Gbs _));have I2:=Inv.made (C:=C) I;have r2:Vals (V.ref (s.heap.objs.size+1)::(vs++dvs)) (Value.ref (s.heap.objs.size+1)::(us++ds)):= .cons rfl (r.append hd);have hl:(Value.ref (s.heap.objs.size+1)::us++ds).length=ps.length:=by
  have e:=r2.length;rw[F.len _ _ _ _ hq] at e;exact e.symm
 refine GbZ (wA (f:=f) I.kIn M.makes M.init (Gay.mp M.fn) (GbK (F.run _ X.stack _ _ ⟨Value.ref (s.heap.objs.size+1)::us,[]⟩ (Value.ref (s.heap.objs.size+1)::(us++ds)) _ _ E (hr.make C us [])
  (I2.D4.make C us []) (hb _ (Value.ref (s.heap.objs.size+1)::us) I2.kIn hl) r2 hq) λr s' yc => ?_))
 cases r with
 |error e=>exact hx e7 Z _ _ e s' I2 yc
 |ok fl=>
  cases fl with
  |ret u=>
   obtain⟨v,H',I3,rv,ev,q3⟩:=I2.after yc;subst ev;exact⟨rv,⟨V.ref (s.heap.objs.size+1),H',I3,rfl,q3⟩⟩
  |next=>exact False.elim yc
  |brk=>exact False.elim yc
  |cont=>exact False.elim yc
theorem wF(M:Mk X.K C f)(F:bH X.prog X.w X.K X.mg X.base CX k f fd ps sp)(hr:bP (k+1) X.A)(hg:Gl X x)(hm:X.mg x=some (.ref C))(hb:Binds X.K fd ps ds)(hd:Vals dvs ds)(hx:Passes CX X E)
  (hV:autoParam ((x==("__debug__":Str))=false) Za2._auto_1):PE X (.Call (.Name x p) [] [] pos) (La C sp dvs E wB):=by
 intro e7 s Z H Q I h;refine Gbu (dw I hg hm ?_ hV);exact PySem.W.callWith_K0 I.kIn M.kp (wD (us:=[]) M F hr hb hd hx I .nil h)
end
structure cp(N P:List Str)(sc:Scope):Prop where
 kind:sc.kind= .function
 co:sc.isCoroutine=false
 gen:sc.isGenerator=false
 nd:N.Nodup
 pre:N.take P.length=P
 par:∀x∈P,sc.names.lookup x=some .local\/sc.names.lookup x=some .cell
 Ki:∀y∈sc.names,y.2≠ .free
theorem mY{kindOf:Str->Option NameKind}{x:Str}:∀{binds:List (Str×Value)} {m:Str->Option Value},(∀v,(x,v)∉binds)->bindL kindOf binds m x=m x
 |[],_,_=>rfl
 |(n,v)::r,m,h=>by
  unfold bindL;rw[mY λw hw=>h w (Gat _ hw)];split
  .have:x≠n:=by rintro rfl;exact h v GaA
   simp[this]
  .rfl
theorem mZ{kindOf:Str->Option NameKind}{x:Str}:∀{binds:List (Str×Value)} {m:Str->Option Value},(∀v,(x,v)∉binds)->bindC kindOf binds m x=m x
 |[],_,_=>rfl
 |(n,v)::r,m,h=>by
  unfold bindC;rw[mZ λw hw=>h w (Gat _ hw)];split
  .rfl
  .have:x≠n:=by rintro rfl;exact h v GaA
   simp[this]
theorem n4{kindOf:Str->Option NameKind}{x:Str}{v:Value}:∀{P:List Str} {vs:List Value} {i:Nat} {m:Str->Option Value},P.Nodup->P[i]? =some x->vs[i]? =some v->kindOf x=some .local->
  bindL kindOf (P.zip vs) m x=some v
 |[],_,_,_,_,h,_,_=>by simp at h
 |_::_,[],_,_,_,_,h,_=>by simp at h
 |p::P,w::vs,0,m,nd,h1,h2,hk=>by
  simp at h1 h2;subst h1;subst h2
  show bindL kindOf ((p,w)::P.zip vs) m p=_;unfold bindL;rw[mY λv hv=>(GaM.mp nd).1 (List.of_mem_zip hv).1,Gak hk];simp
 |p::P,w::vs,i+1,m,nd,h1,h2,hk=>by
  show bindL kindOf ((p,w)::P.zip vs) m x=_;unfold bindL;exact n4 (i:=i) (GaM.mp nd).2 (by simpa using h1) (by simpa using h2) hk
theorem n5{kindOf:Str->Option NameKind}{x:Str}{v:Value}:∀{P:List Str} {vs:List Value} {i:Nat} {m:Str->Option Value},P.Nodup->P[i]? =some x->vs[i]? =some v->kindOf x≠some .local->
  bindC kindOf (P.zip vs) m x=some v
 |[],_,_,_,_,h,_,_=>by simp at h
 |_::_,[],_,_,_,_,h,_=>by simp at h
 |p::P,w::vs,0,m,nd,h1,h2,hk=>by
  simp at h1 h2;subst h1;subst h2
  show bindC kindOf ((p,w)::P.zip vs) m p=_;unfold bindC;rw[mZ λv hv=>(GaM.mp nd).1 (List.of_mem_zip hv).1,Gam hk];simp
 |p::P,w::vs,i+1,m,nd,h1,h2,hk=>by
  show bindC kindOf ((p,w)::P.zip vs) m x=_;unfold bindC;exact n5 (i:=i) (GaM.mp nd).2 (by simpa using h1) (by simpa using h2) hk
noncomputable def start(N:List Str)(vs:List V):St:=vs.map some++List.replicate (N.length -vs.length) none
noncomputable def cJ(CX:CXT)(P:Program)(w:World)(K:PySem.W.Frag)(mg:Str->Option Value)(base:Heap)(N:List Str)(qual:Str)(scope:Scope)(f:Addr)(cd:Value)(A:Around)(outer:List Env)(s:Shared)(H:Hp)(E:XK):Cx where
 prog:=P
 w:=w
 K:=K
 mg:=mg
 base:=base
 A:=A.deeper (envOfC qual scope s.heap.objs.size f cd)
 N:=N
 s₀:=s
 H0:=H
 env:=envOfC qual scope s.heap.objs.size f cd
 outer:=outer
 stack:=envOfC qual scope s.heap.objs.size f cd::outer
 ex:=[]
 calm:=true
 fn:=λ_=>true
 pn:=[]
 xe:=λe s' =>wpAny (model P w) (A.deeper (envOfC qual scope s.heap.objs.size f cd)) (leaving (envOfC qual scope s.heap.objs.size f cd) e) (λ_ yu =>CX outer H s E e yu) (λe' yu =>CX outer H s E e' yu) s'
theorem pb{sc:Scope}{n:Nat}{x:Str}(h:sc.names.lookup x=some .cell):∃c,(cellsFrom n sc.names []).lookup x=some c:=by
 have q:=PySem.W.cellsFrom_some sc.names n [] (.inl h);exact Option.isSome_iff_exists.mp q
variable{f:Addr}{scope:Scope}{qual:Str}{N:List Str}
theorem uQ{CX:CXT}{K:PySem.W.Frag}{cd:Value}{s1:Shared}{E:XK}{vs:List V}
  (S:cp N ps scope)(hd:A.handled=none)(e0:qM P w K mg base A outer s H)(hl:vs.length=ps.length)(r:Vals vs us)
  (x:InCallC s s.heap.objs.size (bindL (envOfC qual scope s.heap.objs.size f cd).kindOf (ps.zip us) λ_=>none) (cellsFrom (s.heap.objs.size+1) scope.names []) (bindC (envOfC qual scope s.heap.objs.size f cd).kindOf (ps.zip us) λ_=>none) s1):
  Inv (cJ CX P w K mg base N qual scope f cd A outer s H E) [] (start N vs) H s1:=by
 have hR:ps.length<=N.length:=by have:=congrArg List.length S.pre;rw[Gbi] at this;lia
 obtain⟨h1,tk,rfl,hk⟩:=x.done;have noA:∀b:Addr,b∉(cJ CX P w K mg base N qual scope f cd A outer s H E).ex:=λb z=>absurd (show b∈([]:List Addr) from z) (by simp);refine⟨⟨e0.mod,S.kind,rfl,rfl,Gap _,λy z c h1 h2=> ?_,λy hy=> ?_,λy c _ h=> ?_,λ_=>hd,Around.frames_deeper e0.frames,.inr ⟨rfl,rfl⟩,λb z=>absurd z (noA b),e0.bs,e0.bsz,λb _ _=>noA b,λb z=>absurd z (noA b),e0.jd,e0.frf⟩,
  rfl,e0.bare,Un.kept hk,⟨_,x.toInCall.ns,λi y v h1 h2 h3=> ?_⟩,λy c h=> ⟨_,x.cell y c h⟩,e0.hok.fresh (Gap _),λy c h=> ?_,λp hp=>absurd (show p∈([]:LAO) from hp) (by simp),e0.hok.kept hk, ?_⟩
 .exact name_of_addr x.apart (PySem.mem_of_lookup h1) (PySem.mem_of_lookup h2)
 .have hy:scope.names.lookup y=some .cell\/scope.names.lookup y=some .free:=hy;rcases hy with hy|hy
  .exact pb hy
  .exact absurd rfl (S.Ki _ (PySem.mem_of_lookup hy))
 .exact GcD (x.above y c (PySem.mem_of_lookup h))
 .have hi:i<vs.length:=by
   unfold start at h2;by_cases hi:i<vs.length
   .exact hi
   .rw[GaL (by simpa using hi)] at h2;rw[Gbp] at h2;split at h2<;>cases h2
  have ha:vs[i]? =some v:=by
   unfold start at h2;rw[GaH (by simpa using hi),Gaw] at h2;cases e:vs[i]? with
   |none=>rw[e] at h2;cases h2
   |some a=>rw[e] at h2;cases h2;rfl
  obtain⟨u,hu,rv⟩:=r.get ha;have hp:ps[i]? =some y:=by
   rw[<-S.pre,List.getElem?_take_of_lt (by lia)];exact h1
  have ndP:ps.Nodup:=by rw[<-S.pre];exact S.nd.sublist (List.take_sublist _ _)
  refine⟨u,rv, ?_⟩;rcases S.par y (GaC hp) with k|k
  .exact .inl ⟨k,n4 ndP hp hu k⟩
  .obtain⟨c,e⟩:=pb (n:=s.heap.objs.size+1) k;refine .inr ⟨.inl k,c,e, ?_⟩;have q:=x.cell y c e;rw[n5 ndP hp hu (by show scope.names.lookup y≠_;rw[k];decide)] at q;exact q
 .exact e0.hok.fresh (GcD (x.above y c (PySem.mem_of_lookup h)))
 .unfold start;show _=N.length;rw[GaJ,Gax,Gcj];lia
theorem si{CX:CXT}{K:PySem.W.Frag}{k:Nat}{name:Str}{params:Arguments}{body:List Stmt}{dV kV doc pm eJ ct oc:Value}{an od:Option Addr}
  {yf:Array (Option Value)}{sp:Sp}(lk:K.lookup f=some ⟨oc,od,.func (PySem.W.fnOf name qual params body scope dV kV doc pm an eJ ct),yf⟩)(eV:PySem.W.codeIn K eJ qual=true)(S:cp N ps scope)
  (len:∀vs H Q E,sp vs H Q E->vs.length=ps.length)
  (eX:∀(A:Around) (outer:List Env) (s:Shared) (H:Hp) (vs:List V) (Q:VK) (E:XK),bP k (A.deeper (envOfC qual scope s.heap.objs.size f eJ))->sp vs H Q E->
   ∃t,PSs (cJ CX P w K mg base N qual scope f eJ A outer s H E) body t/\t {nx:=λ_ H' =>Q .non H',rt:=Q} (start N vs) H):
  bH P w K mg base CX (k+1) f (PySem.W.fnOf name qual params body scope dV kV doc pm an eJ ct) ps sp:=by
 refine⟨len,λA outer s H args us vs Q E hr e0 hb r xG=> ?_⟩;have hl:=len _ _ _ _ xG;have KX:K.In s.heap:=e0.mod.kin.keeps λb o e=>(e0.bs b o e).1;have lim:s.heap.NoLimit:=e0.mod.nolimit.keeps λb o e=>(e0.bs b o e).1;have hkind:∀y∈ps.zip us,scope.names.lookup y.1=some .local\/(scope.names.lookup y.1=some .cell/\((cellsFrom (s.heap.objs.size+1) scope.names []).lookup y.1).isSome=true):=λ⟨n,v⟩ hy=>by
  rcases S.par n (List.of_mem_zip hy).1 with q|q
  .exact .inl q
  .exact .inr ⟨q,PySem.W.cellsFrom_some _ _ _ (.inl q)⟩
 refine codeAny_call_function hr.depth (KX _ _ lk) rfl S.co S.gen rfl (PySem.W.codeRec_of KX eV) (hb _ _ _ _ ?_);refine wpAny_newFunctionEnv_cells S.kind hkind λenv he s1 x=> ?_;subst he;refine⟨lim.keeps x.toInCall.keep,codeAny_func ?_⟩;obtain⟨t,ht,hq⟩:=eX A outer s H vs Q E (hr.deeper _) xG;have I:Inv (cJ CX P w K mg base N qual scope f eJ A outer s H E) [] (start N vs) H s1:=uQ S hr.hd e0 hl r x;refine GaO (ht [] s1 (start N vs) H _ I hq) (λfl s' hs=> ?_) λe s' hs=>hs;have fin:∀{Z' :St} {H' :Hp} {v:V} {u:Value},Inv (cJ CX P w K mg base N qual scope f eJ A outer s H E) [] Z' H' s' ->RelV v u->Q v H' ->CE outer P w H s Q u s' :=
  λ{Z' H' v u} J rv q=> ⟨v,H',J.os,J.bare,J.base,J.hok,rv,q⟩
 cases fl with
 |ret u=>
  obtain⟨v,Z',H',J,rv,q⟩:=hs;exact fin J rv q
 |next=>
  obtain⟨Z',H',J,q⟩:=hs;exact fin (v:=V.non) (u:=Value.none) J rfl q
 |brk=>
  obtain⟨_,_,_,q⟩:=hs;exact False.elim q
 |cont=>
  obtain⟨_,_,_,q⟩:=hs;exact False.elim q
section
variable{X:Cx}{x:Str}{p pos:Pos}{e:Expr}{es:List Expr}{t:TA}{id T:String}{r:List V->Hp->VK->Prop}
def tCB(r:List V->Hp->VK->Prop)(t:TA):TE:=λZ H Q=>t Z H λvs H1=>r vs H1 Q
theorem pd(hc:cY X (.builtin id) r)(hg:Gl X x)(hm:X.mg x=none)(hv:bootBuiltins x=some (.builtin id))(ha:PA X (e::es) t)(hn:autoParam (x≠"__name__") Za2._auto_1)(hV:autoParam ((x==("__debug__":Str))=false) Za2._auto_1)
  (he:autoParam (starEach (e::es) X.env=(false,eval e X.env)::starEach es X.env) Za1._auto_1)(hR:autoParam ((backTo pos (starEach es X.env)).any (·.1)=false) Za1._auto_1):PE X (.Call (.Name x p) (e::es) [] pos) (tCB r t):=by
 intro e7 s Z H Q I h;refine Gbu (iQ I hg hm hv ?_ hn hV);exact Gcr (thn (ha pos e7 s Z H _ I h) λus s1 ⟨vs,H1,I1,r1,q1⟩=>hc e7 s1 Z H1 vs us Q I1 r1 q1) he hR
theorem uR(hc:cY X (.type T) r)(hg:Gl X x)(hm:X.mg x=none)(hv:bootBuiltins x=some (.type T))(ha:PA X (e::es) t)(hn:autoParam (x≠"__name__") Za2._auto_1)(hV:autoParam ((x==("__debug__":Str))=false) Za2._auto_1)
  (he:autoParam (starEach (e::es) X.env=(false,eval e X.env)::starEach es X.env) Za1._auto_1)(hR:autoParam ((backTo pos (starEach es X.env)).any (·.1)=false) Za1._auto_1):PE X (.Call (.Name x p) (e::es) [] pos) (tCB r t):=by
 intro e7 s Z H Q I h;refine Gbu (iQ I hg hm hv ?_ hn hV);exact Gbe (thn (ha pos e7 s Z H _ I h) λus s1 ⟨vs,H1,I1,r1,q1⟩=>hc e7 s1 Z H1 vs us Q I1 r1 q1) he hR
end
end L2
namespace HT
open PySem PyProof.Rows
section
open PySem.SeqAt
open PySem.AutoSeq1 (wpAny_loadPart')
open PySem.MeetsSeq PySem.MeetsSeq2 PySem.MeetsSeq3
end
section
variable{prog:Program}{w:World}{A:Around}{E:VSP}{s:Shared}
variable{t:Addr}
theorem D5{b:Addr}{vs ws:List Value}{Q:VSP}(ht:IsTup s.heap t vs.toArray)(hb:IsTup s.heap b ws.toArray)(hv:vs≠[])
  (h1:ws=[]->Q (.ref t) s)(h2:ws≠[]->Q (.ref s.heap.objs.size) {s with heap:=s.heap.push {cls:= .type "tuple",data:= .seq (vs++ws).toArray}})
  (xF:vs.length+ws.length<=sizeLine):wpAny (model prog w) A (binaryOp .Add (.ref t) (.ref b)) Q E s:=by
 obtain⟨⟨cls,dd,data,sl⟩,ho,hc,n,hd⟩:=id ht;obtain⟨⟨Qe,zY,data2,zJ⟩,yd,zt,n2,hd2⟩:=id hb;simp only at hc hd zt hd2;subst hc hd zt hd2;have e:vs.toArray++ws.toArray=(vs++ws).toArray:=by simp
 by_cases hw:ws=[]
 .exact concat_meets ⟨_,ho,rfl⟩ ⟨_,yd,rfl⟩ noFill_tuple_add seq_tuple_add Gcf Gcb (GbU _ _)
   (tuple_addW1 t b vs.toArray ws.toArray n n2 dd zY sl zJ (by simpa using hv) (by simp[hw])) ⟨ho,yd,h1 hw⟩
 .refine concat_meets ⟨_,ho,rfl⟩ ⟨_,yd,rfl⟩ noFill_tuple_add seq_tuple_add Gcf Gcb (GbU _ _)
   (tuple_addW2 t b vs.toArray ws.toArray n n2 dd zY sl zJ (by simpa using hv) (by simpa using hw) (by rw[Gag,Gag];exact xF)) ⟨ho,yd, ?_⟩
  rw[e];exact h2 hw
noncomputable def sIx(n d:Nat):Option Int->Nat
 |none=>d
 |some v=>if v<0 then(v+(n:Int)).toNat else min v.toNat n
theorem Hl(n d:Nat)(hd:d<=n)(o:Option Int):sIx n d o<=n:=by
 cases o with
 |none=>exact hd
 |some v=>
  show(if v<0 then(v+(n:Int)).toNat else min v.toNat n)<=n;by_cases hv:v<0
  .rw[Gak hv];lia
  .rw[Gam hv];exact Nat.min_le_right _ _
theorem sk(v:Int)(n d:Nat):(if v<0 then max (v+(n:Int)) 0 else min v (n:Int))=((sIx n d (some v):Nat):Int):=by
 show(if v<0 then max (v+(n:Int)) 0 else min v (n:Int))=(((if v<0 then(v+(n:Int)).toNat else min v.toNat n):Nat):Int);by_cases hv:v<0
 .simp only[Gak hv];lia
 .simp only[Gam hv];lia
theorem qN(lo hi:Option Int)(n:Nat):Builtin.Slice.sliceAdjust lo hi 1 (n:Int)=(((sIx n 0 lo:Nat):Int),((sIx n n hi:Nat):Int)):=by
 have h1:¬((1:Int)<0):=by lia
 unfold Builtin.Slice.sliceAdjust;simp only[h1,if_false];refine Prod.ext ?_ ?_
 .cases lo with
  |none=>rfl
  |some v=>exact sk v n 0
 .cases hi with
  |none=>rfl
  |some v=>exact sk v n n
theorem qO(i j:Nat):Builtin.Slice.slicePlaces (i:Int) (j:Int) 1=j -i:=by
 unfold Builtin.Slice.slicePlaces;have h1:(1:Int)>0:=by lia
 simp only[h1,Gck,Int.ediv_one];split<;>lia
theorem lN{v:Value}{o:Option Int}{Q:Option Int->Shared->Prop}(p:IsPart v o)(h:Q o s):wpAny (model prog w) A (Builtin.Slice.slicePartIndex v) Q E s:=by
 cases p with
 |none=>exact slicePart_none h
 |int i t=>exact slicePart_int h
variable{lo hi:Option Int}{vl vu:Value}{sl:Addr}
theorem jY{n:Nat}{Q:Int×Int×Nat->Shared->Prop}(hs:s.heap.IsSliceOf sl vl vu .none)(pl:IsPart vl lo)(pu:IsPart vu hi)
  (h:Q (((sIx n 0 lo:Nat):Int),1,sIx n n hi -sIx n 0 lo) s):wpAny (model prog w) A (Builtin.Slice.sliceApplied (.ref sl) (pure (n:Int))) Q E s:=by
 obtain⟨os,yH,yZ,xv⟩:=id hs;unfold Builtin.Slice.sliceApplied Builtin.Slice.sliceFields;refine Gae (Gae (wpAny_field yH xv (x:=vl) rfl (Gae (wpAny_field yH xv (x:=vu) rfl (Gae (wpAny_field yH xv (x:= .none) rfl (Gao ?_)))))));refine Gae (slicePart_none ?_);show wpAny _ _ (if((1:Int)==0)=true then _ else _) _ _ s;rw[Gam (by decide)];refine Gae (lN pl (Gae (lN pu (Gae (Gao ?_)))));show wpAny _ _ (match Builtin.Slice.sliceAdjust lo hi 1 (n:Int) with|(lo,hi)=>pure (lo,(1:Int),Builtin.Slice.slicePlaces lo hi 1)) _ _ s;rw[qN lo hi n];show wpAny _ _ (pure (((sIx n 0 lo:Nat):Int),(1:Int),Builtin.Slice.slicePlaces ((sIx n 0 lo:Nat):Int) ((sIx n n hi:Nat):Int) 1)) _ _ s;rw[qO];exact Gao h
theorem wG(xs:Array Value)(i k:Nat):((List.range k).filterMap λ(m:Nat)=>xs[((i:Int)+(m:Int)*1).toNat]?).toArray=((xs.toList.drop i).take k).toArray:=by
 have e:(λ(m:Nat)=>xs[((i:Int)+(m:Int)*1).toNat]?)=λm=>xs[i+m]? :=by
  funext m
  have:((i:Int)+(m:Int)*1).toNat=i+m:=by lia
  rw[this]
 rw[e];have:=pick_run xs i k;rw[List.filterMap_map] at this;have e2:((λx=>xs[x]?)∘λx=>i+x)=λm=>xs[i+m]? :=rfl;rw[e2] at this;rw[this]
theorem jf{items:Array Value}{Q:VSP}(ht:IsTup s.heap t items)(hs:s.heap.IsSliceOf sl vl vu .none)(pl:IsPart vl lo)(pu:IsPart vu hi)
  (hw:¬(sIx items.size 0 lo=0/\sIx items.size items.size hi=items.size))
  (h:Q (.ref s.heap.objs.size) {s with heap:=s.heap.push {cls:= .type "tuple",data:= .seq ((items.toList.drop (sIx items.size 0 lo)).take (sIx items.size items.size hi -sIx items.size 0 lo)).toArray}})
  (xF:items.size<=sizeLine):wpAny (model prog w) A (getItem (.ref t) (.ref sl)) Q E s:=by
 have htake:sizeOk (.seq ((items.toList.drop (sIx items.size 0 lo)).take (sIx items.size items.size hi -sIx items.size 0 lo)).toArray):=by
  show((items.toList.drop (sIx items.size 0 lo)).take (sIx items.size items.size hi -sIx items.size 0 lo)).toArray.size<=sizeLine;rw[Gag,Gbi,Gci,Gcy];lia
 have hj:sIx items.size items.size hi<=items.size:=Hl _ _ (Gap _) hi;obtain⟨os,yH,yZ,xv⟩:=id hs;have hTs:s.TypeIs (.ref sl) "slice":=⟨os,yH,yZ⟩
 unfold getItem
 try with_reducible refine wpAny_holding ?_
 first|refine Gae (Gao ?_)|skip
 refine Gae (wpAny_sequenceKey ht.typeIs (by decide) ?_);refine Gae (Gbq (name:=Str.ofString "__getitem__") ht.typeIs GbA
  (GbN GbA ht.typeIs entry_tuple_getitem ?_ (args_tuple_getitem _ _)))
 show wpAny _ _ (Builtin.Tuple.tupleItemsOf (.ref t)>>=_) _ _ s;refine Gae (tupleItemsOf_ ht ?_);refine Gae (wpAny_typeOf hTs ?_);rw[Gak (by decide)];refine Gae (jY hs pl pu ?_);have hno:¬((((sIx items.size 0 lo:Nat):Int)==0&&(1:Int)==1&&(sIx items.size items.size hi -sIx items.size 0 lo)==items.size)=true):=by
  intro q;rw[Gad,Gad] at q;have q1:((sIx items.size 0 lo:Nat):Int)=0:=eq_of_beq q.1.1;have q2:sIx items.size items.size hi -sIx items.size 0 lo=items.size:=eq_of_beq q.2;exact hw ⟨by lia,by lia⟩
 show wpAny _ _ (if(((sIx items.size 0 lo:Nat):Int)==0&&(1:Int)==1&&(sIx items.size items.size hi -sIx items.size 0 lo)==items.size)=true then _ else _) _ _ s;rw[Gam hno,wG]
 first
  |exact Gae (m:=Builtin.Tuple.tupleExact _) (Gbd (Gao ⟨_,rfl,Gao h⟩) htake)
  |exact Gae (m:=Builtin.Tuple.tupleExact _) (Gbd (Gae (Gao (Gao ⟨_,rfl,Gao h⟩))) htake)
  |exact Gae (Gae (m:=Builtin.Tuple.tupleExact _) (Gbd (Gao (Gao ⟨_,rfl,Gao h⟩)) htake))
  |exact Gae (Gae (m:=Builtin.Tuple.tupleExact _) (Gbd (Gao ⟨_,rfl,Gao h⟩) htake))
end
end HT
namespace L2
open PySem PySem.Spec PyProof.Rows
abbrev TO:=St->Hp->(Option Int->Hp->Prop)->Prop
def PO(X:Cx)(e:Option Expr)(t:TO):Prop:=
 ∀(e7:LAO) (s:Shared) (Z:St) (H:Hp) (Q:Option Int->Hp->Prop),Inv X e7 Z H s->t Z H Q->
  wpAny (model X.prog X.w) X.A (evalPart e X.env) (λu s' =>∃o H',Inv X e7 Z H' s' /\IsPart u o/\Q o H') X.xe s
def D6:TO:=λ_ H Q=>Q none H
def Lb(t:TE):TO:=λZ H Q=>t Z H λx H1=>∃i,x= .int i/\Q (some i) H1
section
variable{X:Cx}{e:Expr}{te:TE}{lo hi:Option Expr}{tl th:TO}{pos p2:Pos}
theorem D7:PO X none D6:=by
 intro e7 s Z H Q I h;rw[evalPart_none];exact Gao ⟨none,H,I,.none,h⟩
theorem D8(h:PE X e te):PO X (some e) (Lb te):=by
 intro e7 s Z H Q I hw;rw[evalPart_some];refine thn (h e7 s Z H _ I hw) λu s1 ⟨x,H1,I1,r1,q1⟩=> ?_;obtain⟨i,rfl,q⟩:=q1;obtain⟨t,rfl⟩:=r1;exact⟨some i,H1,I1,.int i t,q⟩
def SlR(X:Cx)(r:V->Option Int->Option Int->Hp->VK->Prop):Prop:=
 ∀(e7:LAO) (s:Shared) (Z:St) (H:Hp) (x:V) (v vl vu:Value) (lo hi:Option Int) (sl:Addr) (Q:VK),Inv X e7 Z H s->RelV x v->s.heap.IsSliceOf sl vl vu .none->IsPart vl lo->IsPart vu hi->r x lo hi H Q->
  ∃T id,typeLookup (.type T) "__getitem__"=pure (some (.builtin id))/\s.TypeIs v T/\wpAny (model X.prog X.w) X.A (getItem v (.ref sl)) (EP X e7 Z Q) X.xe s
theorem SlR.or{r r' :V->Option Int->Option Int->Hp->VK->Prop}(h:SlR X r)(h' :SlR X r'):SlR X (λx lo hi H Q=>r x lo hi H Q\/r' x lo hi H Q):=by
 intro e7 s Z H x v vl vu lo hi sl Q I rx hs pl pu q;rcases q with q|q
 .exact h e7 s Z H x v vl vu lo hi sl Q I rx hs pl pu q
 .exact h' e7 s Z H x v vl vu lo hi sl Q I rx hs pl pu q
def tSl(r:V->Option Int->Option Int->Hp->VK->Prop)(te:TE)(tl th:TO):TE:=λZ H Q=>te Z H λx H1=>tl Z H1 λl H2=>th Z H2 λu H3=>r x l u H3 Q
theorem wH{r:V->Option Int->Option Int->Hp->VK->Prop}(hr:SlR X r)(he:PE X e te)(hl:PO X lo tl)(hu:PO X hi th):PE X (.Subscript e (.Slice lo hi none p2) pos) (tSl r te tl th):=by
 intro e7 s Z H Q I h;refine Subscript_ (thn (he e7 s Z H _ I h) λv s1 ⟨x,H1,I1,r1,q1⟩=> ?_);refine wpAny_Slice (thn (hl e7 s1 Z H1 _ I1 q1) λvl s2 ⟨l,H2,I2,pl,q2⟩=>thn (hu e7 s2 Z H2 _ I2 q2) λvu s3 ⟨u,H3,I3,pu,q3⟩=> ?_);rw[evalPart_none];refine Gao ?_;have I4:Inv X e7 Z H3 {s3 with heap:=s3.heap.push {cls:= .type "slice",data:= .fields #[vl,vu,.none]}}:=I3.kept (t' :=s3.toks) λb ob q=>Gaf _ q;obtain⟨T,id,hT,ht,hg⟩:=hr e7 {s3 with heap:=s3.heap.push {cls:= .type "slice",data:= .fields #[vl,vu,.none]}} Z H3 x v vl vu l u s3.heap.objs.size Q I4 r1 (Heap.IsSliceOf.new ..) pl pu q3;show wpAny (model X.prog X.w) X.A (subscriptTail e (.Slice lo hi none p2) v (.ref s3.heap.objs.size)) (EP X e7 Z Q) X.xe {s3 with heap:=s3.heap.push {cls:= .type "slice",data:= .fields #[vl,vu,.none]}};exact tail_any (ops:=[.ref s3.heap.objs.size,v]) ht hT hg (by with_unfolding_all rfl)
def pe(xs:List V)(lo hi:Option Int):List V:=(xs.drop (HT.sIx xs.length 0 lo)).take (HT.sIx xs.length xs.length hi -HT.sIx xs.length 0 lo)
theorem kz(xs:List V)(lo hi:Option Int):(pe xs lo hi).length<=xs.length:=by
 unfold pe;rw[Gbi,Gci];lia
def Oa(K:PySem.W.Frag):V->Option Int->Option Int->Hp->VK->Prop:=λx lo hi H Q=>∃a xs,x= .ref a/\SqT K H a xs/\
 ¬(HT.sIx xs.length 0 lo=0/\HT.sIx xs.length xs.length hi=xs.length)/\∀p,H p=none->Q (.ref p) (upd H p (.tup (pe xs lo hi)))
theorem Hm:SlR X (Oa X.K):=by
 intro e7 s Z H x v vl vu lo hi sl Q I rx hs pl pu h;obtain⟨a,xs,rfl,hx,hw,q⟩:=h;cases rx;obtain⟨eg,r,ht,hz⟩:=I.tuple hx;have eO:eg.toArray.size=xs.length:=by rw[Gag];exact r.length.symm
 refine⟨"tuple",_,GbA.lookup,ht.typeIs, ?_⟩;refine HT.jf ht hs pl pu (by rw[eO];exact hw) ?_ (by rw[eO];exact hz);rw[eO];refine⟨.ref s.heap.objs.size,_,I.laid (t' :=s.toks) (o:= .tup (pe xs lo hi)) (λb ob q=>Gaf _ q) (Gap _) ?_,rfl,q _ (I.hok.fresh (Gap _))⟩;exact⟨GaE (kz xs lo hi) hz,_,(r.drop (HT.sIx xs.length 0 lo)).take (HT.sIx xs.length xs.length hi -HT.sIx xs.length 0 lo),IsTup.new _ _⟩
def FT(K:PySem.W.Frag):R2:=λx y H Q=>∃a b xs ys,x= .ref a/\y= .ref b/\SqT K H a xs/\SqT K H b ys/\xs≠[]/\xs.length+ys.length<=sizeLine/\
 (ys=[]->Q (.ref a) H)/\(ys≠[]->∀p,H p=none->Q (.ref p) (upd H p (.tup (xs++ys))))
theorem Vals.dA{xs:List V}{us:List Value}(r:Vals xs us):us=[]↔xs=[]:=by
 cases r with
 |nil=>simp
 |cons _ _=>simp
theorem D9:OpR X (binaryOp .Add) (FT X.K):=by
 intro e7 s Z H x y v u Q I rx ry h;obtain⟨a,b,xs,ys,rfl,rfl,ha,hb,hx,hz,q1,q2⟩:=h;cases rx;cases ry;obtain⟨eg,r1,p1,_⟩:=I.tuple ha;obtain⟨eD,r2,p2,_⟩:=I.tuple hb;refine HT.D5 p1 p2 (λz=>hx (r1.dA.mp z)) (λz=> ⟨.ref a,H,I,rfl,q1 (r2.dA.mp z)⟩) (λz=> ?_) (by rw[<-r1.length,<-r2.length];exact hz);refine⟨.ref s.heap.objs.size,_,I.laid (t' :=s.toks) (o:= .tup (xs++ys)) (λb ob q=>Gaf _ q) (Gap _) ?_,rfl,q2 (λw=>z (r2.dA.mpr w)) _ (I.hok.fresh (Gap _))⟩;exact⟨by rw[GaJ];exact hz,_,r1.append r2,IsTup.new _ _⟩
end
noncomputable def ixN(n:Nat)(i:Int):Option Nat:=if 0<=i then(if i<n then some i.toNat else none) else if -(n:Int)<=i then some (i+n).toNat else none
def atI{α:Type}(xs:List α)(i:Int):Option α:=(ixN xs.length i).bind λj=>xs[j]?
variable{i:Int}
theorem so{n:Nat}{j:Nat}(h:ixN n i=some j):seqIndex? i n=some j/\j<n/\-(n:Int)<=i/\i<n:=by
 unfold ixN at h;by_cases h0:0<=i
 .rw[Gak h0] at h;by_cases h1:i<n
  .rw[Gak h1] at h;have e:i.toNat=j:=Option.some.inj h;exact⟨by rw[seqIndex_of h0 h1,e],by lia,by lia,h1⟩
  .rw[Gam h1] at h;cases h
 .rw[Gam h0] at h;by_cases h1: -(n:Int)<=i
  .rw[Gak h1] at h;have e:(i+n).toNat=j:=Option.some.inj h;exact⟨by rw[seqIndex_neg (by lia) h1,e],by lia,h1,by lia⟩
  .rw[Gam h1] at h;cases h
theorem nW{α:Type}{xs:List α}{v:α}(h:atI xs i=some v):∃j,seqIndex? i xs.length=some j/\xs[j]? =some v/\j<xs.length/\-(xs.length:Int)<=i/\i<xs.length:=by
 unfold atI at h;cases e:ixN xs.length i with
 |none=>rw[e] at h;cases h
 |some j=>
  rw[e] at h;obtain⟨h1,h2,h3,h4⟩:=so e;exact⟨j,h1,h,h2,h3,h4⟩
def lj(b:Expr):Prop:=∀o i,subscripted b false o i=operate [o,i] (getItem o i)
def IxR(X:Cx)(r:R2):Prop:=
 ∀(value slice:Expr) (e7:LAO) (s:Shared) (Z:St) (H:Hp) (x y:V) (v u:Value) (Q:VK),Inv X e7 Z H s->RelV x v->RelV y u->r x y H Q->
  subscripted slice false v u=operate [v,u] (getItem v u)->wpAny (model X.prog X.w) X.A (subscriptTail value slice v u) (EP X e7 Z Q) X.xe s
def MtR(X:Cx)(id:String)(r:V->List V->Hp->VK->Prop):Prop:=
 ∀(e7:LAO) (s:Shared) (Z:St) (H:Hp) (x:V) (xs:List V) (v:Value) (us:List Value) (Q:VK),Inv X e7 Z H s->RelV x v->Vals xs us->r x xs H Q->
  wpAny (model X.prog X.w) X.A (call (.builtin id) (v::us)) (EP X e7 Z Q) X.xe s
section
variable{X:Cx}{a b:Expr}{ta tb:TE}{pos:Pos}
theorem IxR.or{r r' :R2}(h:IxR X r)(h' :IxR X r'):IxR X (λx y H Q=>r x y H Q\/r' x y H Q):=by
 intro value slice e7 s Z H x y v u Q I rx ry q hs;rcases q with q|q
 .exact h value slice e7 s Z H x y v u Q I rx ry q hs
 .exact h' value slice e7 s Z H x y v u Q I rx ry q hs
theorem FU{r:R2}(hr:IxR X r)(ha:PE X a ta)(hb:PE X b tb)(hs:lj b):PE X (.Subscript a b pos) (tOp r ta tb):=by
 intro e7 s Z H Q I h;exact Subscript_ (Ha ha hb I h λv u s2 x y H2 I2 rx ry q=>hr a b e7 s2 Z H2 x y v u Q I2 rx ry q (hs _ _))
def Lc(K:PySem.W.Frag):R2:=λx y H Q=>∃p xs i v,x= .ref p/\y= .int i/\SqL K H p xs/\atI xs i=some v/\Q v H
def Ld(K:PySem.W.Frag):R2:=λx y H Q=>∃p xs i v,x= .ref p/\y= .int i/\SqT K H p xs/\atI xs i=some v/\Q v H
def Le:R2:=λx y H Q=>∃z i c,x= .str z/\y= .int i/\z.length<=sizeLine/\atI z.cps.toList i=some c/\Q (.str ⟨#[c]⟩) H
theorem Dc:IxR X (Lc X.K):=by
 intro value slice e7 s Z H x y v u Q I rx ry h hs;obtain⟨p,xs,i,z,rfl,rfl,hq,he,q⟩:=h;cases rx;obtain⟨t,rfl⟩:=ry;obtain⟨eg,r,pl,hz⟩:=I.list hq;obtain⟨j,h1,h2,h3,h4,h5⟩:=nW he;obtain⟨w,ew,zi⟩:=r.get h2;have hl:=r.length;have hn:=lM;have fin:EP X e7 Z Q w s:=⟨z,H,I,zi,q⟩
 by_cases h0:0<=i
 .have hj:i.toNat=j:=by
   rw[seqIndex_of h0 h5] at h1;exact Option.some.inj h1
  exact item_listR pl.isList h0 (by lia) (by rw[hj];simpa using ew) fin hs
 .have hj:(i+(eg.toArray.size:Int)).toNat=j:=by
   rw[seqIndex_neg (by lia) h4] at h1;rw[Gag,<-hl];exact Option.some.inj h1
  exact subscriptTail_builtinR (x:=w) pl.isList.typeIs slot_list_getitem.lookup
   (wpAny_getItem_list_neg (Q:=λr s' =>r=w/\EP X e7 Z Q r s') pl.isList (by lia) (by rw[Gag]<;>lia) (by lia) (by rw[hj];simpa using ew) ⟨rfl,fin⟩) hs
theorem Hn:IxR X (Ld X.K):=by
 intro value slice e7 s Z H x y v u Q I rx ry h hs;obtain⟨p,xs,i,z,rfl,rfl,hq,he,q⟩:=h;cases rx;obtain⟨t,rfl⟩:=ry;obtain⟨eg,r,pl,hz⟩:=I.tuple hq;obtain⟨j,h1,h2,h3,h4,h5⟩:=nW he;obtain⟨w,ew,zi⟩:=r.get h2;have hl:=r.length;have hn:=lM;have fin:EP X e7 Z Q w s:=⟨z,H,I,zi,q⟩
 exact subscriptTail_builtinR (x:=w) pl.typeIs slot_tuple_getitem.lookup
  (getItem_tuple (j:=j) (Q:=λr s' =>r=w/\EP X e7 Z Q r s') pl (by lia) (by lia) (by rw[Gag,<-hl];exact h1) (by simpa using ew) ⟨rfl,fin⟩) hs
theorem Ho:IxR X Le:=by
 intro value slice e7 s Z H x y v u Q I rx ry h hs;obtain⟨z,i,c,rfl,rfl,hz,he,q⟩:=h;obtain⟨t,rfl⟩:=rx;obtain⟨t',rfl⟩:=ry;obtain⟨j,h1,h2,h3,h4,h5⟩:=nW he;have hl:z.cps.toList.length=z.length:=by simp[Str.length]
 rw[hl] at h1 h4 h5;have hn:=lM;exact tail_any (typeIs_str s z t) slot_str_getitem.lookup (getItem_str (c:=c) (by
  have e1:decide (i< -(2^63:Int))=false:=GaZ (by lia);have e2:decide (i>=2^63)=false:=GaZ (by lia);rw[e1,e2,Bool.or_false]) (by rw[h1];simpa using h2) ⟨.str ⟨#[c]⟩,H,I.tok _,⟨_,rfl⟩,q⟩) hs
def rIx(K:PySem.W.Frag):R2:=λx y H Q=>Lc K x y H Q\/Ld K x y H Q\/Le x y H Q
theorem wI:IxR X (rIx X.K):=Dc.or (Hn.or Ho)
theorem qP(eg:List Value)(n j:Nat)(u:Value):Obj.mapSeq (·.setIfInBounds j u) {cls:= .type "list",data:= .seq eg.toArray n}={cls:= .type "list",data:= .seq (eg.set j u).toArray n}:=by
 simp[Obj.mapSeq]
theorem Inv.lst{e7:LAO}{Z:St}{H:Hp}{s:Shared}{p:Addr}{xs:List V}(I:Inv X e7 Z H s)(h:H p=some (.lst xs)):
  ∃(eg:List Value) (n:Nat),Vals xs eg/\s.heap.get? p=some {cls:= .type "list",data:= .seq eg.toArray n}/\xs.length<=sizeLine:=by
 obtain⟨z,eg,n,r,e⟩:=I.hok p _ h;exact⟨eg,n,r,e,z⟩
variable{s:Shared}{H:Hp}{Z:St}{e7:LAO}
theorem Inv.Hq{p:Addr}{xs ys:List V}{eg its' :List Value}{n n' :Nat}{f:Obj->Obj}(I:Inv X e7 Z H s)(h:H p=some (.lst xs))
  (ho:s.heap.get? p=some {cls:= .type "list",data:= .seq eg.toArray n})(hf:f {cls:= .type "list",data:= .seq eg.toArray n}={cls:= .type "list",data:= .seq its'.toArray n' })(r:Vals ys its')(hz:ys.length<=sizeLine)(t:Nat):
  Inv X e7 Z (upd H p (.lst ys)) {s with heap:=s.heap.update p f,toks:=t}:=by
 have e:(s.heap.update p f).get? p=some {cls:= .type "list",data:= .seq its'.toArray n' }:=by
  rw[Gbx f ho (by rw[hf]<;>rfl),hf]
 refine I.write (x:=p) (e:=p) (by rw[h];trivial) (.inl rfl) (λb u hb q=>(Gbg _ _ (GaG hb)).trans q) ⟨_,e⟩ ?_;exact⟨hz,its',n',r,e⟩
def FV:V->V->V->Hp->(Hp->Prop)->Prop:=λo i v H Q=>∃p xs k j,o= .ref p/\i= .int k/\H p=some (.lst xs)/\ixN xs.length k=some j/\Q (upd H p (.lst (xs.set j v)))
theorem set_list:O0 X FV:=by
 intro e7 s Z H o i v ov iv u Q I ro ri rv h;obtain⟨p,xs,k,j,rfl,rfl,hp,hj,q⟩:=h;cases ro;obtain⟨t,rfl⟩:=ri;obtain⟨eg,n,r,ho,hz⟩:=I.lst hp;obtain⟨h1,h2,h3,h4⟩:=so hj;have hl:=r.length;have hn:=lM;have I' :Inv X e7 Z (upd H p (.lst (xs.set j v))) {s with heap:=s.heap.update p (Obj.mapSeq (·.setIfInBounds j u))}:=
  I.Hq hp ho (qP eg n j u) (r.set rv j) (by rw[List.length_set];exact hz) s.toks
 by_cases h0:0<=k
 .have hk:k.toNat=j:=by
   rw[seqIndex_of h0 h4] at h1;exact Option.some.inj h1
  exact PySem.W.ki_setAt ho h0 (by lia) (by rw[Gag,<-hl];exact h4) (by rw[hk];exact⟨_,I',q⟩)
 .have hk:(k+(eg.toArray.size:Int)).toNat=j:=by
   rw[seqIndex_neg (by lia) h3] at h1;rw[Gag,<-hl];exact Option.some.inj h1
  exact PySem.W.ki_setBack ho (by lia) (by rw[Gag,<-hl];exact h3) (by lia) (by rw[hk];exact⟨_,I',q⟩)
theorem nX(lo hi:Option Int)(n:Nat):(sliceBounds lo hi none n).1=((HT.sIx n 0 lo:Nat):Int)/\(sliceBounds lo hi none n).2.1=((HT.sIx n n hi:Nat):Int)/\(sliceBounds lo hi none n).2.2=1:=by
 refine⟨?_, ?_,rfl⟩
 .cases lo with
  |none=>simp[sliceBounds,HT.sIx]
  |some i=>
   simp only[sliceBounds,HT.sIx,Option.getD_none,show(1:Int)>0 by decide,Gck];by_cases h:i<0
   .simp only[h,Gck]<;>lia
   .simp only[h,if_false]<;>lia
 .cases hi with
  |none=>simp[sliceBounds,HT.sIx]
  |some i=>
   simp only[sliceBounds,HT.sIx,Option.getD_none,show(1:Int)>0 by decide,Gck];by_cases h:i<0
   .simp only[h,Gck]<;>lia
   .simp only[h,if_false]<;>lia
theorem mL(eg:List Value)(lo hi:Option Int):slicePick eg.toArray lo hi none=((eg.drop (HT.sIx eg.length 0 lo)).take (HT.sIx eg.length eg.length hi -HT.sIx eg.length 0 lo)).toArray:=by
 obtain⟨h1,h2,h3⟩:=nX lo hi eg.toArray.size;unfold slicePick;rw[h1,h2,h3];simp only[sliceRange_one,pick_run,Gag]<;>rfl
def Ob(K:PySem.W.Frag):V->Option Int->Option Int->Hp->VK->Prop:=λx lo hi H Q=>∃a xs,x= .ref a/\SqL K H a xs/\∀p,H p=none->Q (.ref p) (upd H p (.lst (pe xs lo hi)))
theorem Dd:SlR X (Ob X.K):=by
 intro e7 s Z H x v vl vu lo hi sl Q I rx hs pl pu h;obtain⟨a,xs,rfl,hx,q⟩:=h;cases rx;obtain⟨eg,r,ht,hz⟩:=I.list hx;have eO:=r.length;refine⟨"list",_,slot_list_getitem.lookup,ht.isList.typeIs, ?_⟩;refine wpAny_getItem_list_slice ht.isList hs pl pu .none (by simp) ?_ (by rw[Gag]<;>lia);rw[mL,<-eO];refine⟨.ref s.heap.objs.size,_,I.laid (t' :=s.toks) (o:= .lst (pe xs lo hi)) (λb ob q=>Gaf _ q) (Gap _) ?_,rfl,q _ (I.hok.fresh (Gap _))⟩;exact⟨GaE (kz xs lo hi) hz,_,0,(r.drop (HT.sIx xs.length 0 lo)).take (HT.sIx xs.length xs.length hi -HT.sIx xs.length 0 lo),Gar _ rfl⟩
noncomputable def sr:V->Bool
 | .non=>true
 | .bl _=>true
 | .int _=>true
 | .str _=>true
 |_=>false
noncomputable def eqV:V->V->Bool
 | .non,.non=>true
 | .bl a,.bl b=>a==b
 | .bl a,.int b=>(if a then 1 else 0)==b
 | .int a,.bl b=>a==(if b then 1 else 0)
 | .int a,.int b=>a==b
 | .str a,.str b=>a==b
 |_,_=>false
variable{v:Value}{x:V}
theorem Hr{A:Around}{y:V}{u:Value}(ry:RelV y u)(rx:RelV x v)(fy:sr y=true)(fx:sr x=true):SeqAt.EqAt A s u v (eqV y x):=by
 cases y with
 |non=>
  cases ry;cases x with
  |non=>cases rx;exact SeqAt.EqAt.same _
  |bl b=>cases rx;exact SeqAt.EqAt.none_bool b
  |int b=>obtain⟨t,rfl⟩:=rx;exact SeqAt.EqAt.none_int b t
  |str b=>obtain⟨t,rfl⟩:=rx;exact SeqAt.EqAt.none_str b t
  |_=>exact absurd (show false=true from fx) Gai
 |bl a=>
  cases ry;cases x with
  |non=>cases rx;exact SeqAt.EqAt.bool_none a
  |bl b=>cases rx;exact SeqAt.EqAt.bool_bool a b
  |int b=>obtain⟨t,rfl⟩:=rx;exact SeqAt.EqAt.bool_int a b t
  |str b=>obtain⟨t,rfl⟩:=rx;exact SeqAt.EqAt.bool_str a b t
  |_=>exact absurd (show false=true from fx) Gai
 |int a=>
  obtain⟨t',rfl⟩:=ry;cases x with
  |non=>cases rx;exact SeqAt.EqAt.int_none a t'
  |bl b=>cases rx;exact SeqAt.EqAt.int_bool a t' b
  |int b=>obtain⟨t,rfl⟩:=rx;exact SeqAt.EqAt.int_int a t' b t
  |str b=>obtain⟨t,rfl⟩:=rx;exact SeqAt.EqAt.int_str a t' b t
  |_=>exact absurd (show false=true from fx) Gai
 |str a=>
  obtain⟨t',rfl⟩:=ry;cases x with
  |non=>cases rx;exact SeqAt.EqAt.str_none a t'
  |bl b=>cases rx;exact SeqAt.EqAt.str_bool a t' b
  |int b=>obtain⟨t,rfl⟩:=rx;exact SeqAt.EqAt.str_int a t' b t
  |str b=>obtain⟨t,rfl⟩:=rx;exact SeqAt.EqAt.str_str a t' b t
  |_=>exact absurd (show false=true from fx) Gai
 |_=>exact absurd (show false=true from fy) Gai
theorem cY.or{f:Value}{r r' :List V->Hp->VK->Prop}(h:cY X f r)(h' :cY X f r'):cY X f (λxs H Q=>r xs H Q\/r' xs H Q):=by
 intro e7 s Z H xs us Q I rs q;rcases q with q|q
 .exact h e7 s Z H xs us Q I rs q
 .exact h' e7 s Z H xs us Q I rs q
theorem nY:cY X (.type "list") (λxs H Q=>∃p ys,xs=[.ref p]/\(SqL X.K H p ys\/SqT X.K H p ys)/\∀l,H l=none->Q (.ref l) (upd H l (.lst ys))):=by
 intro e7 s Z H xs us Q I r h;obtain⟨p,ys,rfl,hq,q⟩:=h;obtain⟨u,rfl,rx⟩:=vals1 r;cases rx;have fin:∀(eg:List Value),Vals ys eg->ys.length<=sizeLine->∀(h' :Heap) (c' :Nat),(∀b o',s.heap.get? b=some o' ->h'.get? b=some o')->
   h'.get? s.heap.objs.size=some {cls:= .type "list",dict:=none,data:= .seq eg.toArray c',slots:=#[]}->EP X e7 Z Q (.ref s.heap.objs.size) {s with heap:=h' }:=λeg r' hz h' c' kp e=>
  ⟨.ref s.heap.objs.size,_,I.laid (t' :=s.toks) kp (Gap _) (show bu X.prog X.w _ h' _ (.lst ys) from⟨hz,eg,c',r',e⟩),rfl,q _ (I.hok.fresh (Gap _))⟩
 rcases hq with hq|hq
 .obtain⟨eg,r',pl,hz⟩:=I.list hq;have eO:=r'.length;obtain⟨o,ho,hc,n,hd⟩:=pl.isList;exact call_list_seq p (.inl rfl) ho hc hd (λh' c' kp e=>fin eg r' hz h' c' kp e) (by simp only[Gag]<;>lia)
 .obtain⟨eg,r',pl,hz⟩:=I.tuple hq;have eO:=r'.length;obtain⟨o,ho,hc,n,hd⟩:=pl;exact call_list_seq p (.inr rfl) ho hc hd (λh' c' kp e=>fin eg r' hz h' c' kp e) (by simp only[Gag]<;>lia)
theorem mM:cY X (.type "tuple") (λxs H Q=>∃p ys,xs=[.ref p]/\((SqL X.K H p ys/\∀l,H l=none->Q (.ref l) (upd H l (.tup ys)))\/(SqT X.K H p ys/\Q (.ref p) H))):=by
 intro e7 s Z H xs us Q I r h;obtain⟨p,ys,rfl,h⟩:=h;obtain⟨u,rfl,rx⟩:=vals1 r;cases rx;rcases h with⟨hq,q⟩| ⟨hq,q⟩
 .obtain⟨eg,r',pl,hz⟩:=I.list hq;have eO:=r'.length;refine call_tuple_list pl.isList (λh' kp=> ?_) (by simp only[Gag]<;>lia);have I1:Inv X e7 Z H {s with heap:=h' }:=I.kept (t' :=s.toks) kp;have I2:Inv X e7 Z (upd H h'.objs.size (.tup ys)) {s with heap:=h'.push {cls:= .type "tuple",data:= .seq eg.toArray}}:=
   I1.laid (t' :=s.toks) (λb o e=>Gaf _ e) (Gap _) (show bu X.prog X.w _ _ _ (.tup ys) from⟨hz,eg,r',IsTup.new _ _⟩)
  exact⟨.ref h'.objs.size,_,I2,rfl,q _ (I1.hok.fresh (Gap _))⟩
 .obtain⟨eg,r',pl,hz⟩:=I.tuple hq;exact call_tuple_same pl ⟨.ref p,H,I,rfl,q⟩
def tyV(K:PySem.W.Frag)(T:String)(x:V)(H:Hp):Prop:=match x with
 | .str _=>T="str"
 | .int _=>T="int"
 | .ref p=>(T="list"/\∃xs,SqL K H p xs)\/(T="tuple"/\∃o,K.lookup p=some o/\o.cls= .type "tuple"/\o.dict=none)
 |_=>False
theorem Hs{T:String}(I:Inv X e7 Z H s)(r:RelV x v)(ty:tyV X.K T x H):
  s.TypeIs v T/\∀a,v= .ref a->∃ob,s.heap.get? a=some ob/\ob.dict=none:=by
 cases x with
 |str z=>
  obtain⟨t,rfl⟩:=r;cases(show T="str" from ty);exact⟨typeIs_str s z t,λ_ e=>nomatch e⟩
 |int i=>
  obtain⟨t,rfl⟩:=r;cases(show T="int" from ty);exact⟨typeIs_int s i t,λ_ e=>nomatch e⟩
 |ref p=>
  cases r;rcases ty with⟨rfl,xs,hq⟩| ⟨rfl,o,hk,hc,hd⟩
  .obtain⟨eg,_,pl,_⟩:=I.list hq;refine⟨pl.isList.typeIs,λa e=> ?_⟩;cases e;obtain⟨o,n,e,c,hd,_⟩:=pl;exact⟨o,e,hd⟩
  .refine⟨⟨o,I.kIn p o hk,hc⟩,λa e=> ?_⟩;cases e;exact⟨o,I.kIn _ o hk,hd⟩
 |_=>exact False.elim ty
def tBM(K:PySem.W.Frag)(T:String)(r:V->List V->Hp->VK->Prop)(to:TE)(t:TA):TE:=λZ H Q=>to Z H λx H1=>tyV K T x H1/\t Z H1 λxs H2=>r x xs H2 Q
variable{o e:Expr}{es:List Expr}{to:TE}{t:TA}{name:Str}{apos eF:Pos}{T id:String}{r:V->List V->Hp->VK->Prop}
theorem lO(pa:PlainAttrs T)(slot:Slot T name id)(yE:typeOf (.builtin id)=pure (.type "method_descriptor"))(hm:MtR X id r)(ho:PE X o to)(ha:PA X (e::es) t)
  (xj:autoParam (attributeBase o name X.env (eval o X.env)=eval o X.env) Za1._auto_1)
  (xK:((backTo eF (starEach (e::es) X.env)).all (λx=> !x.1)&&(backToKw eF (keywordEach [] X.env)).all (λx=>x.1.isSome)
   &&decide ((e::es).length+([]:List Keyword).length+(if([]:List Keyword).isEmpty then 0 else 1)<30))=true:=by rfl)
  (eP:autoParam ((apos.endLine==eF.line)=true) Za1._auto_1)(hs:autoParam (starEach (e::es) X.env=(false,eval e X.env)::starEach es X.env) Za1._auto_1)(yG:autoParam ((backTo eF (starEach es X.env)).any (·.1)=false) Za1._auto_1):
  PE X (.Call (.Attribute o name apos) (e::es) [] eF) (tBM X.K T r to t):=by
 intro e7 s Z H Q I h;refine wpAny_Call_method_late xj xK eP rfl (thn (ho e7 s Z H _ I h) λv s1 ⟨x,H1,I1,r1,ty,q1⟩=> ?_);obtain⟨h1,h2⟩:=Hs I1 r1 ty;refine⟨T,id,pa,slot,yE,h1,h2, ?_⟩;have hA:=ha eF e7 s1 Z H1 _ I1 q1;rw[hs] at hA⊢;refine Calls.callWith_builtin (by show(false||(backTo eF (starEach es X.env)).any (·.1))=false;rw[yG]<;>rfl) (Calls.evalArgs_plain ?_);exact thn hA λus s2 ⟨vs,H2,I2,r2,q2⟩=>hm e7 s2 Z H2 x vs v us Q I2 r1 r2 q2
end
def MtM(X:Cx)(id:String)(r:V->List V->Hp->VK->Prop):Prop:=
 ∀(e7:LAO) (s:Shared) (Z:St) (H:Hp) (x:V) (xs:List V) (v:Value) (us:List Value) (Q:VK),Inv X e7 Z H s->RelV x v->Vals xs us->r x xs H Q->
  wpAny (model X.prog X.w) X.A (call (.builtin id) (v::us)) (EP X e7 Z Q) X.xe s
theorem Vals.one{x:V}{us:List Value}(p:Vals [x] us):∃u,us=[u]/\RelV x u:=by
 cases p with
 |cons r t=>cases t;exact⟨_,rfl,r⟩
section
variable{X:Cx}{e7:LAO}{Z:St}{H:Hp}{s:Shared}{l b:Addr}{xs ys zs:List V}
variable{t' :Nat}{eg:List Value}
theorem Inv.De{its' :List Value}{n:Nat}{f:Array Value->Array Value}(I:Inv X e7 Z H s)(hH:H l=some (.lst xs))
  (e:s.heap.get? l=some {cls:= .type "list",data:= .seq eg.toArray n})(hf:f eg.toArray=its'.toArray)(hv:Vals ys its')(hz:ys.length<=sizeLine):
  Inv X e7 Z (upd H l (.lst ys)) {s with heap:=s.heap.update l (Obj.mapSeq f),toks:=t' }:=by
 have q:=PySem.IsL.update e f;rw[hf] at q;refine I.write (x:=l) (e:=l) (by rw[hH];exact trivial) (.inl rfl) (λb' u hb hu=>(Gbg s.heap (Obj.mapSeq f) (GaG hb)).trans hu) ⟨_,q⟩ ?_;exact⟨hz,its',_,hv,q⟩
theorem Inv.Lf(I:Inv X e7 Z H s)(hv:Vals ys eg)(hz:ys.length<=sizeLine):
  Inv X e7 Z (upd H s.heap.objs.size (.lst ys)) {s with heap:=s.heap.push {cls:= .type "list",data:= .seq eg.toArray},toks:=t' }:=
 I.laid (λ_ _ q=>Gaf _ q) (Gap _) ⟨hz,eg,0,hv,Gar _ rfl⟩
theorem Inv.fresh(I:Inv X e7 Z H s):H s.heap.objs.size=none:=I.hok.fresh (Gap _)
theorem Inv.wJ(I:Inv X e7 Z H s)(hH:H l=some (.lst xs)):xs.length<=sizeLine/\∃(eg:List Value) (n:Nat),Vals xs eg/\xs.length=eg.length/\s.heap.get? l=some {cls:= .type "list",data:= .seq eg.toArray n}:=by
 obtain⟨z,eg,n,r,e⟩:=I.hok l _ hH;exact⟨z,eg,n,r,r.length,e⟩
theorem pf{n:Nat}(h:n<=sizeLine):Builtin.List.listTooLong n=false:=by
 unfold Builtin.List.listTooLong;exact GaZ (by lia)
end
section
variable{X:Cx}
def Df:V->List V->Hp->VK->Prop:=λx vs H Q=>∃l xs y,x= .ref l/\vs=[y]/\H l=some (.lst xs)/\xs.length<sizeLine/\Q .non (upd H l (.lst (xs++[y])))
theorem iA:MtM X "list.append" Df:=by
 intro e7 s Z H x vs v us Q I rx rv h;obtain⟨l,xs,y,rfl,rfl,hH,hz,q⟩:=h;cases rx;obtain⟨u,rfl,ru⟩:=rv.one;obtain⟨z,eg,n,r,hl,e⟩:=I.wJ hH;refine Gca F.slot_list_append ⟨_,e,rfl⟩ F.entry_list_append (F.args_list_append_2 _ _) (PySem.list_append l eg.toArray n u (by rw[Gag];lia)) ⟨e, ?_⟩;refine⟨.non,_,I.De (its' :=eg++[u]) hH e (by simp) (r.append (.cons ru .nil)) ?_,rfl,q⟩;rw[GaJ,Gcl];lia
def Dg:V->List V->Hp->VK->Prop:=λx vs H Q=>∃l b xs zs,x= .ref l/\vs=[.ref b]/\H l=some (.lst xs)/\H b=some (.lst zs)/\xs.length+zs.length<=sizeLine/\Q .non (upd H l (.lst (xs++zs)))
theorem uS:MtM X "list.extend" Dg:=by
 intro e7 s Z H x vs v us Q I rx rv h;obtain⟨l,b,xs,zs,rfl,rfl,hH,hB,hz,q⟩:=h;cases rx;obtain⟨u,rfl,ru⟩:=rv.one;cases ru;obtain⟨z,eg,n,r,hl,e⟩:=I.wJ hH;obtain⟨z2,eD,n2,r2,yV,e2⟩:=I.wJ hB;have xF:eg.toArray.size+eD.toArray.size<=sizeLine:=by rw[Gag,Gag];lia
 have hlong:¬(!eg.toArray.isEmpty&&Builtin.List.listTooLong (eg.toArray.size+eD.toArray.size))=true:=by
  rw[pf xF,GbL];exact Gai
 refine Gca F.slot_list_extend ⟨_,e,rfl⟩ F.entry_list_extend (F.args_list_extend_2 _ _)
  (AutoSeq1.list_extend_list_list_0 l eg.toArray n b eD.toArray n2 hlong (by rw[Gag];lia) (by lia)) ⟨e,e2, ?_⟩
 refine⟨.non,_,I.De (its' :=eg++eD) hH e (by simp) (r.append r2) ?_,rfl,q⟩;rw[GaJ];lia
end
variable{w:World}
theorem wK{P:Program}{k:Key}{u:Value}(r:RelV (kV k) u):(dO P w).is k u=true:=by
 cases k with
 |inl i=>obtain⟨t,e⟩:=(show∃t,u=Value.int i t from r);subst e;exact oW P w i t
 |inr x=>obtain⟨t,e⟩:=(show∃t,u=Value.str x t from r);subst e;exact gX P w x t
def Ht(i:Expr):Prop:=∀ov iv,subscripted i false ov iv=operate [ov,iv] (getItem ov iv)
theorem Dh{prog:Program}{A:Around}{E:VSP}{s:Shared}{env:Env}{value slice:Expr}{pos:Pos}{T id:String}{Q:VSP}
  (hl:typeLookup (.type T) "__getitem__"=pure (some (.builtin id)))(hs:Ht slice)
  (h:wpAny (model prog w) A (eval value env) (λo s₁=>wpAny (model prog w) A (eval slice env) (λi s₂=>s₂.TypeIs o T/\wpAny (model prog w) A (getItem o i) Q E s₂) E s₁) E s):
  wpAny (model prog w) A (eval (.Subscript value slice pos) env) Q E s:=by
 refine Subscript_ (GaO h (λo s₁ h₁=>GaO h₁ (λi s₂ h₂=> ?_) λ_ _ x=>x) λ_ _ x=>x);obtain⟨hT,h₂⟩:=h₂;unfold subscriptTail;refine Gae ?_;rw[getitemInPython_of_ne hT.not_modules];refine Gae (wpAny_specialOf hT hl ?_);have fin:wpAny (model prog w) A (subscripted slice false o i) (λr s₃=>wpAny (model prog w) A (letTemporaryGo value o r>>=λ_=>pure r) Q E s₃) E s₂:=by
  rw[hs o i];exact wpAny_operating (GaO h₂ (λr s₃ h₃=>Gae (wpAny_letTemporaryGo (Gao h₃))) λ_ _ x=>x)
 first
  |exact Gao (Gae fin)
  |exact Gae (Gao (Gae fin))
  |exact Gae fin
end L2
namespace Att
open PySem PySem.W PySem.Calls PyProof.Rows
variable{h:Heap}{P:Params}
theorem kW:∀(ns:List Int) (vs:List Value),WellAll P h vs (ns.map WData.int)->IntsAre vs ns:=by
 intro ns;induction ns with
 |nil=>
  intro vs w;rw[List.map_nil] at w;cases w;exact .nil
 |cons n ns ih=>
  intro vs w;rw[Gbn] at w;cases w with
  |cons a b=>
   cases a;exact .cons _ _ (ih _ b)
theorem uT{l:OpenLaw}{n:Nat}(hn:l.most=some n){args:List WData}{vals:List Value}
  (yk:l.row.toRowW.claim.pre args=true)(PJ:WellAll P h vals args):
  ∃a vs ns,vals=[Value.ref a]/\args=[WData.list (ns.map WData.int)]/\h.get? a=some {cls:= .type "list",data:= .seq vs.toArray}/\IntsAre vs ns/\ns.length<=n:=by
 have hsh:WShape.hasAll [] args [.list .int]=true:=(pre_splitW yk).1;have hc:l.pre.holds [] {args:=args}=true:=(pre_splitW yk).2;obtain⟨d,r,rfl,h1,h2⟩:=hasAllW_cons hsh;obtain rfl:=hasAllW_nil h2;obtain⟨xs,rfl,h3⟩:=hasW_list h1;obtain⟨ns,rfl⟩:=items_int h3;have eO:ns.length<=n:=by
  unfold OpenLaw.pre at hc;have h4:(WTm.not (.lt (.lit (.int (n:Int))) (.len (.arg 0)))).holds [] {args:=[.list (ns.map .int)]}=true:=by
   have h4:=(holds_andW hc).1;rw[hn] at h4;exact h4
  have h5:=condW_of h4 (w_not (w_lt w_lit (w_len_list (w_arg rfl))));rw[Gax] at h5;refine Nat.le_of_not_lt λq=> ?_;have q' :(n:Int)<((ns.length:Nat):Int):=by lia
  first
   |(rw[Gbt q'] at h5;exact absurd h5 (by decide))
   |(simp at h5;lia)
 cases PJ with
 |cons w1 w2=>
  cases w2;cases w1 with
  |list ho hall=>exact⟨_,_,ns,rfl,rfl,ho,kW ns _ hall,eO⟩
theorem uU(l:OpenLaw)(args:List WData):l.row.toRowW.claim.post args (.bool true) args=true:=
 postW_of (r:=l.row.toRowW) (X:=(true==true))
  (show WShape.has [] (.bool true) .bool=true by first|rfl|decide|simp[WShape.has,WShape.arms,WShape.armsAll])
  (show(WTm.eq .res (.lit (.bool true))).value [] {args:=args,res:=some (.bool true),after:=args}=some (.bool (true==true)) from w_eq_bool (w_res rfl) w_lit) rfl
theorem ph{l:OpenLaw}{n:Nat}{q:Program}{loose:List Str}{XP:(Str->Option Value)->Heap->Prop}{YP:World->Heap->Prop}{d:DefRec}
  (hn:l.most=some n)(yL:d.params.defaults=[])
  (call:∀(w:World) (s₀ s₁:Shared) (mg mb:Str->Option Value) (fa:Addr) (o:Obj) (pm cd doc:Value) (a:Addr) (vs:List Value) (ns:List Int),
   Ground q loose [] XP w s₀ mg mb s₁.heap->YP w s₁.heap->
   s₁.heap.get? fa=some o->o.data= .func (docDef d.name d.params d.body d.scope pm cd doc)->s₁.heap.CodeRec cd d.name->mg d.name=some (.ref fa)->
   s₁.heap.get? a=some {cls:= .type "list",data:= .seq vs.toArray}->IntsAre vs ns->ns.length<=n->s₁.gens=#[]->
   codeAny (model l.prog w) callerA (.call (.ref fa) ⟨[.ref a],[]⟩) (λr s' =>r= .ok (.ret (.bool true))/\OldK s₁.heap s'.heap/\s'.os=s₁.os/\AllBare s'.gens) s₁):
  WalkO q loose XP YP l.row.toRowW d [] (λf vs=>PySem.call f vs):=by
 intro w s₀ s₁ mg mb G Y fa o pm cd doc dV kV ho hd eV hD yJ hg args vals as yk hlay hrd PJ zS;obtain rfl:dV= .none:=Dflts.none hD yL;obtain rfl:kV= .none:=Dflts.noKw hD;obtain⟨a,vs,ns,rfl,rfl,yI,hints,eO⟩:=uT hn yk PJ;refine enter_call (GbK (call w s₀ s₁ mg mb fa o pm cd doc a vs ns G Y ho (fd_plain hd) eV yJ yI hints eO hg) λr s' hq=> ?_);obtain⟨rfl,h2,h3,h4⟩:=hq;exact⟨.inl ⟨.bool true,.bool true,[],rfl,λ_=>rfl,.bool true,uU l _,λ_=> ⟨List.Pairwise.nil,λ_ hm=>(nomatch hm)⟩⟩,h2,h3,h4⟩
end Att
namespace L2
open PySem PySem.Spec PyProof.Rows
variable{vs:List Value}
theorem jZ{ns:List Int}(p:IntsAre vs ns):Vals (ns.map V.int) vs:=by
 induction p with
 |nil=>exact .nil
 |cons n t h ih=>exact .cons ⟨t,rfl⟩ ih
def Di(H:Hp):Prop:=∀b,H b=none\/∃o xs,H b=some (.frz o (.lst xs))
theorem wL{P:Program}{w:World}{K:PySem.W.Frag}{mg mb:Str->Option Value}{CX:CXT}{k:Nat}{fa a:Addr}{fd:FuncData}{x:Str}{sp:Sp}{s₁:Shared}{ns:List Int}
  (KX:K.In s₁.heap)(y0:s₁.heap.Ns mainGlobals mg)(hb:s₁.heap.Ns builtinsNs mb)(Rz:∀x:Str,x≠"__name__"->mb x=bootBuiltins x)(PZ:s₁.heap.NoLimit)(hg:s₁.gens=#[])
  (ha:s₁.heap.get? a=some {cls:= .type "list",data:= .seq vs.toArray})(hi:IntsAre vs ns)(hl:ns.length<=sizeLine)(hr:bP k callerA)
  (F:∀base:Heap,K.In base->base.Ns mainGlobals mg->bH P w K mg base CX k fa fd [x] sp)(zu:∀(s:Shared) (u:Value),BindsTo s fd ⟨[u],[]⟩ [(x,u)])
  (xG:∀H:Hp,Di H->SqL K H a (ns.map V.int)->sp [.ref a] H (λv _=>v= .bl true) λ_ _ _=>False)
  (Q8:∀H e s',CX [] H s₁ (λ_ _ _=>False) e s' ->False):
  codeAny (model P w) callerA (.call (.ref fa) ⟨[.ref a],[]⟩) (λr s' =>r= .ok (.ret (.bool true))/\OldK s₁.heap s'.heap/\s'.os=s₁.os/\AllBare s'.gens) s₁:=by
 have rv:=jZ hi;have lenV:=hi.length;have core:∀H:Hp,Di H->SqL K H a (ns.map V.int)->HOk P w H s₁.heap->(∀b,H b≠none->b=a)->(H a≠none->K.lookup a=none)->
   codeAny (model P w) callerA (.call (.ref fa) ⟨[.ref a],[]⟩) (λr s' =>r= .ok (.ret (.bool true))/\OldK s₁.heap s'.heap/\s'.os=s₁.os/\AllBare s'.gens) s₁:=by
  intro H hO hS hok hA hK;have base_of:∀{b:Addr} {o:Obj},s₁.heap.get? b=some o->H b=none->(nQ s₁.heap H).get? b=some o:=λe n=>wc e n;have noA:∀{b:Addr} {o:Obj} {es:Array DictEntry} {ep:Nat},s₁.heap.get? b=some o->o.data= .dict es ep->H b=none:=λ{b o es ep} e d=>by
   cases q:H b with
   |none=>rfl
   |some u=>
    have e' :b=a:=hA b (by rw[q];simp);subst e';rw[ha] at e;cases e
    have d' :Data.seq vs.toArray _=Data.dict es ep:=d;cases d'
  have nsK:∀{b:Addr} {m:Str->Option Value},s₁.heap.Ns b m->(nQ s₁.heap H).Ns b m:=λ{b m} ⟨o,es,ep,e,d,r⟩=> ⟨o,es,ep,base_of e (noA e d),d,r⟩;have QG:K.In (nQ s₁.heap H):=λb o e=>base_of (KX b o e) (by
   cases q:H b with
   |none=>rfl
   |some u=>
    have e' :b=a:=hA b (by rw[q];simp);subst e';rw[hK (by rw[q];simp)] at e;cases e)
  have hM:Mod K mg (nQ s₁.heap H):=⟨QG,nsK y0,⟨mb,nsK hb,Rz⟩,let⟨mc,h1,h2⟩:=PZ;⟨mc,nsK h1,h2⟩⟩
  have e0:qM P w K mg (nQ s₁.heap H) callerA [] s₁ H:=⟨rfl,hM,λb o e=>CP e,GcE (uC _ _),trivial,λb hb=>absurd (show b∈([]:List Addr) from hb) (by simp),hok,.of_eq hg⟩
  refine GbK ((F _ QG (nsK y0)).run callerA [] s₁ H ⟨[.ref a],[]⟩ [.ref a] [.ref a] _ _ hr e0 (zu s₁ (.ref a)) (.cons rfl .nil) (xG H hO hS)) λr s' h=> ?_;cases r with
  |error e=>exact(Q8 H e s' h).elim
  |ok fl=>
   cases fl with
   |next=>exact False.elim h
   |brk=>exact False.elim h
   |cont=>exact False.elim h
   |ret u=>
    obtain⟨v,H',os,bare,un,PQ,r',q⟩:=h;have q' :v= .bl true:=q;subst q';obtain rfl:u=Value.bool true:=r';refine⟨rfl,OldK.of_keep λb o e=> ?_,os,bare⟩;cases q:H b with
    |none=>exact un.keep b o e q (by intro z;exact absurd (show b∈([]:List Addr) from z) (by simp)) (by simp)
    |some u=>
     rcases hO b with z| ⟨ob,xs,z⟩
     .rw[q] at z;cases z
     .have z2:=un.iz b ob _ z;obtain⟨e1,_⟩:=hok b _ z;obtain⟨e2,_⟩:=PQ b _ z2;rw[e] at e1;cases e1
      exact e2
 cases hk:K.lookup a with
 |some o=>
  have e:=KX a o hk;rw[ha] at e;cases e;refine core (λ_=>none) (λ_=> .inl rfl) (.inr ⟨_,vs.toArray,_,hk,rfl,rfl,rfl,by rw[Gag,lenV];exact hl,by simpa using rv⟩) (λb u z=>by have z' :(none:Option HO)=some u:=z;cases z') (λb z=>absurd rfl z) λz=>absurd rfl z
 |none=>
  refine core (λb=>if b=a then some (.frz {cls:= .type "list",data:= .seq vs.toArray} (.lst (ns.map V.int))) else none) (λb=> ?_) (.inl (.inr ⟨{cls:= .type "list",data:= .seq vs.toArray},Gak rfl⟩)) (λb u z=> ?_) (λb z=> ?_) λ_=>hk
  .by_cases hb:b=a
   .exact .inr ⟨_,_,Gak hb⟩
   .exact .inl (Gam hb)
  .by_cases hb:b=a
   .have z' :=(Gak hb).symm.trans z;cases z';subst hb;exact⟨ha,by rw[Gax];exact hl,vs,_,rv,ha⟩
   .have z' :=(Gam hb).symm.trans z;cases z'
  .by_cases hb:b=a
   .exact hb
   .exact absurd (Gam hb) z
theorem Dj{l:PySem.W.OpenLaw}{n k:Nat}{q:Program}{loose:List Str}{XP:(Str->Option Value)->Heap->Prop}{YP:World->Heap->Prop}{d:DefRec}{K:Params->PySem.W.Frag}{CX:World->CXT}{sp:World->Sp}{x:Str}
  (hn:l.most=some n)(yU:n<=sizeLine)(yL:d.params.defaults=[])(hr:bP k callerA)
  (hY:∀(w:World) (h:Heap),YP w h->(K w.params).In h)
  (F:∀(w:World) (mg:Str->Option Value) (fa:Addr) (h:Heap),(K w.params).In h->h.Ns mainGlobals mg->mg d.name=some (.ref fa)->
   ∃fd:FuncData,(∀(s:Shared) (u:Value),BindsTo s fd ⟨[u],[]⟩ [(x,u)])/\
    ∀base:Heap,(K w.params).In base->base.Ns mainGlobals mg->bH l.prog w (K w.params) mg base (CX w) k fa fd [x] (sp w))
  (xG:∀(w:World) (H:Hp) (a:Addr) (ns:List Int),ns.length<=n->Di H->SqL (K w.params) H a (ns.map V.int)->sp w [.ref a] H (λv _=>v= .bl true) λ_ _ _=>False)
  (Q8:∀(w:World) (H:Hp) (s:Shared) (e:Value) (s' :Shared),CX w [] H s (λ_ _ _=>False) e s' ->False):
  PySem.W.WalkO q loose XP YP l.row.toRowW d [] (λf vs=>PySem.call f vs):=by
 refine Att.ph hn yL λw s₀ s₁ mg mb fa o pm cd doc a vs ns G Y ho hd eV yJ yI hints eO hg=> ?_;have KX:=hY w _ Y;obtain⟨fd,hb,hF⟩:=F w mg fa _ KX G.T.g yJ;exact wL KX G.T.g G.T.b G.T.builtins G.T.nolimit hg yI hints (GaE eO yU) hr hF hb (λH hO hS=>xG w H a ns eO hO hS) λH e s' =>Q8 w H s₁ e s'
noncomputable def gv(s:Stmt):Arguments:=match s with
 | .FunctionDef _ a _ _ _ _ _ _ _ _=>a
 |_=>{posonlyargs:=[],args:=[],vararg:=none,kwonlyargs:=[],kw_defaults:=[],kwarg:=none,defaults:=[]}
noncomputable def bI(s:Stmt):List Stmt:=match s with
 | .FunctionDef _ _ b _ _ _ _ _ _ _=>b
 |_=>[]
noncomputable def aw(s:Stmt):Scope:=match s with
 | .FunctionDef _ _ _ _ _ _ sc _ _ _=>sc
 |_=>{kind:= .function,names:=[],isGenerator:=false,isCoroutine:=false}
noncomputable abbrev CX0:CXT:=λ_ _ _ _ _ _=>False
noncomputable abbrev E0:XK:=λ_ _ _=>False
theorem su{X:Cx}:Passes CX0 X E0:=λ_ _ _ _ _ _ _ h=>h.elim
structure Fun(K:PySem.W.Frag)(x qual:Str)(st:Stmt)(f:Addr)(fd:FuncData):Prop where
 ex:∃(oc:Value) (od:Option Addr) (kV doc pm:Value) (an:Option Addr) (eJ ct:Value) (yf:Array (Option Value)),
  fd=PySem.W.fnOf x qual (gv st) (bI st) (aw st) .none kV doc pm an eJ ct/\K.lookup f=some ⟨oc,od,.func fd,yf⟩/\PySem.W.codeIn K eJ qual=true
 kp:PySem.W.keepIn K (.ref f)=true
section
variable{P:Program}{w:World}{K:PySem.W.Frag}{mg:Str->Option Value}{base:Heap}
variable{f:Addr}{st:Stmt}{x qual:Str}
theorem Fun.ok{fd:FuncData}{N ps:List Str}{k:Nat}{sp:Sp}(F:Fun K x qual st f fd)(S:cp N ps (aw st))(len:∀vs H Q E,sp vs H Q E->vs.length=ps.length)
  (eX:∀(eJ:Value) (A:Around) (outer:List Env) (s:Shared) (H:Hp) (vs:List V) (Q:VK) (E:XK),bP k (A.deeper (envOfC qual (aw st) s.heap.objs.size f eJ))->sp vs H Q E->
   ∃t,PSs (cJ CX0 P w K mg base N qual (aw st) f eJ A outer s H E).nox (bI st) t/\t {nx:=λ_ H' =>Q .non H',rt:=Q} (start N vs) H):bH P w K mg base CX0 (k+1) f fd ps sp:=by
 obtain⟨oc,od,kV,doc,pm,an,eJ,ct,yf,rfl,lk,eV⟩:=F.ex;refine si lk eV S len λA outer s H vs Q E hr xG=> ?_;obtain⟨t,h,q⟩:=eX eJ A outer s H vs Q E hr xG;exact⟨t,h.nox,q⟩
theorem Hu{oc:Value}{od an:Option Addr}{yf:Array (Option Value)}{kV doc pm eJ ct:Value}(l:K.lookup f=some ⟨oc,od,.func (PySem.W.fnOf x qual (gv st) (bI st) (aw st) .none kV doc pm an eJ ct),yf⟩)
  (c:PySem.W.codeIn K eJ qual=true)(k:PySem.W.keepIn K (.ref f)=true):Fun K x qual st f (PySem.W.fnOf x qual (gv st) (bI st) (aw st) .none kV doc pm an eJ ct):=⟨⟨oc,od,kV,doc,pm,an,eJ,ct,yf,rfl,l,c⟩,k⟩
end
def aW(H H' :Hp):Prop:=∀b o,H b=some o->H' b=some o
variable{H:Hp}
theorem aW.trans{H1 H2:Hp}(a:aW H H1)(b:aW H1 H2):aW H H2:=λc o h=>b c o (a c o h)
theorem aW.free{H' :Hp}(e:aW H H'){l:Addr}(h:H' l=Option.none):H l=Option.none:=by
 cases q:H l with
 |none=>rfl
 |some o=>
  rw[e l o q] at h;cases h
end L2
namespace Hd
noncomputable section
open PySem PySem.W PyProof.Rows L2
abbrev p0:=PySem.Challenge.pw_dosehouse_k09_lines_by_what_stands_above
noncomputable def top(i:Nat):Stmt:=p0.main.body.getD i (.Pass ⟨0,0,0,0⟩)
noncomputable def view:Program:={p0 with main:={p0.main with body:=[1,2,4,5,6,7,8,9,10,11,13,14,15,16,17,18,19,20,21,22,23,24,25,26,27,28,29,30,31,32,33,34,35,36,37,38,39,40,41,42,43,44,45,47,48,49,50,51,52,53,54,55,56].map top}}
abbrev fd(n:Str)(i:Nat)(m:Str)(t c:Nat):FuncData:=fnOf n n (gv (top i)) (bI (top i)) (aw (top i)) .none .none .none (.str m t) none (.ref c) .none
abbrev tu(l:Array Value):Obj:={cls:= .type "tuple",data:= .seq l}
noncomputable def fo(d:FuncData):Obj:=⟨.type "function",none,.func d,#[]⟩
def coq(m n:Str)(t l k a:Nat)(x y:Value)(b u:Nat):Obj:={cls:= .type "code",data:= .fields #[.str m t,.str n (t+1),.str "/claim/cut.py" (t+2),.int l 0,.int k 0,.int 0 0,.int 0 0,.int 3 0,.ref a,.bool true,.int 181 0,.ref (a+1),.none,x,y,.ref b,.int u 0,.int l 0,.str "/claim/cut.py" (u+1)]}
noncomputable def co(n:Str)(t l k a:Nat)(x y:Value)(b u:Nat):Obj:=coq n n t l k a x y b u
noncomputable def e(P:Params)(n:Str)(t:Nat)(v:Value):DictEntry:=⟨PyData.keyHash P n,.str n t,v⟩
noncomputable def r(P:Params)(n:Str)(t a:Nat):DictEntry:=e P n t (.ref a)
noncomputable abbrev m0:Str:="dosehouse.reading"
noncomputable abbrev m1:Str:="dosehouse.words"
noncomputable abbrev m2:Str:="law_dosehouse_k09_lines_by_what_stands_above"
abbrev jg:=fd "is_made_of" 9 m1 232 50
abbrev n6:=fd "is_name" 10 m1 232 57
abbrev kA:=fd "number_of" 11 m1 232 64
abbrev lP:=fd "place_of" 28 m0 265 110
abbrev i0:=fd "has_new_name" 29 m0 265 117
abbrev jh:=fd "numbers_of" 30 m0 265 124
abbrev kB:=fd "with_part" 31 m0 265 131
abbrev ji:=fd "take_guest" 32 m0 265 138
abbrev kC:=fd "sizes_fit" 33 m0 265 143
abbrev jj:=fd "take_stuff" 34 m0 265 148
abbrev lQ:=fd "take_cap" 35 m0 265 155
abbrev jk:=fd "take_young" 36 m0 265 162
abbrev lT:=fd "take_bar" 37 m0 265 167
abbrev jl:=fd "take_order" 38 m0 265 174
abbrev kF:=fd "take_dose" 39 m0 265 181
abbrev jm:=fd "take_asked" 40 m0 265 188
abbrev lU:=fd "take_due" 41 m0 265 195
abbrev jn:=fd "take_taper" 42 m0 265 202
abbrev gJ:=fd "take_of_order" 43 m0 265 209
abbrev wM:=fd "take" 44 m0 265 216
abbrev wN:=fd "read" 45 m0 265 223
abbrev lV:=fd "_law_draw" 47 m2 563 230
abbrev lW:=fd "_law_same" 48 m2 563 235
abbrev lY:=fd "_law_many" 49 m2 563 242
abbrev lZ:=fd "_law_caps" 50 m2 563 249
abbrev jo:=fd "_law_stuffs" 51 m2 563 256
noncomputable abbrev m4:=fd "_law_bars" 52 m2 563 261
abbrev kG:=fd "_law_unfit" 53 m2 563 268
abbrev jq:=fd "_law_orders" 54 m2 563 273
abbrev gK:=fd "_law_odd_order" 55 m2 563 278
abbrev wO:=fd "law" 56 m2 563 283
def inn(i j:Nat):Stmt:=match top i with
 | .ClassDef _ _ _ b _ _ _ _ _ _ _=>b.getD j (.Pass ⟨0,0,0,0⟩)
 |s=>s
abbrev fq(n q:Str)(st:Stmt)(m:Str)(t c:Nat):FuncData:=fnOf n q (gv st) (bI st) (aw st) .none .none .none (.str m t) none (.ref c) .none
abbrev Dk:Obj:={cls:= .type "type",data:= .cls {name:="Draft",bases:=[.type "object"],mro:=[.ref 100,.type "object"],ns:=99,qualname:="Draft"},slots:=#[Option.none,Option.none,Option.some (.str "Draft" 361),Option.some (.str "Draft" 369),Option.some (.builtin "object.__new__"),Option.some (.bool true)]}
abbrev pj:=fq "__init__" "Draft.__init__" (inn 27 0) "dosehouse.reading" 265 96
abbrev nZ:Obj:={cls:= .type "type",data:= .cls {name:="HouseError",bases:=[.type "ValueError"],mro:=[.ref 24,.type "ValueError",.type "Exception",.type "BaseException",.type "object"],ns:=23,qualname:="HouseError",subclasses:=[.ref 44]},slots:=#[Option.some (.ref 15),Option.none,Option.some (.str "HouseError" 189),Option.some (.str "HouseError" 197),Option.some (.builtin "ValueError.__new__"),Option.some (.bool true)]}
abbrev pk:Obj:={cls:= .type "type",data:= .cls {name:="NoText",bases:=[.ref 24],mro:=[.ref 44,.ref 24,.type "ValueError",.type "Exception",.type "BaseException",.type "object"],ns:=43,qualname:="NoText"},slots:=#[Option.some (.ref 28),Option.none,Option.some (.str "NoText" 207),Option.some (.str "NoText" 215),Option.some (.builtin "ValueError.__new__"),Option.some (.bool true)]}
abbrev iB:=fq "__init__" "NoText.__init__" (inn 2 0) "dosehouse.errors" 187 40
def K(P:Params):Frag:=[(3,{cls:= .type "dict",data:= .dict #[e P "__name__" 165 (.str "law_dosehouse_k09_lines_by_what_stands_above" 563),e P "__doc__" 166 (.none),e P "__package__" 167 (.none),e P "__loader__" 168 (.builtin "__main__.__loader__#opaque"),e P "__spec__" 169 (.none),r P "__annotations__" 170 6,r P "__builtins__" 171 4,e P "__file__" 173 (.str "/claim/cut.py" 172),e P "__cached__" 174 (.none),r P "HouseError" 206 24,r P "NoText" 231 44,e P "LETTERS" 235 (.str "abcdefghijklmnopqrstuvwxyz" 234),e P "FIGURES" 237 (.str "0123456789" 236),e P "LONGEST_NAME" 239 (.int 8 238),e P "GREATEST" 241 (.int 1000000000 240),e P "MOST_FIGURES" 243 (.int 10 242),r P "is_made_of" 249 51,r P "is_name" 256 58,r P "number_of" 264 65,r P "BEHIND" 320 66,r P "UNENDED" 323 78,r P "CAP_LOWS" 336 79,r P "WAYS" 340 83,e P "MOST_GUESTS" 342 (.int 6 341),e P "MOST_STUFFS" 344 (.int 6 343),e P "MOST_BARS" 346 (.int 12 345),e P "MOST_ORDERS" 348 (.int 12 347),e P "MOST_SIZES" 350 (.int 8 349),e P "MOST_CAPS" 352 (.int 4 351),e P "MOST_TAPERS" 354 (.int 6 353),e P "MOST_DUES" 356 (.int 60 355),e P "MOST_DEN" 358 (.int 1000 357),e P "MOST_PARTS" 360 (.int 2000 359),r P "Draft" 392 100,r P "place_of" 402 111,r P "has_new_name" 410 118,r P "numbers_of" 422 125,r P "with_part" 431 132,r P "take_guest" 440 139,r P "sizes_fit" 446 144,r P "take_stuff" 452 149,r P "take_cap" 463 156,r P "take_young" 472 163,r P "take_bar" 478 168,r P "take_order" 488 175,r P "take_dose" 499 182,r P "take_asked" 508 189,r P "take_due" 519 196,r P "take_taper" 532 203,r P "take_of_order" 541 210,r P "take" 552 217,r P "read" 562 224,r P "_law_draw" 574 231,r P "_law_same" 580 236,r P "_law_many" 589 243,r P "_law_caps" 601 250,r P "_law_stuffs" 616 257,r P "_law_bars" 622 262,r P "_law_unfit" 634 269,r P "_law_orders" 640 274,r P "_law_odd_order" 646 279,r P "law" 652 284] 62}),
 (51,fo jg),(50,co "is_made_of" 244 15 2 47 (.none) (.none) 49 247),
 (58,fo n6),(57,co "is_name" 250 17 1 52 (.ref 54) (.ref 55) 56 254),
 (65,fo kA),(64,co "number_of" 257 19 1 59 (.ref 61) (.ref 62) 63 262),
 (111,fo lP),(110,co "place_of" 393 51 2 105 (.ref 107) (.ref 108) 109 400),
 (118,fo i0),(117,co "has_new_name" 403 56 2 112 (.ref 114) (.ref 115) 116 408),
 (125,fo jh),(124,co "numbers_of" 411 58 2 119 (.ref 121) (.ref 122) 123 420),
 (132,fo kB),(131,co "with_part" 423 68 3 126 (.ref 128) (.ref 129) 130 429),
 (139,fo ji),(138,co "take_guest" 432 70 2 133 (.ref 135) (.ref 136) 137 438),
 (144,fo kC),(143,co "sizes_fit" 441 76 1 140 (.none) (.none) 142 444),
 (149,fo jj),(148,co "take_stuff" 447 82 2 145 (.none) (.none) 147 450),
 (156,fo lQ),(155,co "take_cap" 453 90 2 150 (.ref 152) (.ref 153) 154 461),
 (163,fo jk),(162,co "take_young" 464 100 2 157 (.ref 159) (.ref 160) 161 470),
 (168,fo lT),(167,co "take_bar" 473 106 2 164 (.none) (.none) 166 476),
 (175,fo jl),(174,co "take_order" 479 118 2 169 (.ref 171) (.ref 172) 173 486),
 (182,fo kF),(181,co "take_dose" 489 127 2 176 (.ref 178) (.ref 179) 180 497),
 (189,fo jm),(188,co "take_asked" 500 135 2 183 (.ref 185) (.ref 186) 187 506),
 (196,fo lU),(195,co "take_due" 509 141 2 190 (.ref 192) (.ref 193) 194 517),
 (203,fo jn),(202,co "take_taper" 520 151 2 197 (.ref 199) (.ref 200) 201 530),
 (210,fo gJ),(209,co "take_of_order" 533 163 3 204 (.ref 206) (.ref 207) 208 539),
 (217,fo wM),(216,co "take" 542 173 2 211 (.ref 213) (.ref 214) 215 550),
 (224,fo wN),(223,co "read" 553 191 1 218 (.ref 220) (.ref 221) 222 560),
 (231,fo lV),(230,co "_law_draw" 565 200 3 225 (.ref 227) (.ref 228) 229 572),
 (236,fo lW),(235,co "_law_same" 575 205 2 232 (.none) (.none) 234 578),
 (243,fo lY),(242,co "_law_many" 581 217 3 237 (.ref 239) (.ref 240) 241 587),
 (250,fo lZ),(249,co "_law_caps" 590 221 4 244 (.ref 246) (.ref 247) 248 599),
 (257,fo jo),(256,co "_law_stuffs" 602 234 4 251 (.ref 253) (.ref 254) 255 614),
 (262,fo m4),(261,co "_law_bars" 617 253 5 258 (.none) (.none) 260 620),
 (269,fo kG),(268,co "_law_unfit" 623 278 2 263 (.ref 265) (.ref 266) 267 632),
 (274,fo jq),(273,co "_law_orders" 635 284 5 270 (.none) (.none) 272 638),
 (279,fo gK),(278,co "_law_odd_order" 641 312 4 275 (.none) (.none) 277 644),
 (284,fo wO),(283,co "law" 647 329 1 280 (.none) (.none) 282 650),
 (2,{cls:= .none,data:= .dict #[]}),
 (100,Dk),(99,{cls:= .type "dict",data:= .dict #[e P "__module__" 368 (.str "dosehouse.reading" 265),e P "__firstlineno__" 372 (.int 43 371),e P "__init__" 379 (.ref 97),e P "__static_attributes__" 385 (.ref 98),e P "__dict__" 387 (.ref 101),e P "__weakref__" 389 (.ref 102),e P "__doc__" 390 (.none)] 4}),
 (97,fo pj),(96,coq "__init__" "Draft.__init__" 373 45 1 91 (.ref 93) (.ref 94) 95 377),
 (24,nZ),(23,{cls:= .type "dict",data:= .dict #[e P "__module__" 196 (.str "dosehouse.errors" 187),e P "__firstlineno__" 200 (.int 2 199),e P "__static_attributes__" 201 (.ref 22),e P "__weakref__" 203 (.ref 25),e P "__doc__" 204 (.none)] 3}),
 (44,pk),(43,{cls:= .type "dict",data:= .dict #[e P "__module__" 214 (.str "dosehouse.errors" 187),e P "__firstlineno__" 218 (.int 4 217),e P "__init__" 226 (.ref 41),e P "__static_attributes__" 228 (.ref 42),e P "__doc__" 229 (.none)] 2}),
 (41,fo iB),(40,coq "__init__" "NoText.__init__" 219 6 2 35 (.ref 37) (.ref 38) 39 224),
 (66,{cls:= .type "dict",data:= .dict #[e P "" 267 (.ref 67),e P "guest" 272 (.ref 68),e P "stuff" 277 (.ref 69),e P "cap" 283 (.ref 70),e P "young" 289 (.ref 71),e P "bar" 293 (.ref 72),e P "order" 296 (.ref 73),e P "dose" 298 (.ref 74),e P "asked" 301 (.ref 75),e P "due" 303 (.ref 76),e P "taper" 306 (.ref 77)] 11}),
 (67,tu #[.str "guest" 268,.str "stuff" 269,.str "bar" 270,.str "order" 271]),
 (68,tu #[.str "guest" 273,.str "stuff" 274,.str "bar" 275,.str "order" 276]),
 (69,tu #[.str "cap" 278,.str "young" 279,.str "stuff" 280,.str "bar" 281,.str "order" 282]),
 (70,tu #[.str "cap" 284,.str "young" 285,.str "stuff" 286,.str "bar" 287,.str "order" 288]),
 (71,tu #[.str "stuff" 290,.str "bar" 291,.str "order" 292]),
 (72,tu #[.str "bar" 294,.str "order" 295]),
 (73,tu #[.str "dose" 297]),
 (74,tu #[.str "asked" 299,.str "due" 300]),
 (75,tu #[.str "order" 302]),
 (76,tu #[.str "taper" 304,.str "order" 305]),
 (77,tu #[.str "taper" 307,.str "order" 308]),
 (78,tu #[.str "order" 321,.str "dose" 322]),
 (79,{cls:= .type "dict",data:= .dict #[e P "flat" 324 (.ref 80),e P "kilo" 327 (.ref 81),e P "ever" 331 (.ref 82)] 3}),
 (80,tu #[.int 1 325,.int 1 326]),
 (81,tu #[.int 1 328,.int 1 329,.int 1 330]),
 (82,tu #[.int 1 332]),
 (83,tu #[.str "down" 337,.str "up" 338,.str "near" 339])]
noncomputable def as_:List Addr:=[3,51,50,58,57,65,64,111,110,118,117,125,124,132,131,139,138,144,143,149,148,156,155,163,162,168,167,175,174,182,181,189,188,196,195,203,202,210,209,217,216,224,223,231,230,236,235,243,242,250,249,257,256,262,261,269,268,274,273,279,278,284,283,2,100,99,97,96,24,23,44,43,41,40,66,67,68,69,70,71,72,73,74,75,76,77,78,79,80,81,82,83]
def hook:Hook:=kHook K as_ (λ_=>rfl)
def xt(s:Shared):Bool:=xlAt view [] s&&recOk (RowW.records (OpenRow.toRowW (OpenLaw.row PySem.Challenge.rw_dosehouse_k09_lines_by_what_stands_above))) s
abbrev sn(s:Shared):=(openSeen view ["BEHIND","CAP_LOWS"] (importedModules p0.main.body) xt true s,hook.obs s)
theorem Lg(w:World):(fencedOpening treeTable p0 w 4278).map (λs=>(topFrom treeTable p0 (w.withFollow "special-get-raises" false) 4278 s).map sn)=some (some (openGood view ["BEHIND","CAP_LOWS"],hook.val (w.withFollow "special-get-raises" false))):=by kernel_rfl
theorem Lh(w:World):(fencedOpening treeTable p0 w 4278).map (λs=>(topFrom treeTable p0 (w.withFollow "special-get-raises" true) 4278 s).map sn)=some (some (openGood view ["BEHIND","CAP_LOWS"],hook.val (w.withFollow "special-get-raises" true))):=by kernel_rfl
theorem left:LeftO p0 view ["BEHIND","CAP_LOWS"] xt hook.obs hook.val 4278:=LeftO.of_split "special-get-raises" λw=>by
 obtain⟨s,a,b⟩:=Gaa.mp (Lg w);obtain⟨s2,a2,b2⟩:=Gaa.mp (Lh w);rw[a] at a2;cases a2
 rw[a];exact congrArg some (Prod.ext b b2)
end
end Hd
namespace DL
open PySem
abbrev Key:=Sum Int Str
set_option genInjectivity true in
inductive D where
 |non
 |bl (b:Bool)
 |int (i:Int)
 |str (x:Str)
 |tup (ds:List D)
 |lst (ds:List D)
 |scr (ns:List Int)
 |exc (C:Nat) (n:Str) (d:D)
 |obj (C:Nat) (ns:List Str) (ds:List D)
 |kid (ds:List D)
 |kt (ks:List Key)
 deriving Inhabited
mutual
@[simp] def D.imm:D->Bool
 | .non=>true
 | .bl _=>true
 | .int _=>true
 | .str _=>true
 | .tup ds=>a7 ds
 | .lst _=>false
 | .scr _=>true
 | .exc _ _ d=>d.imm
 | .obj _ _ _=>false
 | .kid _=>false
 | .kt _=>true
@[simp] def a7:List D->Bool
 |[]=>true
 |d::ds=>d.imm&&a7 ds
end
def D.aQ:D->Bool
 | .lst ds=>a7 ds
 |d=>d.imm
noncomputable def D.top:D->Bool
 | .lst _=>true
 | .obj _ _ _=>true
 |_=>false
noncomputable def aj:Nat:=16777216
set_option genInjectivity true in
inductive Slot where
 |sh (d:D)
 |own (d:D)
 |lok (d:D)
 |bor (d:D)
abbrev Env:=List (Option Slot)
set_option genInjectivity true in
inductive Cls where
 |c|tn|to|tb
 deriving DecidableEq
set_option genInjectivity true in
structure RV where
 k:Cls
 d:D
abbrev SpF:=List D->Option D
abbrev SpX:=List D->Option (D×List D)
abbrev SpV:=List D->Option RV
abbrev DE:=Env->Option RV
abbrev DT:=Env->Option Bool
abbrev DA:=Env->Option (List RV)
abbrev DG:=D->Env->Option Env
set_option genInjectivity true in
inductive Out where
 |nx (e:Env)
 |ret (d:D)
 |bk (e:Env)
 |ct (e:Env)
abbrev DS:=Env->Option Out
def jr(d:D):RV:=⟨if d.top then .tn else .c,d⟩
noncomputable def RV.free(r:RV):Bool:=match r.k with
 | .c=>true
 | .tn=>true
 |_=>false
@[simp] def vE(i:Nat):DE:=λenv=>match env[i]? with
 |some (some (.sh d))=>some ⟨.c,d⟩
 |some (some (.own d))=>some ⟨.to,d⟩
 |some (some (.lok d))=>some ⟨.tb,d⟩
 |some (some (.bor d))=>some ⟨.tb,d⟩
 |_=>none
@[simp] noncomputable def kE(d:D):DE:=λ_=>some ⟨.c,d⟩
@[simp] noncomputable def opE(o:D->D->Option RV)(f g:DE):DE:=λenv=>(f env).bind λx=>(g env).bind λy=>o x.d y.d
@[simp] noncomputable def unE(o:D->Option RV)(f:DE):DE:=λenv=>(f env).bind λx=>o x.d
def o7:D->D->Option RV
 | .int i,.int j=>some ⟨.c,.int (i+j)⟩
 | .str x,.str y=>if x.length+y.length<=aj then some ⟨.c,.str (x++y)⟩ else none
 | .tup x,.tup y=>if x.length+y.length<=aj/\0<x.length then some ⟨.c,.tup (x++y)⟩ else none
 | .lst x,.lst y=>if x.length+y.length<=aj then some ⟨.tn,.lst (x++y)⟩ else none
 |_,_=>none
noncomputable def gV:D->D->Option RV
 | .int i,.int j=>some ⟨.c,.int (i -j)⟩
 |_,_=>none
noncomputable def g8(i j:Int):Bool:=decide (i.natAbs<18446744073709551616)||decide (j.natAbs<18446744073709551616)
def k6:D->D->Option RV
 | .int i,.int j=>if g8 i j then some ⟨.c,.int (i*j)⟩ else none
 |_,_=>none
noncomputable def dP:D->D->Option RV
 | .int i,.int j=>if 0<j then some ⟨.c,.int (i%j)⟩ else none
 |_,_=>none
noncomputable def iS:D->Option RV
 | .int i=>some ⟨.c,.int (-i)⟩
 |_=>none
@[simp] noncomputable def aJ:Nat->D->Bool
 |_,.non=>true
 |_,.bl _=>true
 |_,.int _=>true
 |_,.str _=>true
 |n+1,.tup ds=>ds.all (aJ n)
 |n+1,.lst ds=>ds.all (aJ n)
 |_,_=>false
@[simp] def D.plain(d:D):Bool:=aJ 20 d
mutual
def eqD:D->D->Bool
 | .non,.non=>true
 | .bl a,.bl b=>a==b
 | .bl a,.int b=>(if a then 1 else 0)==b
 | .int a,.bl b=>a==(if b then 1 else 0)
 | .int a,.int b=>a==b
 | .str a,.str b=>a==b
 | .tup a,.tup b=>iE a b
 | .lst a,.lst b=>iE a b
 |_,_=>false
@[simp] def iE:List D->List D->Bool
 |[],[]=>true
 |a::as,b::bs=>eqD a b&&iE as bs
 |_,_=>false
end
@[simp] theorem Nh:eqD .non .non=true:=rfl
@[simp] theorem Oc{a b:Bool}:eqD (.bl a) (.bl b)=(a==b):=rfl
@[simp] theorem Od{a:Bool}{b:Int}:eqD (.bl a) (.int b)=((if a then 1 else 0)==b):=rfl
@[simp] theorem Oe{a:Int}{b:Bool}:eqD (.int a) (.bl b)=(a==(if b then 1 else 0)):=rfl
@[simp] theorem Of{a b:Int}:eqD (.int a) (.int b)=(a==b):=rfl
@[simp] theorem Og{a b:Str}:eqD (.str a) (.str b)=(a==b):=rfl
@[simp] theorem Oh{a b:List D}:eqD (.tup a) (.tup b)=iE a b:=rfl
@[simp] theorem Oi{a b:List D}:eqD (.lst a) (.lst b)=iE a b:=rfl
@[simp] theorem FW{b:Int}:eqD .non (.int b)=false:=rfl
@[simp] theorem FY{a:Int}:eqD (.int a) .non=false:=rfl
@[simp] theorem FZ{a:Int}{b:Str}:eqD (.int a) (.str b)=false:=rfl
@[simp] theorem G0{a:Str}{b:Int}:eqD (.str a) (.int b)=false:=rfl
@[simp] theorem G1{b:Str}:eqD .non (.str b)=false:=rfl
@[simp] theorem G3{a:Str}:eqD (.str a) .non=false:=rfl
@[simp] theorem G4{a:Int}{b:List D}:eqD (.int a) (.tup b)=false:=rfl
@[simp] theorem G5{a:List D}{b:Int}:eqD (.tup a) (.int b)=false:=rfl
@[simp] theorem G6{a:Str}{b:List D}:eqD (.str a) (.tup b)=false:=rfl
@[simp] theorem G7{a:List D}{b:Str}:eqD (.tup a) (.str b)=false:=rfl
@[simp] theorem G8{b:List D}:eqD .non (.tup b)=false:=rfl
@[simp] theorem G9{a:List D}:eqD (.tup a) .non=false:=rfl
@[simp] theorem Hw{b:Bool}:eqD .non (.bl b)=false:=rfl
@[simp] theorem Hx{a:Bool}:eqD (.bl a) .non=false:=rfl
def eqB(x y:D):Option Bool:=if x.plain&&y.plain then some (eqD x y) else none
def neB(x y:D):Option Bool:=if x.plain&&y.plain then some (!eqD x y) else none
noncomputable def aP:D->Bool
 | .non=>true
 |_=>false
def fF(x y:D):Option Bool:=if aP y then some (aP x) else none
def m5(x y:D):Option Bool:=if aP y then some (!aP x) else none
noncomputable def ltB:D->D->Option Bool
 | .int i,.int j=>some (decide (i<j))
 |_,_=>none
noncomputable def leB:D->D->Option Bool
 | .int i,.int j=>some (decide (i<=j))
 |_,_=>none
noncomputable def gtB:D->D->Option Bool
 | .int i,.int j=>some (decide (j<i))
 |_,_=>none
noncomputable def geB:D->D->Option Bool
 | .int i,.int j=>some (decide (j<=i))
 |_,_=>none
@[simp] noncomputable def af(o:D->D->Option Bool)(f g:DE):DT:=λenv=>(f env).bind λx=>(g env).bind λy=>o x.d y.d
@[simp] noncomputable def bE(t:DT):DE:=λenv=>(t env).map λb=> ⟨.c,.bl b⟩
@[simp] noncomputable def fX(f:DE):DT:=λenv=>(f env).bind λx=>match x.d with
 | .bl b=>some b
 |_=>none
@[simp] noncomputable def bc(t u:DT):DT:=λenv=>(t env).bind λb=>if b then u env else some false
@[simp] noncomputable def orT(t u:DT):DT:=λenv=>(t env).bind λb=>if b then some true else u env
@[simp] noncomputable def k7(t:DT):DT:=λenv=>(t env).map (!·)
@[simp] noncomputable def k8(o p:D->D->Option Bool)(f g h:DE):DT:=λenv=>(f env).bind λx=>(g env).bind λy=>(o x.d y.d).bind λb=>if b then(h env).bind λz=>p y.d z.d else some false
@[simp] noncomputable def ifE(t:DT)(f g:DE):DE:=λenv=>(t env).bind λb=>if b then f env else g env
noncomputable def atD{α:Type}(xs:List α)(i:Int):Option α:=if 0<=i then xs[i.toNat]? else if -(xs.length:Int)<=i then xs[(i+xs.length).toNat]? else none
noncomputable def keyOf:D->Option Key
 | .int i=>some (.inl i)
 | .str x=>some (.inr x)
 |_=>none
section
variable{Y:Type} [DecidableEq Y]
def look(kvs:List (Y×D))(k:Y):Option D:=(kvs.find? λkv=>decide (kv.1=k)).map (·.2)
def put(kvs:List (Y×D))(k:Y)(v:D):List (Y×D):=
 if(kvs.any λkv=>decide (kv.1=k))=true then kvs.map (λkv=>if kv.1=k then(kv.1,v) else kv) else kvs++[(k,v)]
end
def ixD:D->D->Option D
 | .lst xs,.int i=>atD xs i
 | .tup xs,.int i=>atD xs i
 | .str x,.int i=>if x.length<=aj then(atD x.cps.toList i).map λc=> .str ⟨#[c]⟩ else none
 | .scr ns,.int i=>(atD ns i).map .int
 |_,_=>none
@[simp] def ixE(f g:DE):DE:=λenv=>(f env).bind λx=>(g env).bind λy=>(ixD x.d y.d).map λd=> ⟨.c,d⟩
@[simp] noncomputable def aD:DA:=λ_=>some []
@[simp] noncomputable def a9(f:DE)(r:DA):DA:=λenv=>(f env).bind λx=>(r env).bind λxs=>some (x::xs)
@[simp] def gW(a:DA):DE:=λenv=>(a env).bind λrs=>if rs.all (·.free)&&decide (rs.length<=aj) then some ⟨.c,.tup (rs.map (·.d))⟩ else none
@[simp] def cy(a:DA):DE:=λenv=>(a env).bind λrs=>if rs.all (·.free)&&decide (rs.length<=aj) then some ⟨.tn,.lst (rs.map (·.d))⟩ else none
@[simp] def bO(sp:SpF)(a:DA):DE:=λenv=>(a env).bind λrs=>(sp (rs.map (·.d))).map jr
@[simp] noncomputable def bw(o:SpV)(a:DA):DE:=λenv=>(a env).bind λrs=>o (rs.map (·.d))
def cM:SpV
 |[.lst xs]=>some ⟨.c,.int xs.length⟩
 |[.tup xs]=>some ⟨.c,.int xs.length⟩
 |[.str x]=>if x.length<=aj then some ⟨.c,.int x.length⟩ else none
 |[.scr ns]=>some ⟨.c,.int ns.length⟩
 |[.kt ks]=>some ⟨.c,.int ks.length⟩
 |_=>none
noncomputable def gL:SpV
 |[.int i,.int j]=>some ⟨.c,.int (if j<i then j else i)⟩
 |_=>none
noncomputable def m6:SpV
 |[.int i,.int j]=>some ⟨.c,.int (if j>i then j else i)⟩
 |_=>none
noncomputable def bF:SpV
 |[.lst xs]=>some ⟨.c,.tup xs⟩
 |[.tup xs]=>some ⟨.c,.tup xs⟩
 |_=>none
noncomputable def listS:SpV
 |[.lst xs]=>some ⟨.tn,.lst xs⟩
 |[.tup xs]=>some ⟨.tn,.lst xs⟩
 |_=>none
@[simp] noncomputable def o8:List D->Option (List Bool)
 |[]=>some []
 | .bl b::ds=>(o8 ds).map (b:: ·)
 |_=>none
@[simp] noncomputable def pq:List D->Option (List Int)
 |[]=>some []
 | .int i::ds=>(pq ds).map (i:: ·)
 |_=>none
def pv:D->Option (List D)
 | .lst xs=>some xs
 | .tup xs=>some xs
 | .scr ns=>some (ns.map .int)
 |_=>none
def one(o:SpV):SpV
 |[d]=>(pv d).bind o
 |_=>none
def qQ:SpV:=one λds=>(o8 ds).map λbs=> ⟨.c,.bl (bs.all id)⟩
def mO:SpV:=one λds=>(pq ds).map λns=> ⟨.c,.int ns.sum⟩
noncomputable def jt(T:String):D->Bool
 | .non=>T=="NoneType"
 | .bl _=>T=="bool"||T=="int"
 | .int _=>T=="int"
 | .str _=>T=="str"
 | .tup _=>T=="tuple"
 | .lst _=>T=="list"
 | .scr _=>T=="list"
 | .exc _ _ _=>false
 | .obj _ _ _=>false
 | .kid _=>false
 | .kt _=>false
noncomputable def ju:D->Bool
 | .scr _=>true
 | .exc _ _ _=>true
 | .obj _ _ _=>true
 | .kid _=>true
 | .kt _=>true
 |_=>false
@[simp] def i6(T:String)(f:DE):DT:=λenv=>(f env).bind λx=>if ju x.d then none else some (jt T x.d)
noncomputable def sIx(n d:Nat):Option Int->Nat
 |none=>d
 |some v=>if v<0 then(v+(n:Int)).toNat else min v.toNat n
def cutD{α:Type}(xs:List α)(lo hi:Option Int):List α:=(xs.drop (sIx xs.length 0 lo)).take (sIx xs.length xs.length hi -sIx xs.length 0 lo)
abbrev DO:=Env->Option (Option Int)
@[simp] noncomputable def noO:DO:=λ_=>some none
@[simp] noncomputable def fG(f:DE):DO:=λenv=>(f env).bind λx=>match x.d with
 | .int i=>some (some i)
 |_=>none
def slD(lo hi:Option Int):D->Option RV
 | .lst xs=>some ⟨.tn,.lst (cutD xs lo hi)⟩
 | .tup xs=>if sIx xs.length 0 lo=0/\sIx xs.length xs.length hi=xs.length then none else some ⟨.c,.tup (cutD xs lo hi)⟩
 | .scr ns=>some ⟨.tn,.lst (cutD (ns.map .int) lo hi)⟩
 |_=>none
@[simp] def slE(f:DE)(lo hi:DO):DE:=λenv=>(f env).bind λx=>(lo env).bind λl=>(hi env).bind λh=>slD l h x.d
@[simp] def gN(i:Nat):DG:=λd env=>some (env.set i (some (.sh d)))
@[simp] def gNs:List Nat->List D->Env->Option Env
 |[],[],env=>some env
 |i::is,d::ds,env=>gNs is ds (env.set i (some (.sh d)))
 |_,_,_=>none
@[simp] def gT(is:List Nat):DG:=λd env=>match d with
 | .tup ds=>gNs is ds env
 |_=>none
@[simp] noncomputable def az:DS:=λenv=>some (.nx env)
@[simp] noncomputable def aX:DS:=λ_=>none
@[simp] noncomputable def aC(f g:DS):DS:=λenv=>(f env).bind λo=>match o with
 | .nx e=>g e
 |o=>some o
def stored(i:Nat)(r:RV)(env:Env):Option Env:=match r.k with
 | .c=>some (env.set i (some (.sh r.d)))
 | .tn=>some (env.set i (some (.own r.d)))
 |_=>none
@[simp] def av(i:Nat)(f:DE):DS:=λenv=>(f env).bind λr=>(stored i r env).map .nx
@[simp] noncomputable def uV(g:DG)(f:DE):DS:=λenv=>(f env).bind λr=>match r.k with
 | .c=>(g r.d env).map .nx
 |_=>none
def pw(r:RV):Bool:=match r.k with
 | .c=>r.d.imm
 | .tn=>r.d.aQ
 | .to=>r.d.aQ
 | .tb=>false
@[simp] def retS(f:DE):DS:=λenv=>(f env).bind λr=>if pw r then some (.ret r.d) else none
@[simp] noncomputable def ifS(t:DT)(f g:DS):DS:=λenv=>(t env).bind λb=>if b then f env else g env
@[simp] noncomputable def forL(g:DG)(body:DS):List D->Env->Option Out
 |[],env=>some (.nx env)
 |d::ds,env=>(g d env).bind λe=>(body e).bind λo=>match o with
  | .nx e=>forL g body ds e
  | .ct e=>forL g body ds e
  | .bk e=>some (.nx e)
  | .ret d=>some (.ret d)
abbrev DI:=Env->Option (List D)
@[simp] noncomputable def aK(l:Option Nat)(env:Env):Env:=match l with
 |none=>env
 |some i=>match env[i]? with
  |some (some (.own d))=>env.set i (some (.lok d))
  |_=>env
@[simp] noncomputable def jv(l:Option Nat)(env:Env):Bool:=match l with
 |none=>false
 |some i=>match env[i]? with
  |some (some (.own _))=>true
  |_=>false
@[simp] noncomputable def de(l:Option Nat)(env:Env):Env:=match l with
 |none=>env
 |some i=>match env[i]? with
  |some (some (.lok d))=>env.set i (some (.own d))
  |_=>env
def freed(l:Option Nat)(b:Bool):Out->Out
 | .nx e=> .nx (if b then de l e else e)
 |o=>o
@[simp] def dY(l:Option Nat)(src:DI)(g:DG)(body:DS):DS:=λenv=>(src (aK l env)).bind λds=>(forL g body ds (aK l env)).map (freed l (jv l env))
@[simp] def m8(f:DE):DI:=λenv=>(f env).bind λr=>if r.k= .to then none else match r.d with
 | .lst xs=>some xs
 | .tup xs=>some xs
 | .scr ns=>some (ns.map .int)
 |_=>none
noncomputable def b0(lo:Int)(n:Nat):List D:=(List.range n).map λ(k:Nat)=> .int (lo+(k:Int))
noncomputable def cu(i:Int):Bool:=decide (-4611686018427387904<=i)&&decide (i<4611686018427387904)
@[simp] def aY(f:DE):DI:=λenv=>(f env).bind λr=>match r.d with
 | .int j=>if cu j then some (b0 0 j.toNat) else none
 |_=>none
@[simp] def jw(f g:DE):DI:=λenv=>(f env).bind λx=>(g env).bind λy=>match x.d,y.d with
 | .int i,.int j=>if cu i&&cu j then some (b0 i (j -i).toNat) else none
 |_,_=>none
@[simp] noncomputable def ownAt(i:Nat)(env:Env):Option D:=match env[i]? with
 |some (some (.own d))=>some d
 |_=>none
@[simp] def aH(i:Nat)(f:DE):DS:=λenv=>(f env).bind λr=>(ownAt i env).bind λd=>match d with
 | .lst xs=>if r.free&&decide (xs.length<aj) then some (.nx (env.set i (some (.own (.lst (xs++[r.d])))))) else none
 |_=>none
@[simp] def cZ(i:Nat)(f:DE):DS:=λenv=>(f env).bind λr=>(ownAt i env).bind λd=>match d,r.d with
 | .lst xs,.lst ys=>if(r.k== .tn)&&decide (xs.length+ys.length<=aj) then some (.nx (env.set i (some (.own (.lst (xs++ys)))))) else none
 |_,_=>none
def lq:Option Slot->Option Slot
 |some (.sh d)=>some (.sh d)
 |some (.own d)=>some (.bor d)
 |some (.lok d)=>some (.bor d)
 |some (.bor d)=>some (.bor d)
 |none=>none
def compEnv(n:Nat)(eA:List Nat)(env:Env):Env:=List.replicate n none++eA.map λi=>lq (env[i]?.getD none)
@[simp] def cV(g:DG)(t:DT)(f:DE):List D->Env->Option (List D)
 |[],_=>some []
 |d::ds,env=>(g d env).bind λe=>(t e).bind λb=>if b then(f e).bind λr=>if r.free then(cV g t f ds e).map (r.d:: ·) else none else cV g t f ds e
@[simp] def bC(l:Option Nat)(n:Nat)(eA:List Nat)(src:DI)(g:DG)(t:DT)(f:DE):DE:=λenv=>(src (aK l env)).bind λds=>if ds.length<=aj then(cV g t f ds (compEnv n eA env)).map λrs=> ⟨.tn,.lst rs⟩ else none
@[simp] noncomputable def bD:DT:=λ_=>some true
@[simp] def i7(n:Nat)(ds:List D):Env:=ds.map (λd=>some (.sh d))++List.replicate (n -ds.length) none
@[simp] def iF(n np:Nat)(body:DS):SpF:=λds=>if ds.length=np then(body (i7 n ds)).bind λo=>match o with
  | .ret d=>some d
  | .nx _=>some .non
  |_=>none
 else none
@[simp] theorem Dl{a b:String}:Str.ofString a=Str.ofString b↔a=b:=by
 constructor
 .intro h;rw[Str.ofString_eq_toList,Str.ofString_eq_toList] at h;have h1:a.toList.map Char.toNat=b.toList.map Char.toNat:=by
   injection h with h
   exact Array.toList_inj.mpr h|>λz=>by simpa using z
  have h2:a.toList=b.toList:=by
   have inj:∀(x y:List Char),x.map Char.toNat=y.map Char.toNat->x=y:=by
    intro x;induction x with
    |nil=>intro y e;cases y with
     |nil=>rfl
     |cons=>simp at e
    |cons c x ih=>intro y e;cases y with
     |nil=>simp at e
     |cons c' y=>
      simp only[Gbn,List.cons.injEq] at e;rw[ih y e.2,Char.toNat_inj.mp e.1]
   exact inj _ _ h1
  exact String.toList_inj.mp h2
 .rintro rfl;rfl
section
variable{i j:Int}{x y:Str}{ds es:List D}{d:D}{env:Env}{n:Nat}
@[simp] theorem Li:o7 (.int i) (.int j)=some ⟨.c,.int (i+j)⟩:=rfl
@[simp] theorem wQ:o7 (.str x) (.str y)=if x.length+y.length<=aj then some ⟨.c,.str (x++y)⟩ else none:=rfl
@[simp] theorem Lj:o7 (.tup ds) (.tup es)=if ds.length+es.length<=aj/\0<ds.length then some ⟨.c,.tup (ds++es)⟩ else none:=rfl
@[simp] theorem Lk:o7 (.lst ds) (.lst es)=if ds.length+es.length<=aj then some ⟨.tn,.lst (ds++es)⟩ else none:=rfl
@[simp] theorem Ll:gV (.int i) (.int j)=some ⟨.c,.int (i -j)⟩:=rfl
@[simp] theorem Lm:k6 (.int i) (.int j)=if g8 i j then some ⟨.c,.int (i*j)⟩ else none:=rfl
@[simp] theorem Ln:dP (.int i) (.int j)=if 0<j then some ⟨.c,.int (i%j)⟩ else none:=rfl
@[simp] theorem Lo:iS (.int i)=some ⟨.c,.int (-i)⟩:=rfl
@[simp] theorem Ni:ltB (.int i) (.int j)=some (decide (i<j)):=rfl
@[simp] theorem Nj:leB (.int i) (.int j)=some (decide (i<=j)):=rfl
@[simp] theorem Nk:gtB (.int i) (.int j)=some (decide (j<i)):=rfl
@[simp] theorem Nl:geB (.int i) (.int j)=some (decide (j<=i)):=rfl
@[simp] theorem Nn:eqB (.int i) (.int j)=some (i==j):=rfl
@[simp] theorem Np:eqB (.str x) (.str y)=some (x==y):=rfl
@[simp] theorem Oj:eqB .non (.int j)=some false:=rfl
@[simp] theorem Ol:eqB (.int j) .non=some false:=rfl
@[simp] theorem Om:eqB .non .non=some true:=rfl
@[simp] theorem Nq:neB (.int i) (.int j)=some (!(i==j)):=rfl
@[simp] theorem Nr:neB (.str x) (.str y)=some (!(x==y)):=rfl
@[simp] theorem Oo:neB .non (.int j)=some true:=rfl
@[simp] theorem Oq:neB (.int j) .non=some true:=rfl
@[simp] theorem Ot:neB .non .non=some false:=rfl
@[simp] theorem Kj:aP .non=true:=rfl
@[simp] theorem Kk:aP (.int i)=false:=rfl
@[simp] theorem Km:aP (.str x)=false:=rfl
@[simp] theorem Lp{b:Bool}:aP (.bl b)=false:=rfl
@[simp] theorem Kn:aP (.tup ds)=false:=rfl
@[simp] theorem Ko:aP (.lst ds)=false:=rfl
@[simp] theorem Lq:fF d .non=some (aP d):=rfl
@[simp] theorem Kp:m5 d .non=some (!aP d):=rfl
@[simp] theorem Lr:cM [.lst ds]=some ⟨.c,.int ds.length⟩:=rfl
@[simp] theorem Ls:cM [.tup ds]=some ⟨.c,.int ds.length⟩:=rfl
@[simp] theorem Lu:cM [.str x]=if x.length<=aj then some ⟨.c,.int x.length⟩ else none:=rfl
@[simp] theorem Lv{ns:List Int}:cM [.scr ns]=some ⟨.c,.int ns.length⟩:=rfl
@[simp] theorem Kq:gL [.int i,.int j]=some ⟨.c,.int (if j<i then j else i)⟩:=rfl
@[simp] theorem Kr:m6 [.int i,.int j]=some ⟨.c,.int (if j>i then j else i)⟩:=rfl
@[simp] theorem Hy:bF [.lst ds]=some ⟨.c,.tup ds⟩:=rfl
@[simp] theorem Hz:bF [.tup ds]=some ⟨.c,.tup ds⟩:=rfl
@[simp] theorem Ks:listS [.lst ds]=some ⟨.tn,.lst ds⟩:=rfl
@[simp] theorem Ku:listS [.tup ds]=some ⟨.tn,.lst ds⟩:=rfl
@[simp] theorem Lw{T:String}:jt T .non=(T=="NoneType"):=rfl
@[simp] theorem Nt{T:String}{b:Bool}:jt T (.bl b)=(T=="bool"||T=="int"):=rfl
@[simp] theorem Lx{T:String}:jt T (.int i)=(T=="int"):=rfl
@[simp] theorem Ly{T:String}:jt T (.str x)=(T=="str"):=rfl
@[simp] theorem Lz{T:String}:jt T (.tup ds)=(T=="tuple"):=rfl
@[simp] theorem LA{T:String}:jt T (.lst ds)=(T=="list"):=rfl
@[simp] theorem Kv:ju .non=false:=rfl
@[simp] theorem LB{b:Bool}:ju (.bl b)=false:=rfl
@[simp] theorem Kw:ju (.int i)=false:=rfl
@[simp] theorem Kx:ju (.str x)=false:=rfl
@[simp] theorem Ky:ju (.tup ds)=false:=rfl
@[simp] theorem Kz:ju (.lst ds)=false:=rfl
@[simp] theorem Nu{lo hi:Option Int}:slD lo hi (.lst ds)=some ⟨.tn,.lst (cutD ds lo hi)⟩:=rfl
@[simp] theorem Nv{lo hi:Option Int}:slD lo hi (.tup ds)=if sIx ds.length 0 lo=0/\sIx ds.length ds.length hi=ds.length then none else some ⟨.c,.tup (cutD ds lo hi)⟩:=rfl
@[simp] theorem Nw{lo hi:Option Int}{ns:List Int}:slD lo hi (.scr ns)=some ⟨.tn,.lst (cutD (ns.map .int) lo hi)⟩:=rfl
@[simp] theorem wR:stored n ⟨.c,d⟩ env=some (env.set n (some (.sh d))):=rfl
@[simp] theorem uW:stored n ⟨.tn,d⟩ env=some (env.set n (some (.own d))):=rfl
@[simp] theorem Nx:pw ⟨.c,d⟩=d.imm:=rfl
@[simp] theorem LC:pw ⟨.tn,d⟩=d.aQ:=rfl
@[simp] theorem LD:pw ⟨.to,d⟩=d.aQ:=rfl
@[simp] theorem KA:(D.lst ds).aQ=a7 ds:=rfl
@[simp] theorem LF:jr .non=⟨.c,.non⟩:=rfl
@[simp] theorem Ny{b:Bool}:jr (.bl b)=⟨.c,.bl b⟩:=rfl
@[simp] theorem LG:jr (.int i)=⟨.c,.int i⟩:=rfl
@[simp] theorem LH:jr (.str x)=⟨.c,.str x⟩:=rfl
@[simp] theorem LI:jr (.tup ds)=⟨.c,.tup ds⟩:=rfl
@[simp] theorem LJ:jr (.lst ds)=⟨.tn,.lst ds⟩:=rfl
@[simp] theorem Ou:RV.free ⟨.c,d⟩=true:=rfl
@[simp] theorem Nz:RV.free ⟨.tn,d⟩=true:=rfl
@[simp] theorem LK{l:Option Nat}{b:Bool}:freed l b (.nx env)= .nx (if b then de l env else env):=rfl
@[simp] theorem KC{l:Option Nat}{b:Bool}:freed l b (.ret d)= .ret d:=rfl
@[simp] theorem KD:keyOf (.int i)=some (.inl i):=rfl
@[simp] theorem KG:keyOf (.str x)=some (.inr x):=rfl
@[simp] theorem jx:ixD (.lst ds) (.int i)=atD ds i:=rfl
@[simp] theorem NA:ixD (.tup ds) (.int i)=atD ds i:=rfl
@[simp] theorem NB{ns:List Int}:ixD (.scr ns) (.int i)=(atD ns i).map .int:=rfl
@[simp] theorem o9:ixD (.str x) (.int i)=if x.length<=aj then(atD x.cps.toList i).map λc=> .str ⟨#[c]⟩ else none:=rfl
theorem sv{α:Type}{xs:List α}{k:Nat}:atD xs (k:Int)=xs[k]? :=by
 unfold atD;rw[Gak (by lia)];simp
@[simp] theorem LL{α:Type}{xs:List α}:atD xs 0=xs[0]? :=rfl
@[simp] theorem OU{α:Type}{xs:List α}:atD xs 1=xs[1]? :=rfl
@[simp] theorem OV{α:Type}{xs:List α}:atD xs 2=xs[2]? :=rfl
@[simp] theorem OW{α:Type}{xs:List α}:atD xs 3=xs[3]? :=rfl
@[simp] theorem OY{α:Type}{xs:List α}:atD xs 4=xs[4]? :=rfl
@[simp] theorem OZ{α:Type}{xs:List α}:atD xs 5=xs[5]? :=rfl
theorem sx{α:Type}{xs:List α}(h:0<=i):atD xs i=xs[i.toNat]? :=by unfold atD;rw[Gak h]
end
open PySem PySem.Spec PyProof.Rows L2
abbrev au:=PySem.W.Frag
abbrev St:=L2.St
def isT:HO->Prop
 | .tup _=>True
 | .frz _ _=>True
 |_=>False
def Kl(K:au)(a:Addr)(xs:List V):Prop:=∃(o:Obj) (eg:Array Value) (n:Nat),K.lookup a=some o/\o.cls= .type "list"/\o.dict=none/\o.data= .seq eg n/\eg.size<=sizeLine/\Vals xs eg.toList
def Kt(K:au)(a:Addr)(ks:List Key):Prop:=∃(o:Obj) (eg:Array Value) (n:Nat),K.lookup a=some o/\o.cls= .type "tuple"/\o.data= .seq eg n/\eg.size<=sizeLine/\Vals (ks.map kV) eg.toList
def Scr(K:au)(H:Hp)(a:Addr)(ns:List Int):Prop:=(∃o,H a=some (.frz o (.lst (ns.map V.int))))\/Kl K a (ns.map V.int)
def Xc(H:Hp)(a:Addr)(C:Nat)(n:Str)(v:V):Prop:=∃dx vs sl od,H a=some (.frz {cls:= .ref C,dict:=some dx,data:= .fields vs,slots:=sl} (.own a))/\H dx=some (.frz od (.xd [(n,v)]))
def Kd(ds:List D)(vs:List V):Prop:=∀(i j:Nat) l g,ds[i]? =some (.kid l)->vs[i]? =some (.ref g)->vs[j]? =some (.ref g)->i=j
inductive Rep (K:au) (F:Addr->Prop) (H:Hp):D->V->Prop where
 |non:Rep K F H .non .non
 |bl (b:Bool):Rep K F H (.bl b) (.bl b)
 |int (i:Int):Rep K F H (.int i) (.int i)
 |str (x:Str):Rep K F H (.str x) (.str x)
 |tup {a:Addr} {vs:List V} {ds:List D} (h:H a=some (.tup vs)) (l:ds.length=vs.length) (r:∀(i:Nat) d v,ds[i]? =some d->vs[i]? =some v->Rep K F H d v):Rep K F H (.tup ds) (.ref a)
 |lst {a:Addr} {vs:List V} {ds:List D} (f:F a) (h:Rd H a (.lst vs)) (l:ds.length=vs.length) (r:∀(i:Nat) d v,ds[i]? =some d->vs[i]? =some v->Rep K F H d v):Rep K F H (.lst ds) (.ref a)
 |scr {a:Addr} {ns:List Int} (h:Scr K H a ns):Rep K F H (.scr ns) (.ref a)
 |kt {a:Addr} {ks:List Key} (h:Kt K a ks):Rep K F H (.kt ks) (.ref a)
 |exc {a:Addr} {C:Nat} {n:Str} {v:V} {d:D} (h:Xc H a C n v) (r:Rep K F H d v):Rep K F H (.exc C n d) (.ref a)
 |obj {a dx C:Addr} {ns:List Str} {vs:List V} {ds:List D} (f:F a) (h:H a=some (.ins C dx (ns.zip vs))) (ln:ns.length=vs.length) (kd:Kd ds vs) (l:ds.length=vs.length) (r:∀(i:Nat) d v,ds[i]? =some d->vs[i]? =some v->Rep K F H d v):Rep K F H (.obj C ns ds) (.ref a)
 |kid {a:Addr} {vs:List V} {ds:List D} (f:F a) (h:H a=some (.lst vs)) (l:ds.length=vs.length) (r:∀(i:Nat) d v,ds[i]? =some d->vs[i]? =some v->Rep K F H d v):Rep K F H (.kid ds) (.ref a)
def aI(K:au)(F:Addr->Prop)(H:Hp)(ds:List D)(vs:List V):Prop:=ds.length=vs.length/\∀(i:Nat) d v,ds[i]? =some d->vs[i]? =some v->Rep K F H d v
inductive Inn (K:au) (F:Addr->Prop) (H:Hp):D->V->Prop where
 |non:Inn K F H .non .non
 |bl (b:Bool):Inn K F H (.bl b) (.bl b)
 |int (i:Int):Inn K F H (.int i) (.int i)
 |str (x:Str):Inn K F H (.str x) (.str x)
 |tup {a:Addr} {vs:List V} {ds:List D} (h:H a=some (.tup vs)) (r:aI K F H ds vs):Inn K F H (.tup ds) (.ref a)
 |lst {a:Addr} {vs:List V} {ds:List D} (h:Rd H a (.lst vs)) (r:aI K F H ds vs):Inn K F H (.lst ds) (.ref a)
 |scr {a:Addr} {ns:List Int} (h:Scr K H a ns):Inn K F H (.scr ns) (.ref a)
 |kt {a:Addr} {ks:List Key} (h:Kt K a ks):Inn K F H (.kt ks) (.ref a)
 |exc {a:Addr} {C:Nat} {n:Str} {v:V} {d:D} (h:Xc H a C n v) (r:Rep K F H d v):Inn K F H (.exc C n d) (.ref a)
 |obj {a dx C:Addr} {ns:List Str} {vs:List V} {ds:List D} (h:H a=some (.ins C dx (ns.zip vs))) (ln:ns.length=vs.length) (kd:Kd ds vs) (r:aI K F H ds vs):Inn K F H (.obj C ns ds) (.ref a)
 |kid {a:Addr} {vs:List V} {ds:List D} (f:F a) (h:H a=some (.lst vs)) (r:aI K F H ds vs):Inn K F H (.kid ds) (.ref a)
section
variable{K:au}{F F' :Addr->Prop}{H H' :Hp}{d:D}{v:V}{ds:List D}{vs:List V}
theorem Rep.inn(h:Rep K F H d v):Inn K F H d v:=by
 cases h with
 |non=>exact .non
 |bl b=>exact .bl b
 |int i=>exact .int i
 |str x=>exact .str x
 |tup h l r=>exact .tup h ⟨l,r⟩
 |lst f h l r=>exact .lst h ⟨l,r⟩
 |scr h=>exact .scr h
 |kt h=>exact .kt h
 |exc h r=>exact .exc h r
 |obj f h ln kd l r=>exact .obj h ln kd ⟨l,r⟩
 |kid f h l r=>exact .kid f h ⟨l,r⟩
theorem Inn.rep(h:Inn K F H d v)(hf:∀a,v= .ref a->d.top=true->F a):Rep K F H d v:=by
 cases h with
 |non=>exact .non
 |bl b=>exact .bl b
 |int i=>exact .int i
 |str x=>exact .str x
 |tup h r=>exact .tup h r.1 r.2
 |lst h r=>exact .lst (hf _ rfl rfl) h r.1 r.2
 |scr h=>exact .scr h
 |kt h=>exact .kt h
 |exc h r=>exact .exc h r
 |obj h ln kd r=>exact .obj (hf _ rfl rfl) h ln kd r.1 r.2
 |kid f h r=>exact .kid f h r.1 r.2
def i8(F:Addr->Prop)(H H' :Hp):Prop:=∀b o,H b=some o->(F b\/isT o)->H' b=some o
theorem i8.of_same(h:aW H H'):i8 F H H' :=λb o e _=>h b o e
theorem i8.tup{a:Addr}(s:i8 F H H')(h:H a=some (.tup vs)):H' a=some (.tup vs):=s _ _ h (.inr trivial)
theorem i8.scr{a:Addr}{ns:List Int}(s:i8 F H H')(h:Scr K H a ns):Scr K H' a ns:=by
 rcases h with⟨o,h⟩|h
 .exact .inl ⟨o,s _ _ h (.inr trivial)⟩
 .exact .inr h
variable{a:Addr}
theorem i8.xc{C:Nat}{n:Str}(s:i8 F H H')(h:Xc H a C n v):Xc H' a C n v:=let⟨dx,vs,sl,od,h1,h2⟩:=h;⟨dx,vs,sl,od,s _ _ h1 (.inr trivial),s _ _ h2 (.inr trivial)⟩
variable{u:HO}
theorem i8.rd(s:i8 F H H')(f:F a)(h:Rd H a u):Rd H' a u:=by
 rcases h with h| ⟨o,h⟩
 .exact .inl (s _ _ h (.inl f))
 .exact .inr ⟨o,s _ _ h (.inl f)⟩
theorem Rd.there(h:Rd H a u):H a≠none:=by
 rcases h with h| ⟨o,h⟩<;>rw[h]<;>simp
theorem Rep.gen(s:i8 F H H')(hF:∀b,F b->H b≠none->F' b)(h:Rep K F H d v):Rep K F' H' d v:=by
 induction h with
 |non=>exact .non
 |bl b=>exact .bl b
 |int i=>exact .int i
 |str x=>exact .str x
 |tup h l r ih=>exact .tup (s.tup h) l ih
 |lst f h l r ih=>exact .lst (hF _ f (Rd.there h)) (s.rd f h) l ih
 |scr h=>exact .scr (s.scr h)
 |kt h=>exact .kt h
 |exc h r ih=>exact .exc (s.xc h) ih
 |obj f h ln kd l r ih=>exact .obj (hF _ f (by rw[h];simp)) (s _ _ h (.inl f)) ln kd l ih
 |kid f h l r ih=>exact .kid (hF _ f (by rw[h];simp)) (s _ _ h (.inl f)) l ih
theorem Rep.same(s:aW H H')(h:Rep K F H d v):Rep K F H' d v:=h.gen (.of_same s) λ_ f _=>f
theorem Rep.imp(hF:∀b,F b->F' b)(h:Rep K F H d v):Rep K F' H d v:=h.gen (.of_same λ_ _ e=>e) λb f _=>hF b f
theorem aI.gen(s:i8 F H H')(hF:∀b,F b->H b≠none->F' b)(h:aI K F H ds vs):aI K F' H' ds vs:=⟨h.1,λi d v e1 e2=>(h.2 i d v e1 e2).gen s hF⟩
theorem Inn.gen(s:i8 F H H')(hF:∀b,F b->H b≠none->F' b)(ht:∀a,v= .ref a->d.top=true->∀o,H a=some o->H' a=some o)(h:Inn K F H d v):Inn K F' H' d v:=by
 have rd:∀{a:Addr} {u:HO},(∀o,H a=some o->H' a=some o)->Rd H a u->Rd H' a u:=λk h=>by
  rcases h with h| ⟨o,h⟩
  .exact .inl (k _ h)
  .exact .inr ⟨o,k _ h⟩
 cases h with
 |non=>exact .non
 |bl b=>exact .bl b
 |int i=>exact .int i
 |str x=>exact .str x
 |tup h r=>exact .tup (s.tup h) (r.gen s hF)
 |lst h r=>exact .lst (rd (ht _ rfl rfl) h) (r.gen s hF)
 |scr h=>exact .scr (s.scr h)
 |kt h=>exact .kt h
 |exc h r=>exact .exc (s.xc h) (r.gen s hF)
 |obj h ln kd r=>exact .obj (ht _ rfl rfl _ h) ln kd (r.gen s hF)
 |kid f h r=>exact .kid (hF _ f (by rw[h];simp)) (s _ _ h (.inl f)) (r.gen s hF)
theorem Inn.same(s:aW H H')(h:Inn K F H d v):Inn K F H' d v:=h.gen (.of_same s) (λ_ f _=>f) λ_ _ _ o e=>s _ o e
theorem Inn.imp(hF:∀b,F b->F' b)(h:Inn K F H d v):Inn K F' H d v:=h.gen (.of_same λ_ _ e=>e) (λb f _=>hF b f) λ_ _ _ _ e=>e
theorem Inn.any(h:Inn K F H d v):Rep K (λ_=>True) H d v:=(h.imp (F' :=λ_=>True) λ_ _=>trivial).rep λ_ _ _=>trivial
theorem jy{ds:List D}(h:a7 ds=true):∀(i:Nat) d,ds[i]? =some d->d.imm=true:=by
 induction ds with
 |nil=>intro i d e;simp at e
 |cons x xs ih=>
  unfold a7 at h;rw[Gad] at h;intro i d e;cases i with
  |zero=>simp at e;subst e;exact h.1
  |succ i=>exact ih h.2 i d (by simpa using e)
theorem Rep.imm(h:Rep K F H d v)(hd:d.imm=true):Rep K F' H d v:=by
 induction h with
 |non=>exact .non
 |bl b=>exact .bl b
 |int i=>exact .int i
 |str x=>exact .str x
 |tup h l r ih=>
  unfold D.imm at hd;exact .tup h l λi d v e1 e2=>ih i d v e1 e2 (jy hd i d e1)
 |lst f h l r ih=>simp[D.imm] at hd
 |scr h=>exact .scr h
 |kt h=>exact .kt h
 |exc h r ih=>
  unfold D.imm at hd;exact .exc h (ih hd)
 |obj f h ln kd l r ih=>simp[D.imm] at hd
 |kid f h l r ih=>simp[D.imm] at hd
theorem Inn.imm(h:Inn K F H d v)(hd:d.imm=true):Rep K F' H d v:=by
 refine Rep.imm (h.rep λa _ ht=> ?_) hd;cases d<;>simp[D.top] at ht<;>simp[D.imm] at hd
theorem aI.nil:aI K F H [] []:=⟨rfl,λi d v e=>by simp at e⟩
theorem aI.dA(h:aI K F H [] vs):vs=[]:=GaF h.1.symm
theorem aI.cons(h:Rep K F H d v)(r:aI K F H ds vs):aI K F H (d::ds) (v::vs):=by
 refine⟨by simp[r.1],λi x u e1 e2=> ?_⟩;cases i with
 |zero=>simp at e1 e2;subst e1;subst e2;exact h
 |succ i=>exact r.2 i x u (by simpa using e1) (by simpa using e2)
theorem aI.cons_inv(h:aI K F H (d::ds) vs):∃v r,vs=v::r/\Rep K F H d v/\aI K F H ds r:=by
 cases vs with
 |nil=>exact absurd h.1 (by simp)
 |cons v r=>exact⟨v,r,rfl,h.2 0 d v rfl rfl,by simpa using h.1,λi x u e1 e2=>h.2 (i+1) x u (by simpa using e1) (by simpa using e2)⟩
theorem aI.append:∀{ds es:List D} {vs us:List V},aI K F H ds vs->aI K F H es us->aI K F H (ds++es) (vs++us)
 |[],es,vs,us,h,r=>by rw[h.dA];exact r
 |d::ds,es,vs,us,h,r=>by
  obtain⟨v,w,rfl,h1,h2⟩:=h.cons_inv;exact .cons h1 (h2.append r)
theorem aI.take(n:Nat)(h:aI K F H ds vs):aI K F H (ds.take n) (vs.take n):=by
 refine⟨by simp[h.1],λi x u e1 e2=> ?_⟩;by_cases hi:i<n
 .rw[List.getElem?_take_of_lt hi] at e1 e2;exact h.2 i x u e1 e2
 .rw[GaS (by simp;lia)] at e1;cases e1
theorem aI.drop(n:Nat)(h:aI K F H ds vs):aI K F H (ds.drop n) (vs.drop n):=by
 refine⟨by simp[h.1],λi x u e1 e2=> ?_⟩;rw[List.getElem?_drop] at e1 e2;exact h.2 _ x u e1 e2
theorem aI.set(h:aI K F H ds vs)(r:Rep K F H d v)(i:Nat):aI K F H (ds.set i d) (vs.set i v):=by
 refine⟨by simp[h.1],λj x u e1 e2=> ?_⟩;by_cases hj:i=j
 .subst hj;have hi:i<ds.length:=by have:=(Gac.mp e1).1;simpa using this
  rw[Gav hi] at e1;rw[Gav (by rw[<-h.1];exact hi)] at e2;cases e1;cases e2;exact r
 .rw[Gab hj] at e1 e2;exact h.2 j x u e1 e2
theorem aI.get{i:Nat}(h:aI K F H ds vs)(e:ds[i]? =some d):∃v,vs[i]? =some v/\Rep K F H d v:=by
 have hi:=(Gac.mp e).1;have xP :i<vs.length:=by rw[<-h.1];exact hi
 exact⟨vs[i],by simp[xP],h.2 i d _ e (by simp[xP])⟩
theorem aI.imm(h:aI K F H ds vs)(hd:a7 ds=true):aI K F' H ds vs:=⟨h.1,λi d v e1 e2=>(h.2 i d v e1 e2).imm (jy hd i d e1)⟩
end
def ba:Option (Option Slot)->Prop
 |some (some (.own _))=>True
 |some (some (.lok _))=>True
 |some (some (.bor _))=>True
 |_=>False
def jz:Option (Option Slot)->Prop
 |some (some (.own _))=>True
 |some (some (.lok _))=>True
 |_=>False
def isO:Option (Option Slot)->Prop
 |some (some (.own _))=>True
 |_=>False
def kX:Option (Option Slot)->Prop
 |some (some (.lok _))=>True
 |some (some (.bor _))=>True
 |_=>False
variable{x:Option (Option Slot)}
theorem n8(h:ba x):isO x\/kX x:=by
 match x,h with
 |some (some (.own _)),_=>exact .inl trivial
 |some (some (.lok _)),_=>exact .inr trivial
 |some (some (.bor _)),_=>exact .inr trivial
theorem kX.top(h:kX x):ba x:=by
 match x,h with
 |some (some (.lok _)),_=>trivial
 |some (some (.bor _)),_=>trivial
theorem isO.ol(h:isO x):jz x:=by
 match x,h with
 |some (some (.own _)),_=>trivial
theorem jz.top(h:jz x):ba x:=by
 match x,h with
 |some (some (.own _)),_=>trivial
 |some (some (.lok _)),_=>trivial
def Cln(e8:Addr->Prop)(env:Env)(Z:St)(a:Addr):Prop:=¬e8 a/\∀i:Nat,ba env[i]? ->Z[i]? ≠some (some (V.ref a))
def isW:HO->Prop
 | .lst _=>True
 | .ins _ _ _=>True
 |_=>False
def Wr(H:Hp)(a:Addr):Prop:=∃o,H a=some o/\isW o
def Ow(env:Env)(Z:St)(a:Addr):Prop:=∃i:Nat,isO env[i]? /\Z[i]? =some (some (.ref a))
structure aA(K:au)(H0:Hp)(e8:Addr->Prop)(env:Env)(Z:St)(H:Hp):Prop where
 same:aW H0 H
 len:env.length=Z.length
 bad:∀a,e8 a->H a≠none
 sh:∀(i:Nat) d,env[i]? =some (some (.sh d))->∃v,Z[i]? =some (some v)/\Rep K (Cln e8 env Z) H d v
 ow:∀(i:Nat) d,(env[i]? =some (some (.own d))\/env[i]? =some (some (.lok d)))->∃a,Z[i]? =some (some (.ref a))/\H0 a=none/\¬e8 a/\Wr H a/\d.top=true/\Inn K (Cln e8 env Z) H d (.ref a)
 bo:∀(i:Nat) d,env[i]? =some (some (.bor d))->∃a,Z[i]? =some (some (.ref a))/\Wr H a/\d.top=true/\Inn K (Cln e8 env Z) H d (.ref a)
 dj:∀(i j:Nat) a,jz env[i]? ->ba env[j]? ->Z[i]? =some (some (.ref a))->Z[j]? =some (some (.ref a))->i=j
structure Stp(env:Env)(Z:St)(H:Hp)(eh :Env)(Z' :St)(H' :Hp):Prop where
 keep:∀b o,H b=some o->¬Ow env Z b->H' b=some o
 ow:∀b,Ow eh Z' b->Ow env Z b\/H b=none
 lk:∀i:Nat,kX eh[i]? ->eh[i]? =env[i]? /\Z'[i]? =Z[i]?
variable{H:Hp}{Z:St}{env:Env}
theorem Stp.refl:Stp env Z H env Z H:=⟨λ_ _ e _=>e,λ_ h=> .inl h,λ_ _=> ⟨rfl,rfl⟩⟩
theorem Stp.of_same{H' :Hp}(s:aW H H'):Stp env Z H env Z H' :=⟨λb o e _=>s b o e,λ_ h=> .inl h,λ_ _=> ⟨rfl,rfl⟩⟩
theorem Stp.trans{e1 e2 e3:Env}{s1 s2 s3:St}{H1 H2 H3:Hp}(a:Stp e1 s1 H1 e2 s2 H2)(b:Stp e2 s2 H2 e3 s3 H3):Stp e1 s1 H1 e3 s3 H3:=by
 refine⟨λc o e n=>b.keep c o (a.keep c o e n) λh=> ?_,λc h=> ?_,λi h=> ?_⟩
 .rcases a.ow c h with q|q
  .exact n q
  .rw[e] at q;cases q
 .rcases b.ow c h with q|q
  .exact a.ow c q
  .by_cases z:Ow e1 s1 c
   .exact .inl z
   .right
    cases e:H1 c with
    |none=>rfl
    |some o=>rw[a.keep c o e z] at q;cases q
 .obtain⟨h1,h2⟩:=b.lk i h;rw[h1] at h;obtain⟨h3,h4⟩:=a.lk i h;exact⟨h1.trans h3,h2.trans h4⟩
section
variable{K:au}{H0 H H' H1:Hp}{e8:Addr->Prop}{env eh :Env}{Z Z' :St}{d:D}{v:V}{a:Addr}{i:Nat}
theorem Wr.same(s:aW H H')(w:Wr H a):Wr H' a:=let⟨o,h1,h2⟩:=w;⟨o,s a o h1,h2⟩
theorem Wr.there(w:Wr H a):H a≠none:=let⟨o,h1,_⟩:=w;by rw[h1];simp
theorem aA.mono(E:aA K H0 e8 env Z H)(s:aW H H'):aA K H0 e8 env Z H' where
 same:=E.same.trans s
 len:=E.len
 bad:=λa h e=>E.bad a h (s.free e)
 sh:=λi d e=>let⟨v,h1,h2⟩:=E.sh i d e;⟨v,h1,h2.same s⟩
 ow:=λi d e=>let⟨a,h1,h2,h3,h4,h5,h6⟩:=E.ow i d e;⟨a,h1,h2,h3,h4.same s,h5,h6.same s⟩
 bo:=λi d e=>let⟨a,h1,h2,h3,h4⟩:=E.bo i d e;⟨a,h1,h2.same s,h3,h4.same s⟩
 dj:=E.dj
theorem aA.iH(E:aA K H0 e8 env Z H)(h:ba env[i]?):∃d a,d.top=true/\Z[i]? =some (some (.ref a))/\Wr H a/\Inn K (Cln e8 env Z) H d (.ref a):=by
 match e:env[i]?,h with
 |some (some (.own d)),_=>obtain⟨a,h1,_,_,h4,h5,h6⟩:=E.ow i d (.inl e);exact⟨d,a,h5,h1,h4,h6⟩
 |some (some (.lok d)),_=>obtain⟨a,h1,_,_,h4,h5,h6⟩:=E.ow i d (.inr e);exact⟨d,a,h5,h1,h4,h6⟩
 |some (some (.bor d)),_=>obtain⟨a,h1,h4,h5,h6⟩:=E.bo i d e;exact⟨d,a,h5,h1,h4,h6⟩
theorem aA.sy(E:aA K H0 e8 env Z H)(h:ba env[i]?)(e:Z[i]? =some (some (.ref a))):Wr H a:=by
 obtain⟨d,b,h1,h2,h3,h4⟩:=E.iH h;rw[e] at h2;cases h2
 exact h3
theorem aA.i9(E:aA K H0 e8 env Z H)(h:ba env[i]?)(e:Z[i]? =some (some (.ref a))):H a≠none:=(E.sy h e).there
theorem aA.iT(E:aA K H0 e8 env Z H)(h:H a=none):Cln e8 env Z a:=⟨λb=>E.bad a b h,λi t e=>E.i9 t e h⟩
def df(K:au)(H0:Hp)(e8:Addr->Prop)(env:Env)(Z:St)(H H' :Hp)(r:RV)(v:V):Prop:=
 match r.k with
 | .c=>Rep K (Cln e8 env Z) H' r.d v
 | .tn=>∃a,v= .ref a/\H a=none/\Wr H' a/\r.d.top=true/\Inn K (λb=>Cln e8 env Z b/\b≠a) H' r.d v
 | .to=>∃a,v= .ref a/\H0 a=none/\Wr H' a/\r.d.top=true/\Inn K (Cln e8 env Z) H' r.d v
 | .tb=>Inn K (Cln e8 env Z) H' r.d v/\∀a,v= .ref a->r.d.top=true->¬Ow env Z a
theorem df.inn{r:RV}(h:df K H0 e8 env Z H H' r v):Inn K (Cln e8 env Z) H' r.d v:=by
 obtain⟨k,d⟩:=r;cases k with
 |c=>exact Rep.inn h
 |tn=>obtain⟨_,_,_,_,_,h⟩:=h;exact h.imp λ_ z=>z.1
 |to=>obtain⟨_,_,_,_,_,h⟩:=h;exact h
 |tb=>exact h.1
theorem df.rep{r:RV}(h:df K H0 e8 env Z H H' r v)(E:aA K H0 e8 env Z H)(hf:r.free=true):Rep K (Cln e8 env Z) H' r.d v:=by
 obtain⟨k,d⟩:=r;cases k with
 |c=>exact h
 |tn=>
  obtain⟨a,e,h1,_,_,h2⟩:=h;exact(h2.imp λ_ z=>z.1).rep λb eb _=>by rw[e] at eb;cases eb;exact E.iT h1
 |to=>simp[RV.free] at hf
 |tb=>simp[RV.free] at hf
theorem df.same{r:RV}{H2:Hp}(h:df K H0 e8 env Z H H' r v)(s:aW H' H2):df K H0 e8 env Z H H2 r v:=by
 obtain⟨k,d⟩:=r;cases k with
 |c=>exact Rep.same s h
 |tn=>obtain⟨a,e,h1,w,t,h2⟩:=h;subst e;exact⟨a,rfl,h1,w.same s,t,h2.same s⟩
 |to=>obtain⟨a,e,h1,w,t,h2⟩:=h;subst e;exact⟨a,rfl,h1,w.same s,t,h2.same s⟩
 |tb=>exact⟨h.1.same s,h.2⟩
theorem df.from{r:RV}(s:aW H H1)(h:df K H0 e8 env Z H1 H' r v):df K H0 e8 env Z H H' r v:=by
 obtain⟨k,d⟩:=r;cases k with
 |c=>exact h
 |tn=>obtain⟨a,e,h1,w,t,h2⟩:=h;exact⟨a,e,s.free h1,w,t,h2⟩
 |to=>exact h
 |tb=>exact h
def n9(K:au)(H0 H' :Hp)(d:D)(v:V):Prop:=
 (d.top=true->∃a,v= .ref a/\H0 a=none/\Wr H' a)/\Inn K (λb=>H0 b=none/\v≠ .ref b) H' d v
theorem n9.rv(E:aA K H0 e8 env Z H)(h:n9 K H H' d v):df K H0 e8 env Z H H' (jr d) v:=by
 obtain⟨h1,h2⟩:=h;unfold jr;by_cases t:d.top=true
 .rw[Gak t];obtain⟨a,e,n,w⟩:=h1 t;subst e;exact⟨a,rfl,n,w,t,h2.imp λb z=> ⟨E.iT z.1,λq=>z.2 (by rw[q])⟩⟩
 .rw[Gam t];exact(h2.imp λb z=>E.iT z.1).rep λ_ _ z=>absurd z t
end
open PySem PySem.Spec PyProof.Rows L2
def tE(X:Cx)(f:DE):TE:=λZ H Q=>∃H0 e8 env r,aA X.K H0 e8 env Z H/\f env=some r/\∀v H',aW H H' ->df X.K H0 e8 env Z H H' r v->Q v H'
def tT(X:Cx)(t:DT):TT:=λZ H Q=>∃H0 e8 env b,aA X.K H0 e8 env Z H/\t env=some b/\∀H',aW H H' ->Q b H'
def tA(X:Cx)(a:DA):TA:=λZ H Q=>∃H0 e8 env rs,aA X.K H0 e8 env Z H/\a env=some rs/\∀vs H',aW H H' ->Paired (df X.K H0 e8 env Z H H') rs vs->Q vs H'
def wU(X:Cx)(H0:Hp)(e8:Addr->Prop)(env:Env)(Z:St)(H:Hp)(E:Ends):Out->Prop
 | .nx e=>∀Z' H',aA X.K H0 e8 e Z' H' ->Stp env Z H e Z' H' ->E.nx Z' H'
 | .bk e=>∀Z' H',aA X.K H0 e8 e Z' H' ->Stp env Z H e Z' H' ->E.bk Z' H'
 | .ct e=>∀Z' H',aA X.K H0 e8 e Z' H' ->Stp env Z H e Z' H' ->E.ct Z' H'
 | .ret d=>∀v H',aW H0 H' ->n9 X.K H0 H' d v->E.rt v H'
def tS(X:Cx)(f:DS):TS:=λE Z H=>∃H0 e8 env o,aA X.K H0 e8 env Z H/\f env=some o/\wU X H0 e8 env Z H E o
def tG(X:Cx)(g:DG):TG:=λv Z H Q=>∃H0 e8 env d eh,aA X.K H0 e8 env Z H/\g d env=some eh /\Rep X.K (Cln e8 env Z) H d v/\∀Z' H',aA X.K H0 e8 eh Z' H' ->Stp env Z H eh Z' H' ->Q Z' H'
abbrev PEd(X:Cx)(e:Expr)(f:DE):Prop:=PE X e (tE X f)
abbrev PTd(X:Cx)(e:Expr)(t:DT):Prop:=PT X e (tT X t)
abbrev PWd(X:Cx)(e:Expr)(t:DT):Prop:=PW X e (tT X t)
abbrev PAd(X:Cx)(es:List Expr)(a:DA):Prop:=PA X es (tA X a)
abbrev PSd(X:Cx)(st:Stmt)(f:DS):Prop:=PS X st (tS X f)
abbrev kY(X:Cx)(st:List Stmt)(f:DS):Prop:=PSs X st (tS X f)
abbrev PGd(X:Cx)(e:Expr)(g:DG):Prop:=PG X e (tG X g)
section
variable{X:Cx}{e a b c:Expr}{f g h:DE}{t u:DT}{pos:Pos}
theorem _root_.L2.PE.aB{t t' :TE}(h:PE X e t')(i:∀Z H Q,t Z H Q->t' Z H Q):PE X e t:=λe7 s Z H Q I q=>h e7 s Z H Q I (i Z H Q q)
variable{t' :TT}
theorem _root_.L2.PT.aB{t:TT}(h:PT X e t')(i:∀Z H Q,t Z H Q->t' Z H Q):PT X e t:=λe7 s Z H Q I q=>h e7 s Z H Q I (i Z H Q q)
theorem _root_.L2.PW.aB{t:TT}(h:PW X e t')(i:∀Z H Q,t Z H Q->t' Z H Q):PW X e t:=λwh e7 s Z H Q I q=>h wh e7 s Z H Q I (i Z H Q q)
theorem _root_.L2.PA.aB{es:List Expr}{t t' :TA}(h:PA X es t')(i:∀Z H Q,t Z H Q->t' Z H Q):PA X es t:=λpos e7 s Z H Q I q=>h pos e7 s Z H Q I (i Z H Q q)
theorem _root_.L2.PS.aB{st:Stmt}{t t' :TS}(h:PS X st t')(i:∀D Z H,t D Z H->t' D Z H):PS X st t:=λe7 s Z H D I q=>h e7 s Z H D I (i D Z H q)
theorem _root_.L2.PSs.aB{st:List Stmt}{t t' :TS}(h:PSs X st t')(i:∀D Z H,t D Z H->t' D Z H):PSs X st t:=λe7 s Z H D I q=>h e7 s Z H D I (i D Z H q)
theorem _root_.L2.PG.aB{t t' :TG}(h:PG X e t')(i:∀v Z H Q,t v Z H Q->t' v Z H Q):PG X e t:=λe7 s Z H v u Q I r q=>h e7 s Z H v u Q I r (i v Z H Q q)
variable{H:Hp}
theorem aU:aW H H:=λ_ _ e=>e
theorem e6{α β:Type}{o:Option α}{k:α->Option β}{y:β}(h:o.bind k=some y):∃x,o=some x/\k x=some y:=Option.bind_eq_some_iff.mp h
variable{x:Str}
theorem wW(i:Nat)(hN:autoParam (X.N[i]? =some x) Za1._auto_1)(hv:Vis X.env.scope x:=by first|exact Or.inl rfl|exact Or.inr (Or.inl rfl)|exact Or.inr (Or.inr rfl))(hd:autoParam ((x==("__debug__":Str))=false) Za2._auto_1)
  (eV:autoParam ((x==("__classdict__":Str))=false) Za2._auto_1):PEd X (.Name x pos) (vE i):=by
 refine(ck hN hv hd eV).aB ?_;rintro Z H Q ⟨H0,e8,env,r,E,e,k⟩;unfold vE at e
 match q:env[i]?,e with
 |some (some (.sh d)),e=>
  cases e;obtain⟨v,h1,h2⟩:=E.sh i d q;exact⟨v,h1,k v H aU h2⟩
 |some (some (.own d)),e=>
  cases e;obtain⟨a,h1,h2,h3,h4,h5,h6⟩:=E.ow i d (.inl q);exact⟨_,h1,k _ H aU ⟨a,rfl,h2,h4,h5,h6⟩⟩
 |some (some (.lok d)),e=>
  cases e;obtain⟨a,h1,h2,h3,h4,h5,h6⟩:=E.ow i d (.inr q);refine⟨_,h1,k _ H aU ⟨h6,λb eb _ ⟨j,ho,hj⟩=> ?_⟩⟩;cases eb;have:=E.dj j i a ho.ol (by rw[q];trivial) hj h1;subst this;rw[q] at ho;exact ho
 |some (some (.bor d)),e=>
  cases e;obtain⟨a,h1,h4,h5,h6⟩:=E.bo i d q;refine⟨_,h1,k _ H aU ⟨h6,λb eb _ ⟨j,ho,hj⟩=> ?_⟩⟩;cases eb;have:=E.dj j i a ho.ol (by rw[q];trivial) hj h1;subst this;rw[q] at ho;exact ho
variable{j:Nat}
theorem wX{i:Int}:PEd X (.Constant (.int i) j pos) (kE (.int i)):=GN.aB λZ H Q ⟨_,_,_,_,_,e,k⟩=>by cases e;exact k _ H aU (.int i)
theorem LM{b:Bool}:PEd X (.Constant (.bool b) j pos) (kE (.bl b)):=KJ.aB λZ H Q ⟨_,_,_,_,_,e,k⟩=>by cases e;exact k _ H aU (.bl b)
theorem HA:PEd X (.Constant .none j pos) (kE .non):=GO.aB λZ H Q ⟨_,_,_,_,_,e,k⟩=>by cases e;exact k _ H aU .non
theorem HB:PEd X (.Constant (.str x) j pos) (kE (.str x)):=GP.aB λZ H Q ⟨_,_,_,_,_,e,k⟩=>by cases e;exact k _ H aU (.str x)
def RvN(K:au)(F:Addr->Prop)(H H' :Hp)(r:RV)(v:V):Prop:=
 match r.k with
 | .c=>Rep K F H' r.d v
 | .tn=>∃a,v= .ref a/\H a=none/\Wr H' a/\r.d.top=true/\Inn K (λb=>F b/\b≠a) H' r.d v
 |_=>False
theorem RvN.ok{K:au}{H0 H1 H' :Hp}{e8:Addr->Prop}{env:Env}{Z:St}{r:RV}{v:V}(h:RvN K (Cln e8 env Z) H1 H' r v)(s:aW H H1):df K H0 e8 env Z H H' r v:=by
 obtain⟨k,d⟩:=r;cases k with
 |c=>exact h
 |tn=>obtain⟨a,e,h1,w,t,h2⟩:=h;exact⟨a,e,s.free h1,w,t,h2⟩
 |to=>exact(show False from h).elim
 |tb=>exact(show False from h).elim
def OpD(X:Cx)(o:D->D->Option RV)(r:R2):Prop:=∀(F:Addr->Prop) (H:Hp) (dx dy:D) (x y:V) (rv:RV) (Q:VK),Inn X.K F H dx x->Inn X.K F H dy y->o dx dy=some rv->
 (∀v H',aW H H' ->RvN X.K F H H' rv v->Q v H')->r x y H Q
theorem sA{op:Operator}{o:D->D->Option RV}{r:R2}(ho:OpR X (binaryOp op) r)(hd:OpD X o r)(ha:PEd X a f)(hb:PEd X b g):PEd X (.BinOp a op b pos) (opE o f g):=by
 refine(KZ ho ha hb).aB ?_;rintro Z H Q ⟨H0,e8,env,rv,E,e,k⟩;obtain⟨x,hx,e⟩:=e6 e;obtain⟨y,hy,e⟩:=e6 e;exact⟨H0,e8,env,x,E,hx,λvx H1 s1 R1=> ⟨H0,e8,env,y,E.mono s1,hy,λvy H2 s2 R2=>hd _ H2 x.d y.d vx vy rv Q (R1.inn.same s2) R2.inn e λv H3 s3 R3=>
  k v H3 (s1.trans (s2.trans s3)) (R3.ok (s1.trans s2))⟩⟩
variable{gi:Int->Int->Int}
theorem HC{o:D->D->Option RV}(h:∀dx dy rv,o dx dy=some rv->∃i j,dx= .int i/\dy= .int j/\rv=⟨.c,.int (gi i j)⟩):OpD X o (rI0 λi j=> .int (gi i j)):=by
 intro F H dx dy x y rv Q ix iy e k;obtain⟨i,j,rfl,rfl,rfl⟩:=h dx dy rv e;cases ix;cases iy
 exact⟨i,j,rfl,rfl,k _ H aU (.int _)⟩
theorem Ga{o:D->D->Option RV}{C:Int->Int->Prop}(h:∀dx dy rv,o dx dy=some rv->∃i j,dx= .int i/\dy= .int j/\C i j/\rv=⟨.c,.int (gi i j)⟩):OpD X o (rI C λi j=> .int (gi i j)):=by
 intro F H dx dy x y rv Q ix iy e k;obtain⟨i,j,rfl,rfl,hc,rfl⟩:=h dx dy rv e;cases ix;cases iy
 exact⟨i,j,rfl,rfl,hc,k _ H aU (.int _)⟩
theorem Dm:OpD X gV (rI0 λi j=> .int (i -j)):=HC λdx dy rv e=>by
 unfold gV at e;split at e
 .cases e;exact⟨_,_,rfl,rfl,rfl⟩
 .cases e
theorem Dn:OpD X k6 (rI CW λi j=> .int (i*j)):=Ga λdx dy rv e=>by
 unfold k6 at e;split at e
 .split at e
  .rename_i i j q;cases e;refine⟨i,j,rfl,rfl, ?_,rfl⟩;unfold g8 at q;rw[GaT] at q;rcases q with q|q
   .left;have:=GaB q;lia
   .right;have:=GaB q;lia
  .cases e
 .cases e
theorem Dp:OpD X dP (rI (λ_ j=>0<j) λi j=> .int (i%j)):=Ga λdx dy rv e=>by
 unfold dP at e;split at e
 .split at e
  .rename_i i j q;cases e;exact⟨i,j,rfl,rfl,q,rfl⟩
  .cases e
 .cases e
def Gb:R2:=λx y H Q=>∃l b xs zs,x= .ref l/\y= .ref b/\Rd H l (.lst xs)/\Rd H b (.lst zs)/\xs.length+zs.length<=sizeLine/\∀p,H p=none->Q (.ref p) (upd H p (.lst (xs++zs)))
theorem Dq:OpR X (binaryOp .Add) Gb:=by
 intro e7 s Z H x y v u Q I rx ry h;obtain⟨l,b,xs,zs,rfl,rfl,hH,hB,hz,q⟩:=h;cases rx;cases ry;obtain⟨z,eg,n,r,e⟩:=(show bu X.prog X.w H s.heap l (.lst xs) from hH.ok I.hok)
 obtain⟨z2,eD,n2,r2,e2⟩:=(show bu X.prog X.w H s.heap b (.lst zs) from hB.ok I.hok)
 have hl:=r.length;have yV:=r2.length;refine PySem.P.add_list e e2 ?_ (by rw[Gag,Gag];lia);have ea:eg.toArray++eD.toArray=(eg++eD).toArray:=by simp
 rw[ea];exact⟨.ref _,_,I.Lf (t' :=s.toks) (r.append r2) (by rw[GaJ];lia),rfl,q _ I.fresh⟩
theorem eG:aj=sizeLine:=by rw[GbQ];rfl
variable{p:Addr}
theorem aV{o:HO}(n:H p=none):aW H (upd H p o):=λb u e=>by rw[ak (aN e n)];exact e
variable{vs:List V}{ds:List D}
theorem cP{K:au}{F:Addr->Prop}(n:H p=none)(r:aI K F H ds vs):Rep K F (upd H p (.tup vs)) (.tup ds) (.ref p):=by
 have r2:=r.gen (F' :=F) (.of_same (aV (o:= .tup vs) n)) λ_ f _=>f;exact .tup aE r2.1 r2.2
theorem dg{K:au}{F:Addr->Prop}(n:H p=none)(r:aI K F H ds vs):Inn K (λb=>F b/\b≠p) (upd H p (.lst vs)) (.lst ds) (.ref p):=
 .lst (.inl aE) (r.gen (F' :=λb=>F b/\b≠p) (.of_same (aV (o:= .lst vs) n)) λb f hb=> ⟨f,λz=>hb (z▸n)⟩)
theorem iU{xs:List V}:Wr (upd H p (.lst xs)) p:=⟨_,aE,trivial⟩
def wY(K:au):R2:=λx y H Q=>rI0 (λi j=> .int (i+j)) x y H Q\/(∃i j,x= .str i/\y= .str j/\i.length+j.length<=sizeLine/\Q (.str (i++j)) H)\/Gb x y H Q\/FT K x y H Q
theorem Dr:OpR X (binaryOp .Add) (wY X.K):=Hb.or (qE.or (Dq.or D9))
theorem aI.ne{K:au}{F:Addr->Prop}(r:aI K F H ds vs):vs=[]↔ds=[]:=by
 constructor
 .intro z;subst z;exact GaF r.1
 .intro z;subst z;exact r.dA
theorem Ds:OpD X o7 (wY X.K):=by
 intro F H dx dy x y rv Q ix iy e k;unfold o7 at e;split at e
 .cases e;cases ix;cases iy
  exact .inl ⟨_,_,rfl,rfl,k _ H aU (.int _)⟩
 .split at e
  .rename_i q;cases e;cases ix;cases iy
   exact .inr (.inl ⟨_,_,rfl,rfl,by rw[<-eG];exact q,k _ H aU (.str _)⟩)
  .cases e
 .split at e
  .rename_i xs ys q;cases e;cases ix with
   |tup hx rx=>
    cases iy with
    |tup hy ry=>
     refine .inr (.inr (.inr ⟨_,_,_,_,rfl,rfl,SqT.of hx,SqT.of hy, ?_, ?_, ?_, ?_⟩))
     .intro z;have:=rx.ne.mp z;subst this;exact absurd q.2 (by simp)
     .rw[<-rx.1,<-ry.1,<-eG];exact q.1
     .intro z;have:=ry.ne.mp z;subst this;refine k _ H aU ?_;rw[Gba];exact .tup hx rx.1 rx.2
     .intro z p n;exact k _ _ (aV n) (cP n (rx.append ry))
  .cases e
 .split at e
  .rename_i xs ys q;cases e;cases ix with
   |lst hx rx=>
    cases iy with
    |lst hy ry=>
     refine .inr (.inr (.inl ⟨_,_,_,_,rfl,rfl,hx,hy,by rw[<-rx.1,<-ry.1,<-eG];exact q,λp n=> ?_⟩));exact k _ _ (aV n) ⟨p,rfl,n,iU,rfl,dg n (rx.append ry)⟩
  .cases e
 .cases e
def UnD(X:Cx)(o:D->Option RV)(r:V->Hp->VK->Prop):Prop:=∀(F:Addr->Prop) (H:Hp) (dx:D) (x:V) (rv:RV) (Q:VK),Inn X.K F H dx x->o dx=some rv->(∀v H',aW H H' ->RvN X.K F H H' rv v->Q v H')->r x H Q
theorem LN{op:UnaryOp}{o:D->Option RV}{r:V->Hp->VK->Prop}(ho:UnR X (unaryOp op) r)(hd:UnD X o r)(ha:PEd X a f):PEd X (.UnaryOp op a pos) (unE o f):=by
 refine(L0 ho ha).aB ?_;rintro Z H Q ⟨H0,e8,env,rv,E,e,k⟩;obtain⟨x,hx,e⟩:=e6 e;exact⟨H0,e8,env,x,E,hx,λvx H1 s1 R1=>hd _ H1 x.d vx rv Q R1.inn e λv H3 s3 R3=>k v H3 (s1.trans s3) (R3.ok s1)⟩
theorem Dt:UnD X iS (rU λi=> .int (-i)):=by
 intro F H dx x rv Q ix e k;unfold iS at e;split at e
 .cases e;cases ix;exact⟨_,rfl,k _ H aU (.int _)⟩
 .cases e
theorem HD(ha:PEd X a f)(hb:PEd X b g):PEd X (.BinOp a .Sub b pos) (opE gV f g):=sA Hc Dm ha hb
theorem HE(ha:PEd X a f)(hb:PEd X b g):PEd X (.BinOp a .Mult b pos) (opE k6 f g):=sA He Dn ha hb
theorem HF(ha:PEd X a f)(hb:PEd X b g):PEd X (.BinOp a .Mod b pos) (opE dP f g):=sA Hg Dp ha hb
theorem wZ(ha:PEd X a f):PEd X (.UnaryOp .USub a pos) (unE iS f):=LN Hh Dt ha
def OpB(X:Cx)(o:D->D->Option Bool)(r:R2):Prop:=∀(F:Addr->Prop) (H:Hp) (dx dy:D) (x y:V) (b:Bool) (Q:VK),Inn X.K F H dx x->Inn X.K F H dy y->o dx dy=some b->Q (.bl b) H->r x y H Q
variable{o:D->D->Option Bool}
theorem HG{op:CmpOp}{r:R2}(ho:OpR X (compareOp op) r)(hd:OpB X o r)(ha:PEd X a f)(hb:PEd X b g)(hm:behindInMarks op b=false):PTd X (.Compare a [op] [b] pos) (af o f g):=by
 refine(D0 ho ha hb hm).aB ?_;rintro Z H Q ⟨H0,e8,env,bb,E,e,k⟩;obtain⟨x,hx,e⟩:=e6 e;obtain⟨y,hy,e⟩:=e6 e;exact⟨H0,e8,env,x,E,hx,λvx H1 s1 R1=> ⟨H0,e8,env,y,E.mono s1,hy,λvy H2 s2 R2=>hd _ H2 x.d y.d vx vy bb _ (R1.inn.same s2) R2.inn e ⟨bb,rfl,k H2 (s1.trans s2)⟩⟩⟩
theorem HH{op:CmpOp}{r:R2}(ho:OpR X (compareOp op) r)(hd:OpB X o r)(ha:PEd X a f)(hb:PEd X b g)(hm:behindInMarks op b=false):PEd X (.Compare a [op] [b] pos) (bE (af o f g)):=by
 refine(CZ ho ha hb hm).aB ?_;rintro Z H Q ⟨H0,e8,env,rv,E,e,k⟩;obtain⟨bb,e',rfl⟩:=Gaa.mp e;clear e;have e:=e';clear e';obtain⟨x,hx,e⟩:=e6 e;obtain⟨y,hy,e⟩:=e6 e;exact⟨H0,e8,env,x,E,hx,λvx H1 s1 R1=> ⟨H0,e8,env,y,E.mono s1,hy,λvy H2 s2 R2=>hd _ H2 x.d y.d vx vy bb _ (R1.inn.same s2) R2.inn e (k _ H2 (s1.trans s2) (.bl bb))⟩⟩
theorem sD{gb:Int->Int->Bool}(h:∀dx dy b,o dx dy=some b->∃i j,dx= .int i/\dy= .int j/\b=gb i j):OpB X o (rI0 λi j=> .bl (gb i j)):=by
 intro F H dx dy x y b Q ix iy e q;obtain⟨i,j,rfl,rfl,rfl⟩:=h dx dy b e;cases ix;cases iy
 exact⟨i,j,rfl,rfl,q⟩
theorem HI:OpB X ltB (rI0 λi j=> .bl (decide (i<j))):=sD λdx dy b e=>by
 unfold ltB at e;split at e<;>cases e;exact⟨_,_,rfl,rfl,rfl⟩
theorem HJ:OpB X leB (rI0 λi j=> .bl (decide (i<=j))):=sD λdx dy b e=>by
 unfold leB at e;split at e<;>cases e;exact⟨_,_,rfl,rfl,rfl⟩
theorem HK:OpB X gtB (rI0 λi j=> .bl (decide (j<i))):=sD λdx dy b e=>by
 unfold gtB at e;split at e<;>cases e;exact⟨_,_,rfl,rfl,rfl⟩
theorem HL:OpB X geB (rI0 λi j=> .bl (decide (j<=i))):=sD λdx dy b e=>by
 unfold geB at e;split at e<;>cases e;exact⟨_,_,rfl,rfl,rfl⟩
theorem ng{K:au}{F:Addr->Prop}{d:D}{x:V}(h:Inn K F H d x):decide (x= .non)=aP d:=by
 cases h<;>simp[aP]
theorem Du:OpB X fF (λx y H Q=>y= .non/\Q (.bl (decide (x= .non))) H):=by
 intro F H dx dy x y b Q ix iy e q;simp only[fF,m5] at e;split at e
 .rename_i h;cases e;cases iy<;>simp[aP] at h
  exact⟨rfl,by rw[ng ix];exact q⟩
 .cases e
theorem A0:OpB X m5 (λx y H Q=>y= .non/\Q (.bl (!decide (x= .non))) H):=by
 intro F H dx dy x y b Q ix iy e q;simp only[fF,m5] at e;split at e
 .rename_i h;cases e;cases iy<;>simp[aP] at h
  exact⟨rfl,by rw[ng ix];exact q⟩
 .cases e
theorem HM(h:PEd X e f)(he:∀whole,isTrue e X.env whole=(do let v<-whole;standAt e.pos;holding [v] (truthy v)):=by intro _;rfl):PTd X e (fX f):=by
 refine(wd h he).aB ?_;rintro Z H Q ⟨H0,e8,env,bb,E,e,k⟩;obtain⟨x,hx,e⟩:=e6 e;split at e
 .rename_i b hb;cases e;refine⟨H0,e8,env,x,E,hx,λvx H1 s1 R1=> ⟨bb, ?_,k H1 s1⟩⟩;have i:=R1.inn;rw[hb] at i;cases i;rfl
 .cases e
theorem pz(h:PEd X e f):PEd X e (bE (fX f)):=by
 refine h.aB ?_;rintro Z H Q ⟨H0,e8,env,rv,E,e,k⟩;obtain⟨bb,e',rfl⟩:=Gaa.mp e;clear e;have e:=e';clear e';obtain⟨x,hx,e⟩:=e6 e;split at e
 .rename_i b hb;cases e;refine⟨H0,e8,env,x,E,hx,λvx H1 s1 R1=>k _ H1 s1 ?_⟩;have i:=R1.inn;rw[hb] at i;cases i;exact .bl _
 .cases e
theorem Dv(ha:PTd X a t):PWd X (.BoolOp .And [a] pos) t:=CT ha
theorem HP(ha:PTd X a t):PWd X (.BoolOp .Or [a] pos) t:=GR ha
theorem HQ{rest:List Expr}(ha:PTd X a t)(hb:PWd X (.BoolOp .And (b::rest) pos) u):PWd X (.BoolOp .And (a::b::rest) pos) (bc t u):=by
 refine(GU ha hb).aB ?_;rintro Z H Q ⟨H0,e8,env,bb,E,e,k⟩;obtain⟨x,hx,e⟩:=e6 e;refine⟨H0,e8,env,x,E,hx,λH1 s1=> ?_⟩;cases x with
 |true=>rw[Gak rfl];rw[Gak rfl] at e;exact⟨H0,e8,env,bb,E.mono s1,e,λH2 s2=>k H2 (s1.trans s2)⟩
 |false=>rw[Gam Gai];rw[Gam Gai] at e;cases e;exact k H1 s1
theorem LO{rest:List Expr}(ha:PTd X a t)(hb:PWd X (.BoolOp .Or (b::rest) pos) u):PWd X (.BoolOp .Or (a::b::rest) pos) (orT t u):=by
 refine(KL ha hb).aB ?_;rintro Z H Q ⟨H0,e8,env,bb,E,e,k⟩;obtain⟨x,hx,e⟩:=e6 e;refine⟨H0,e8,env,x,E,hx,λH1 s1=> ?_⟩;cases x with
 |false=>rw[Gam Gai];rw[Gam Gai] at e;exact⟨H0,e8,env,bb,E.mono s1,e,λH2 s2=>k H2 (s1.trans s2)⟩
 |true=>rw[Gak rfl];rw[Gak rfl] at e;cases e;exact k H1 s1
theorem HR(ha:PTd X a t):PTd X (.UnaryOp .Not a pos) (k7 t):=by
 refine(we ha).aB ?_;rintro Z H Q ⟨H0,e8,env,bb,E,e,k⟩;obtain⟨x,hx,rfl⟩:=Gaa.mp e;exact⟨H0,e8,env,x,E,hx,λH1 s1=>k H1 s1⟩
theorem HS{op:BoolOp}(ha:PEd X a (bE t)):PEd X (.BoolOp op [a] pos) (bE t):=GV ha
theorem HU{rest:List Expr}(ha:PEd X a (bE t))(hb:PEd X (.BoolOp .And (b::rest) pos) (bE u)):PEd X (.BoolOp .And (a::b::rest) pos) (bE (bc t u)):=by
 refine(GW ha hb).aB ?_;rintro Z H Q ⟨H0,e8,env,rv,E,e,k⟩;obtain⟨bb,e',rfl⟩:=Gaa.mp e;clear e;have e:=e';clear e';obtain⟨x,hx,e⟩:=e6 e;refine⟨H0,e8,env,⟨.c,.bl x⟩,E,by unfold bE;rw[hx];rfl,λv H1 s1 R=> ?_⟩;have R' :Inn X.K (Cln e8 env Z) H1 (.bl x) v:=R.inn;cases R';refine⟨x,rfl, ?_⟩;cases x with
 |true=>rw[Gak rfl];rw[Gak rfl] at e;exact⟨H0,e8,env,⟨.c,.bl bb⟩,E.mono s1,by unfold bE;rw[e];rfl,λv2 H2 s2 R2=>k v2 H2 (s1.trans s2) (R2.from s1)⟩
 |false=>rw[Gam Gai];rw[Gam Gai] at e;cases e;exact k _ H1 s1 (.bl false)
theorem LP{rest:List Expr}(ha:PEd X a (bE t))(hb:PEd X (.BoolOp .Or (b::rest) pos) (bE u)):PEd X (.BoolOp .Or (a::b::rest) pos) (bE (orT t u)):=by
 refine(KP ha hb).aB ?_;rintro Z H Q ⟨H0,e8,env,rv,E,e,k⟩;obtain⟨bb,e',rfl⟩:=Gaa.mp e;clear e;have e:=e';clear e';obtain⟨x,hx,e⟩:=e6 e;refine⟨H0,e8,env,⟨.c,.bl x⟩,E,by unfold bE;rw[hx];rfl,λv H1 s1 R=> ?_⟩;have R' :Inn X.K (Cln e8 env Z) H1 (.bl x) v:=R.inn;cases R';refine⟨x,rfl, ?_⟩;cases x with
 |false=>rw[Gam Gai];rw[Gam Gai] at e;exact⟨H0,e8,env,⟨.c,.bl bb⟩,E.mono s1,by unfold bE;rw[e];rfl,λv2 H2 s2 R2=>k v2 H2 (s1.trans s2) (R2.from s1)⟩
 |true=>rw[Gak rfl];rw[Gak rfl] at e;cases e;exact k _ H1 s1 (.bl true)
theorem HV(ha:PEd X a (bE t)):PEd X (.UnaryOp .Not a pos) (bE (k7 t)):=by
 refine(GX ha).aB ?_;rintro Z H Q ⟨H0,e8,env,rv,E,e,k⟩;obtain⟨bb,e',rfl⟩:=Gaa.mp e;clear e;have e:=e';clear e';obtain⟨x,hx,rfl⟩:=Gaa.mp e;refine⟨H0,e8,env,⟨.c,.bl x⟩,E,by unfold bE;rw[hx];rfl,λv H1 s1 R=> ?_⟩;have R' :Inn X.K (Cln e8 env Z) H1 (.bl x) v:=R.inn;cases R';exact⟨x,rfl,k _ H1 s1 (.bl _)⟩
theorem A1(hc:PTd X c t)(ha:PEd X a f)(hb:PEd X b g):PEd X (.IfExp c a b pos) (ifE t f g):=by
 refine(wg hc ha hb).aB ?_;rintro Z H Q ⟨H0,e8,env,rv,E,e,k⟩;obtain⟨x,hx,e⟩:=e6 e;refine⟨H0,e8,env,x,E,hx,λH1 s1=> ?_⟩;cases x with
 |true=>rw[Gak rfl];rw[Gak rfl] at e;exact⟨H0,e8,env,rv,E.mono s1,e,λv H2 s2 R=>k v H2 (s1.trans s2) (R.from s1)⟩
 |false=>rw[Gam Gai];rw[Gam Gai] at e;exact⟨H0,e8,env,rv,E.mono s1,e,λv H2 s2 R=>k v H2 (s1.trans s2) (R.from s1)⟩
theorem A2{op xB :CmpOp}{p:D->D->Option Bool}{r r' :R2}(ho:OpR X (compareOp op) r)(hd:OpB X o r)(xD :OpR X (compareOp xB) r')(xb :OpB X p r')(ha:PEd X a f)(hb:PEd X b g)(hc:PEd X c h)
  (hm:lastMarks [op,xB] [b,c]=false:=by with_unfolding_all rfl):PTd X (.Compare a [op,xB] [b,c] pos) (k8 o p f g h):=by
 refine(wx ho xD ha hb hc hm).aB ?_;rintro Z H Q ⟨H0,e8,env,bb,E,e,k⟩;obtain⟨x,hx,e⟩:=e6 e;obtain⟨y,hy,e⟩:=e6 e;obtain⟨b1,h1,e⟩:=e6 e;refine⟨H0,e8,env,x,E,hx,λvx H1 s1 R1=> ⟨H0,e8,env,y,E.mono s1,hy,λvy H2 s2 R2=>hd _ H2 x.d y.d vx vy b1 _ (R1.inn.same s2) R2.inn h1 ⟨b1,rfl, ?_⟩⟩⟩;cases b1 with
 |true=>
  rw[Gak rfl];rw[Gak rfl] at e
  obtain⟨z,hz,e⟩:=e6 e;exact⟨H0,e8,env,z,(E.mono s1).mono s2,hz,λvz H3 s3 R3=>xb _ H3 y.d z.d vy vz bb _ (R2.inn.same s3) R3.inn e ⟨bb,rfl,k H3 (s1.trans (s2.trans s3))⟩⟩
 |false=>
  rw[Gam Gai];rw[Gam Gai] at e;cases e
  exact⟨false,rfl,k H2 (s1.trans s2)⟩
end
open PySem PySem.Spec PyProof.Rows L2
section
variable{X:Cx}{e a b c:Expr}{f g h:DE}{t u:DT}{pos:Pos}
variable{H:Hp}
theorem Scr.sq{K:au}{a:Addr}{ns:List Int}(h:Scr K H a ns):SqL K H a (ns.map V.int):=by
 rcases h with⟨o,h⟩|h
 .exact .inl (.inr ⟨o,h⟩)
 .exact .inr h
variable{d:D}{vs:List V}
theorem A3{K:au}{F:Addr->Prop}{ds:List D}{i:Int}(r:aI K F H ds vs)(e:atD ds i=some d):∃v,atI vs i=some v/\Rep K F H d v:=by
 unfold atD at e;unfold atI ixN;rw[<-r.1];split at e
 .rename_i h0;obtain⟨v,h1,h2⟩:=r.get e;have hi:=(Gac.mp e).1;refine⟨v, ?_,h2⟩;rw[Gak h0,Gak (by lia)];exact h1
 .rename_i h0;split at e
  .rename_i h1;obtain⟨v,h2,h3⟩:=r.get e;refine⟨v, ?_,h3⟩;rw[Gam h0,Gak h1];exact h2
  .cases e
theorem sF(hu:X.A.units+1<cLine)(ha:PEd X a f)(hb:PEd X b g)(hs:lj b:=by exactλ_ _=>rfl):PEd X (.Subscript a b pos) (ixE f g):=by
 refine(FU wI ha hb hs).aB ?_;rintro Z H Q ⟨H0,e8,env,rv,E,e,k⟩;obtain⟨x,hx,e⟩:=e6 e;obtain⟨y,hy,e⟩:=e6 e;obtain⟨d,e',rfl⟩:=Gaa.mp e;clear e;have e:=e';clear e';refine⟨H0,e8,env,x,E,hx,λvx H1 s1 R1=> ⟨H0,e8,env,y,E.mono s1,hy,λvy H2 s2 R2=> ?_⟩⟩;have ix:=R1.inn.same s2;have iy:=R2.inn;have fin:∀v,Rep X.K (Cln e8 env Z) H2 d v->Q v H2:=λv r=>k v H2 (s1.trans s2) r;generalize x.d=dx at ix e;generalize y.d=dy at iy e;unfold ixD at e;split at e
 .cases iy;cases ix with
  |lst h r=>
   obtain⟨v,h1,h2⟩:=A3 r e;exact .inl ⟨_,_,_,v,rfl,rfl,.inl h,h1,fin v h2⟩
 .cases iy;cases ix with
  |tup h r=>
   obtain⟨v,h1,h2⟩:=A3 r e;exact .inr (.inl ⟨_,_,_,v,rfl,rfl,SqT.of h,h1,fin v h2⟩)
 .split at e
  .rename_i hz;obtain⟨ch,e',rfl⟩:=Gaa.mp e;clear e;have e:=e';clear e';cases iy;cases ix
   refine .inr (.inr ⟨_,_,ch,rfl,rfl,by rw[<-eG];exact hz, ?_,fin _ (.str _)⟩);unfold atD at e;unfold atI ixN;split at e
   .rename_i h0;have hi:=(Gac.mp e).1;rw[Gak h0,Gak (by lia)];exact e
   .rename_i h0;split at e
    .rename_i h1;rw[Gam h0,Gak h1];exact e
    .cases e
  .cases e
 .obtain⟨n,e',rfl⟩:=Gaa.mp e;clear e;have e:=e';clear e';cases iy;cases ix with
  |scr h=>
   refine .inl ⟨_,_,_,.int n,rfl,rfl,h.sq, ?_,fin _ (.int n)⟩;unfold atD at e;unfold atI ixN;rw[Gax];split at e
   .rename_i h0;have hi:=(Gac.mp e).1;rw[Gak h0,Gak (by lia)];show(List.map V.int _)[_]? =_;rw[Gaw,e];rfl
   .rename_i h0;split at e
    .rename_i h1;rw[Gam h0,Gak h1];show(List.map V.int _)[_]? =_;rw[Gaw,e];rfl
    .cases e
 .cases e
theorem dh:PAd X [] aD:=by
 refine gu.aB ?_;rintro Z H Q ⟨H0,e8,env,rs,E,e,k⟩;cases e;exact k [] H aU .nil
variable{rs:List RV}{Z:St}{env:Env}{H0 H' :Hp}
theorem pA{K:au}{H1:Hp}{e8:Addr->Prop}(s:aW H H1)(p:Paired (df K H0 e8 env Z H1 H') rs vs):Paired (df K H0 e8 env Z H H') rs vs:=L2.Paired.NP p λ_ _ h=>h.from s
variable{es:List Expr}
theorem bQ{r:DA}(ha:PEd X e f)(hr:PAd X es r)(hs:autoParam (starEach (e::es) X.env=(false,eval e X.env)::starEach es X.env) Za1._auto_1):PAd X (e::es) (a9 f r):=by
 refine(cN ha hr hs).aB ?_;rintro Z H Q ⟨H0,e8,env,rs,E,e,k⟩;obtain⟨x,hx,e⟩:=e6 e;obtain⟨xs,zO,e⟩:=e6 e;cases e;exact⟨H0,e8,env,x,E,hx,λvx H1 s1 R1=> ⟨H0,e8,env,xs,E.mono s1,zO,λvs H2 s2 Rs=>k _ H2 (s1.trans s2) (.cons (R1.same s2) (pA s1 Rs))⟩⟩
theorem ni{K:au}{e8:Addr->Prop}(E:aA K H0 e8 env Z H)(p:Paired (df K H0 e8 env Z H H') rs vs):rs.all (·.free)=true->aI K (Cln e8 env Z) H' (rs.map (·.d)) vs:=by
 induction p with
 |nil=>exactλ_=>aI.nil
 |cons h t ih=>
  intro f;rw[Gbo,Gad] at f;exact aI.cons (h.rep E f.1) (ih f.2)
theorem HW{r:DA}{j:Nat}(ha:PAd X es r):PEd X (.Tuple es j pos) (gW r):=by
 refine(wC ha).aB ?_;rintro Z H Q ⟨H0,e8,env,rv,E,e,k⟩;obtain⟨rs,hr,e⟩:=e6 e;split at e
 .rename_i q;rw[Gad] at q;cases e;refine⟨H0,e8,env,rs,E,hr,λvs H1 s1 Rs=> ?_⟩;have rep:=ni E Rs q.1;refine⟨by rw[<-rep.1,Gax,<-eG];exact GaB q.2,λp n=> ?_⟩;exact k _ _ (s1.trans (aV n)) (cP n rep)
 .cases e
theorem HX{r:DA}(ha:PAd X es r):PEd X (.List es pos) (cy r):=by
 refine(qL ha).aB ?_;rintro Z H Q ⟨H0,e8,env,rv,E,e,k⟩;obtain⟨rs,hr,e⟩:=e6 e;split at e
 .rename_i q;rw[Gad] at q;cases e;refine⟨H0,e8,env,rs,E,hr,λvs H1 s1 Rs=> ?_⟩;have rep:=ni E Rs q.1;refine⟨by rw[<-rep.1,Gax,<-eG];exact GaB q.2,λp n=> ?_⟩;exact k _ _ (s1.trans (aV n)) ⟨p,rfl,s1.free n,iU,rfl,dg n rep⟩
 .cases e
noncomputable def spD(K:au)(np:Nat)(sp:SpF):Sp:=λvs H Q _=>∃ds d,ds.length=np/\aI K (λ_=>True) H ds vs/\sp ds=some d/\∀v H',aW H H' ->n9 K H H' d v->Q v H'
theorem uX{K:au}{e8:Addr->Prop}(p:Paired (df K H0 e8 env Z H H') rs vs):aI K (λ_=>True) H' (rs.map (·.d)) vs:=by
 induction p with
 |nil=>exact aI.nil
 |cons h t ih=>exact aI.cons h.inn.any ih
variable{p:Pos}{x:Str}
theorem Dw{CX:CXT}{k:Nat}{fa:Addr}{fd:FuncData}{ps:List Str}{np:Nat}{sp:SpF}{r:DA}{E:XK}(F:bH X.prog X.w X.K X.mg X.base CX k fa fd ps (spD X.K np sp))(hr:bP k X.A)(hg:Gl X x)
  (hm:X.mg x=some (.ref fa))(hk:PySem.W.keepIn X.K (.ref fa)=true)(hb:Binds X.K fd ps [])(hx:Passes CX X E)(ha:PAd X (e::es) r)(hl:∀env rs,r env=some rs->rs.length=np)
  (hV:autoParam ((x==("__debug__":Str))=false) Za2._auto_1)(he:autoParam (starEach (e::es) X.env=(false,eval e X.env)::starEach es X.env) Za1._auto_1)(hR:autoParam ((backTo pos (starEach es X.env)).any (·.1)=false) Za1._auto_1):
  PEd X (.Call (.Name x p) (e::es) [] pos) (bO sp r):=by
 refine(sg (dvs:=[]) F hr hg hm hk hb .nil hx ha hV he hR).aB ?_;rintro Z H Q ⟨H0,e8,env,rv,E,e,k⟩;obtain⟨rs,xI,e⟩:=e6 e;obtain⟨d,hd,rfl⟩:=Gaa.mp e;refine⟨H0,e8,env,rs,E,xI,λvs H1 s1 Rs=> ⟨rs.map (·.d),d,by rw[Gax];exact hl env rs xI, ?_,hd,λv H2 s2 R2=>k v H2 (s1.trans s2) ((R2.rv (E.mono s1)).from s1)⟩⟩;rw[Gba];exact uX Rs
def CallD(X:Cx)(o:SpV)(r:List V->Hp->VK->Prop):Prop:=∀(F:Addr->Prop) (H:Hp) (ds:List D) (vs:List V) (rv:RV) (Q:VK),Paired (Inn X.K F H) ds vs->o ds=some rv->(∀v H',aW H H' ->RvN X.K F H H' rv v->Q v H')->r vs H Q
theorem m9{K:au}{e8:Addr->Prop}(p:Paired (df K H0 e8 env Z H H') rs vs):Paired (Inn K (Cln e8 env Z) H') (rs.map (·.d)) vs:=by
 induction p with
 |nil=>exact .nil
 |cons h t ih=>exact .cons h.inn ih
variable{ra:DA}{o:SpV}
theorem ma{id:String}{r:List V->Hp->VK->Prop}(hc:cY X (.builtin id) r)(hd:CallD X o r)(hg:Gl X x)(hm:X.mg x=none)(hv:bootBuiltins x=some (.builtin id))(ha:PAd X (e::es) ra)
  (hn:autoParam (x≠"__name__") Za2._auto_1)(hV:autoParam ((x==("__debug__":Str))=false) Za2._auto_1)(he:autoParam (starEach (e::es) X.env=(false,eval e X.env)::starEach es X.env) Za1._auto_1)(hR:autoParam ((backTo pos (starEach es X.env)).any (·.1)=false) Za1._auto_1):
  PEd X (.Call (.Name x p) (e::es) [] pos) (bw o ra):=by
 refine(pd hc hg hm hv ha hn hV he hR).aB ?_;rintro Z H Q ⟨H0,e8,env,rv,E,e,k⟩;obtain⟨rs,xI,e⟩:=e6 e;exact⟨H0,e8,env,rs,E,xI,λvs H1 s1 Rs=>hd _ H1 _ vs rv Q (m9 Rs) e λv H2 s2 R2=>k v H2 (s1.trans s2) (R2.ok s1)⟩
theorem jA{T:String}{r:List V->Hp->VK->Prop}(hc:cY X (.type T) r)(hd:CallD X o r)(hg:Gl X x)(hm:X.mg x=none)(hv:bootBuiltins x=some (.type T))(ha:PAd X (e::es) ra)
  (hn:autoParam (x≠"__name__") Za2._auto_1)(hV:autoParam ((x==("__debug__":Str))=false) Za2._auto_1)(he:autoParam (starEach (e::es) X.env=(false,eval e X.env)::starEach es X.env) Za1._auto_1)(hR:autoParam ((backTo pos (starEach es X.env)).any (·.1)=false) Za1._auto_1):
  PEd X (.Call (.Name x p) (e::es) [] pos) (bw o ra):=by
 refine(uR hc hg hm hv ha hn hV he hR).aB ?_;rintro Z H Q ⟨H0,e8,env,rv,E,e,k⟩;obtain⟨rs,xI,e⟩:=e6 e;exact⟨H0,e8,env,rs,E,xI,λvs H1 s1 Rs=>hd _ H1 _ vs rv Q (m9 Rs) e λv H2 s2 R2=>k v H2 (s1.trans s2) (R2.ok s1)⟩
theorem bT{R:D->V->Prop}(h:Paired R [d] vs):∃v,vs=[v]/\R d v:=by
 cases h with
 |cons h t=>cases t;exact⟨_,rfl,h⟩
theorem sG{R:D->V->Prop}{d2:D}(h:Paired R [d,d2] vs):∃v w,vs=[v,w]/\R d v/\R d2 w:=by
 cases h with
 |cons h t=>cases t with
  |cons h2 t=>cases t;exact⟨_,_,rfl,h,h2⟩
theorem uY:CallD X cM (λxs H Q=>∃x n,xs=[x]/\L7 X.K x H n/\Q (.int n) H):=by
 intro F H ds vs rv Q ps e k;unfold cM at e;split at e
 .cases e;obtain⟨v,rfl,i⟩:=bT ps;cases i with
  |lst h r=>exact⟨_,_,rfl,.inl ⟨_,.inl h,r.1⟩,k _ H aU (.int _)⟩
 .cases e;obtain⟨v,rfl,i⟩:=bT ps;cases i with
  |tup h r=>exact⟨_,_,rfl,.inr ⟨_,SqT.of h,r.1⟩,k _ H aU (.int _)⟩
 .split at e
  .rename_i q;cases e;obtain⟨v,rfl,i⟩:=bT ps;cases i;exact⟨_,_,rfl,⟨by rw[<-eG];exact q,rfl⟩,k _ H aU (.int _)⟩
  .cases e
 .cases e;obtain⟨v,rfl,i⟩:=bT ps;cases i with
  |scr h=>exact⟨_,_,rfl,.inl ⟨_,h.sq,by simp⟩,k _ H aU (.int _)⟩
 .cases e;obtain⟨v,rfl,i⟩:=bT ps;cases i with
  |kt h=>exact⟨_,_,rfl,.inr ⟨_,.inr h,by simp⟩,k _ H aU (.int _)⟩
 .cases e
theorem qR:CallD X gL (λxs H Q=>∃i j,xs=[.int i,.int j]/\Q (.int (if j<i then j else i)) H):=by
 intro F H ds vs rv Q ps e k;unfold gL at e;split at e
 .cases e;obtain⟨v,w,rfl,i1,i2⟩:=sG ps;cases i1;cases i2
  exact⟨_,_,rfl,k _ H aU (.int _)⟩
 .cases e
theorem qS:CallD X m6 (λxs H Q=>∃i j,xs=[.int i,.int j]/\Q (.int (if j>i then j else i)) H):=by
 intro F H ds vs rv Q ps e k;unfold m6 at e;split at e
 .cases e;obtain⟨v,w,rfl,i1,i2⟩:=sG ps;cases i1;cases i2
  exact⟨_,_,rfl,k _ H aU (.int _)⟩
 .cases e
theorem pB:CallD X bF (λxs H Q=>∃p ys,xs=[.ref p]/\((SqL X.K H p ys/\∀l,H l=none->Q (.ref l) (upd H l (.tup ys)))\/(SqT X.K H p ys/\Q (.ref p) H))):=by
 intro F H ds vs rv Q ps e k;unfold bF at e;split at e
 .cases e;obtain⟨v,rfl,i⟩:=bT ps;cases i with
  |lst h r=>
   refine⟨_,_,rfl,.inl ⟨.inl h,λl n=> ?_⟩⟩;exact k _ _ (aV n) (cP n r)
 .cases e;obtain⟨v,rfl,i⟩:=bT ps;cases i with
  |tup h r=>exact⟨_,_,rfl,.inr ⟨SqT.of h,k _ H aU (.tup h r.1 r.2)⟩⟩
 .cases e
theorem qT:CallD X listS (λxs H Q=>∃p ys,xs=[.ref p]/\(SqL X.K H p ys\/SqT X.K H p ys)/\∀l,H l=none->Q (.ref l) (upd H l (.lst ys))):=by
 intro F H ds vs rv Q ps e k;unfold listS at e;split at e
 .cases e;obtain⟨v,rfl,i⟩:=bT ps;cases i with
  |lst h r=>
   refine⟨_,_,rfl,.inl (.inl h),λl n=> ?_⟩;exact k _ _ (aV n) ⟨l,rfl,n,iU,rfl,dg n r⟩
 .cases e;obtain⟨v,rfl,i⟩:=bT ps;cases i with
  |tup h r=>
   refine⟨_,_,rfl,.inr (SqT.of h),λl n=> ?_⟩;exact k _ _ (aV n) ⟨l,rfl,n,iU,rfl,dg n r⟩
 .cases e
end
open PySem PySem.Spec PyProof.Rows L2
section
variable{K:au}{H0 H H' :Hp}{e8:Addr->Prop}{env eh :Env}{Z Z' :St}{d:D}{v:V}{a:Addr}{i:Nat}
variable{j:Nat}
theorem eB{α:Type}{l:List α}{i:Nat}{x y:α}(e:(l.set i x)[j]? =some y):(i=j/\y=x)\/(i≠j/\l[j]? =some y):=by
 by_cases h:i=j
 .subst h;have hi:i<l.length:=by have:=(Gac.mp e).1;simpa using this
  rw[Gav hi] at e;cases e;exact .inl ⟨rfl,rfl⟩
 .rw[Gab h] at e;exact .inr ⟨h,e⟩
theorem set_same{α:Type}{l:List α}{i:Nat}{x:α}(e:l[i]? =some x):l.set i x=l:=by
 apply List.ext_getElem?;intro j;by_cases h:i=j
 .subst h;rw[Gav (Gac.mp e).1,e]
 .rw[Gab h]
theorem b9{α:Type}{l:List α}{i:Nat}{x:α}(h:i<l.length):(l.set i x)[i]? =some x:=Gav h
theorem dZ(h:ba (env.set i (some (.sh d)))[j]?):i≠j/\ba env[j]? :=by
 by_cases q:i=j
 .subst q;by_cases z:i<env.length
  .rw[b9 z] at h;exact h.elim
  .rw[GaS (by simpa using Nat.le_of_not_lt z)] at h;exact h.elim
 .rw[Gab q] at h;exact⟨q,h⟩
theorem aA.fH(E:aA K H0 e8 env Z H)(r:Rep K (Cln e8 env Z) H d v):aA K H0 e8 (env.set i (some (.sh d))) (Z.set i (some v)) H:=by
 have cln:∀b,Cln e8 env Z b->Cln e8 (env.set i (some (.sh d))) (Z.set i (some v)) b:=λb ⟨h1,h2⟩=> ⟨h1,λj t e=>by
  obtain⟨q,t⟩:=dZ t;rw[Gab q] at e;exact h2 j t e⟩
 refine⟨E.same,by simp[E.len],E.bad,λj dj e=> ?_,λj dj e=> ?_,λj dj e=> ?_,λj k b t1 t2 e1 e2=> ?_⟩
 .rcases eB e with⟨q,e⟩| ⟨q,e⟩
  .cases e;subst q;have hi:i<env.length:=by have:=(Gac.mp e);simpa using this.1
   exact⟨v,b9 (by rw[<-E.len];exact hi),r.imp cln⟩
  .obtain⟨w,h1,h2⟩:=E.sh j dj e;exact⟨w,by rw[Gab q];exact h1,h2.imp cln⟩
 .have e' :i≠j/\(env[j]? =some (some (.own dj))\/env[j]? =some (some (.lok dj))):=by
   rcases e with e|e
   .rcases eB e with⟨q,e⟩| ⟨q,e⟩
    .cases e
    .exact⟨q,.inl e⟩
   .rcases eB e with⟨q,e⟩| ⟨q,e⟩
    .cases e
    .exact⟨q,.inr e⟩
  obtain⟨b,h1,h2,h3,h4,h5,h6⟩:=E.ow j dj e'.2;exact⟨b,by rw[Gab e'.1];exact h1,h2,h3,h4,h5,h6.imp cln⟩
 .rcases eB e with⟨q,e⟩| ⟨q,e⟩
  .cases e
  .obtain⟨b,h1,hw,h2,h3⟩:=E.bo j dj e;exact⟨b,by rw[Gab q];exact h1,hw,h2,h3.imp cln⟩
 .obtain⟨q1,yQ⟩:=dZ t1.top;obtain⟨q2,t2⟩:=dZ t2;rw[Gab q1] at e1 t1;rw[Gab q2] at e2;exact E.dj j k b t1 t2 e1 e2
theorem Stp.fH:Stp env Z H (env.set i (some (.sh d))) (Z.set i (some v)) H:=⟨λ_ _ e _=>e,λb ⟨j,h,e⟩=>by
 have h' :ba (env.set i (some (.sh d)))[j]? :=h.ol.top;obtain⟨q,_⟩:=dZ h';rw[Gab q] at h e;exact .inl ⟨j,h,e⟩,λj h=>by
 obtain⟨q,_⟩:=dZ h.top;rw[Gab q,Gab q];exact⟨rfl,rfl⟩⟩
theorem fJ(h:ba (env.set i (some (.own d)))[j]?)(hi:i<env.length):i=j\/(i≠j/\ba env[j]?):=by
 by_cases q:i=j
 .exact .inl q
 .rw[Gab q] at h;exact .inr ⟨q,h⟩
theorem aA.A4(E:aA K H0 e8 env Z H)(hi:i<env.length)(n0:H0 a=none)(nb:¬e8 a)(w:Wr H' a)(t:d.top=true)(s:aW H0 H')(bd:∀b,e8 b->H' b≠none)
  (ne:∀j b,j≠i->ba env[j]? ->Z[j]? =some (some (.ref b))->b≠a/\H' b=H b)
  (inn:Inn K (Cln e8 (env.set i (some (.own d))) (Z.set i (some (.ref a)))) H' d (.ref a))
  (cln:∀b,Cln e8 env Z b->H b≠none->Cln e8 (env.set i (some (.own d))) (Z.set i (some (.ref a))) b)
  (fW:i8 (Cln e8 env Z) H H'):
  aA K H0 e8 (env.set i (some (.own d))) (Z.set i (some (.ref a))) H' :=by
 have keep:∀{j:Nat} {b:Addr} {dj:D},j≠i->ba env[j]? ->Z[j]? =some (some (.ref b))->Inn K (Cln e8 env Z) H dj (.ref b)->Inn K (Cln e8 (env.set i (some (.own d))) (Z.set i (some (.ref a)))) H' dj (.ref b):=λ{j b dj} hj tj ej h=>
  h.gen fW cln λb' eb _ o e=>by cases eb;rw[(ne j b hj tj ej).2];exact e
 refine⟨s,by simp[E.len],bd,λj dj e=> ?_,λj dj e=> ?_,λj dj e=> ?_,λj k b t1 t2 e1 e2=> ?_⟩
 .rcases eB e with⟨q,e⟩| ⟨q,e⟩
  .cases e
  .obtain⟨u,h1,h2⟩:=E.sh j dj e;exact⟨u,by rw[Gab q];exact h1,h2.gen fW cln⟩
 .have e' :(i=j/\dj=d)\/(i≠j/\(env[j]? =some (some (.own dj))\/env[j]? =some (some (.lok dj)))):=by
   rcases e with e|e
   .rcases eB e with⟨q,e⟩| ⟨q,e⟩
    .cases e;exact .inl ⟨q,rfl⟩
    .exact .inr ⟨q,.inl e⟩
   .rcases eB e with⟨q,e⟩| ⟨q,e⟩
    .cases e
    .exact .inr ⟨q,.inr e⟩
  rcases e' with⟨q,rfl⟩| ⟨q,e'⟩
  .subst q;exact⟨a,b9 (by rw[<-E.len];exact hi),n0,nb,w,t,inn⟩
  .obtain⟨b,h1,h2,h3,h4,h5,h6⟩:=E.ow j dj e';have tj:ba env[j]? :=by rcases e' with e' |e' <;>rw[e']<;>trivial
   refine⟨b,by rw[Gab q];exact h1,h2,h3, ?_,h5,keep (GaG q) tj h1 h6⟩;unfold Wr;rw[(ne j b (GaG q) tj h1).2];exact h4
 .rcases eB e with⟨q,e⟩| ⟨q,e⟩
  .cases e
  .obtain⟨b,h1,hw,h2,h3⟩:=E.bo j dj e;have tj:ba env[j]? :=by rw[e];trivial
   refine⟨b,by rw[Gab q];exact h1, ?_,h2,keep (GaG q) tj h1 h3⟩;unfold Wr;rw[(ne j b (GaG q) tj h1).2];exact hw
 .rcases fJ t1.top hi with q1| ⟨q1,yQ⟩
  .rcases fJ t2 hi with q2| ⟨q2,zf⟩
   .rw[<-q1,<-q2]
   .subst q1;rw[b9 (by rw[<-E.len];exact hi)] at e1;cases e1;rw[Gab q2] at e2;exact absurd rfl (ne k a (GaG q2) zf e2).1
  .rcases fJ t2 hi with q2| ⟨q2,zf⟩
   .subst q2;rw[b9 (by rw[<-E.len];exact hi)] at e2;cases e2;rw[Gab q1] at e1;exact absurd rfl (ne j a (GaG q1) yQ e1).1
   .rw[Gab q1] at e1 t1;rw[Gab q2] at e2;exact E.dj j k b t1 zf e1 e2
theorem pC(hi:i<env.length)(hs:env.length=Z.length){b:Addr}(h:Cln e8 env Z b)(hb:b≠a):Cln e8 (env.set i (some (.own d))) (Z.set i (some (.ref a))) b:=⟨h.1,λj t e=>by
 rcases fJ t hi with q| ⟨q,t⟩
 .subst q;rw[b9 (by rw[<-hs];exact hi)] at e;cases e;exact hb rfl
 .rw[Gab q] at e;exact h.2 j t e⟩
theorem aA.k9(E:aA K H0 e8 env Z H)(s:aW H H')(hi:i<env.length)(n:H a=none)(w:Wr H' a)(t:d.top=true)(yX:Inn K (λb=>Cln e8 env Z b/\b≠a) H' d (.ref a)):
  aA K H0 e8 (env.set i (some (.own d))) (Z.set i (some (.ref a))) H' :=by
 have cln:∀b,Cln e8 env Z b->b≠a->Cln e8 (env.set i (some (.own d))) (Z.set i (some (.ref a))) b:=λb h hb=>pC hi E.len h hb;have cln' :∀b,Cln e8 env Z b->H b≠none->Cln e8 (env.set i (some (.own d))) (Z.set i (some (.ref a))) b:=λb h hb=>cln b h λz=>hb (z▸n);refine E.A4 (H' :=H') hi (E.same.free n) (λb=>E.bad a b n) w t (E.same.trans s) (λb h e=>E.bad b h (s.free e)) (λj b hj tj ej=> ?_) (yX.imp λb h=>cln b h.1 h.2) cln' (.of_same s);have hb:=E.i9 tj ej;refine⟨λz=>hb (z▸n), ?_⟩;cases q:H b with
 |none=>exact absurd q hb
 |some o=>exact s b o q
theorem Stp.k9(s:aW H H')(hi:i<env.length)(hs:env.length=Z.length)(n:H a=none):Stp env Z H (env.set i (some (.own d))) (Z.set i (some (.ref a))) H' :=⟨λb o e _=>s b o e,λb ⟨j,h,e⟩=>by
 by_cases q:i=j
 .subst q;rw[b9 (by rw[<-hs];exact hi)] at e;cases e;exact .inr n
 .rw[Gab q] at h e;exact .inl ⟨j,h,e⟩,λj h=>by
 by_cases q:i=j
 .subst q;rw[b9 hi] at h;exact h.elim
 .rw[Gab q,Gab q];exact⟨rfl,rfl⟩⟩
theorem aA.change{d' :D}{o:HO}(E:aA K H0 e8 env Z H)(e:env[i]? =some (some (.own d)))(ea:Z[i]? =some (some (.ref a)))(wo:isW o)(t:d'.top=true)
  (inn:Inn K (Cln e8 env Z) (upd H a o) d' (.ref a)):aA K H0 e8 (env.set i (some (.own d'))) Z (upd H a o)/\Stp env Z H (env.set i (some (.own d'))) Z (upd H a o):=by
 have hi:i<env.length:=(Gac.mp e).1;obtain⟨a',h1,h2,h3,h4,h5,h6⟩:=E.ow i d (.inl e);rw[ea] at h1;cases h1
 have hZ:Z.set i (some (.ref a))=Z:=set_same ea;have eY:∀j,ba (env.set i (some (.own d')))[j]? ↔ba env[j]? :=λj=>by
  by_cases q:i=j
  .subst q;rw[b9 hi,e];exact⟨λ_=>trivial,λ_=>trivial⟩
  .rw[Gab q]
 have clnE:∀b,Cln e8 env Z b->Cln e8 (env.set i (some (.own d'))) Z b:=λb h=> ⟨h.1,λj tj ej=>h.2 j ((eY j).mp tj) ej⟩;have ca:∀b,Cln e8 env Z b->b≠a:=λb h z=>by subst z;exact h.2 i (by rw[e];trivial) ea
 have fW:i8 (Cln e8 env Z) H (upd H a o):=λb x hb q=>by
  have:b≠a:=by
   rintro rfl;rcases q with q|q
   .exact ca b q rfl
   .obtain⟨y,hy,wy⟩:=h4;rw[hb] at hy;cases hy
    cases x<;>simp[isT] at q<;>exact wy
  rw[ak this];exact hb
 have keepA:∀b x,H b=some x->b≠a->(upd H a o) b=some x:=λb x hb hn=>by rw[ak hn];exact hb
 refine⟨?_,⟨λb x hb n=>keepA b x hb λz=>n ⟨i,by rw[e];trivial,by rw[z];exact ea⟩,λb ⟨j,h,ej⟩=> .inl ?_,λj h=> ?_⟩⟩
 .have:=E.A4 (H' :=upd H a o) (a:=a) (d:=d') hi h2 h3 ⟨o,aE,wo⟩ t (λb x hb=>keepA b x (E.same b x hb) λz=>by rw[z,h2] at hb;cases hb)
   (λb hb z=>by
    by_cases q:b=a
    .subst q;rw[aE] at z;cases z
    .rw[ak q] at z;exact E.bad b hb z)
   (λj b hj tj ej=>by
    have:b≠a:=by rintro rfl;exact hj (E.dj i j b (by rw[e];trivial) tj ea ej).symm
    exact⟨this,by rw[ak this]⟩)
   (by rw[hZ];exact inn.imp clnE) (λb h _=>by rw[hZ];exact clnE b h) fW
  rw[hZ] at this;exact this
 .by_cases q:i=j
  .subst q;exact⟨i,by rw[e];trivial,ej⟩
  .rw[Gab q] at h;exact⟨j,h,ej⟩
 .by_cases q:i=j
  .subst q;rw[b9 hi] at h;exact h.elim
  .rw[Gab q];exact⟨rfl,rfl⟩
end
open PySem PySem.Spec PyProof.Rows L2
section
variable{X:Cx}{e a b c:Expr}{f g h:DE}{t u:DT}{pos:Pos}{st:Stmt}{rest:List Stmt}{s1 s2:DS}
theorem A5:kY X [] az:=by
 refine CU.aB ?_;rintro D Z H ⟨H0,e8,env,o,E,e,k⟩;cases e;exact k Z H E .refl
theorem Dx(h1:PSd X st s1)(h2:kY X rest s2):kY X (st::rest) (aC s1 s2):=by
 refine(lJ h1 h2).aB ?_;rintro D Z H ⟨H0,e8,env,o,E,e,k⟩;obtain⟨o1,h1,e⟩:=e6 e;refine⟨H0,e8,env,o1,E,h1, ?_⟩;cases o1 with
 |nx e1=>
  intro Z1 H1 E1 p1;refine⟨H0,e8,e1,o,E1,e, ?_⟩;cases o with
  |nx e2=>exactλZ2 H2 E2 p2=>k Z2 H2 E2 (p1.trans p2)
  |bk e2=>exactλZ2 H2 E2 p2=>k Z2 H2 E2 (p1.trans p2)
  |ct e2=>exactλZ2 H2 E2 p2=>k Z2 H2 E2 (p1.trans p2)
  |ret d=>exact k
 |bk e1=>cases e;exact k
 |ct e1=>cases e;exact k
 |ret d=>cases e;exact k
theorem A6(h1:PSd X st s1):kY X [st] s1:=nR h1
theorem A7:PSd X st aX:=λ_ _ _ _ _ _ ⟨_,_,_,_,_,e,_⟩=>by cases e
variable{d:D}{H0 H' :Hp}
theorem Dy{K:au}{F:Addr->Prop}{v:V}(i:Inn K F H' d v)(hd:d.imm=true):n9 K H0 H' d v:=by
 refine⟨λt=> ?_,(i.imm hd).inn⟩;cases d<;>simp[D.top] at t<;>simp[D.imm] at hd
theorem sI{K:au}{F:Addr->Prop}{a:Addr}(i:Inn K F H' d (.ref a))(hd:d.aQ=true)(n:H0 a=none)(w:Wr H' a):n9 K H0 H' d (.ref a):=by
 refine⟨λ_=> ⟨a,rfl,n,w⟩, ?_⟩;cases i with
 |tup h r=>exact(Inn.imm (.tup h r) (by exact hd)).inn
 |scr h=>exact .scr h
 |kt h=>exact .kt h
 |exc h r=>exact(Inn.imm (.exc h r) (by exact hd)).inn
 |obj h ln kd r=>simp[D.aQ,D.imm] at hd
 |kid f h r=>simp[D.aQ,D.imm] at hd
 |lst h r=>exact .lst h (r.imm hd)
theorem A8(he:PEd X e f):PSd X (.Return (some e) pos) (retS f):=by
 refine(nS he).aB ?_;rintro D Z H ⟨H0,e8,env,o,E,e,k⟩;obtain⟨r,hr,e⟩:=e6 e;split at e
 .rename_i ok;cases e;refine⟨H0,e8,env,r,E,hr,λv H1 s1 R=>k v H1 (E.same.trans s1) ?_⟩;obtain⟨kd,d⟩:=r;cases kd with
  |c=>exact Dy R.inn ok
  |tn=>
   have ii:=R.inn;obtain⟨a,rfl,n,w,t,i⟩:=R;exact sI ii ok (E.same.free n) w
  |to=>
   have ii:=R.inn;obtain⟨a,rfl,n,w,t,i⟩:=R;exact sI ii ok n w
  |tb=>exact absurd (show false=true from ok) Gai
 .cases e
theorem LQ{xs ys:List Stmt}(hc:PTd X c t)(ha:kY X xs s1)(hb:kY X ys s2):PSd X (.If c xs ys pos) (ifS t s1 s2):=by
 refine(wj hc ha hb).aB ?_;rintro D Z H ⟨H0,e8,env,o,E,e,k⟩;obtain⟨x,hx,e⟩:=e6 e;refine⟨H0,e8,env,x,E,hx,λH1 s1=> ?_⟩;have st:Stp env Z H env Z H1:= .of_same s1;have fin:∀{s:DS},s env=some o->tS X s D Z H1:=λ{s} e=> ⟨H0,e8,env,o,E.mono s1,e,by
  cases o with
  |nx e2=>exactλZ2 H2 E2 p2=>k Z2 H2 E2 (st.trans p2)
  |bk e2=>exactλZ2 H2 E2 p2=>k Z2 H2 E2 (st.trans p2)
  |ct e2=>exactλZ2 H2 E2 p2=>k Z2 H2 E2 (st.trans p2)
  |ret d=>exact k⟩
 dsimp only;cases x with
 |true=>rw[Gak rfl];rw[Gak rfl] at e;exact fin e
 |false=>rw[Gam Gai];rw[Gam Gai] at e;exact fin e
variable{x:Str}{i:Nat}{H:Hp}{Z:St}{env:Env}
theorem A9{X:Cx}{e8:Addr->Prop}(E:aA X.K H0 e8 env Z H)(hl:Z.length=X.N.length)(hi:X.N[i]? =some x):i<env.length:=by
 rw[E.len,hl];exact(Gac.mp hi).1
theorem qU{pos' :Pos}(hN:X.N.Nodup)(hi:X.N[i]? =some x)(hx:Loc X.env.scope x)(he:PEd X e f)(hs:autoParam (swapsWith e (some (.Name x pos')) pos.line X.env=pure false) Za1._auto_1)
  (hf:autoParam (X.fn x=true\/X.env.scope.names.lookup x=some .local) Za3._auto_1):PSd X (.Assign [.Name x pos'] e pos) (av i f):=by
 intro e7 s Z H D I hw;have hl:=I.len;refine(qA hN hi hx he hs hf) e7 s Z H D I ?_;obtain⟨H0,e8,env,o,E,e,k⟩:=hw;obtain⟨r,hr,e⟩:=e6 e;obtain⟨e',xw,rfl⟩:=Gaa.mp e;have hie:i<env.length:=A9 E hl hi;refine⟨H0,e8,env,r,E,hr,λv H1 s1 R=> ?_⟩;have st:Stp env Z H env Z H1:= .of_same s1;obtain⟨kd,d⟩:=r;unfold stored at xw;cases kd with
 |c=>
  cases xw;exact k _ H1 ((E.mono s1).fH R) (st.trans .fH)
 |tn=>
  cases xw;obtain⟨a,rfl,n,w,t,i⟩:=R;exact k _ H1 (E.k9 s1 hie n w t i) (.k9 s1 hie E.len n)
 |to=>cases xw
 |tb=>cases xw
def Aa(K:au)(F N:Addr->Prop)(J:It)(ds:List D)(H1:Hp):Prop:=
 ∀Hi:Hp,(∀b o,H1 b=some o->N b->Hi b=some o)->(∀(i:Nat) d,ds[i]? =some d->J.go i Hi/\∀x H2,J.yld i Hi x H2->aW Hi H2/\Rep K F H2 d x)/\J.stop ds.length Hi
def tI(X:Cx)(src:DI):TI:=λZ H R=>∃H0 e8 env ds,aA X.K H0 e8 env Z H/\src env=some ds/\∀J H',aW H H' ->Aa X.K (λb=>Cln e8 env Z b/\H' b≠none) (λb=>¬Ow env Z b) J ds H' ->R J H'
abbrev PId(X:Cx)(tg iter:Expr)(src:DI):Prop:=PI X tg iter (tI X src)
theorem _root_.L2.PI.aB{tg iter:Expr}{w w' :TI}(h:PI X tg iter w')(i:∀Z H R,w Z H R->w' Z H R):PI X tg iter w:=λe7 s Z H R I q=>h e7 s Z H R I (i Z H R q)
theorem aA.lock{K:au}{e8:Addr->Prop}(E:aA K H0 e8 env Z H)(l:Option Nat):aA K H0 e8 (aK l env) Z H/\(∀b,Ow (aK l env) Z b->Ow env Z b)/\∀i:Nat,ba (aK l env)[i]? ↔ba env[i]? :=by
 cases l with
 |none=>exact⟨E,λ_ h=>h,λ_=>Iff.rfl⟩
 |some j=>
  unfold aK;dsimp only;split
  .rename_i d q;have hj:j<env.length:=(Gac.mp q).1;have eY:∀i,ba (env.set j (some (.lok d)))[i]? ↔ba env[i]? :=λi=>by
    by_cases z:j=i
    .subst z;rw[b9 hj,q];exact⟨λ_=>trivial,λ_=>trivial⟩
    .rw[Gab z]
   have cln:∀b,Cln e8 env Z b->Cln e8 (env.set j (some (.lok d))) Z b:=λb h=> ⟨h.1,λi t e=>h.2 i ((eY i).mp t) e⟩;refine⟨⟨E.same,by simpa using E.len,E.bad,λi di e=> ?_,λi di e=> ?_,λi di e=> ?_,λi k b t1 t2 e1 e2=> ?_⟩,λb ⟨i,h,e⟩=> ?_,eY⟩
   .rcases eB e with⟨z,e⟩| ⟨z,e⟩
    .cases e
    .obtain⟨v,h1,h2⟩:=E.sh i di e;exact⟨v,h1,h2.imp cln⟩
   .have e' :env[i]? =some (some (.own di))\/env[i]? =some (some (.lok di)):=by
     rcases e with e|e
     .rcases eB e with⟨z,e⟩| ⟨z,e⟩
      .cases e
      .exact .inl e
     .rcases eB e with⟨z,e⟩| ⟨z,e⟩
      .cases e;subst z;exact .inl q
      .exact .inr e
    obtain⟨b,h1,h2,h3,h4,h5,h6⟩:=E.ow i di e';exact⟨b,h1,h2,h3,h4,h5,h6.imp cln⟩
   .rcases eB e with⟨z,e⟩| ⟨z,e⟩
    .cases e
    .obtain⟨b,h1,hw,h2,h3⟩:=E.bo i di e;exact⟨b,h1,hw,h2,h3.imp cln⟩
   .have yQ :jz env[i]? :=by
     by_cases z:j=i
     .subst z;rw[q];trivial
     .rw[Gab z] at t1;exact t1
    exact E.dj i k b yQ ((eY k).mp t2) e1 e2
   .by_cases z:j=i
    .subst z;rw[b9 hj] at h;exact h.elim
    .rw[Gab z] at h;exact⟨i,h,e⟩
  .exact⟨E,λ_ h=>h,λ_=>Iff.rfl⟩
theorem aA.free{K:au}{e8:Addr->Prop}(E:aA K H0 e8 env Z H)(l:Option Nat):aA K H0 e8 (de l env) Z H:=by
 cases l with
 |none=>exact E
 |some j=>
  unfold de;dsimp only;split
  .rename_i d q;have hj:j<env.length:=(Gac.mp q).1;have eY:∀i,ba (env.set j (some (.own d)))[i]? ↔ba env[i]? :=λi=>by
    by_cases z:j=i
    .subst z;rw[b9 hj,q];exact⟨λ_=>trivial,λ_=>trivial⟩
    .rw[Gab z]
   have cln:∀b,Cln e8 env Z b->Cln e8 (env.set j (some (.own d))) Z b:=λb h=> ⟨h.1,λi t e=>h.2 i ((eY i).mp t) e⟩;refine⟨E.same,by simpa using E.len,E.bad,λi di e=> ?_,λi di e=> ?_,λi di e=> ?_,λi k b t1 t2 e1 e2=> ?_⟩
   .rcases eB e with⟨z,e⟩| ⟨z,e⟩
    .cases e
    .obtain⟨v,h1,h2⟩:=E.sh i di e;exact⟨v,h1,h2.imp cln⟩
   .have e' :env[i]? =some (some (.own di))\/env[i]? =some (some (.lok di)):=by
     rcases e with e|e
     .rcases eB e with⟨z,e⟩| ⟨z,e⟩
      .cases e;subst z;exact .inr q
      .exact .inl e
     .rcases eB e with⟨z,e⟩| ⟨z,e⟩
      .cases e
      .exact .inr e
    obtain⟨b,h1,h2,h3,h4,h5,h6⟩:=E.ow i di e';exact⟨b,h1,h2,h3,h4,h5,h6.imp cln⟩
   .rcases eB e with⟨z,e⟩| ⟨z,e⟩
    .cases e
    .obtain⟨b,h1,hw,h2,h3⟩:=E.bo i di e;exact⟨b,h1,hw,h2,h3.imp cln⟩
   .have yQ :jz env[i]? :=by
     by_cases z:j=i
     .subst z;rw[q];trivial
     .rw[Gab z] at t1;exact t1
    exact E.dj i k b yQ ((eY k).mp t2) e1 e2
  .exact E
end
open PySem PySem.Spec PyProof.Rows L2
section
variable{X:Cx}{e a b c:Expr}{f g h:DE}{t u:DT}{pos:Pos}{st:Stmt}{rest:List Stmt}{s1 s2:DS}
variable{i:Nat}{l:Option Nat}{env:Env}
theorem pD(h:∀j,l=some j->j≠i):(aK l env)[i]? =env[i]? :=by
 unfold aK;split
 .rfl
 .rename_i j;split
  .rw[Gab (h j rfl)]
  .rfl
variable{H:Hp}{Z:St}
theorem Stp.loop{xo:Env}{ZN:St}{HN:Hp}(p:Stp (aK l env) Z H xo ZN HN)(lo:∀b,Ow (aK l env) Z b->Ow env Z b):Stp env Z H (if jv l env then de l xo else xo) ZN HN:=by
 have same:jv l env=false->aK l env=env:=λh=>by
  unfold jv at h;unfold aK;split at h
  .rfl
  .split at h
   .cases h
   .rfl
 cases ho:jv l env with
 |false=>
  rw[Gam Gai];rw[same ho] at p;exact p
 |true=>
  rw[Gak rfl];unfold jv at ho;split at ho
  .cases ho
  .rename_i j;split at ho
   .rename_i d q;have hj:j<env.length:=(Gac.mp q).1;have lockj:(aK (some j) env)[j]? =some (some (.lok d)):=by unfold aK;simp only[q];exact b9 hj
    have other:∀i,j≠i->(aK (some j) env)[i]? =env[i]? :=λi hi=>pD λk e=>by cases e;exact hi
    refine⟨λb o e n=>p.keep b o e λz=>n (lo b z),λb ⟨i,h,e⟩=> ?_,λi h=> ?_⟩
    .by_cases z:j=i
     .subst z;unfold de at h;dsimp only at h;split at h
      .rename_i d' q';obtain⟨h1,h2⟩:=p.lk j (by rw[q'];trivial);rw[h2] at e;exact .inl ⟨j,by rw[q];trivial,e⟩
      .rcases p.ow b ⟨j,h,e⟩ with w|w
       .exact .inl (lo b w)
       .exact .inr w
     .have h' :isO xo[i]? :=by
       unfold de at h;dsimp only at h;split at h
       .rw[Gab z] at h;exact h
       .exact h
      rcases p.ow b ⟨i,h',e⟩ with w|w
      .exact .inl (lo b w)
      .exact .inr w
    .by_cases z:j=i
     .subst z;unfold de at h⊢;dsimp only at h⊢;split at h
      .rename_i d' q';have y4 :j<xo.length:=(Gac.mp q').1;rw[b9 y4] at h;exact h.elim
      .rename_i q';obtain⟨h1,_⟩:=p.lk j h;rw[lockj] at h1;exact absurd h1 (q' d)
     .have hN:(de (some j) xo)[i]? =xo[i]? :=by
       unfold de;dsimp only;split
       .rw[Gab z]
       .rfl
      rw[hN] at h⊢;obtain⟨h1,h2⟩:=p.lk i h;rw[other i z] at h1;exact⟨h1,h2⟩
   .cases ho
theorem nq{e8:Addr->Prop}{eh :Env}{Z' :St}{H' :Hp}(p:Stp env Z H eh Z' H'){b:Addr}(h:Cln e8 env Z b)(hb:H b≠none):Cln e8 eh Z' b:=⟨h.1,λi t e=>by
 rcases n8 t with o|o
 .rcases p.ow b ⟨i,o,e⟩ with⟨j,w,ej⟩|w
  .exact h.2 j w.ol.top ej
  .exact hb w
 .obtain⟨h1,h2⟩:=p.lk i o;rw[h1] at t;rw[h2] at e;exact h.2 i t e⟩
variable{gd:DG}{tg:Expr}
theorem HY{iter:Expr}{body:List Stmt}{src:DI}{sb:DS}(hp:PassesOwn (model X.prog X.w) X.A X.env X.xe)(hc:X.calm=true)(hi:PId X tg iter src)(hg:PGd X tg gd)(hb:kY X body sb)
  (hs:∀x,foldedSetIterable iter X.env x=pure x:=by intro _;rfl):PSd X (.For tg iter body [] pos) (dY l src gd sb):=by
 refine(GZ hp hc hi hg hb hs).aB ?_;rintro D Z H ⟨H0,e8,env,o,E,e,k⟩;obtain⟨ds,xv,e⟩:=e6 e;obtain⟨o1,PV,rfl⟩:=Gaa.mp e;obtain⟨EL,lo,_⟩:=E.lock l;refine⟨H0,e8,aK l env,ds,EL,xv,λJ H1 sH it=> ?_⟩;have E1:=EL.mono sH;have st1:Stp env Z H env Z H1:= .of_same sH;have nxOk:∀xo ZN HN,o1= .nx xo->aA X.K H0 e8 xo ZN HN->Stp (aK l env) Z H1 xo ZN HN->D.nx ZN HN:=λxo ZN HN eo EN pN=>by
  subst eo;refine k ZN HN ?_ (st1.trans (pN.loop lo));show aA X.K H0 e8 (if jv l env then de l xo else xo) ZN HN;split
  .exact EN.free l
  .exact EN
 refine⟨λi m Z' H' =>m=ds.length -i/\i<=ds.length/\∃eQ,aA X.K H0 e8 eQ Z' H' /\Stp (aK l env) Z H1 eQ Z' H' /\forL gd sb (ds.drop i) eQ=some o1,
  ⟨ds.length,by simp,Nat.zero_le _,_,E1,.refl,by simpa using PV⟩, ?_⟩
 rintro i m Z' H' ⟨rfl,hle,eQ,Ei,pi,ei⟩;obtain⟨items,stop⟩:=it H' λb o hb n=>pi.keep b o hb n;by_cases xa:i<ds.length
 .obtain⟨go,yld⟩:=items i ds[i] (by simp[xa]);refine .inr ⟨go,λZ2 H2=>(ds.length -(i+1))=ds.length -(i+1)/\i+1<=ds.length/\∃eQ,aA X.K H0 e8 eQ Z2 H2/\Stp (aK l env) Z H1 eQ Z2 H2/\forL gd sb (ds.drop (i+1)) eQ=some o1,λZ2 H2 q=> ⟨_,by lia,q⟩,λx H2 y=> ?_⟩;obtain⟨s2,rep⟩:=yld x H2 y;have hd:ds.drop i=ds[i]::ds.drop (i+1):=GbS xa;rw[hd] at ei;unfold forL at ei;obtain⟨e2,yl,ei⟩:=e6 ei;obtain⟨o2,RA,ei⟩:=e6 ei;refine⟨H0,e8,eQ,ds[i],e2,Ei.mono s2,yl,rep.imp λb q=>nq pi q.1 q.2,λZ3 H3 E3 p3=> ?_⟩;have p3' :Stp (aK l env) Z H1 e2 Z3 H3:=(pi.trans (.of_same s2)).trans p3;refine⟨H0,e8,e2,o2,E3,RA, ?_⟩;cases o2 with
  |nx e4=>exactλZ4 H4 E4 p4=> ⟨rfl,xa,e4,E4,p3'.trans p4,ei⟩
  |ct e4=>exactλZ4 H4 E4 p4=> ⟨rfl,xa,e4,E4,p3'.trans p4,ei⟩
  |bk e4=>
   cases ei
   exactλZ4 H4 E4 p4=>nxOk e4 Z4 H4 rfl E4 (p3'.trans p4)
  |ret d=>
   cases ei;exact k
 .have hi:i=ds.length:=by lia
  subst hi;rw[List.drop_length] at ei;cases ei;exact .inl ⟨stop,nxOk eQ Z' H' rfl Ei pi⟩
variable{H0:Hp}
theorem aA.dk{K:au}{e8:Addr->Prop}(E:aA K H0 e8 env Z H){b:Addr}{o:HO}(h:Ow env Z b)(hb:H b=some o):¬isT o:=by
 intro q;obtain⟨i,h1,h2⟩:=h;obtain⟨y,hy,wy⟩:=E.sy h1.ol.top h2;rw[hb] at hy;cases hy
 cases o<;>simp[isT] at q<;>exact wy
variable{v:V}{d:D}
theorem aA.dW{K:au}{e8:Addr->Prop}{Hi:Hp}(E:aA K H0 e8 env Z H)(keep:∀b o,H b=some o->¬Ow env Z b->Hi b=some o)(r:Rep K (Cln e8 env Z) H d v):
  Rep K (λb=>Cln e8 env Z b/\H b≠none) Hi d v:=
 r.gen (λb o hb q=>keep b o hb (by
  rcases q with q|q
  .exactλ⟨i,h1,h2⟩=>q.2 i h1.ol.top h2
  .exactλw=>E.dk w hb q)) λb q hb=> ⟨q,hb⟩
def Ov(K:au)(tl:TE):TI:=λZ H R=>tl Z H λx H1=>∃a,x= .ref a/\(((∃xs,SqL K H1 a xs)/\R (Itl K a) H1)\/((∃xs,SqT K H1 a xs)/\R (Itt K a) H1))
theorem HZ{l:Expr}{tl:TE}(hl:PE X l tl):PI X tg l (Ov X.K tl):=by
 intro e7 s Z H R I h;refine thn (hl e7 s Z H _ I h) λv s1 ⟨x,H1,I1,r1,q1⟩=> ?_;obtain⟨a,e,q1⟩:=q1;subst e;cases r1;have fp:∀b∈[s1.heap.objs.size],gU X e7 H1 b:=λb hb=>by
  have e:b=s1.heap.objs.size:=by simpa using hb
  subst e;exact I1.qB (Gap _) (I1.hok.fresh (Gap _))
 rcases q1 with⟨⟨xs,hq⟩,q⟩| ⟨⟨xs,hq⟩,q⟩
 .obtain⟨eg,rv,p,hz⟩:=I1.list hq;refine wpAny_pyIter_list p.isList ?_;exact⟨s1.heap.objs.size,[s1.heap.objs.size],_,_,H1,rfl,I1.kept (t' :=s1.toks) λb o e=>Gaf _ e,uD a _,⟨_,Gar _ rfl,rfl,rfl⟩,fp,q⟩
 .obtain⟨eg,rv,p,hz⟩:=I1.tuple hq;refine GbE (show s1.heap.IsTuple a eg.toArray from p) ?_;exact⟨s1.heap.objs.size,[s1.heap.objs.size],_,_,H1,rfl,I1.kept (t' :=s1.toks) λb o e=>Gaf _ e,qC a _,⟨_,Gar _ rfl,rfl,rfl⟩,fp,q⟩
variable{H1:Hp}
theorem og{e8:Addr->Prop}{kd:Cls}(E:aA X.K H0 e8 env Z H)(ht:d.top=true)(hk:kd≠ .to)(Rv:df X.K H0 e8 env Z H H1 ⟨kd,d⟩ v):∀a,v= .ref a->¬Ow env Z a:=λa ea=>by
 cases kd with
 |c=>
  have Rv' :Rep X.K (Cln e8 env Z) H1 d v:=Rv;have fin:∀b,Cln e8 env Z b->¬Ow env Z b:=λb f ⟨i,h1,h2⟩=>f.2 i h1.ol.top h2;cases Rv' with
  |tup h l r=>simp[D.top] at ht
  |lst f h l r=>cases ea;exact fin _ f
  |non=>cases ea
  |bl b=>cases ea
  |int i=>cases ea
  |str x=>cases ea
  |scr h=>simp[D.top] at ht
  |kt h=>simp[D.top] at ht
  |exc _ _=>simp[D.top] at ht
  |obj f h ln kd l r=>cases ea;exact fin _ f
  |kid f h l r=>simp[D.top] at ht
 |tn=>
  obtain⟨a',e',n,_⟩:=Rv;rw[e'] at ea;cases ea
  exactλ⟨i,h1,h2⟩=>E.i9 h1.ol.top h2 n
 |to=>exact absurd rfl hk
 |tb=>exact Rv.2 a ea ht
theorem Ab(he:PEd X e f):PId X tg e (m8 f):=by
 refine(HZ he).aB ?_;rintro Z H R ⟨H0,e8,env,ds,E,hf,k⟩;obtain⟨⟨kd,d⟩,hr,hf⟩:=e6 hf;split at hf
 .cases hf
 rename_i hk;refine⟨H0,e8,env,_,E,hr,λv H1 s1 Rv=> ?_⟩;have ii:=Rv.inn;have E1:=E.mono s1;split at hf
 .rename_i xs hd;cases hf;have xb :d= .lst ds:=hd;subst xb;have hno:=og E rfl hk Rv;cases ii with
  | @lst la lv _ h r=>
   refine⟨_,rfl,.inl ⟨⟨_,.inl h⟩,k _ H1 s1 λHi keep=> ?_⟩⟩;have hh:Rd Hi la (.lst lv):=by
    rcases h with h| ⟨o,h⟩
    .exact .inl (keep _ _ h (hno _ rfl))
    .exact .inr ⟨o,keep _ _ h (hno _ rfl)⟩
   refine⟨λi d hd=> ?_,⟨_,.inl hh,by rw[r.1];exact Gap _⟩⟩;obtain⟨x,h1,h2⟩:=r.get hd;refine⟨⟨_,x,.inl hh,h1⟩,λy H2 ⟨e2,e3⟩=> ?_⟩;subst e2;refine⟨aU, ?_⟩;have:=e3 _ (.inl hh);rw[h1] at this;cases this
   exact E1.dW keep h2
 .rename_i xs hd;cases hf;have xb :d= .tup ds:=hd;subst xb;cases ii with
  | @tup la lv _ h r=>
   refine⟨_,rfl,.inr ⟨⟨_,SqT.of h⟩,k _ H1 s1 λHi keep=> ?_⟩⟩;have hh:Hi la=some (.tup lv):=keep _ _ h λw=>E1.dk w h trivial;refine⟨λi d hd=> ?_,⟨_,SqT.of hh,by rw[r.1];exact Gap _⟩⟩;obtain⟨x,h1,h2⟩:=r.get hd;refine⟨⟨_,x,SqT.of hh,h1⟩,λy H2 ⟨e2,e3⟩=> ?_⟩;subst e2;refine⟨aU, ?_⟩;have:=e3 _ (SqT.of hh);rw[h1] at this;cases this
   exact E1.dW keep h2
 .rename_i ns hd;cases hf;have xb :d= .scr ns:=hd;subst xb;cases ii with
  | @scr la _ h=>
   refine⟨_,rfl,.inl ⟨⟨_,h.sq⟩,k _ H1 s1 λHi keep=> ?_⟩⟩;have hh:Scr X.K Hi la ns:=by
    rcases h with⟨o,h⟩|h
    .exact .inl ⟨o,keep _ _ h λw=>E1.dk w h trivial⟩
    .exact .inr h
   refine⟨λi d hd=> ?_,⟨_,hh.sq,by simp⟩⟩;rw[Gaw] at hd;cases q:ns[i]? with
   |none=>rw[q] at hd;cases hd
   |some n=>
    rw[q] at hd;cases hd
    refine⟨⟨_,.int n,hh.sq,by rw[Gaw,q];rfl⟩,λy H2 ⟨e2,e3⟩=> ?_⟩;subst e2;have:=e3 _ hh.sq;rw[Gaw,q] at this;cases this
    exact⟨aU,.int n⟩
 .cases hf
theorem gZ{lo:Int}{n:Nat}{F N:Addr->Prop}:Aa X.K F N (Itr lo n) (b0 lo n) H1:=λHi _=>by
 refine⟨λi d hd=> ?_,by show n<=(b0 lo n).length;simp[b0]⟩;have hi:i<n:=by have:=(Gac.mp hd).1;simpa[b0] using this
 refine⟨hi,λx H2 ⟨e1,e2⟩=> ?_⟩;subst e1 e2;have:d= .int (lo+(i:Int)):=by
  unfold b0 at hd;rw[Gaw,List.getElem?_range hi] at hd;cases hd;rfl
 subst this;exact⟨aU,.int _⟩
theorem cA{i:Int}(h:cu i=true): -(2^62)<=i/\i<2^62:=by
 unfold cu at h;rw[Gad] at h;have h1:=GaB h.1;have h2:=GaB h.2;lia
variable{p:Pos}
theorem uZ(hg:Gl X "range")(hm:X.mg "range"=none)(he:PEd X e f)(hs:autoParam (starEach [e] X.env=[(false,eval e X.env)]) Za1._auto_1):PId X tg (.Call (.Name "range" p) [e] [] pos) (aY f):=by
 refine(mX hg hm (bQ he dh hs) hs).aB ?_;rintro Z H R ⟨H0,e8,env,ds,E,hf,k⟩;obtain⟨r,hr,hf⟩:=e6 hf;split at hf
 .rename_i j hd;split at hf
  .rename_i hz;cases hf;refine⟨H0,e8,env,[r],E,by unfold a9 aD;rw[hr];rfl,λvs H1 s1 Rs=> ?_⟩;cases Rs with
   |cons R1 t=>
    cases t;have i:=R1.inn;rw[hd] at i;cases i;exact⟨j,rfl,(cA hz).1,(cA hz).2,k _ H1 s1 gZ⟩
  .cases hf
 .cases hf
theorem v5(hg:Gl X "range")(hm:X.mg "range"=none)(ha:PEd X a f)(hb:PEd X b g)(hs:autoParam (starEach [a,b] X.env=[(false,eval a X.env),(false,eval b X.env)]) Za1._auto_1)(hW:autoParam (starEach [b] X.env=[(false,eval b X.env)]) Za1._auto_1):
  PId X tg (.Call (.Name "range" p) [a,b] [] pos) (jw f g):=by
 refine(uF hg hm (bQ ha (bQ hb dh hW) (by rw[hs,hW])) hs hW).aB ?_;rintro Z H R ⟨H0,e8,env,ds,E,hf,k⟩;obtain⟨r,hr,hf⟩:=e6 hf;obtain⟨r',R9,hf⟩:=e6 hf;split at hf
 .rename_i i j hd xb;split at hf
  .rename_i hz;rw[Gad] at hz;cases hf;refine⟨H0,e8,env,[r,r'],E,by simp only[a9,aD,hr,R9];rfl,λvs H1 s1 Rs=> ?_⟩;cases Rs with
   |cons R1 t=>
    cases t with
    |cons R2 t=>
     cases t;have i1:=R1.inn;rw[hd] at i1;cases i1;have i2:=R2.inn;rw[xb] at i2;cases i2;exact⟨i,j,rfl,⟨(cA hz.1).1,(cA hz.1).2,(cA hz.2).1,(cA hz.2).2⟩,k _ H1 s1 gZ⟩
  .cases hf
 .cases hf
theorem sJ{x:Str}(hN:X.N.Nodup)(hi:X.N[i]? =some x)(hx:Loc X.env.scope x)(hf:autoParam (X.fn x=true\/X.env.scope.names.lookup x=some .local) Za3._auto_1):PGd X (.Name x pos) (gN i):=by
 refine(l9 hN hi hx hf).aB ?_;rintro v Z H Q ⟨H0,e8,env,d,eh,E,hg,r,k⟩;cases hg;exact k _ H (E.fH r) .fH
def tGs(X:Cx)(is:List Nat):TGs:=λvs Z H Q=>∃H0 e8 env ds eh,aA X.K H0 e8 env Z H/\gNs is ds env=some eh /\aI X.K (λb=>Cln e8 env Z b/\H b≠none) H ds vs/\∀Z' H',aA X.K H0 e8 eh Z' H' ->Stp env Z H eh Z' H' ->Q Z' H'
variable{es:List Expr}
theorem _root_.L2.PGs.aB{t t' :TGs}(h:PGs X es t')(i:∀v Z H Q,t v Z H Q->t' v Z H Q):PGs X es t:=λe7 s Z H v u Q I r q=>h e7 s Z H v u Q I r (i v Z H Q q)
theorem Dz:PGs X [] (tGs X []):=by
 refine rZ.aB ?_;rintro vs Z H Q ⟨H0,e8,env,ds,eh,E,hg,r,k⟩;cases ds with
 |nil=>cases hg;exact⟨r.dA,k Z H E .refl⟩
 |cons d ds=>cases hg
variable{is:List Nat}
theorem Ac(h1:PGd X e (gN i))(h2:PGs X es (tGs X is))(hs:autoParam ((assignEach (e::es) X.env).map (·.2)=assign e X.env::(assignEach es X.env).map (·.2)) Za1._auto_1):PGs X (e::es) (tGs X (i::is)):=by
 refine(lK h1 h2 hs).aB ?_;rintro vs Z H Q ⟨H0,e8,env,ds,eh,E,hg,r,k⟩;cases ds with
 |nil=>cases hg
 |cons d ds=>
  obtain⟨v,vr,rfl,r1,r2⟩:=r.cons_inv;refine⟨v,vr,rfl,H0,e8,env,d,_,E,rfl,r1.imp λ_ q=>q.1,λZ1 H1 E1 p1=> ?_⟩;refine⟨H0,e8,_,ds,eh,E1,hg,r2.gen (λb o hb q=>p1.keep b o hb (by
   rcases q with q|q
   .exactλ⟨j,w1,w2⟩=>q.1.2 j w1.ol.top w2
   .exactλw=>E.dk w hb q)) (λb q hb=> ⟨nq p1 q.1 hb, ?_⟩),λZ2 H2 E2 p2=>k Z2 H2 E2 (p1.trans p2)⟩
  cases o:H b with
  |none=>exact absurd o hb
  |some x=>rw[p1.keep b x o λ⟨j,w1,w2⟩=>q.1.2 j w1.ol.top w2];simp
theorem sL:∀{is:List Nat} {ds:List D} {env eh :Env},gNs is ds env=some eh ->ds.length=is.length
 |[],[],_,_,_=>rfl
 |[],_::_,_,_,h=>by cases h
 |_::_,[],_,_,h=>by cases h
 |i::is,d::ds,env,eh,h=>by
  have:=sL (is:=is) (ds:=ds) h;simp[this]
theorem I0{j n:Nat}(hc:X.calm=true)(h:PGs X es (tGs X is))(hn:autoParam ((assignEach es X.env).length=n) Za1._auto_1)(xw:autoParam ((assignEach es X.env).findIdx? (·.1)=none) Za1._auto_1)(hl:autoParam (is.length=n) Za1._auto_1):PGd X (.Tuple es j pos) (gT is):=by
 refine(wm hc h hn xw).aB ?_;rintro v Z H Q ⟨H0,e8,env,d,eh,E,hg,r,k⟩;unfold gT at hg;split at hg
 .rename_i ds;cases r with
  |tup h l r=>
   refine⟨_,_,rfl,SqT.of h,by rw[<-l,sL hg,hl],H0,e8,env,ds,eh,E,hg,⟨l,λi d v e1 e2=>(r i d v e1 e2).gen (.of_same aU) λb q hb=> ⟨q,hb⟩⟩,k⟩
 .cases hg
theorem Ia(he:PEd X e f)(hg:PGd X tg gd)(hs:autoParam (swapsWithSole [tg] e pos.line X.env=pure false) Za1._auto_1)(hw:autoParam (swappedStores [tg] e X.env=pure none) Za1._auto_1)(h1:autoParam ((assignEach [tg] X.env).map (·.2)=[assign tg X.env]) Za1._auto_1):PSd X (.Assign [tg] e pos) (uV gd f):=by
 refine(GY he hg hs hw h1).aB ?_;rintro D Z H ⟨H0,e8,env,o,E,e,k⟩;obtain⟨⟨kd,d⟩,hr,e⟩:=e6 e;cases kd with
 |c=>
  obtain⟨eh,ym,rfl⟩:=Gaa.mp e;exact⟨H0,e8,env,_,E,hr,λv H1 s1 R=> ⟨H0,e8,env,d,eh,E.mono s1,ym,R,λZ2 H2 E2 p2=>k Z2 H2 E2 ((Stp.of_same s1).trans p2)⟩⟩
 |tn=>cases e
 |to=>cases e
 |tb=>cases e
end
open PySem PySem.Spec PyProof.Rows L2
section
variable{X:Cx}{e a b c:Expr}{f g h:DE}{t u:DT}{pos:Pos}{st:Stmt}{rest:List Stmt}{s1 s2:DS}
variable{d:D}{i:Nat}
theorem f6{env:Env}(h:ownAt i env=some d):env[i]? =some (some (.own d)):=by
 unfold ownAt at h;split at h
 .rename_i d' q;cases h;exact q
 .cases h
variable{H:Hp}
theorem fK{K:au}{F:Addr->Prop}{ds:List D}{a:Addr}(w:Wr H a)(i:Inn K F H (.lst ds) (.ref a)):∃vs,H a=some (.lst vs)/\aI K F H ds vs:=by
 cases i with
 |lst h r=>
  rcases h with h| ⟨o,h⟩
  .exact⟨_,h,r⟩
  .obtain⟨y,hy,wy⟩:=w;rw[h] at hy;cases hy;exact wy.elim
variable{px apos eF:Pos}{x:Str}
theorem v7(hN:X.N[i]? =some x)(hv:Vis X.env.scope x)(he:PEd X e f)(hd:autoParam ((x==("__debug__":Str))=false) Za2._auto_1)(eV:autoParam ((x==("__classdict__":Str))=false) Za2._auto_1)
  (eU:autoParam (starEach [e] X.env=[(false,eval e X.env)]) Za1._auto_1)
  (xj:autoParam (attributeBase (.Name x px) "append" X.env (eval (.Name x px) X.env)=eval (.Name x px) X.env) Za1._auto_1)
  (xK:((backTo eF (starEach [e] X.env)).all (λx=> !x.1)&&(backToKw eF (keywordEach [] X.env)).all (λx=>x.1.isSome)
   &&decide (([e]:List Expr).length+([]:List Keyword).length+(if([]:List Keyword).isEmpty then 0 else 1)<30))=true:=by rfl)
  (eP:autoParam ((apos.endLine==eF.line)=true) Za1._auto_1)(hs:autoParam (swapsWith (.Call (.Attribute (.Name x px) "append" apos) [e] [] eF) none pos.line X.env=pure false) Za1._auto_1):
  PSd X (.Expr (.Call (.Attribute (.Name x px) "append" apos) [e] [] eF) pos) (aH i f):=by
 refine(gr (lO Gbc GbV GbW iA (ck hN hv hd eV) (bQ he dh eU) xj xK eP eU rfl) hs).aB ?_;rintro D Z H ⟨H0,e8,env,o,E,e,k⟩;obtain⟨r,hr,e⟩:=e6 e;obtain⟨d,hd,e⟩:=e6 e;have q:=f6 hd;split at e
 .rename_i xs;split at e
  .rename_i z;rw[Gad] at z;cases e;obtain⟨a,h1,h2,h3,h4,h5,h6⟩:=E.ow i _ (.inl q);obtain⟨vs,hH,rp⟩:=fK h4 h6;refine⟨_,h1,.inl ⟨rfl,vs,.inl (.inl hH)⟩,H0,e8,env,[r],E,by unfold a9 aD;rw[hr];rfl,λws H2 s2 Rs=> ?_⟩;cases Rs with
   | @cons _ v _ _ R1 tl=>
    cases tl;have xy:=s2 _ _ hH;refine⟨a,vs,v,rfl,rfl,xy,by rw[<-rp.1,<-eG];exact GaB z.2, ?_⟩;have E2:=E.mono s2;have rep1:=R1.rep E z.1;have rp2:aI X.K (Cln e8 env Z) H2 (xs++[r.d]) (vs++[v]):=(rp.gen (.of_same s2) λ_ f _=>f).append (.cons rep1 .nil);obtain⟨E3,p3⟩:=E2.change (d' := .lst (xs++[r.d])) (o:= .lst (vs++[v])) q h1 trivial rfl (.lst (.inl aE) (rp2.gen (λb o hb w=>by
     have:b≠a:=by
      rintro rfl;rcases w with w|w
      .exact w.2 i (by rw[q];trivial) h1
      .rw[xy] at hb;cases hb;exact w
     rw[ak this];exact hb) λ_ f _=>f))
    exact k Z _ E3 ((Stp.of_same s2).trans p3)
  .cases e
 .cases e
theorem v8(hN:X.N[i]? =some x)(hv:Vis X.env.scope x)(he:PEd X e f)(hd:autoParam ((x==("__debug__":Str))=false) Za2._auto_1)(eV:autoParam ((x==("__classdict__":Str))=false) Za2._auto_1)
  (eU:autoParam (starEach [e] X.env=[(false,eval e X.env)]) Za1._auto_1)
  (xj:autoParam (attributeBase (.Name x px) "extend" X.env (eval (.Name x px) X.env)=eval (.Name x px) X.env) Za1._auto_1)
  (xK:((backTo eF (starEach [e] X.env)).all (λx=> !x.1)&&(backToKw eF (keywordEach [] X.env)).all (λx=>x.1.isSome)
   &&decide (([e]:List Expr).length+([]:List Keyword).length+(if([]:List Keyword).isEmpty then 0 else 1)<30))=true:=by rfl)
  (eP:autoParam ((apos.endLine==eF.line)=true) Za1._auto_1)(hs:autoParam (swapsWith (.Call (.Attribute (.Name x px) "extend" apos) [e] [] eF) none pos.line X.env=pure false) Za1._auto_1):
  PSd X (.Expr (.Call (.Attribute (.Name x px) "extend" apos) [e] [] eF) pos) (cZ i f):=by
 refine(gr (lO Gbc GbX PySem.F.type_list_extend uS (ck hN hv hd eV) (bQ he dh eU) xj xK eP eU rfl) hs).aB ?_;rintro D Z H ⟨H0,e8,env,o,E,e,k⟩;obtain⟨⟨kd,rd⟩,hr,e⟩:=e6 e;obtain⟨d,hd,e⟩:=e6 e;have q:=f6 hd;split at e
 .rename_i xs ys hrd;have hrd' :rd= .lst ys:=hrd;subst hrd';split at e
  .rename_i z;rw[Gad] at z;cases e;have hk:kd= .tn:=by have:=z.1;simpa using this
   subst hk;obtain⟨a,h1,h2,h3,h4,h5,h6⟩:=E.ow i _ (.inl q);obtain⟨vs,hH,rp⟩:=fK h4 h6;refine⟨_,h1,.inl ⟨rfl,vs,.inl (.inl hH)⟩,H0,e8,env,[⟨.tn,.lst ys⟩],E,by unfold a9 aD;rw[hr];rfl,λws H2 s2 Rs=> ?_⟩;cases Rs with
   | @cons _ v _ _ R1 tl=>
    cases tl;obtain⟨b,rfl,nb,wb,_,ib⟩:=R1;obtain⟨us,hB,ru⟩:=fK wb ib;have xy:=s2 _ _ hH;refine⟨a,b,vs,us,rfl,rfl,xy,hB,by rw[<-rp.1,<-ru.1,<-eG];exact GaB z.2, ?_⟩;have E2:=E.mono s2;have rp2:aI X.K (Cln e8 env Z) H2 (xs++ys) (vs++us):=(rp.gen (.of_same s2) λ_ f _=>f).append (ru.gen (.of_same aU) λ_ f _=>f.1);obtain⟨E3,p3⟩:=E2.change (d' := .lst (xs++ys)) (o:= .lst (vs++us)) q h1 trivial rfl (.lst (.inl aE) (rp2.gen (λb o hb w=>by
     have:b≠a:=by
      rintro rfl;rcases w with w|w
      .exact w.2 i (by rw[q];trivial) h1
      .rw[xy] at hb;cases hb;exact w
     rw[ak this];exact hb) λ_ f _=>f))
    exact k Z _ E3 ((Stp.of_same s2).trans p3)
  .cases e
 .cases e
def Ox(K:au):List V->Hp->VK->Prop:=λxs H Q=>∃x T t b,xs=[x,.ty T]/\kU K H x (.type t)/\PySem.W.kitOne K (.type t) (.type T)=some b/\Q (.bl b) H
theorem Ad:cY X (.builtin "isinstance") (Ox X.K):=by
 intro e7 s Z H xs us Q I r h;obtain⟨x,T,t,bb,rfl,ty,hk,q⟩:=h;obtain⟨u,w',rfl,r1,r2⟩:=vals2 r;cases r2;exact uP I r1 ty hk λtk=> ⟨.bl bb,H,I.tok _,rfl,q⟩
def md(K:au)(T:String):Prop:=∀t∈["NoneType","bool","int","str","tuple","list","dict"],PySem.W.kitOne K (.type t) (.type T)=some (T==t||(t=="bool"&&T=="int"))
theorem DB{K:au}{F:Addr->Prop}{x:V}(i:Inn K F H d x)(hs:ju d=false):∃t∈["NoneType","bool","int","str","tuple","list","dict"],kU K H x (.type t)/\∀S,jt S d=(S==t||(t=="bool"&&S=="int")):=by
 have rdl:∀{a:Addr} {vs:List V},Rd H a (.lst vs)->kU K H (.ref a) (.type "list"):=λh=>by
  rcases h with h| ⟨o,h⟩
  .exact .lst h
  .exact .frz h
 cases i with
 |non=>exact⟨"NoneType",by simp,.non,λS=>by simp[jt]⟩
 |bl b=>exact⟨"bool",by simp,.bl b,λS=>by simp[jt]⟩
 |int i=>exact⟨"int",by simp,.int i,λS=>by simp[jt]⟩
 |str x=>exact⟨"str",by simp,.str x,λS=>by simp[jt]⟩
 |tup h r=>exact⟨"tuple",by simp,.tup h,λS=>by simp[jt]⟩
 |lst h r=>exact⟨"list",by simp,rdl h,λS=>by simp[jt]⟩
 |scr h=>cases hs
 |kt h=>cases hs
 |exc _ _=>cases hs
 |obj _ _ _ _=>cases hs
 |kid _ _ _=>cases hs
theorem Ib{T:String}{p p2:Pos}(QV:md X.K T)(he:PEd X e f)(hg:Gl X "isinstance")(hm:X.mg "isinstance"=none)(yl:Gl X x)(Rh:X.mg x=none)(PK:bootBuiltins x=some (.type T))(yU:autoParam (x≠"__name__") Za2._auto_1)(hd2:autoParam ((x==("__debug__":Str))=false) Za2._auto_1)
  (eU:autoParam (starEach [e,.Name x p2] X.env=(false,eval e X.env)::starEach [.Name x p2] X.env) Za1._auto_1)(hW:autoParam (starEach [.Name x p2] X.env=(false,eval (.Name x p2) X.env)::starEach [] X.env) Za1._auto_1)(hR:autoParam ((backTo pos (starEach [.Name x p2] X.env)).any (·.1)=false) Za1._auto_1):
  PEd X (.Call (.Name "isinstance" p) [e,.Name x p2] [] pos) (bE (i6 T f)):=by
 have ht:PE X (.Name x p2) (tC (.ty T)):=CS yl Rh PK rfl yU hd2;refine(pd Ad hg hm (by decide+kernel) (cN he (cN ht gu hW) eU) (by decide) (by decide) eU hR).aB ?_;rintro Z H Q ⟨H0,e8,env,rv,E,e,k⟩;obtain⟨bb,e',rfl⟩:=Gaa.mp e;clear e;have e:=e';clear e';obtain⟨r,hr,e⟩:=e6 e;split at e
 .cases e
 .rename_i hs;cases e;refine⟨H0,e8,env,r,E,hr,λv H1 s1 R=> ?_⟩;obtain⟨t,ht,ty,hb⟩:=DB R.inn (by simpa using hs);exact⟨v,T,t,_,rfl,ty,QV t ht,by rw[<-hb T];exact k _ H1 s1 (.bl _)⟩
theorem DC:∀env rs,aD env=some rs->rs.length=0:=λenv rs h=>by cases h;rfl
theorem Ae{r:DA}{n:Nat}(h:∀env rs,r env=some rs->rs.length=n):∀env rs,a9 f r env=some rs->rs.length=n+1:=λenv rs e=>by
 obtain⟨x,_,e⟩:=e6 e;obtain⟨xs,hx,e⟩:=e6 e;cases e;rw[GaK,h env xs hx]
theorem aA.start{K:au}{H:Hp}{N:List Str}{ds:List D}{vs:List V}(hl:ds.length<=N.length)(r:aI K (λ_=>True) H ds vs):aA K H (λ_=>False) (i7 N.length ds) (start N vs) H:=by
 have nt:∀i:Nat,¬ba (i7 N.length ds)[i]? :=λi h=>by
  unfold i7 at h;by_cases hi:i<ds.length
  .rw[GaH (by simpa using hi),Gaw] at h;cases q:ds[i]? with
   |none=>rw[q] at h;exact h
   |some d=>rw[q] at h;exact h
  .rw[GaL (by simpa using hi),Gbp] at h;split at h<;>exact h
 have no:∀{i:Nat} {s:Slot},(i7 N.length ds)[i]? =some (some s)->ba (some (some s))->False:=λ{i s} e h=>nt i (by rw[e];exact h);refine⟨λ_ _ e=>e,by simp[i7,L2.start,r.1],λ_ h=>h.elim,λi d e=> ?_,λi d e=> ?_,λi d e=> ?_,λi j a t _ _ _=>(nt i t.top).elim⟩
 .unfold i7 at e;by_cases hi:i<ds.length
  .rw[GaH (by simpa using hi),Gaw] at e;cases q:ds[i]? with
   |none=>rw[q] at e;cases e
   |some d' =>
    rw[q] at e;have e' :d' =d:=by simpa using e
    subst e';obtain⟨v,h1,h2⟩:=r.get q;refine⟨v, ?_,h2.imp λb _=> ⟨λz=>z,λj t=>(nt j t).elim⟩⟩;unfold L2.start;rw[GaH (by rw[Gax,<-r.1];exact hi),Gaw,h1];rfl
  .rw[GaL (by simpa using hi),Gbp] at e;split at e<;>cases e
 .rcases e with e|e
  .exact(no e trivial).elim
  .exact(no e trivial).elim
 .exact(no e trivial).elim
theorem LR{P:Program}{w:World}{K:au}{mg:Str->Option Value}{base:Heap}{qual:Str}{sd:Stmt}{fa:Addr}{fd:FuncData}{N ps:List Str}{k np:Nat}{body:DS}(F:Fun K x qual sd fa fd)(S:cp N ps (aw sd))(xJ:ps.length=np)
  (eX:∀(eJ:Value) (A:Around) (outer:List PySem.Env) (s:Shared) (H:Hp) (E:XK),bP k (A.deeper (envOfC qual (aw sd) s.heap.objs.size fa eJ))->
   kY (cJ CX0 P w K mg base N qual (aw sd) fa eJ A outer s H E).nox (bI sd) body):bH P w K mg base CX0 (k+1) fa fd ps (spD K np (iF N.length np body)):=by
 refine F.ok S (λvs H Q E h=> ?_) λeJ A outer s H vs Q E hr h=> ⟨_,eX eJ A outer s H E hr, ?_⟩
 .obtain⟨ds,d,h1,h2,_⟩:=h;rw[<-h2.1,h1,xJ]
 .obtain⟨ds,d,h1,h2,h3,k⟩:=h;unfold iF at h3;rw[Gak h1] at h3;obtain⟨o,ho,h3⟩:=e6 h3;have hl:ds.length<=N.length:=by
   have:=congrArg List.length S.pre;rw[Gbi] at this;lia
  refine⟨H,λ_=>False,i7 N.length ds,o,aA.start hl h2,ho, ?_⟩;cases o with
  |ret d' =>cases h3;exactλv H' s' R=>k v H' s' R
  |nx e=>cases h3;exactλZ' H' E' p' =>k .non H' E'.same ⟨λt=>(by cases t),.non⟩
  |bk e=>cases h3
  |ct e=>cases h3
theorem Ic{K:au}{a:Addr}{ns:List Int}{sp:SpF}{E:XK}(hO:Di H)(hS:SqL K H a (ns.map V.int))(h:sp [.scr ns]=some (.bl true)):spD K 1 sp [.ref a] H (λv _=>v= .bl true) E:=by
 refine⟨[.scr ns],.bl true,rfl,aI.cons (.scr ?_) .nil,h,λv H' _ R=> ?_⟩
 .rcases hS with(z|z)|z
  .rcases hO a with q| ⟨o,xs,q⟩<;>rw[z] at q<;>cases q
  .exact .inl z
  .exact .inr z
 .have i:=R.2;cases i;rfl
end
open PySem PySem.Spec PyProof.Rows L2
variable{d:D}
theorem plain_all{n:Nat}{ds:List D}(h:ds.all (aJ n)=true){i:Nat}(e:ds[i]? =some d):aJ n d=true:=Gau.mp h d (GaC e)
inductive oh (K:au) (F:Addr->Prop) (H:Hp):D->V->Prop where
 |non:oh K F H .non .non
 |bl (b:Bool):oh K F H (.bl b) (.bl b)
 |int (i:Int):oh K F H (.int i) (.int i)
 |str (x:Str):oh K F H (.str x) (.str x)
 |tup {a:Addr} {vs:List V} {ds:List D} (h:H a=some (.tup vs)) (l:ds.length=vs.length) (r:∀(i:Nat) d v,ds[i]? =some d->vs[i]? =some v->Rep K F H d v):oh K F H (.tup ds) (.ref a)
 |lst {a:Addr} {vs:List V} {ds:List D} (f:F a) (h:Rd H a (.lst vs)) (l:ds.length=vs.length) (r:∀(i:Nat) d v,ds[i]? =some d->vs[i]? =some v->Rep K F H d v):oh K F H (.lst ds) (.ref a)
theorem br{K:au}{F:Addr->Prop}{H:Hp}{n:Nat}{v:V}(p:aJ n d=true)(r:Rep K F H d v):oh K F H d v:=by
 cases r with
 |non=>exact .non
 |bl b=>exact .bl b
 |int i=>exact .int i
 |str x=>exact .str x
 |tup h l r=>exact .tup h l r
 |lst f h l r=>exact .lst f h l r
 |_=>cases n<;>exact(Gai p).elim
theorem pE:∀(n:Nat) (d:D),aJ n d=true->eqD d d=true:=by
 intro n;induction n with
 |zero=>intro d h;cases d<;>simp[aJ] at h<;>simp
 |succ n ih=>
  have all:∀ds:List D,ds.all (aJ n)=true->iE ds ds=true:=by
   intro ds;induction ds with
   |nil=>intro _;rfl
   |cons d ds ih2=>
    intro h;rw[Gbo,Gad] at h;simp[iE,ih d h.1,ih2 h.2]
  intro d h;cases d<;>simp only[aJ] at h<;>first
   |(simp;done)
   |exact all _ h
   |cases h
theorem ia:∀{ds es:List D},ds.length≠es.length->iE ds es=false
 |[],[],h=>absurd rfl h
 |[],_::_,_=>rfl
 |_::_,[],_=>rfl
 |d::ds,e::es,h=>by
  unfold iE;rw[ia (by simpa using h),GbL]
theorem f7:∀{ds es:List D},ds.length=es.length->(List.range ds.length).all (λj=>eqD (ds.getD j .non) (es.getD j .non))=iE ds es
 |[],[],_=>rfl
 |[],_::_,h=>by simp at h
 |_::_,[],h=>by simp at h
 |d::ds,e::es,h=>by
  have ih:=f7 (ds:=ds) (es:=es) (by simpa using h);unfold iE;rw[GaK,Gcg,Gbo,List.all_map,<-ih]
  rfl
section
variable{X:Cx}{e7:LAO}{Z:St}{H:Hp}{s:Shared}
theorem oj{K:au}{F G:Addr->Prop}:∀(n:Nat) {d d' :D} {v:V},aJ n d=true->aJ n d' =true->Rep K F H d v->Rep K G H d' v->d=d' :=by
 intro n;induction n with
 |zero=>intro d d' v h1 h2 r1 r2;cases br h1 r1<;>first|exact(Gai h1).elim|(cases br h2 r2;rfl)
 |succ n ih=>
  have all:∀{ds es:List D} {vs:List V},ds.all (aJ n)=true->es.all (aJ n)=true->ds.length=vs.length->es.length=vs.length->(∀(i:Nat) d v,ds[i]? =some d->vs[i]? =some v->Rep K F H d v)->(∀(i:Nat) d v,es[i]? =some d->vs[i]? =some v->Rep K G H d v)->ds=es:=by
   intro ds es vs p1 p2 l1 l2 r1 r2;apply List.ext_getElem?;intro i;by_cases hi:i<vs.length
   .have e1:ds[i]? =some ds[i]:=by simp[l1,hi]
    have e2:es[i]? =some es[i]:=by simp[l2,hi]
    have e3:vs[i]? =some vs[i]:=by simp[hi]
    rw[e1,e2,ih (plain_all p1 e1) (plain_all p2 e2) (r1 i _ _ e1 e3) (r2 i _ _ e2 e3)]
   .rw[GaS (by lia),GaS (by lia)]
  intro d d' v h1 h2 r1 r2;cases br h1 r1 with
  |non=>cases br h2 r2;rfl
  |bl b=>cases br h2 r2;rfl
  |int i=>cases br h2 r2;rfl
  |str x=>cases br h2 r2;rfl
  |tup h l r=>
   cases br h2 r2 with
   |tup h' l' r' =>
    rw[h] at h';cases h'
    rw[all (by simpa[aJ] using h1) (by simpa[aJ] using h2) l l' r r']
   |lst f h' l' r' =>rcases h' with h' | ⟨o,h'⟩<;>rw[h] at h' <;>cases h'
  |lst f h l r=>
   cases br h2 r2 with
   |tup h' l' r' =>rcases h with h| ⟨o,h⟩<;>rw[h] at h' <;>cases h'
   |lst f' h' l' r' =>
    have:∀{xs ys:List V} {a:Addr},Rd H a (.lst xs)->Rd H a (.lst ys)->xs=ys:=λz1 z2=>by
     rcases z1 with z1| ⟨o,z1⟩<;>rcases z2 with z2| ⟨o',z2⟩<;>rw[z1] at z2<;>cases z2<;>rfl
    cases this h h';rw[all (by simpa[aJ] using h1) (by simpa[aJ] using h2) l l' r r']
theorem item_at{ds:List D}{vs:List V}{eg:List Value}{K:au}{F:Addr->Prop}(l:ds.length=vs.length)(r:∀(i:Nat) d v,ds[i]? =some d->vs[i]? =some v->Rep K F H d v)(rv:Vals vs eg){j:Nat}(h:j<eg.toArray.size):
  ∃d v,ds[j]? =some d/\ds.getD j .non=d/\Rep K F H d v/\RelV v eg.toArray[j]:=by
 have hj:j<eg.length:=by simpa using h
 have hv:j<vs.length:=by rw[rv.length];exact hj
 have hd:j<ds.length:=by rw[l];exact hv
 obtain⟨u,e1,e2⟩:=rv.get (i:=j) (x:=vs[j]) (by simp[hv]);refine⟨ds[j],vs[j],by simp[hd],by simp[hd],r j _ _ (by simp[hd]) (by simp[hv]), ?_⟩;have:eg.toArray[j]=u:=by
  have:=e1;simp[hj] at this
  simpa using this
 rw[this];exact e2
variable{A:Around}
theorem in1_units{n:Nat}(h:A.units+(n+1)<cLine):A.in1.units+n<cLine:=by
 show A.units+1+n<_;lia
theorem me(I:Inv X e7 Z H s){F G:Addr->Prop}:∀(n:Nat) {dx dy:D} {x y:V} {v u:Value} {A:Around},aJ n dx=true->aJ n dy=true->Rep X.K F H dx x->Rep X.K G H dy y->RelV x v->RelV y u->A.units+n<cLine->SeqAt.EqAt A s v u (eqD dx dy):=by
 have flat:∀{dx dy:D} {x y:V} {v u:Value} {A:Around},oh X.K F H dx x->oh X.K G H dy y->RelV x v->RelV y u->sr x=true->sr y=true->SeqAt.EqAt A s v u (eqD dx dy):=by
  intro dx dy x y v u A r1 r2 rv ru fx fy;have e:eqD dx dy=eqV x y:=by
   cases r1<;>first|exact(Gai fx).elim|(cases r2<;>first|exact(Gai fy).elim|rfl)
  rw[e];exact Hr rv ru fx fy
 intro n;induction n with
 |zero=>
  intro dx dy x y v u A p1 p2 r1 r2 rv ru hu;refine flat (br p1 r1) (br p2 r2) rv ru ?_ ?_
  .cases br p1 r1<;>first|rfl|exact(Gai p1).elim
  .cases br p2 r2<;>first|rfl|exact(Gai p2).elim
 |succ n ih=>
  intro dx dy x y v u A p1 p2 r1 r2 rv ru hu;have hu0:A.units<cLine:=by lia
  cases br p1 r1 with
  | @tup a vs1 ds1 h l r=>
   cases rv;obtain⟨eg,ya,ht,_⟩:=I.tuple (SqT.of h);cases br p2 r2 with
   |non=>cases ru;exact SeqAt.EqAt.tuple_none ht hu0
   |bl b=>cases ru;exact SeqAt.EqAt.tuple_bool b ht hu0
   |int i=>obtain⟨t,rfl⟩:=ru;exact SeqAt.EqAt.tuple_int i t ht hu0
   |str z=>obtain⟨t,rfl⟩:=ru;exact SeqAt.EqAt.tuple_str z t ht hu0
   |lst f' h' l' r' =>
    cases ru;obtain⟨eD,eW,pl,_⟩:=I.list (.inl h');exact SeqAt.EqAt.tuple_list ht pl.isList hu0
   | @tup b yP xq h' l' r' =>
    cases ru;by_cases hab:a=b
    .subst hab;have:=oj (n+1) p1 p2 (Rep.tup h l r) (Rep.tup h' l' r');rw[<-this,pE _ _ p1];exact SeqAt.EqAt.same _
    .obtain⟨eD,eW,xh,_⟩:=I.tuple (SqT.of h');have eU:eg.toArray.size=ds1.length:=by rw[Gag,<-ya.length,l]
     have hW:eD.toArray.size=xq.length:=by rw[Gag,<-eW.length,l']
     have key:=SeqAt.RcAt.tuples (e:=λj=>eqD (ds1.getD j .non) (xq.getD j .non)) ht xh hu0 λj h1 h2=>by
      obtain⟨d1,v1,q1,q2,q3,q4⟩:=item_at l r ya h1;obtain⟨d2,v2,w1,w2,w3,w4⟩:=item_at l' r' eW h2;rw[q2,w2];exact ih (plain_all (by simpa[aJ] using p1) q1) (plain_all (by simpa[aJ] using p2) w1) q3 w3 q4 w4 (in1_units hu)
     refine SeqAt.EqAt.of_refs hab ?_;show SeqAt.RcAt A s (.ref a) (.ref b) (iE ds1 xq);rw[eU,hW] at key;by_cases hl:ds1.length=xq.length
     .rw[<-hl,Nat.min_self,f7 hl] at key
      simpa using key
     .rw[ia hl];have:(ds1.length==xq.length)=false:=by simpa using hl
      rw[this,GbL] at key;exact key
  | @lst a vs1 ds1 f h l r=>
   cases rv;obtain⟨eg,ya,pl,_⟩:=I.list (.inl h);have ht:=pl.isList;cases br p2 r2 with
   |non=>cases ru;exact SeqAt.EqAt.list_none ht hu0
   |bl b=>cases ru;exact SeqAt.EqAt.list_bool b ht hu0
   |int i=>obtain⟨t,rfl⟩:=ru;exact SeqAt.EqAt.list_int i t ht hu0
   |str z=>obtain⟨t,rfl⟩:=ru;exact SeqAt.EqAt.list_str z t ht hu0
   |tup h' l' r' =>
    cases ru;obtain⟨eD,eW,xh,_⟩:=I.tuple (SqT.of h');exact SeqAt.EqAt.list_tuple ht xh hu0
   | @lst b yP xq f' h' l' r' =>
    cases ru;by_cases hab:a=b
    .subst hab;have:=oj (n+1) p1 p2 (Rep.lst f h l r) (Rep.lst f' h' l' r');rw[<-this,pE _ _ p1];exact SeqAt.EqAt.same _
    .obtain⟨eD,eW,yb,_⟩:=I.list (.inl h');have xh:=yb.isList;have eU:eg.toArray.size=ds1.length:=by rw[Gag,<-ya.length,l]
     have hW:eD.toArray.size=xq.length:=by rw[Gag,<-eW.length,l']
     refine SeqAt.EqAt.of_refs hab ?_;show SeqAt.RcAt A s (.ref a) (.ref b) (iE ds1 xq);by_cases hl:ds1.length=xq.length
     .have key:=SeqAt.RcAt.lists (e:=λj=>eqD (ds1.getD j .non) (xq.getD j .non)) ht xh (by rw[eU,hW,hl]) hu0 λj h1 h2=>by
       obtain⟨d1,v1,q1,q2,q3,q4⟩:=item_at l r ya h1;obtain⟨d2,v2,w1,w2,w3,w4⟩:=item_at l' r' eW h2;rw[q2,w2];exact ih (plain_all (by simpa[aJ] using p1) q1) (plain_all (by simpa[aJ] using p2) w1) q3 w3 q4 w4 (in1_units hu)
      rw[eU,f7 hl] at key;exact key
     .rw[ia hl];exact SeqAt.RcAt.lists_lengths ht xh (by rw[eU,hW];simpa using hl) hu0
  |non=>
   cases rv;cases br p2 r2 with
   |tup h' l' r' =>cases ru;obtain⟨eD,eW,xh,_⟩:=I.tuple (SqT.of h');exact SeqAt.EqAt.none_tuple xh hu0
   |lst f' h' l' r' =>cases ru;obtain⟨eD,eW,yb,_⟩:=I.list (.inl h');exact SeqAt.EqAt.none_list yb.isList hu0
   |_=>exact flat .non (by first|exact .non|exact .bl _|exact .int _|exact .str _) rfl ru rfl rfl
  |bl b=>
   cases br p2 r2 with
   |tup h' l' r' =>cases rv;cases ru;obtain⟨eD,eW,xh,_⟩:=I.tuple (SqT.of h');exact SeqAt.EqAt.bool_tuple b xh hu0
   |lst f' h' l' r' =>cases rv;cases ru;obtain⟨eD,eW,yb,_⟩:=I.list (.inl h');exact SeqAt.EqAt.bool_list b yb.isList hu0
   |_=>exact flat (.bl b) (by first|exact .non|exact .bl _|exact .int _|exact .str _) rv ru rfl rfl
  |int i=>
   cases br p2 r2 with
   |tup h' l' r' =>obtain⟨t,rfl⟩:=rv;cases ru;obtain⟨eD,eW,xh,_⟩:=I.tuple (SqT.of h');exact SeqAt.EqAt.int_tuple i t xh hu0
   |lst f' h' l' r' =>obtain⟨t,rfl⟩:=rv;cases ru;obtain⟨eD,eW,yb,_⟩:=I.list (.inl h');exact SeqAt.EqAt.int_list i t yb.isList hu0
   |_=>exact flat (.int i) (by first|exact .non|exact .bl _|exact .int _|exact .str _) rv ru rfl rfl
  |str z=>
   cases br p2 r2 with
   |tup h' l' r' =>obtain⟨t,rfl⟩:=rv;cases ru;obtain⟨eD,eW,xh,_⟩:=I.tuple (SqT.of h');exact SeqAt.EqAt.str_tuple z t xh hu0
   |lst f' h' l' r' =>obtain⟨t,rfl⟩:=rv;cases ru;obtain⟨eD,eW,yb,_⟩:=I.list (.inl h');exact SeqAt.EqAt.str_list z t yb.isList hu0
   |_=>exact flat (.str z) (by first|exact .non|exact .bl _|exact .int _|exact .str _) rv ru rfl rfl
theorem pF(I:Inv X e7 Z H s){F G:Addr->Prop}{n:Nat}{dx dy:D}{x y:V}{v u:Value}(p1:aJ n dx=true)(p2:aJ n dy=true)(r1:Rep X.K F H dx x)(r2:Rep X.K G H dy y)(rv:RelV x v)(ru:RelV y u)(hu:A.units+n<cLine):
  SeqAt.RcAt A s v u (eqD dx dy)/\SeqAt.RcNeAt A s v u (!eqD dx dy):=by
 have hu0:A.units<cLine:=by lia
 have tupAt:∀{a:Addr} {vs:List V},H a=some (.tup vs)->∃eg:List Value,s.heap.IsTuple a eg.toArray:=λh=>let⟨eg,_,ht,_⟩:=I.tuple (SqT.of h);⟨eg,ht⟩
 have lstAt:∀{a:Addr} {vs:List V},Rd H a (.lst vs)->∃eg:List Value,s.heap.IsList a eg.toArray:=λh=>let⟨eg,_,pl,_⟩:=I.list (.inl h);⟨eg,pl.isList⟩
 cases br p1 r1 with
 |non=>
  cases rv;cases br p2 r2 with
  |non=>cases ru;exact⟨.none_none,.none_none⟩
  |bl b=>cases ru;exact⟨.none_bool b,.none_bool b⟩
  |int i=>obtain⟨t,rfl⟩:=ru;exact⟨.none_int i t,.none_int i t⟩
  |str z=>obtain⟨t,rfl⟩:=ru;exact⟨.none_str z t,.none_str z t⟩
  |tup h' l' r' =>cases ru;obtain⟨eg,ht⟩:=tupAt h';exact⟨.none_tuple ht hu0,.none_tuple ht hu0⟩
  |lst f' h' l' r' =>cases ru;obtain⟨eg,ht⟩:=lstAt h';exact⟨.none_list ht hu0,.none_list ht hu0⟩
 |bl b=>
  cases rv;cases br p2 r2 with
  |non=>cases ru;exact⟨.bool_none b,.bool_none b⟩
  |bl b' =>cases ru;exact⟨.bool_bool b b',.bool_bool b b'⟩
  |int i=>obtain⟨t,rfl⟩:=ru;exact⟨.bool_int b i t,.bool_int b i t⟩
  |str z=>obtain⟨t,rfl⟩:=ru;exact⟨.bool_str b z t,.bool_str b z t⟩
  |tup h' l' r' =>cases ru;obtain⟨eg,ht⟩:=tupAt h';exact⟨.bool_tuple b ht hu0,.bool_tuple b ht hu0⟩
  |lst f' h' l' r' =>cases ru;obtain⟨eg,ht⟩:=lstAt h';exact⟨.bool_list b ht hu0,.bool_list b ht hu0⟩
 |int i=>
  obtain⟨t,rfl⟩:=rv;cases br p2 r2 with
  |non=>cases ru;exact⟨.int_none i t,.int_none i t⟩
  |bl b' =>cases ru;exact⟨.int_bool i t b',.int_bool i t b'⟩
  |int j=>obtain⟨t',rfl⟩:=ru;exact⟨.int_int i t j t',.int_int i t j t'⟩
  |str z=>obtain⟨t',rfl⟩:=ru;exact⟨.int_str i t z t',.int_str i t z t'⟩
  |tup h' l' r' =>cases ru;obtain⟨eg,ht⟩:=tupAt h';exact⟨.int_tuple i t ht hu0,.int_tuple i t ht hu0⟩
  |lst f' h' l' r' =>cases ru;obtain⟨eg,ht⟩:=lstAt h';exact⟨.int_list i t ht hu0,.int_list i t ht hu0⟩
 |str z=>
  obtain⟨t,rfl⟩:=rv;cases br p2 r2 with
  |non=>cases ru;exact⟨.str_none z t,.str_none z t⟩
  |bl b' =>cases ru;exact⟨.str_bool z t b',.str_bool z t b'⟩
  |int j=>obtain⟨t',rfl⟩:=ru;exact⟨.str_int z t j t',.str_int z t j t'⟩
  |str z' =>obtain⟨t',rfl⟩:=ru;exact⟨.str_str z t z' t',.str_str z t z' t'⟩
  |tup h' l' r' =>cases ru;obtain⟨eg,ht⟩:=tupAt h';exact⟨.str_tuple z t ht hu0,.str_tuple z t ht hu0⟩
  |lst f' h' l' r' =>cases ru;obtain⟨eg,ht⟩:=lstAt h';exact⟨.str_list z t ht hu0,.str_list z t ht hu0⟩
 | @tup a vs1 ds1 h l r=>
  cases n with
  |zero=>simp[aJ] at p1
  |succ n=>
   cases rv;obtain⟨eg,ya,ht,_⟩:=I.tuple (SqT.of h);cases br p2 r2 with
   |non=>cases ru;exact⟨.tuple_none ht hu0,.tuple_none ht hu0⟩
   |bl b=>cases ru;exact⟨.tuple_bool b ht hu0,.tuple_bool b ht hu0⟩
   |int i=>obtain⟨t,rfl⟩:=ru;exact⟨.tuple_int i t ht hu0,.tuple_int i t ht hu0⟩
   |str z=>obtain⟨t,rfl⟩:=ru;exact⟨.tuple_str z t ht hu0,.tuple_str z t ht hu0⟩
   |lst f' h' l' r' =>cases ru;obtain⟨eD,xh⟩:=lstAt h';exact⟨.tuple_list ht xh hu0,.tuple_list ht xh hu0⟩
   | @tup b yP xq h' l' r' =>
    cases ru;obtain⟨eD,eW,xh,_⟩:=I.tuple (SqT.of h');have eU:eg.toArray.size=ds1.length:=by rw[Gag,<-ya.length,l]
    have hW:eD.toArray.size=xq.length:=by rw[Gag,<-eW.length,l']
    have items:∀j (h1:j<eg.toArray.size) (h2:j<eD.toArray.size),SeqAt.EqAt A.in1 s eg.toArray[j] eD.toArray[j] ((λj=>eqD (ds1.getD j .non) (xq.getD j .non)) j):=λj h1 h2=>by
     obtain⟨d1,v1,q1,q2,q3,q4⟩:=item_at l r ya h1;obtain⟨d2,v2,w1,w2,w3,w4⟩:=item_at l' r' eW h2;dsimp only;rw[q2,w2];exact me I n (plain_all (by simpa[aJ] using p1) q1) (plain_all (by simpa[aJ] using p2) w1) q3 w3 q4 w4 (in1_units hu)
    have k1:=SeqAt.RcAt.tuples ht xh hu0 items;have k2:=SeqAt.RcNeAt.tuples ht xh hu0 items;have e:((List.range (min eg.toArray.size eD.toArray.size)).all (λj=>eqD (ds1.getD j .non) (xq.getD j .non))&&eg.toArray.size==eD.toArray.size)=iE ds1 xq:=by
     rw[eU,hW];by_cases hl:ds1.length=xq.length
     .rw[<-hl,Nat.min_self,f7 hl];simp
     .rw[ia hl];have:(ds1.length==xq.length)=false:=by simpa using hl
      rw[this,GbL]
    rw[e] at k1 k2;exact⟨k1,k2⟩
 | @lst a vs1 ds1 f h l r=>
  cases n with
  |zero=>simp[aJ] at p1
  |succ n=>
   cases rv;obtain⟨eg,ya,pl,_⟩:=I.list (.inl h);have ht:=pl.isList;cases br p2 r2 with
   |non=>cases ru;exact⟨.list_none ht hu0,.list_none ht hu0⟩
   |bl b=>cases ru;exact⟨.list_bool b ht hu0,.list_bool b ht hu0⟩
   |int i=>obtain⟨t,rfl⟩:=ru;exact⟨.list_int i t ht hu0,.list_int i t ht hu0⟩
   |str z=>obtain⟨t,rfl⟩:=ru;exact⟨.list_str z t ht hu0,.list_str z t ht hu0⟩
   |tup h' l' r' =>cases ru;obtain⟨eD,xh⟩:=tupAt h';exact⟨.list_tuple ht xh hu0,.list_tuple ht xh hu0⟩
   | @lst b yP xq f' h' l' r' =>
    cases ru;obtain⟨eD,eW,yb,_⟩:=I.list (.inl h');have xh:=yb.isList;have eU:eg.toArray.size=ds1.length:=by rw[Gag,<-ya.length,l]
    have hW:eD.toArray.size=xq.length:=by rw[Gag,<-eW.length,l']
    have items:∀j (h1:j<eg.toArray.size) (h2:j<eD.toArray.size),SeqAt.EqAt A.in1 s eg.toArray[j] eD.toArray[j] ((λj=>eqD (ds1.getD j .non) (xq.getD j .non)) j):=λj h1 h2=>by
     obtain⟨d1,v1,q1,q2,q3,q4⟩:=item_at l r ya h1;obtain⟨d2,v2,w1,w2,w3,w4⟩:=item_at l' r' eW h2;dsimp only;rw[q2,w2];exact me I n (plain_all (by simpa[aJ] using p1) q1) (plain_all (by simpa[aJ] using p2) w1) q3 w3 q4 w4 (in1_units hu)
    show SeqAt.RcAt A s (.ref a) (.ref b) (iE ds1 xq)/\SeqAt.RcNeAt A s (.ref a) (.ref b) (!iE ds1 xq);by_cases hl:ds1.length=xq.length
    .have k1:=SeqAt.RcAt.lists ht xh (by rw[eU,hW,hl]) hu0 items;have k2:=SeqAt.RcNeAt.lists ht xh (by rw[eU,hW,hl]) hu0 items;rw[eU,f7 hl] at k1 k2;exact⟨k1,k2⟩
    .rw[ia hl];exact⟨SeqAt.RcAt.lists_lengths ht xh (by rw[eU,hW];simpa using hl) hu0,SeqAt.RcNeAt.lists_lengths ht xh (by rw[eU,hW];simpa using hl) hu0⟩
end
section
variable{X:Cx}
def DD(K:au)(neg:Bool):R2:=λx y H Q=>∃F dx dy,Inn K F H dx x/\Inn K F H dy y/\dx.plain=true/\dy.plain=true/\Q (.bl (if neg then !eqD dx dy else eqD dx dy)) H
theorem Ie(hu:X.A.units+20<cLine):OpR X (compareOp .Eq) (DD X.K false):=by
 intro e7 s Z H x y v u Q I rx ry h;obtain⟨F,dx,dy,i1,i2,p1,p2,q⟩:=h;exact(pF I (n:=20) p1 p2 i1.any i2.any rx ry hu).1 X.prog X.w _ _ ⟨.bl (eqD dx dy),H,I,rfl,q⟩
theorem Ig(hu:X.A.units+20<cLine):OpR X (compareOp .NotEq) (DD X.K true):=by
 intro e7 s Z H x y v u Q I rx ry h;obtain⟨F,dx,dy,i1,i2,p1,p2,q⟩:=h;exact(pF I (n:=20) p1 p2 i1.any i2.any rx ry hu).2 X.prog X.w _ _ ⟨.bl (!eqD dx dy),H,I,rfl,q⟩
theorem Ih:OpB X eqB (DD X.K false):=by
 intro F H dx dy x y b Q ix iy e q;unfold eqB at e;split at e
 .rename_i z;rw[Gad] at z;cases e;exact⟨F,dx,dy,ix,iy,z.1,z.2,q⟩
 .cases e
theorem Ij:OpB X neB (DD X.K true):=by
 intro F H dx dy x y b Q ix iy e q;unfold neB at e;split at e
 .rename_i z;rw[Gad] at z;cases e;exact⟨F,dx,dy,ix,iy,z.1,z.2,q⟩
 .cases e
theorem DF{A:Around}{k:Nat}(hr:bP k A):A.units+20<cLine:=Nat.lt_of_le_of_lt (Nat.add_le_add_left (by decide:20<=64) _) hr.units
theorem Ik:bootBuiltins "len"=some (.builtin "len"):=by decide+kernel
theorem Il:bootBuiltins "min"=some (.builtin "min"):=by decide+kernel
theorem Im:bootBuiltins "max"=some (.builtin "max"):=by decide+kernel
theorem Io:bootBuiltins "sum"=some (.builtin "sum"):=by decide+kernel
theorem Ip:bootBuiltins "all"=some (.builtin "all"):=by decide+kernel
theorem Af:bootBuiltins "int"=some (.type "int"):=by decide+kernel
theorem DH:bootBuiltins "bool"=some (.type "bool"):=by decide+kernel
theorem Ag:bootBuiltins "str"=some (.type "str"):=by decide+kernel
theorem pG:bootBuiltins "tuple"=some (.type "tuple"):=by decide+kernel
theorem sM:bootBuiltins "list"=some (.type "list"):=by decide+kernel
theorem om:bootBuiltins "enumerate"=some (.type "enumerate"):=by decide+kernel
theorem DJ{K:au}:md K "int":=by
 intro t ht;simp only[Gan,Gaz,GaX] at ht;rcases ht with rfl|rfl|rfl|rfl|rfl|rfl|rfl<;>rfl
theorem DK{K:au}:md K "str":=by
 intro t ht;simp only[Gan,Gaz,GaX] at ht;rcases ht with rfl|rfl|rfl|rfl|rfl|rfl|rfl<;>rfl
theorem kit_tuple{K:au}:md K "tuple":=by
 intro t ht;simp only[Gan,Gaz,GaX] at ht;rcases ht with rfl|rfl|rfl|rfl|rfl|rfl|rfl<;>rfl
theorem Ah{K:au}:md K "list":=by
 intro t ht;simp only[Gan,Gaz,GaX] at ht;rcases ht with rfl|rfl|rfl|rfl|rfl|rfl|rfl<;>rfl
theorem Ai{K:au}:md K "bool":=by
 intro t ht;simp only[Gan,Gaz,GaX] at ht;rcases ht with rfl|rfl|rfl|rfl|rfl|rfl|rfl<;>rfl
end
open PySem PySem.Spec PyProof.Rows L2
open PySem PySem.Spec PyProof.Rows L2
theorem iV{env:PySem.Env}:∀(names:List (Str×NameKind)),(∀y∈names,y.2= .free->∃c,env.cells.lookup y.1=some c)->∀(cs:List (Str×Addr)),(∀n c,cs.lookup n=some c->env.cells.lookup n=some c)->
  ∃cl:List (Str×Addr),(forIn names cs λx r=>(do
    if(x.2==NameKind.free)=true then pure (ForInStep.yield ((x.1,<-cellOf env x.1)::r)) else pure (ForInStep.yield r):Sem (ForInStep (List (Str×Addr)))))=pure cl/\
   (∀n c,cl.lookup n=some c->env.cells.lookup n=some c)/\(∀y∈names,y.2= .free->∃c,cl.lookup y.1=some c)/\∀n c,cs.lookup n=some c->∃c',cl.lookup n=some c'
 |[],_,cs,h=>by
  refine⟨cs,rfl,h, ?_,λn c e=> ⟨c,e⟩⟩;intro y hy;cases hy
 |(x,k)::names,hf,cs,h=>by
  by_cases hk:k= .free
  .subst hk;obtain⟨c,hc⟩:=hf (x,.free) GaA rfl;have xp:cellOf env x=pure c:=by unfold cellOf;rw[hc]<;>rfl
   obtain⟨cl,h1,h2,h3,h4⟩:=iV names (λy hy=>hf y (Gat _ hy)) ((x,c)::cs) (λn c' e=>by
    by_cases z:n=x
    .subst z;simp[Gas] at e;subst e;exact hc
    .have z' :(n==x)=false:=by simpa using z
     simp[Gas,z'] at e;exact h n c' e)
   refine⟨cl, ?_,h2,λy hy zN=> ?_,λn c' e=> ?_⟩
   .rw[Gcs];simp only[xp];exact h1
   .rcases Gan.mp hy with rfl|hy
    .exact h4 x c (by simp[Gas])
    .exact h3 y hy zN
   .by_cases z:n=x
    .subst z;exact h4 n c (by simp[Gas])
    .have z' :(n==x)=false:=by simpa using z
     exact h4 n c' (by simp[Gas,z',e])
  .have xV :(k==NameKind.free)=false:=by simpa using hk
   obtain⟨cl,h1,h2,h3,h4⟩:=iV names (λy hy=>hf y (Gat _ hy)) cs h;refine⟨cl, ?_,h2,λy hy zN=> ?_,h4⟩
   .rw[Gcs];simp only[xV];exact h1
   .rcases Gan.mp hy with rfl|hy
    .exact absurd zN hk
    .exact h3 y hy zN
theorem iI{env:PySem.Env}{scope:Scope}(hf:∀y∈scope.names,y.2= .free->∃c,env.cells.lookup y.1=some c):
  ∃cl:List (Str×Addr),closureFor scope env=pure cl/\(∀n c,cl.lookup n=some c->env.cells.lookup n=some c)/\∀y∈scope.names,y.2= .free->∃c,cl.lookup y.1=some c:=by
 obtain⟨cl,h1,h2,h3,_⟩:=iV scope.names hf [] (λn c e=>by simp at e);refine⟨cl, ?_,h2,h3⟩;unfold closureFor;exact(congrArg (λm=>m>>=pure) h1).trans (by rfl)
theorem mem_of_lookup{x:Str}{k:NameKind}:∀{l:List (Str×NameKind)},l.lookup x=some k->(x,k)∈l
 |[],h=>by simp at h
 |(n,k')::r,h=>by
  rw[Gas] at h;cases hx:x==n with
  |true=>rw[hx] at h;cases h;rw[Gay] at hx;subst hx;exact GaA
  |false=>rw[hx] at h;exact Gat _ (mem_of_lookup h)
theorem iW{env:PySem.Env}{x:Str}:∀{names:List (Str×NameKind)},(∀y∈names,y.2≠ .cell)->((names.map λ(n,k)=>if(k==NameKind.free&&env.scope.kind== .function&&env.kindOf n==some .cell) then(n,NameKind.cell) else(n,k)).lookup x=some .cell\/
   (names.map λ(n,k)=>if(k==NameKind.free&&env.scope.kind== .function&&env.kindOf n==some .cell) then(n,NameKind.cell) else(n,k)).lookup x=some .free)->(x,NameKind.free)∈names
 |[],_,h=>by simp at h
 |(n,k)::r,hc,h=>by
  have hk:k≠ .cell:=hc (n,k) GaA;rw[Gbn] at h;dsimp only at h;split at h
  .rename_i q;have q1:k= .free:=by
    rw[Gad,Gad] at q
    simpa using q.1.1
   subst q1;rw[Gas] at h;cases hx:x==n with
   |true=>rw[Gay] at hx;subst hx;exact GaA
   |false=>rw[hx] at h;exact Gat _ (iW (λy hy=>hc y (Gat _ hy)) h)
  .rw[Gas] at h;cases hx:x==n with
   |true=>
    rw[hx] at h;rw[Gay] at hx;subst hx
    rcases h with h|h
    .cases h;exact absurd rfl hk
    .cases h;exact GaA
   |false=>rw[hx] at h;exact Gat _ (iW (λy hy=>hc y (Gat _ hy)) h)
theorem d3{env:PySem.Env}{x:Str}:∀{names:List (Str×NameKind)},names.lookup x=some .free->((names.map λ(n,k)=>if(k==NameKind.free&&env.scope.kind== .function&&env.kindOf n==some .cell) then(n,NameKind.cell) else(n,k)).lookup x=some .cell\/
   (names.map λ(n,k)=>if(k==NameKind.free&&env.scope.kind== .function&&env.kindOf n==some .cell) then(n,NameKind.cell) else(n,k)).lookup x=some .free)
 |[],h=>by simp at h
 |(n,k)::r,h=>by
  rw[Gas] at h;rw[Gbn];dsimp only;cases hx:x==n with
  |true=>
   rw[hx] at h;cases h
   split
   .left;rw[Gas,hx]
   .right;rw[Gas,hx]
  |false=>
   rw[hx] at h;split
   .rw[Gas,hx];exact d3 h
   .rw[Gas,hx];exact d3 h
noncomputable def blk(X:Cx)(scope:Scope)(cl:List (Str×Addr))(C:Addr)(N:List Str)(s:Shared)(H:Hp)(ex:List Addr):Cx:=
 {X with N:=N,s₀:=s,H0:=H,env:=compEnvC scope cl C X.env,outer:=X.stack,ex:=ex,fn:=λ_=>false,pn:=[],xe:=λ_ _=>False}
def mP:Option NameKind->Bool
 |some .cell=>true
 |some .free=>true
 |_=>false
structure gw(X:Cx)(scope:Scope)(N:List Str)(n:Nat)(eA:List Nat):Prop where
 cell:(scope.names.all λy=>y.2 != .cell)=true
 kind:scope.kind= .function
 names:(scope.names.all λy=>y.2 != .local||scope.names.lookup y.1==some .local)=true
 free:(scope.names.all λy=>y.2 != .free||mP (X.env.kindOf y.1))=true
 cap:N.drop n=eA.map λi=>(X.N[i]?).getD ("":Str)
 le:n<=N.length
 lt:(eA.all λi=>decide (i<X.N.length))=true
 fr:((N.drop n).all λx=>scope.names.lookup x==some .free)=true
def lr(X:Cx)(ifs:List Expr)(tt:TT):Prop:=∀(e7:LAO) (s:Shared) (Z:St) (H:Hp) (Q:Bool->Hp->Prop),Inv X e7 Z H s->tt Z H Q->
 wpAny (model X.prog X.w) X.A (forIn ifs true λc r=>if r=true then do let ok<-isTrue c X.env (eval c X.env);pure (ForInStep.yield ok) else pure (ForInStep.yield r)) (TP X e7 Z Q) X.xe s
variable{X:Cx}
theorem v9:lr X [] (tT X bD):=λe7 s Z H Q I ⟨_,_,_,_,_,e,k⟩=>by
 cases e;exact wpAny_tests_nil ⟨H,I,k H aU⟩
theorem va{c:Expr}{t:DT}(h:PTd X c t):lr X [c] (tT X t):=λe7 s Z H Q I q=>wpAny_tests_one (h e7 s Z H Q I q)
variable{j:Nat}{eA:List Nat}
theorem lu{n:Nat}{α:Type}{f:Nat->Option α}{y:α}(h:(List.replicate n (none:Option α)++eA.map f)[j]? =some (some y)):∃i,eA[j -n]? =some i/\n<=j/\f i=some y:=by
 by_cases hj:j<n
 .rw[GaH (by simpa using hj),Gbp] at h;rw[Gak hj] at h;cases h
 .rw[GaL (by simp;lia),Gcj,Gaw] at h;cases q:eA[j -n]? with
  |none=>rw[q] at h;cases h
  |some i=>rw[q] at h;simp only[Gbf,Option.some.injEq] at h;exact⟨i,rfl,by lia,h⟩
theorem Aj{n i:Nat}{α:Type}{f:Nat->Option α}(h1:eA[j -n]? =some i)(h2:n<=j):(List.replicate n (none:Option α)++eA.map f)[j]? =some (f i):=by
 rw[GaL (by simp;lia),Gcj,Gaw,h1];rfl
noncomputable def ic(n:Nat)(eA:List Nat)(Z:St):St:=List.replicate n none++eA.map λi=>Z[i]?.getD none
def iJ(e8:Addr->Prop)(env:Env)(Z:St)(p:Addr):Addr->Prop:=λa=>a=p\/¬Cln e8 env Z a
theorem getD_some{α:Type}{o:Option (Option α)}{y:α}(h:o.getD none=some y):o=some (some y):=by
 cases o with
 |none=>cases h
 |some z=>simp only[Option.getD_some] at h;rw[h]
variable{env:Env}
theorem pH{n:Nat}{sl:Slot}(e:(compEnv n eA env)[j]? =some (some sl)):∃i,eA[j -n]? =some i/\n<=j/\lq (env[i]?.getD none)=some sl:=lu e
variable{Z:St}
theorem sO{n:Nat}{a:Addr}(t:ba (compEnv n eA env)[j]?)(e:(ic n eA Z)[j]? =some (some (.ref a))):∃i:Nat,ba env[i]? /\Z[i]? =some (some (.ref a)):=by
 cases q:(compEnv n eA env)[j]? with
 |none=>rw[q] at t;exact t.elim
 |some z=>
  cases z with
  |none=>rw[q] at t;exact t.elim
  |some sl=>
   obtain⟨i,e1,e2,e3⟩:=pH q;obtain⟨i',zX,_,RH⟩:=lu e;rw[e1] at zX;cases zX
   refine⟨i, ?_,getD_some RH⟩;rw[q] at t;cases r:env[i]? with
   |none=>rw[r] at e3;cases e3
   |some z=>cases z with
    |none=>rw[r] at e3;cases e3
    |some z=>
     rw[r] at e3;cases z with
     |sh d=>cases e3;exact t.elim
     |own d=>trivial
     |lok d=>trivial
     |bor d=>trivial
theorem DP{n:Nat}:¬isO (compEnv n eA env)[j]? :=λt=>by
 match q:(compEnv n eA env)[j]?,t with
 |some (some (.own d)),_=>
  obtain⟨i,_,_,e3⟩:=pH q;cases q:env[i]?.getD none with
  |none=>rw[q] at e3;cases e3
  |some z=>rw[q] at e3;cases z<;>cases e3
variable{p:Addr}{H H0:Hp}
theorem aA.block{K:au}{e8:Addr->Prop}(E:aA K H0 e8 env Z H)(n:Nat)(eA:List Nat)(hp:H p=none):
  aA K H (iJ e8 env Z p) (compEnv n eA env) (ic n eA Z) (upd H p (.lst [])):=by
 have sm:aW H (upd H p (.lst [])):=aV hp;have slot:∀(j:Nat) (sl:Slot),(compEnv n eA env)[j]? =some (some sl)->∃i,eA[j -n]? =some i/\n<=j/\lq (env[i]?.getD none)=some sl:=λj sl e=>lu e;have noO:∀(j:Nat) d,(compEnv n eA env)[j]? ≠some (some (.own d))/\(compEnv n eA env)[j]? ≠some (some (.lok d)):=λj d=>by
  constructor<;>
  .intro e;obtain⟨i,_,_,e3⟩:=slot j _ e;cases q:env[i]?.getD none with
   |none=>rw[q] at e3;cases e3
   |some z=>rw[q] at e3;cases z<;>cases e3
 have topAd:∀(j:Nat) a,ba (compEnv n eA env)[j]? ->(ic n eA Z)[j]? =some (some (.ref a))->∃i:Nat,ba env[i]? /\Z[i]? =some (some (.ref a)):=λj a t e=>sO t e;have cln:∀b,Cln e8 env Z b->H b≠none->Cln (iJ e8 env Z p) (compEnv n eA env) (ic n eA Z) b:=λb h hb=>by
  refine⟨λz=> ?_,λj t e=> ?_⟩
  .rcases z with z|z
   .subst z;exact hb hp
   .exact z h
  .obtain⟨i,t',e'⟩:=topAd j b t e;exact h.2 i t' e'
 refine⟨sm, ?_, ?_, ?_, ?_, ?_, ?_⟩
 .simp[compEnv,ic]
 .intro a ha;rcases ha with ha|ha
  .subst ha;rw[aE];simp
  .intro z;refine ha ⟨λb=>E.bad a b (sm.free z),λi t e=>E.i9 t e (sm.free z)⟩
 .intro j d e;obtain⟨i,e1,e2,e3⟩:=slot j _ e;have q:env[i]? =some (some (.sh d)):=by
   cases r:env[i]? with
   |none=>rw[r] at e3;cases e3
   |some z=>cases z with
    |none=>rw[r] at e3;cases e3
    |some z=>rw[r] at e3;cases z<;>cases e3;rfl
  obtain⟨v,h1,h2⟩:=E.sh i d q;refine⟨v, ?_,h2.gen (.of_same sm) cln⟩;unfold ic;rw[Aj e1 e2,h1];rfl
 .intro j d e;rcases e with e|e
  .exact absurd e (noO j d).1
  .exact absurd e (noO j d).2
 .intro j d e;obtain⟨i,e1,e2,e3⟩:=slot j _ e;have q:ba env[i]? /\(env[i]? =some (some (.own d))\/env[i]? =some (some (.lok d))\/env[i]? =some (some (.bor d))):=by
   cases r:env[i]? with
   |none=>rw[r] at e3;cases e3
   |some z=>cases z with
    |none=>rw[r] at e3;cases e3
    |some z=>
     rw[r] at e3;cases z with
     |sh d=>cases e3
     |own d=>cases e3;exact⟨trivial,.inl rfl⟩
     |lok d=>cases e3;exact⟨trivial,.inr (.inl rfl)⟩
     |bor d=>cases e3;exact⟨trivial,.inr (.inr rfl)⟩
  have fact:∃a,Z[i]? =some (some (.ref a))/\Wr H a/\d.top=true/\Inn K (Cln e8 env Z) H d (.ref a):=by
   rcases q.2 with q|q|q
   .obtain⟨a,h1,_,_,h4,h5,h6⟩:=E.ow i d (.inl q);exact⟨a,h1,h4,h5,h6⟩
   .obtain⟨a,h1,_,_,h4,h5,h6⟩:=E.ow i d (.inr q);exact⟨a,h1,h4,h5,h6⟩
   .exact E.bo i d q
  obtain⟨a,h1,h4,h5,h6⟩:=fact;refine⟨a, ?_,h4.same sm,h5,h6.gen (.of_same sm) cln λ_ _ _ o e=>sm _ o e⟩;unfold ic;rw[Aj e1 e2,h1];rfl
 .intro j k a t;exfalso;cases q:(compEnv n eA env)[j]? with
  |none=>rw[q] at t;exact t
  |some z=>cases z with
   |none=>rw[q] at t;exact t
   |some z=>cases z with
    |sh d=>rw[q] at t;exact t
    |own d=>exact(noO j d).1 q
    |lok d=>exact(noO j d).2 q
    |bor d=>rw[q] at t;exact t
theorem aA.grow{K:au}{e8:Addr->Prop}{vs us:List V}(E:aA K H0 e8 env Z H)(hb:e8 p)(h0:H0 p=none)(hp:H p=some (.lst vs))(hl:∀i:Nat,kX env[i]? ->Z[i]? ≠some (some (.ref p))):aA K H0 e8 env Z (upd H p (.lst us)):=by
 have fW:i8 (Cln e8 env Z) H (upd H p (.lst us)):=λb o e q=>by
  refine(ak ?_).trans e;rintro rfl;rcases q with q|q
  .exact q.1 hb
  .rw[hp] at e;cases e;exact q
 have wr:∀{a},Wr H a->Wr (upd H p (.lst us)) a:=λ{a} ⟨o,h1,h2⟩=>by
  by_cases z:a=p
  .subst z;exact⟨_,aE,trivial⟩
  .exact⟨o,(ak z).trans h1,h2⟩
 refine⟨λb o e=>(ak λz=>by subst z;rw[h0] at e;cases e).trans (E.same b o e),E.len,λa ha=> ?_,λi d e=> ?_,λi d e=> ?_,λi d e=> ?_,E.dj⟩
 .by_cases z:a=p
  .subst z;rw[aE];simp
  .rw[ak z];exact E.bad a ha
 .obtain⟨v,h1,h2⟩:=E.sh i d e;exact⟨v,h1,h2.gen fW λ_ f _=>f⟩
 .obtain⟨a,h1,h2,h3,h4,h5,h6⟩:=E.ow i d e;refine⟨a,h1,h2,h3,wr h4,h5,h6.gen fW (λ_ f _=>f) λb eb _ o q=> ?_⟩;cases eb;exact(ak (λz:a=p=>h3 (by rw[z];exact hb))).trans q
 .obtain⟨a,h1,h4,h5,h6⟩:=E.bo i d e;refine⟨a,h1,wr h4,h5,h6.gen fW (λ_ f _=>f) λb eb _ o q=> ?_⟩;cases eb;exact(ak (λz:a=p=>hl i (by rw[e];trivial) (by rw[<-z];exact h1))).trans q
open PySem PySem.Spec PyProof.Rows L2
theorem ex7{a b c d e f g:Type}{P:a->b->c->d->e->f->g->Prop}{G:Prop}(h:∀x1 x2 x3 x4 x5 x6 x7,P x1 x2 x3 x4 x5 x6 x7->G):(∃x1 x2 x3 x4 x5 x6 x7,P x1 x2 x3 x4 x5 x6 x7)->G:=λ⟨x1,x2,x3,x4,x5,x6,x7,q⟩=>h x1 x2 x3 x4 x5 x6 x7 q
structure CoI(X:Cx)(scope:Scope)(cl:List (Str×Addr))(C:Addr)(N:List Str)(s:Shared)(H:Hp)(fp:List Addr)(tn:Nat->Heap->Prop)(e8:Addr->Prop)(env:Env)(Z:St)(p:Addr)(gd:DG)(t:DT)(f:DE)(ds rs:List D)(m:Nat)(s' :Shared)(i:Nat)(Zi:St)(Hi:Hp)(eQ:Env)(vs:List V)(done rest:List D):Prop where
 em:m=ds.length -i
 hi:i<=ds.length
 Ii:Inv (blk X scope cl C N s H fp) [] Zi Hi s'
 sti:tn i s'.heap
 fri:∀b∈fp,Hi b=none
 Ei:aA X.K H (iJ e8 env Z p) eQ Zi Hi
 hpi:Hi p=some (.lst vs)
 ri:aI X.K (λb=>Cln e8 env Z b/\b≠p) Hi done vs
 owi:∀j:Nat,¬isO eQ[j]?
 lbi:∀(j:Nat) a,kX eQ[j]? ->Zi[j]? =some (some (.ref a))->¬Cln e8 env Z a
 dl:done.length<=i
 ci:cV gd t f (ds.drop i) eQ=some rest
 eqi:done++rest=rs
section
variable{X:Cx}{pos:Pos}
variable{x:Str}{scope:Scope}
theorem f9{env:PySem.Env}(h:scope.names.lookup x=some .local):(relabel scope env).names.lookup x=some .local:=lookup_relabel_local h
variable{ex:List Addr}{H:Hp}{s:Shared}{N:List Str}{C:Addr}{cl:List (Str×Addr)}
theorem vb(h:scope.names.lookup x=some .local):Vis (blk X scope cl C N s H ex).env.scope x:= .inl (f9 h)
theorem vc(h:scope.names.lookup x=some .local):Loc (blk X scope cl C N s H ex).env.scope x:= .inl (f9 h)
theorem Ak(h:scope.names.lookup x=some .free):Vis (blk X scope cl C N s H ex).env.scope x:= .inr (d3 h)
variable{fp:List Addr}{Z:St}{e7:LAO}{eA:List Nat}
theorem vd{n:Nat}{h₁:Heap}{tk:Nat}(S:gw X scope N n eA)(I:Inv X e7 Z H s)
  (yy:∀x c,cl.lookup x=some c->X.env.cells.lookup x=some c)(y6:∀y∈scope.names,y.2= .free->∃c,cl.lookup y.1=some c)(hf:∀b∈fp,gU X e7 H b)(zT:∀b∈fp,b<s.heap.objs.size)
  (hC:s.heap.objs.size+1=C)(y0:h₁.Ns C λ_=>none)(old:∀b o,s.heap.get? b=some o->h₁.get? b=some o)(yN:h₁.get? s.heap.objs.size=some {cls:= .type "list",data:= .seq ([]:List Value).toArray}):
  Inv (blk X scope cl C N s H fp) [] (ic n eA Z) (upd H s.heap.objs.size (.lst [])) {s with heap:=h₁,toks:=tk}:=by
 have yF:=I.fresh;have hCn:H C=none:=I.hok.fresh (by lia);have xU:C≠s.heap.objs.size:=λz=>by rw[z] at hC;exact Nat.succ_ne_self _ hC
 have xp:∀y∈scope.names,y.2≠ .cell:=λy hy z=>by
  have:=Gau.mp S.cell y hy;rw[z] at this;simp at this
 have cells:∀x c,cl.lookup x=some c->∃v,s.heap.IsCell c v:=λx c e=>I.cell x c (yy x c e);have cNe:∀x c,cl.lookup x=some c->c≠s.heap.objs.size:=λx c e z=>by
  obtain⟨v,q⟩:=cells x c e;exact absurd q.lt (by rw[z];exact GaI _)
 refine⟨⟨I.ok.mod,S.kind,I.ok.glob,I.ok.blt,by show s.heap.objs.size<=C;lia,λx y c e1 e2=>I.ok.inj x y c (yy x c e1) (yy y c e2),λx hx=> ?_,λx c e=>(by cases e),I.ok.hd,I.ok.frames,.inl rfl,λb hb=> ⟨?_,λx c e=>(hf b hb).2.2.2.2.1 x c (yy x c e)⟩,
  I.bs,GaE I.ok.bsz I.sz,λb o e hb=> ?_,λb hb hs=> ?_,I.stack,I.je⟩,rfl,I.bare,Un.laid old (Gap _) yF,⟨_,y0,λj x v e1 e2 e3=> ?_⟩,λx c e=> ?_,(ak xU).trans hCn,λx c e=>(ak (cNe x c e)).trans (I.fV x c (yy x c e)),λp hp=> ?_, ?_, ?_⟩
 .obtain⟨c,hc⟩:=y6 (x,.free) (iW xp hx) rfl;exact⟨c,hc⟩
 .intro z;have:=zT b hb;have z' :b=C:=z;rw[z',<-hC] at this;exact GaI _ (Nat.lt_of_succ_lt this)
 .rcases(hf b hb).2.2.2.1 with z|z
  .exact I.ok.rV b o e z
  .exact absurd (Gah (Gaj e) (GaE I.ok.bsz z)) (GaI _)
 .have yv :b∈frs X.stack:=hs;rcases Gan.mp (I.lD b yv) with z|z
  .exact(hf b hb).2.1 z
  .exact(hf b hb).2.2.1 z
 ·
  obtain⟨i,f1,f2,f3⟩:=lu e2;have f3' :=getD_some f3;have zX :N[j]? =some x:=e1;have hd:(N.drop n)[j -n]? =some x:=by rw[List.getElem?_drop];rw[show n+(j -n)=j by lia];exact zX
  have hxf:scope.names.lookup x=some .free:=by
   have:=Gau.mp S.fr x (GaC hd)
   simpa using this
  rw[S.cap,Gaw,f1] at hd;have hi:i<X.N.length:=GaB (Gau.mp S.lt i (GaC f1));have hXN:X.N[i]? =some x:=by
   simp only[Gbf,Option.some.injEq] at hd;rw[Gal hi] at hd⊢
   simpa using hd
  have hk:mP (X.env.kindOf x)=true:=by
   have:=Gau.mp S.free (x,.free) (mem_of_lookup hxf)
   simpa using this
  have xV :X.env.kindOf x=some .cell\/X.env.kindOf x=some .free:=by
   cases q:X.env.kindOf x with
   |none=>rw[q] at hk;cases hk
   |some z=>rw[q] at hk;cases z<;>first|(cases hk;done)|exact .inl rfl|exact .inr rfl
  obtain⟨m,hm,look⟩:=I.loc;have hv:Vis X.env.scope x:= .inr xV;obtain⟨u,ru,l⟩:=look i x v hXN f3' hv;refine⟨u,ru,.inr ⟨?_, ?_⟩⟩
  .exact d3 hxf
  .rcases l with⟨l,_⟩| ⟨_,c,hc,o,ho,Q5⟩
   .rcases xV with z|z<;>rw[l] at z<;>cases z
   .obtain⟨c',yn⟩:=y6 (x,.free) (mem_of_lookup hxf) rfl;have:=yy x c' yn;rw[hc] at this;cases this
    exact⟨c,yn,o,old _ _ ho,Q5⟩
 .obtain⟨v,o,ho,Q5⟩:=cells x c e;exact⟨v,o,old _ _ ho,Q5⟩
 .cases hp
 .exact I.hok.laid old (Gap _) ⟨Nat.zero_le _,[],0,.nil,yN⟩
 .show(ic n eA Z).length=N.length;have:=congrArg List.length S.cap;rw[Gci,Gax] at this;have:=S.le;simp[ic];lia
theorem DQ{xN :LAO}{Z' :St}{H' :Hp}{s' :Shared}(I:Inv X e7 Z H s)(hf:∀b∈fp,gU X e7 H b)
  (I' :Inv (blk X scope cl C N s H fp) xN Z' H' s'):Inv X e7 Z H' s' :=
 I.oX I'.os I'.base I'.hok I'.bare λb hb=> ⟨(hf b hb).2.2.2.1,(hf b hb).2.1,(hf b hb).2.2.2.2.1,(hf b hb).2.2.2.2.2⟩
def LS(K:au)(H H' :Hp)(F:Addr->Prop)(p:Addr)(rs:List D):Prop:=aW H H' /\H p=none/\∃vs,H' p=some (.lst vs)/\aI K (λb=>F b/\b≠p) H' rs vs
def nr(gd:DG):Prop:=∀d e e',gd d e=some e' ->(∀j:Nat,¬isO e[j]?)->∀j:Nat,¬isO e'[j]?
variable{i:Nat}
theorem sP{e:Env}{d:D}(h:∀j:Nat,¬isO e[j]?):∀j:Nat,¬isO (e.set i (some (.sh d)))[j]? :=λj z=>by
 by_cases q:i=j
 .subst q;by_cases hl:i<e.length
  .rw[Gav hl] at z;exact z
  .rw[GaS (by simp;lia)] at z;exact z
 .rw[Gab q] at z;exact h j z
theorem Al:nr (gN i):=λd e e' h n=>by cases h;exact sP n
theorem nu:∀(is:List Nat) (ds:List D) (e e' :Env),gNs is ds e=some e' ->(∀j:Nat,¬isO e[j]?)->∀j:Nat,¬isO e'[j]?
 |[],[],e,e',h,n=>by cases h;exact n
 |i::is,d::ds,e,e',h,n=>nu is ds _ e' h (sP n)
 |[],_::_,_,_,h,_=>by cases h
 |_::_,[],_,_,h,_=>by cases h
theorem Am{is:List Nat}:nr (gT is):=λd e e' h n=>by
 unfold gT at h;split at h
 .exact nu is _ e e' h n
 .cases h
theorem nA{n:Nat}{H0:Hp}{it:Addr}{tn:Nat->Heap->Prop}{J:It}{tg iter elt:Expr}{ifs:List Expr}{E:VSP}
  {gd:DG}{t:DT}{f:DE}{ds rs:List D}{e8:Addr->Prop}{env:Env}{RR:Value->Addr->Result->Shared->Prop}(hc:X.calm=true)(S:gw X scope N n eA)(I:Inv X e7 Z H s)
  (yy:∀x c,cl.lookup x=some c->X.env.cells.lookup x=some c)(y6:∀y∈scope.names,y.2= .free->∃c,cl.lookup y.1=some c)(hf:∀b∈fp,gU X e7 H b)(T:Turn X.prog X.w X.K tg J fp it tn)(st:tn 0 s.heap)
  (hg:∀C s' H',PGd (blk X scope cl C N s' H' fp) tg gd)(ht:∀C s' H',lr (blk X scope cl C N s' H' fp) ifs (tT X t))(he:∀C s' H',PEd (blk X scope cl C N s' H' fp) elt f)
  (EE:aA X.K H0 e8 env Z H)(io:Aa X.K (λb=>Cln e8 env Z b/\H b≠none) (λb=>¬Ow env Z b) J ds H)(zp:nr gd)(hz:ds.length<=aj)(hl:cV gd t f ds (compEnv n eA env)=some rs)
  (RC:∀p C s' H' m,Inv X e7 Z H' s' ->s'.heap.Ns C m->s.heap.objs.size<=C->gU X e7 H' C->LS X.K H H' (Cln e8 env Z) p rs->RR (.ref p) C (.ok .next) s'):
  wpAny (model X.prog X.w) X.A (newList []) (λacc s₃=>wpAny (model X.prog X.w) X.A (newFunctionEnv scope X.env.globals cl [] X.env.qual none .none (some X.env)) (λzE s₄=>
   codeAny (model X.prog X.w) X.A (.compStart (.ListComp elt [⟨tg,iter,ifs,0⟩] scope pos) 0 (.ref it) acc {zE with scope:=relabel scope X.env}) (RR acc zE.locals) s₄) E s₃) E s:=by
 have xp:∀y∈scope.names,y.2≠ .cell:=λy hy z=>by
  have:=Gau.mp S.cell y hy;rw[z] at this;simp at this
 refine Gbd (wpAny_newFunctionEnv xp (by intro y hy;simp at hy) (λh₁ hns₁ hsb₁=> ?_) S.kind);dsimp only at hns₁ hsb₁⊢;generalize xy:s.heap.push {cls:= .type "list",dict:=none,data:= .seq ([]:List Value).toArray}=H2 at hns₁ hsb₁⊢;have hC:s.heap.objs.size+1=H2.objs.size:=by rw[<-xy,Gbb]
 have hDC:s.heap.objs.size≠H2.objs.size:=by rw[<-hC];exact Gaq (Gbs _)
 have hCle:s.heap.objs.size<=H2.objs.size:=by rw[<-hC];exact Gbk _
 have old:∀b o,s.heap.get? b=some o->h₁.get? b=some o:=λb o e=>hsb₁.extBut b o (by rw[<-hC];exact Gaq (Gcc (Gaj e))) (Gaf _ (xy▸Gaf _ e));have yN:h₁.get? s.heap.objs.size=some {cls:= .type "list",data:= .seq ([]:List Value).toArray}:=hsb₁.extBut _ _ hDC (Gaf _ (xy▸Gar _ rfl));have zT:∀b∈fp,b<s.heap.objs.size:=λb hb=>by obtain⟨o,e,_⟩:=T.obj 0 _ st b hb;exact Gaj e
 have st₁:tn 0 h₁:=T.keep 0 _ _ st λb _ o e=>old b o e;have yF:=I.fresh;generalize hC' :H2.objs.size=C at*;have I1:Inv (blk X scope cl C N s H fp) [] (ic n eA Z) (upd H s.heap.objs.size (.lst [])) {s with heap:=h₁,toks:=s.toks+([]:List (Str×Value)).length}:=vd S I yy y6 hf zT hC (by
  have z:(λx:Str=>([]:List (Str×Value)).reverse.lookup x)=λ_=>none:=by funext x;rfl
  rw[z] at hns₁;exact hns₁) old yN
 have E1:=EE.block n eA yF;generalize hp:s.heap.objs.size=p at*;have loop:codeAny (model X.prog X.w) X.A (.compLoop (.ListComp elt [⟨tg,iter,ifs,0⟩] scope pos) 0 (.ref it) (.ref p) (compEnvC scope cl C X.env)) (RR (.ref p) C) {s with heap:=h₁,toks:=s.toks+([]:List (Str×Value)).length}:=by
  refine codeAny_loop rfl (λm s' =>∃i Zi Hi eQ vs done rest,CoI X scope cl C N s H fp tn e8 env Z p gd t f ds rs m s' i Zi Hi eQ vs done rest) ?_ ds.length ?_
  .refineλm s' =>ex7 λi Zi Hi eQ vs done rest J0=> ?_
   have e0:=J0.em;subst e0;have hi:=J0.hi;have Ii:=J0.Ii;have sti:=J0.sti;have fri:=J0.fri;have Ei:=J0.Ei;have hpi:=J0.hpi;have ri:=J0.ri;have owi:=J0.owi;have lbi:=J0.lbi;have dl:=J0.dl;have ci:=J0.ci;have eqi:=J0.eqi;have zq:∀{H' :Hp},(∀b∈fp,H' b=none)->∀b∈fp,gU (blk X scope cl C N s H fp) [] H' b:=λhn b hb=>by
    refine⟨hn b hb,(Ii.ok.exf b hb).1,Ii.ok.rW b hb,.inl hb,(Ii.ok.exf b hb).2,λq hq=>(by cases hq)⟩
   have xO:∀b o,H b=some o->Hi b=some o:=Ei.same;obtain⟨items,stop⟩:=io Hi λb o hb _=>xO b o hb;show wpAny _ X.A ((compTurn (.ListComp elt [⟨tg,iter,ifs,0⟩] scope pos) 0 (.ref it) (.ref p) (compEnvC scope cl C X.env)).onRaise (λx=>do noteFrame x (compEnvC scope cl C X.env);theTreesLotGoes x)) _ _ s';refine wpAny_noted ?_;rw[compTurn_list];refine Gae (wpAny_standAt (Gae ?_));by_cases xa:i<ds.length
   .obtain⟨go,yld⟩:=items i ds[i] (by simp[xa]);refine thn (T.item (blk X scope cl C N s H fp) rfl rfl rfl hc i [] s' Zi Hi _ Ii (zq fri) sti go) λr s4 ⟨u,hr,h4⟩=> ?_;subst hr;refine Gae (thn h4 λ_ s5 ⟨x,H5,I5,r5,y5,y8,zy⟩=> ?_);obtain⟨s2,rep⟩:=yld x H5 y5;have I5' :=I5.pinned (zq zy) (T.obj _ _ y8);have hd:ds.drop i=ds[i]::ds.drop (i+1):=GbS xa;rw[hd] at ci;unfold cV at ci;obtain⟨e2,yl,ci⟩:=e6 ci;obtain⟨bb,xh,ci⟩:=e6 ci;have clnIn:∀b,Cln e8 env Z b/\H b≠none->Cln (iJ e8 env Z p) eQ Zi b:=λb ⟨q1,q2⟩=>by
     refine⟨λz=>z.elim (λz=>q2 (by rw[z];exact yF)) λz=>z q1,λj tj ej=> ?_⟩;rcases n8 tj with o|o
     .exact owi j o
     .exact lbi j b o ej q1
    refine Gae (thn (GaO (hg C s H _ s5 Zi H5 x u (λZ6 H6=>aA X.K H (iJ e8 env Z p) e2 Z6 H6/\Stp eQ Zi H5 e2 Z6 H6) I5' r5 ⟨H,iJ e8 env Z p,eQ,ds[i],e2,Ei.mono s2,yl,rep.imp clnIn,λZ' H' E' p' => ⟨E',p'⟩⟩) (λ_ _ q=>q) λ_ _ q=>q.elim) λ_ s6 ⟨Z6,H6,I6,E6,p6⟩=> ?_);have Pq:=zp _ _ _ yl owi;have s56:aW H5 H6:=λb o e=>p6.keep b o e λ⟨j,z,_⟩=>owi j z;have Qs:∀(j:Nat) a,kX e2[j]? ->Z6[j]? =some (some (.ref a))->¬Cln e8 env Z a:=λj a z ej=>by
     obtain⟨q1,q2⟩:=p6.lk j z;rw[q1] at z;rw[q2] at ej
     exact lbi j a z ej
    have again:∀{H7:Hp} {s7:Shared} {yr :List V} {xE xA :List D},Inv (blk X scope cl C N s H fp) ([]++jW fp s5.heap) Z6 H7 s7->aA X.K H (iJ e8 env Z p) e2 Z6 H7->H7 p=some (.lst yr)->aI X.K (λb=>Cln e8 env Z b/\b≠p) H7 xE yr ->
      xE.length<=i+1->cV gd t f (ds.drop (i+1)) e2=some xA ->xE ++xA =rs->
      ∃m,m<ds.length -i/\∃i Zi Hi eQ vs done rest,CoI X scope cl C N s H fp tn e8 env Z p gd t f ds rs m s7 i Zi Hi eQ vs done rest:=by
     intro H7 s7 yr xE xA I7 E7 zR r7 RI c7 q7;refine⟨ds.length -(i+1),by lia,i+1,Z6,H7,e2,yr,xE,xA,⟨rfl,xa,I7.dX,T.keep _ _ _ y8 λb hb o e=>(I7.pin (b,o) (GaD _ (GaD _ (d9 hb e)))).1,λb hb=> ?_,E7,zR,r7,Pq,Qs,RI,c7,q7⟩⟩;obtain⟨o,e,d⟩:=T.obj _ _ y8 b hb;exact(I7.pin (b,o) (GaD _ (GaD _ (d9 hb e)))).2.1
    refine Gae (thn (GaO (ht C s H _ s6 Z6 H6 (λb' H7=>b' =bb/\aW H6 H7) I6 ⟨H,iJ e8 env Z p,e2,bb,E6,xh,λH' s' => ⟨rfl,s'⟩⟩) (λ_ _ q=>q) λ_ _ q=>q.elim) λok s7 ⟨H7,I7,hok,Qj⟩=> ?_);subst hok;have sAll:aW Hi H7:=s2.trans (s56.trans Qj);have E7:=E6.mono Qj;have zR:H7 p=some (.lst vs):=sAll _ _ hpi;have r7:=ri.gen (F' :=λb=>Cln e8 env Z b/\b≠p) (.of_same sAll) λ_ q _=>q;cases ok with
    |false=>
     rw[Gam Gai] at ci;exact Gao ⟨rfl,again I7 E7 zR r7 (Nat.le_succ_of_le dl) ci eqi⟩
    |true=>
     rw[Gak rfl] at ci;obtain⟨r,hr,ci⟩:=e6 ci;split at ci
     .rename_i xQ;obtain⟨xA,c8,rfl⟩:=Gaa.mp ci;refine Gae (Gae (thn (GaO (he C s H _ s7 Z6 H7 (λv H8=>aW H7 H8/\df X.K H (iJ e8 env Z p) e2 Z6 H7 H8 r v) I7 ⟨H,iJ e8 env Z p,e2,r,E7,hr,λv H' s' R=> ⟨s',R⟩⟩) (λ_ _ q=>q) λ_ _ q=>q.elim) λy s8 ⟨v,H8,I8,ry,Pl,R⟩=> ?_));have E8:=E7.mono Pl;have PN:H8 p=some (.lst vs):=Pl _ _ zR;have r8:=(r7.gen (F' :=λb=>Cln e8 env Z b/\b≠p) (.of_same Pl) λ_ q _=>q)
      have vr:Rep X.K (λb=>Cln e8 env Z b/\b≠p) H8 r.d v:=(R.rep E7 xQ).imp λb q=> ⟨Classical.byContradiction λz=>q.1 (.inr z),λz=>q.1 (.inl z)⟩;have eO:vs.length<sizeLine:=by
       rw[<-eG,<-ri.1];lia
      refine Gae (thn (GaO (iA (X:=blk X scope cl C N s H fp) _ s8 Z6 H8 (.ref p) [v] (.ref p) [y] (λ_ H9=>H9=upd H8 p (.lst (vs++[v]))) I8 rfl (.cons ry .nil) ⟨p,vs,v,rfl,rfl,PN,eO,rfl⟩) (λ_ _ q=>q) λ_ _ q=>q.elim) λ_ s9 ⟨_,H9,I9,_,h9⟩=> ?_);subst h9;have lbp:∀j:Nat,kX e2[j]? ->Z6[j]? ≠some (some (.ref p)):=λj z ej=>Qs j p z ej (EE.iT yF);have fW:i8 (λb=>Cln e8 env Z b/\b≠p) H8 (upd H8 p (.lst (vs++[v]))):=λb o e q=>by
       refine(ak ?_).trans e;rintro rfl;rcases q with q|q
       .exact q.2 rfl
       .rw[PN] at e;cases e;exact q
      refine Gao (Gao ⟨rfl,again I9 (E8.grow (.inl rfl) yF PN lbp) aE ((r8.append (aI.cons vr .nil)).gen fW λ_ q _=>q) (by simp;lia) c8 ?_⟩);rw[<-eqi,GcB];rfl
     .cases ci
   .have xP :i=ds.length:=by lia
    subst xP;rw[List.drop_length] at ci;cases ci;rw[Gba] at eqi;subst eqi;refine thn (T.done (blk X scope cl C N s H fp) rfl rfl rfl hc ds.length [] s' Zi Hi _ Ii (zq fri) sti stop) λr s4 ⟨hr,I4⟩=> ?_;subst hr;obtain⟨m,hm,_⟩:=I4.loc;have IX:=DQ I hf I4;exact Gao (RC p C s4 Hi m IX hm hCle ⟨I4.free,(I.qB (by rw[hp];exact hCle) (I.hok.fresh (by rw[hp];exact hCle))).2⟩ ⟨xO,yF,vs,hpi,ri⟩)
  .exact⟨0,_,_,_,[],[],rs,⟨by simp,Nat.zero_le _,I1,st₁,λb hb=>(ak (by rintro rfl;exact GaI _ (zT _ hb))).trans (hf b hb).1,E1,aE,aI.nil,λj=>DP,λj a z e=>by
    obtain⟨i,t1,t2⟩:=sO z.top e
    exactλq=>q.2 i t1 t2,Gap _,by simpa using hl,rfl⟩⟩
 exact codeAny_compStart_list loop (T.self X.A 0 _ _ _ st₁ loop)
end
open PySem PySem.Spec PyProof.Rows L2
section
variable{X:Cx}{pos:Pos}
variable{l:Option Nat}{eA:List Nat}
theorem jB{n:Nat}{env:Env}:compEnv n eA (aK l env)=compEnv n eA env:=by
 cases l with
 |none=>rfl
 |some j=>
  unfold aK;dsimp only;split
  .rename_i d q;unfold compEnv;congr 1;apply List.map_congr_left;intro i _;by_cases z:j=i
   .subst z;rw[Gav (Gac.mp q).1,q];rfl
   .rw[Gab z]
  .rfl
theorem gw.cells{scope:Scope}{N:List Str}{n:Nat}{eA:List Nat}{e7:LAO}{Z:St}{H:Hp}{s:Shared}(S:gw X scope N n eA)(I:Inv X e7 Z H s):∀y∈scope.names,y.2= .free->∃c,X.env.cells.lookup y.1=some c:=λy hy hf=>by
 have hk:=Gau.mp S.free y hy;rw[hf] at hk;simp only[bne_self_eq_false,Bool.false_or] at hk;refine I.ok.has y.1 ?_;cases q:X.env.kindOf y.1 with
 |none=>rw[q] at hk;cases hk
 |some z=>rw[q] at hk;cases z<;>first|(cases hk;done)|exact .inl rfl|exact .inr rfl
variable{N:List Str}{scope:Scope}
theorem gw.An{n:Nat}(S:gw X scope N n eA):∀y∈scope.names,y.2= .local->scope.names.lookup y.1=some .local:=λy hy hl=>by
 have:=Gau.mp S.names y hy;rw[hl] at this
 simpa using this
structure Blk(X:Cx)(scope:Scope)(N:List Str)(tg elt:Expr)(ifs:List Expr)(gd:DG)(t:DT)(f:DE):Prop where
 g:∀cl C s H ex,PGd (blk X scope cl C N s H ex) tg gd
 t:∀cl C s H ex,lr (blk X scope cl C N s H ex) ifs (tT X t)
 e:∀cl C s H ex,PEd (blk X scope cl C N s H ex) elt f
theorem _root_.L2.Inv.Gd{e7:LAO}{Z:St}{H:Hp}{s:Shared}{C:Addr}{h' :Heap}(I:Inv X e7 Z H s)(F:gU X e7 H C)(hs:Heap.SameBut C s.heap h'):Inv X e7 Z H {s with heap:=h' }:=
 I.turned (t' :=s.toks) (λb o hb e=>(hs.2 b hb).trans e) F.1 F.2.1 F.2.2.2.1 F.2.2.2.2.1 F.2.2.2.2.2
variable{f:DE}{t:DT}{gd:DG}{ifs:List Expr}{tg iter elt:Expr}
theorem DR{n:Nat}{src:DI}(hc:X.calm=true)(S:gw X scope N n eA)(hi:PId X tg iter src)(zp:nr gd)(B:Blk X scope N tg elt ifs gd t f)
  (hs:∀x,foldedSetIterable iter X.env x=pure x:=by intro _;rfl):PEd X (.ListComp elt [⟨tg,iter,ifs,0⟩] scope pos) (bC l n eA src gd t f):=by
 intro e7 s Z H Q I hw;obtain⟨H0,e8,env,r,E,e,k⟩:=hw;unfold bC at e;obtain⟨ds,xv,e⟩:=e6 e;split at e
 .rename_i hz;obtain⟨rs,xI,rfl⟩:=Gaa.mp e;obtain⟨EL,lo,eY⟩:=E.lock l;obtain⟨cl,h1,h2,h3⟩:=iI (S.cells I);rw[eval_ListComp];refine wpAny_comprehension_free (use:=none) rfl hs h1 S.kind S.An ?_;refine thn (hi e7 s Z H (λJ H' =>aW H H' /\Aa X.K (λb=>Cln e8 (aK l env) Z b/\H' b≠none) (λb=>¬Ow (aK l env) Z b) J ds H') I ⟨H0,e8,aK l env,ds,EL,xv,λJ H' s' io=> ⟨s',io⟩⟩) λv s1 q1=>thn q1 λzm s2 q2=> ?_;obtain⟨it,fp,tn,J,H2,e,I2,T,yB,f2,sH,io⟩:=q2;subst e;refine nA (RR:=λacc C=>compPost (model X.prog X.w) X.A X.xe none (EP X e7 Z Q) acc C) hc S I2 h2 h3 f2 T yB (λC s' H' =>B.g cl C s' H' fp) (λC s' H' =>B.t cl C s' H' fp) (λC s' H' =>B.e cl C s' H' fp) (EL.mono sH) io zp hz (by rw[jB];exact xI) ?_;intro p C s' H' m IX hm hC hF G;refine⟨m,hm,λh' yv => ⟨.ref p,H',IX.Gd hF yv,rfl, ?_⟩⟩;obtain⟨g1,g2,vs,g3,g4⟩:=G;exact k _ H' (sH.trans g1) ⟨p,rfl,sH.free g2,⟨_,g3,trivial⟩,rfl,.lst (.inl g3) (g4.gen (.of_same aU) λb q _=> ⟨⟨q.1.1,λi ti ei=>q.1.2 i ((eY i).mpr ti) ei⟩,q.2⟩)⟩
 .cases e
theorem DU{i:Nat}{x:Str}{pos' yD:Pos}{n:Nat}{src:DI}(hN:X.N.Nodup)(xP :X.N[i]? =some x)(hx:Loc X.env.scope x)(hc:X.calm=true)(S:gw X scope N n eA)
  (hi:PId X tg iter src)(zp:nr gd)(B:Blk X scope N tg elt ifs gd t f)
  (R7:autoParam (swapsWith (.ListComp elt [⟨tg,iter,ifs,0⟩] scope yD) (some (.Name x pos')) pos.line X.env=pure true) Za1._auto_1)(hs:∀x,foldedSetIterable iter X.env x=pure x:=by intro _;rfl)
  (hf:autoParam (X.fn x=true\/X.env.scope.names.lookup x=some .local) Za3._auto_1):PSd X (.Assign [.Name x pos'] (.ListComp elt [⟨tg,iter,ifs,0⟩] scope yD) pos) (av i (bC l n eA src gd t f)):=by
 intro e7 s Z H D I hw;have hl:=I.len;obtain⟨H0,e8,env,o,E,e,k⟩:=hw;obtain⟨r,hr,e⟩:=e6 e;obtain⟨e',xw,rfl⟩:=Gaa.mp e;have hie:i<env.length:=A9 E hl xP;unfold bC at hr;obtain⟨ds,xv,hr⟩:=e6 hr;split at hr
 .rename_i hz;obtain⟨rs,xI,rfl⟩:=Gaa.mp hr;cases xw;obtain⟨EL,lo,eY⟩:=E.lock l;obtain⟨cl,h1,h2,h3⟩:=iI (S.cells I);rw[exec_Assign_Name_used _ _ _ _ R7];refine Gae (wpAny_standAt (Gae ?_));show wpAny _ X.A (do let _<-comprehension (.ListComp elt [⟨tg,iter,ifs,0⟩] scope yD) scope X.env _ (newList []) false (eval iter X.env) (some (assign (.Name x pos') X.env))) _ _ s;refine Gae (GaO (wpAny_comprehension_free (use:=some (assign (.Name x pos') X.env)) (Q:=λ_ s' =>SP X e7 D .next s') rfl hs h1 S.kind S.An ?_) (λ_ s' hq=>Gao (Gao hq)) λ_ _ e=>e);refine thn (hi e7 s Z H (λJ H' =>aW H H' /\Aa X.K (λb=>Cln e8 (aK l env) Z b/\H' b≠none) (λb=>¬Ow (aK l env) Z b) J ds H') I ⟨H0,e8,aK l env,ds,EL,xv,λJ H' s' io=> ⟨s',io⟩⟩) λv s1 q1=>thn q1 λzm s2 q2=> ?_;obtain⟨it,fp,tn,J,H2,e,I2,T,yB,f2,sH,io⟩:=q2;subst e;refine nA (RR:=λacc C=>compPost (model X.prog X.w) X.A X.xe (some (assign (.Name x pos') X.env)) (λ_ s' =>SP X e7 D .next s') acc C) hc S I2 h2 h3 f2 T yB (λC s' H' =>B.g cl C s' H' fp) (λC s' H' =>B.t cl C s' H' fp) (λC s' H' =>B.e cl C s' H' fp) (EL.mono sH) io zp hz (by rw[jB];exact xI) ?_;intro p C s' H' m IX hm hC hF G;obtain⟨g1,g2,vs,g3,g4⟩:=G;show wpAny _ X.A (assign (.Name x pos') X.env (.ref p)) _ _ _;refine wpAny_assign_Name (mW IX hN xP hx (v:= .ref p) rfl (λyu I'' ⟨a,R8,ha⟩=> ?_) hf);have hCa:C≠a:=by
   rcases ha with ha|ha
   .rw[ha];exact hF.2.1
   .exactλz=>hF.2.2.2.2.1 x a ha z.symm
  refine⟨m,hm.sameBut R8 hCa,λh' yv => ⟨_,H',I''.Gd hF yv, ?_⟩⟩;exact k _ H' (E.k9 (sH.trans g1) hie (sH.free g2) ⟨_,g3,trivial⟩ rfl (.lst (.inl g3) (g4.gen (.of_same aU) λb q _=> ⟨⟨q.1.1,λi ti ei=>q.1.2 i ((eY i).mpr ti) ei⟩,q.2⟩))) (.k9 (sH.trans g1) hie E.len (sH.free g2))
 .cases hr
end
open PySem PySem.Spec PyProof.Rows L2
theorem iX{env:PySem.Env}{x:Str}:∀{names:List (Str×NameKind)},names.lookup x=some .globalImplicit->(names.map λ(n,k)=>if(k==NameKind.free&&env.scope.kind== .function&&env.kindOf n==some .cell) then(n,NameKind.cell) else(n,k)).lookup x=some .globalImplicit
 |[],h=>by simp at h
 |(n,k)::r,h=>by
  rw[Gas] at h;rw[Gbn];dsimp only;cases hx:x==n with
  |true=>
   rw[hx] at h;cases h
   rw[Gam (by simp),Gas,hx]
  |false=>
   rw[hx] at h;split
   .rw[Gas,hx];exact iX h
   .rw[Gas,hx];exact iX h
section
variable{X:Cx}{scope:Scope}{cl:List (Str×Addr)}{C:Addr}{N:List Str}{s:Shared}{H:Hp}{ex:List Addr}{x:Str}
theorem Iq(h:scope.names.lookup x=some .globalImplicit):Gl (blk X scope cl C N s H ex) x:=iX h
theorem Ir(h:scope.names.lookup x=some .local):(blk X scope cl C N s H ex).fn x=true\/(blk X scope cl C N s H ex).env.scope.names.lookup x=some .local:= .inr (f9 h)
end
open PySem PySem.Spec PyProof.Rows L2
section
variable{X:Cx}{e a b c:Expr}{f g h:DE}{pos:Pos}
def tO(X:Cx)(o:DO):TO:=λZ H Q=>∃H0 e8 env i,aA X.K H0 e8 env Z H/\o env=some i/\∀H',aW H H' ->Q i H'
theorem _root_.L2.PO.aB{e:Option Expr}{t t' :TO}(h:PO X e t')(i:∀Z H Q,t Z H Q->t' Z H Q):PO X e t:=λe7 s Z H Q I q=>h e7 s Z H Q I (i Z H Q q)
theorem ve:PO X none (tO X noO):=D7.aB λZ H Q ⟨_,_,_,_,_,e,k⟩=>by cases e;exact k H aU
theorem vf(he:PEd X e f):PO X (some e) (tO X (fG f)):=by
 refine(D8 he).aB ?_;rintro Z H Q ⟨H0,e8,env,o,E,ho,k⟩;obtain⟨r,hr,ho⟩:=e6 ho;split at ho
 .rename_i i hd;cases ho;refine⟨H0,e8,env,r,E,hr,λv H1 s1 R=> ?_⟩;have q:=R.inn;rw[hd] at q;cases q;exact⟨i,rfl,k H1 s1⟩
 .cases ho
theorem oo(n d:Nat)(o:Option Int):HT.sIx n d o=sIx n d o:=by
 cases o<;>rfl
variable{ds:List D}{H:Hp}
theorem mf{K:au}{F:Addr->Prop}{vs:List V}{lo hi:Option Int}(r:aI K F H ds vs):aI K F H (cutD ds lo hi) (pe vs lo hi):=by
 unfold cutD pe;rw[oo,oo,<-r.1];exact(r.drop _).take _
theorem pI{K:au}{F:Addr->Prop}{H:Hp}:∀{ns:List Int},aI K F H (ns.map .int) (ns.map V.int)
 |[]=> .nil
 |n::ns=> .cons (.int n) pI
theorem Ao{lo hi:Option Expr}{l u:DO}{p2:Pos}(he:PEd X e f)(hl:PO X lo (tO X l))(hu:PO X hi (tO X u)):PEd X (.Subscript e (.Slice lo hi none p2) pos) (slE f l u):=by
 refine(wH (Dd.or Hm) he hl hu).aB ?_;rintro Z H Q ⟨H0,e8,env,rv,E,hf,k⟩;obtain⟨r,hr,hf⟩:=e6 hf;obtain⟨lv,Ri,hf⟩:=e6 hf;obtain⟨uv,R6,hf⟩:=e6 hf;refine⟨H0,e8,env,r,E,hr,λv H1 s1 R=> ⟨H0,e8,env,lv,E.mono s1,Ri,λH2 s2=> ⟨H0,e8,env,uv,(E.mono s1).mono s2,R6,λH3 s3=> ?_⟩⟩⟩;have i3:=(R.inn.same s2).same s3;have s13:=s1.trans (s2.trans s3);unfold slD at hf;split at hf
 .rename_i xs hd;cases hf;rw[hd] at i3;cases i3 with
  |lst hh rr=>exact .inl ⟨_,_,rfl,.inl hh,λp n=>k _ _ (s13.trans (aV n)) ⟨p,rfl,s13.free n,iU,rfl,dg n (mf rr)⟩⟩
 .rename_i xs hd;split at hf
  .cases hf
  .rename_i hw;cases hf;rw[hd] at i3;cases i3 with
   |tup hh rr=>exact .inr ⟨_,_,rfl,SqT.of hh,by rw[oo,oo,<-rr.1];exact hw,λp n=>k _ _ (s13.trans (aV n)) (cP n (mf rr))⟩
 .rename_i ns hd;cases hf;rw[hd] at i3;cases i3 with
  |scr hh=>exact .inl ⟨_,_,rfl,hh.sq,λp n=>k _ _ (s13.trans (aV n)) ⟨p,rfl,s13.free n,iU,rfl,dg n (mf pI)⟩⟩
 .cases hf
theorem pJ{e7:LAO}{Z:St}{s:Shared}{p:Addr}{ys:List V}{Q:VSP}{E:VSP}(hc:X.calm=true)(I:Inv X e7 Z H s)(h:SqL X.K H p ys\/SqT X.K H p ys)
  (k:∀(It:Addr) fp wr P St (s₂:Shared),Walks X.prog X.w X.A.in1 It fp wr ys.length P St->St 0 s₂.heap->(∀b∈fp,b<s₂.heap.objs.size)->(∀(i:Nat) v,P i v->∃y,ys[i]? =some y/\RelV y v)->
   (∀h' tk,(∀b o,b∉wr->s₂.heap.get? b=some o->h'.get? b=some o)->Inv X e7 Z H {s₂ with heap:=h',toks:=tk})->Q (.ref It) s₂):wpAny (model X.prog X.w) X.A.in1 (pyIter (.ref p)) Q E s:=by
 have hh:X.A.in1.handled=none:=I.ok.hd hc;have kept:∀{oi:Obj} {h' :Heap} {tk:Nat},(∀b o,b∉[s.heap.objs.size]->(s.heap.push oi).get? b=some o->h'.get? b=some o)->Inv X e7 Z H {s with heap:=h',toks:=tk}:=λ{oi h' tk} hk=>
  I.kept λb o e=>hk b o (by simp only[Gbv];exact Gaq (Gaj e)) (Gaf _ e)
 have get:∀{eg:List Value},Vals ys eg->∀(i:Nat) v,eg.toArray[i]? =some v->∃y,ys[i]? =some y/\RelV y v:=λ{eg} r i v e=>by
  have e' :eg[i]? =some v:=by simpa using e
  obtain⟨hi,_⟩:=Gac.mp e';have xP :i<ys.length:=by rw[r.length];exact hi
  obtain⟨u,hu,ru⟩:=r.get (x:=ys[i]) (i:=i) (by simp[xP]);rw[e'] at hu;cases hu
  exact⟨ys[i],by simp[xP],ru⟩
 have lts:∀{oi:Obj},p<s.heap.objs.size->∀b∈[s.heap.objs.size,p],b<(s.heap.push oi).objs.size:=λ{oi} hp b hb=>by
  rw[Gbb];rcases Gan.mp hb with rfl|hb
  .exact Gbs _
  .rcases Gan.mp hb with rfl|hb
   .exact Gcc hp
   .cases hb
 rcases h with hq|hq
 .obtain⟨eg,rv,pl,hz⟩:=I.list hq;have xa:p<s.heap.objs.size:=by obtain⟨_,e,_⟩:=pl.isList;exact Gaj e
  have W:=Walks.list (prog:=X.prog) (w:=X.w) hh s.heap.objs.size p (Gaq xa) eg.toArray;have xF:eg.toArray.size=ys.length:=by rw[Gag,rv.length]
  rw[xF] at W;exact wpAny_pyIter_list pl.isList (k _ _ _ _ _ _ W ⟨⟨_,Gar _ rfl,rfl,rfl⟩,pl.isList.push _⟩ (lts xa) (get rv) λh' tk hk=>kept hk)
 .obtain⟨eg,rv,pl,hz⟩:=I.tuple hq;have pl' :s.heap.IsTuple p eg.toArray:=pl;have xa:p<s.heap.objs.size:=by obtain⟨_,e,_⟩:=pl';exact Gaj e
  have W:=Walks.tuple (prog:=X.prog) (w:=X.w) hh s.heap.objs.size p (Gaq xa) eg.toArray;have xF:eg.toArray.size=ys.length:=by rw[Gag,rv.length]
  rw[xF] at W;exact GbE pl' (k _ _ _ _ _ _ W ⟨⟨_,Gar _ rfl,rfl,rfl⟩,pl'.at λo e=>Gaf _ e⟩ (lts xa) (get rv) λh' tk hk=>kept hk)
theorem range_all(bs:List Bool):(List.range bs.length).all (λi=>bs[i]?.getD false)=bs.all id:=by
 rw[Bool.eq_iff_iff];simp only[Gau,GbJ,id];constructor
 .intro h b hb;obtain⟨i,hi,rfl⟩:=List.getElem_of_mem hb;have:=h i hi;rw[Gal hi] at this;exact this
 .intro h i hi;rw[Gal hi];exact h _ (GbO hi)
theorem pK{A:Around}{P:Nat->Value->Prop}{bs:List Bool}(hP:∀(i:Nat) v,P i v->∃y,(bs.map V.bl)[i]? =some y/\RelV y v):TruthOf X.prog X.w A P (λi=>bs[i]?.getD false):=by
 intro i v s Q E p q;obtain⟨y,hy,r⟩:=hP i v p;rw[Gaw] at hy;cases hb:bs[i]? with
 |none=>rw[hb] at hy;cases hy
 |some b=>
  rw[hb] at hy;cases hy
  cases r;refine GaR ?_;have q' :Q (bs[i]?.getD false) s:=q;rw[hb] at q';exact q'
theorem vg(hc:X.calm=true):cY X (.builtin "all") (λxs H Q=>∃(p:Addr) (bs:List Bool),xs=[.ref p]/\(SqL X.K H p (bs.map V.bl)\/SqT X.K H p (bs.map V.bl))/\Q (.bl (bs.all id)) H):=by
 intro e7 s Z H xs us Q I rv h;obtain⟨p,bs,rfl,hq,q⟩:=h;obtain⟨u,rfl,ru⟩:=rv.one;cases ru;refine call_all_walk (pJ hc I hq λIt fp wr P St s₂ W st lt hP kept=> ⟨It,fp,wr,_,P,St,_,rfl,W,st,pK hP,λh' tk hk=> ?_⟩);rw[Gax,range_all];exact⟨.bl (bs.all id),H,kept h' tk hk,rfl,q⟩
def mQ(ns:List Int)(i:Nat):Int:=ns[i]?.getD 0
theorem Ap{P:Nat->Value->Prop}{ns:List Int}(hP:∀(i:Nat) v,P i v->∃y,(ns.map V.int)[i]? =some y/\RelV y v):∀i v,P i v->∃t,v= .int (mQ ns i) t:=by
 intro i v p;obtain⟨y,hy,r⟩:=hP i v p;rw[Gaw] at hy;cases hb:ns[i]? with
 |none=>rw[hb] at hy;cases hy
 |some n=>
  rw[hb] at hy;cases hy
  obtain⟨t,rfl⟩:=r;exact⟨t,by unfold mQ;rw[hb];rfl⟩
theorem kH(n:Int)(ns:List Int):∀k,preSum (mQ (n::ns)) (k+1)=n+preSum (mQ ns) k
 |0=>by simp[preSum,mQ]
 |k+1=>by
  rw[preSum,kH n ns k,preSum];have:mQ (n::ns) (k+1)=mQ ns k:=by simp[mQ]
  rw[this];lia
theorem mh:∀ns:List Int,preSum (mQ ns) ns.length=ns.sum
 |[]=>rfl
 |n::ns=>by rw[GaK,kH,mh ns,List.sum_cons]
theorem vh(hc:X.calm=true):cY X (.builtin "sum") (λxs H Q=>∃(p:Addr) (ns:List Int),xs=[.ref p]/\(SqL X.K H p (ns.map V.int)\/SqT X.K H p (ns.map V.int))/\Q (.int ns.sum) H):=by
 intro e7 s Z H xs us Q I rv h;obtain⟨p,bs,rfl,hq,q⟩:=h;obtain⟨u,rfl,ru⟩:=rv.one;cases ru;refine call_sum_walkG (pJ hc I hq λIt fp wr P St s₂ W st lt hP kept=> ⟨It,fp,wr,_,P,St,mQ bs,rfl,W,st,lt,Ap hP,λh' tk t hk=> ?_⟩);rw[Gax,mh];exact⟨.int bs.sum,H,kept h' tk hk,⟨t,rfl⟩,q⟩
theorem pL{K:au}{F:Addr->Prop}{H:Hp}:∀{ds:List D} {vs:List V} {bs:List Bool},aI K F H ds vs->o8 ds=some bs->vs=bs.map V.bl
 |[],vs,bs,r,e=>by cases e;exact r.dA
 |d::ds,vs,bs,r,e=>by
  obtain⟨v,w,rfl,h1,h2⟩:=r.cons_inv;cases d<;>try (cases e;done)
  obtain⟨bs',e',rfl⟩:=Gaa.mp e;cases h1;rw[pL h2 e'];rfl
theorem sQ{K:au}{F:Addr->Prop}{H:Hp}:∀{ds:List D} {vs:List V} {bs:List Int},aI K F H ds vs->pq ds=some bs->vs=bs.map V.int
 |[],vs,bs,r,e=>by cases e;exact r.dA
 |d::ds,vs,bs,r,e=>by
  obtain⟨v,w,rfl,h1,h2⟩:=r.cons_inv;cases d<;>try (cases e;done)
  obtain⟨bs',e',rfl⟩:=Gaa.mp e;cases h1;rw[sQ h2 e'];rfl
theorem Aq{K:au}{F:Addr->Prop}{d:D}{v:V}(i:Inn K F H d v)(e:pv d=some ds):∃p vs,v= .ref p/\(SqL K H p vs\/SqT K H p vs)/\aI K F H ds vs:=by
 unfold pv at e;split at e
 .cases e;cases i with
  |lst h r=>exact⟨_,_,rfl,.inl (.inl h),r⟩
 .cases e;cases i with
  |tup h r=>exact⟨_,_,rfl,.inr (SqT.of h),r⟩
 .rename_i ns;cases e;cases i with
  |scr h=>
   refine⟨_,_,rfl,.inl h.sq,by simp,λi d v e1 e2=> ?_⟩;rw[Gaw] at e1 e2;cases q:ns[i]? with
   |none=>rw[q] at e1;cases e1
   |some n=>rw[q] at e1 e2;cases e1;cases e2;exact .int n
 .cases e
theorem Ar{o:SpV}{rv:RV}(h:one o ds=some rv):∃d xs,ds=[d]/\pv d=some xs/\o xs=some rv:=by
 unfold one at h;split at h
 .obtain⟨xs,h1,h2⟩:=e6 h;exact⟨_,xs,rfl,h1,h2⟩
 .cases h
theorem vi:CallD X qQ (λxs H Q=>∃(p:Addr) (bs:List Bool),xs=[.ref p]/\(SqL X.K H p (bs.map V.bl)\/SqT X.K H p (bs.map V.bl))/\Q (.bl (bs.all id)) H):=by
 intro F H ds vs rv Q ps e k;obtain⟨d,xs,rfl,h1,h2⟩:=Ar e;obtain⟨bs,hb,rfl⟩:=Gaa.mp h2;obtain⟨v,rfl,i⟩:=bT ps;obtain⟨p,vs,rfl,hs,r⟩:=Aq i h1;rw[pL r hb] at hs;exact⟨p,bs,rfl,hs,k _ H aU (.bl _)⟩
theorem vk:CallD X mO (λxs H Q=>∃(p:Addr) (ns:List Int),xs=[.ref p]/\(SqL X.K H p (ns.map V.int)\/SqT X.K H p (ns.map V.int))/\Q (.int ns.sum) H):=by
 intro F H ds vs rv Q ps e k;obtain⟨d,xs,rfl,h1,h2⟩:=Ar e;obtain⟨bs,hb,rfl⟩:=Gaa.mp h2;obtain⟨v,rfl,i⟩:=bT ps;obtain⟨p,vs,rfl,hs,r⟩:=Aq i h1;rw[sQ r hb] at hs;exact⟨p,bs,rfl,hs,k _ H aU (.int _)⟩
theorem As{op xB :CmpOp}{o p:D->D->Option Bool}{r r' :R2}(ho:OpR X (compareOp op) r)(hd:OpB X o r)(xD :OpR X (compareOp xB) r')(xb :OpB X p r')(ha:PEd X a f)(hb:PEd X b g)(hc:PEd X c h)
  (hm:lastMarks [op,xB] [b,c]=false:=by with_unfolding_all rfl):PEd X (.Compare a [op,xB] [b,c] pos) (bE (k8 o p f g h)):=by
 refine(wu ho xD ha hb hc hm).aB ?_;rintro Z H Q ⟨H0,e8,env,rv,E,e,k⟩;obtain⟨bb,e',rfl⟩:=Gaa.mp e;clear e;have e:=e';clear e';obtain⟨x,hx,e⟩:=e6 e;obtain⟨y,hy,e⟩:=e6 e;obtain⟨b1,h1,e⟩:=e6 e;refine⟨H0,e8,env,x,E,hx,λvx H1 s1 R1=> ⟨H0,e8,env,y,E.mono s1,hy,λvy H2 s2 R2=>hd _ H2 x.d y.d vx vy b1 _ (R1.inn.same s2) R2.inn h1 ⟨b1,rfl, ?_⟩⟩⟩;cases b1 with
 |true=>
  rw[Gak rfl];rw[Gak rfl] at e
  obtain⟨z,hz,e⟩:=e6 e;exact⟨H0,e8,env,z,(E.mono s1).mono s2,hz,λvz H3 s3 R3=>xb _ H3 y.d z.d vy vz bb _ (R2.inn.same s3) R3.inn e (k _ H3 (s1.trans (s2.trans s3)) (.bl bb))⟩
 |false=>
  rw[Gam Gai];rw[Gam Gai] at e;cases e
  exact k _ H2 (s1.trans s2) (.bl false)
end
open PySem PySem.Spec PyProof.Rows L2
section
variable{X:Cx}{e a b c:Expr}{f g h:DE}{pos:Pos}
def Oy(td ty tv:TE):TS:=λD Z H=>tv Z H λv H1=>td Z H1 λx H2=>ty Z H2 λy H3=>FV x y v H3 λH4=>D.nx Z H4
theorem Iu{o i value:Expr}{td ty tv:TE}{pos' :Pos}(hu:X.A.units+1<cLine)(ho:PE X o td)(hi:PE X i ty)(hv:PE X value tv)(hs:swapsWith value (some (.Subscript o i pos')) pos.line X.env=pure false):PS X (.Assign [.Subscript o i pos'] value pos) (Oy td ty tv):=by
 intro e7 s Z H D I h;refine wpAny_Assign_Subscript (thn (hv e7 s Z H _ I h) λr s1 ⟨v,H1,I1,rv,q1⟩=>thn (ho e7 s1 Z H1 _ I1 q1) λu s2 ⟨x,H2,I2,rx,q2⟩=>thn (hi e7 s2 Z H2 _ I2 q2) λiv s3 ⟨y,H3,I3,ry,q3⟩=> ?_) hs;exact thn (set_list e7 s3 Z H3 x y v u iv r _ I3 rx ry rv q3) λ_ s4 ⟨H4,I4,q4⟩=> ⟨Z,H4,I4,q4⟩
end
open PySem PySem.Spec PyProof.Rows L2
inductive ie where
 |nx (e:Env)
 |bk (e:Env)
 |ct (e:Env)
 |ret (d:D) (e:Env)
 |ex (C:Nat) (n:Str) (d:D)
abbrev DW:=Env->Option ie
noncomputable def ie.of:Out->Option ie
 | .nx e=>some (.nx e)
 | .bk e=>some (.bk e)
 | .ct e=>some (.ct e)
 | .ret _=>none
@[simp] def a8(f:DS):DW:=λenv=>(f env).bind ie.of
@[simp] noncomputable def ag(f g:DW):DW:=λenv=>(f env).bind λo=>match o with
 | .nx e=>g e
 |o=>some o
@[simp] noncomputable def ifW(t:DT)(f g:DW):DW:=λenv=>(t env).bind λb=>if b then f env else g env
@[simp] def kZ(f:DE):DW:=λenv=>(f env).bind λr=>if r.d.imm then some (.ret r.d env) else none
def Pnd(Pn:Nat->V->Prop)(env:Env)(Z:St):Prop:=∀p v,Pn p v->kX env[p]? ->Z[p]? =some (some v)
def l4(H0 H:Hp)(env:Env)(Z:St):Prop:=∀(i:Nat) C ns ds,env[i]? =some (some (.lok (.obj C ns ds)))->∀a dx vs,Z[i]? =some (some (.ref a))->H a=some (.ins C dx (ns.zip vs))->ns.length=vs.length->∀(k:Nat) l g,ds[k]? =some (.kid l)->vs[k]? =some (.ref g)->H0 g=none
def b6(K:au)(H0:Hp)(Pn:Nat->V->Prop)(env:Env)(Z:St)(H:Hp):Prop:=∃e8,aA K H0 e8 env Z H/\Pnd Pn env Z/\l4 H0 H env Z
section
variable{K:au}{H0 H H' :Hp}{e8:Addr->Prop}{Pn:Nat->V->Prop}{env eh :Env}{Z Z' :St}{i:Nat}{a:Addr}{d d' :D}
variable{ds:List D}
theorem aA.kJ{C:Nat}{ns:List Str}(E:aA K H0 e8 env Z H)(e:env[i]? =some (some (.lok (.obj C ns ds)))):∃a dx vs,Z[i]? =some (some (.ref a))/\H0 a=none/\¬e8 a/\H a=some (.ins C dx (ns.zip vs))/\ns.length=vs.length/\Kd ds vs/\aI K (Cln e8 env Z) H ds vs:=by
 obtain⟨a,h1,h2,h3,h4,h5,h6⟩:=E.ow i _ (.inr e);cases h6 with
 |obj h ln kd r=>exact⟨a,_,_,h1,h2,h3,h,ln,kd,r⟩
theorem aA.Iv(E:aA K H0 e8 env Z H)(e:env[i]? =some (some (.lok d)))(ea:Z[i]? =some (some (.ref a))):¬Ow env Z a:=λ⟨j,h,q⟩=>by
 have:=E.dj j i a h.ol (by rw[e];trivial) q ea;subst this;rw[e] at h;exact h
theorem Pnd.stp(h:Pnd Pn env Z)(s:Stp env Z H eh Z' H'):Pnd Pn eh Z' :=λp v z l=>by
 obtain⟨e1,e2⟩:=s.lk p l;rw[e2];rw[e1] at l;exact h p v z l
theorem zip_inj{ns:List Str}:∀{vs us:List V},ns.length=vs.length->ns.length=us.length->ns.zip vs=ns.zip us->vs=us:=by
 induction ns with
 |nil=>intro vs us h1 h2 _;rw[GaF h1.symm,GaF h2.symm]
 |cons n ns ih=>
  intro vs us h1 h2 h;cases vs with
  |nil=>cases h1
  |cons v vs=>
   cases us with
   |nil=>cases h2
   |cons u us=>
    simp only[GaW,List.cons.injEq,Prod.mk.injEq,true_and] at h;rw[h.1,ih (by simpa using h1) (by simpa using h2) h.2]
theorem b6.stp(k:l4 H0 H env Z)(p:Pnd Pn env Z)(E:aA K H0 e8 env Z H)(E' :aA K H0 e8 eh Z' H')(s:Stp env Z H eh Z' H'):b6 K H0 Pn eh Z' H' :=by
 refine⟨e8,E',p.stp s,λi C ns ds e a dx vs ea h ln=> ?_⟩;obtain⟨e1,e2⟩:=s.lk i (by rw[e];trivial);rw[e1] at e;rw[e2] at ea
 obtain⟨a',zD,yr,q1,_,_,q4,q5,_⟩:=E.kJ e;rw[ea] at q1;cases q1
 have:=s.keep a _ q4 (E.Iv e ea);rw[h] at this;injection this with this
 injection this with _ z1 z2
 rw[zip_inj ln q5 z2];exact k i C ns ds e a zD yr ea q4 q5
theorem b6.mono(E:b6 K H0 Pn env Z H)(s:aW H H'):b6 K H0 Pn env Z H' :=let⟨_,E,p,k⟩:=E;b6.stp k p E (E.mono s) (.of_same s)
def ig(J:List Nat)(env:Env):Bool:=(List.range env.length).all λj=>J.contains j||match env[j]? with
 |some (some (.sh d))=>d.imm
 |some (some (.own d))=>d.aQ
 |some (some (.lok d))=>d.aQ
 |some (some (.bor d))=>d.aQ
 |_=>true
variable{J:List Nat}
theorem jC{j:Nat}{s:Slot}(h:ig J env=true)(hj:j∉J)(e:env[j]? =some (some s)):(match s with
  | .sh d=>d.imm
  | .own d=>d.aQ
  | .lok d=>d.aQ
  | .bor d=>d.aQ)=true:=by
 have hl:j<env.length:=(Gac.mp e).1;have:=Gau.mp h j (GbJ.mpr hl);rw[GaT,e] at this;rcases this with q|q
 .exact absurd (by simpa using q) hj
 .cases s<;>exact q
theorem aI.bS{F F' :Addr->Prop}{vs:List V}(s:∀b o,H b=some o->isT o->H' b=some o)(r:aI K F H ds vs)(im:a7 ds=true):aI K F' H' ds vs:=
 (r.imm (F' :=λ_=>False) im).gen (λb o e q=>s b o e (q.resolve_left λz=>z)) λ_ z _=>z.elim
theorem Rep.bS{F F' :Addr->Prop}{v:V}(s:∀b o,H b=some o->isT o->H' b=some o)(r:Rep K F H d v)(im:d.imm=true):Rep K F' H' d v:=
 (r.imm (F' :=λ_=>False) im).gen (λb o e q=>s b o e (q.resolve_left λz=>z)) λ_ z _=>z.elim
theorem Inn.bS{F F' :Addr->Prop}(s:∀b o,H b=some o->isT o->H' b=some o)(h:Inn K F H d (.ref a))(t:d.top=true)(fl:d.aQ=true)(e:H' a=H a):Inn K F' H' d (.ref a):=by
 cases h with
 |lst h r=>exact .lst (h.imp (λh=>by rw[e];exact h) λ⟨o,h⟩=> ⟨o,by rw[e];exact h⟩) (r.bS s fl)
 |obj h ln kd r=>simp[D.aQ,D.imm] at fl
 |_=>simp[D.top] at t
def Slot.put(d:D):Slot->Slot
 | .sh _=> .sh d
 | .own _=> .own d
 | .lok _=> .lok d
 | .bor _=> .bor d
structure ReE(J:List Nat)(nw:Nat->D)(env eh :Env):Prop where
 len:eh.length=env.length
 old:∀j,j∉J->eh[j]? =env[j]?
 new:∀j∈J,∃d,(env[j]? =some (some (.own d))/\eh[j]? =some (some (.own (nw j))))\/(env[j]? =some (some (.lok d))/\eh[j]? =some (some (.lok (nw j))))
variable{nw:Nat->D}
theorem aA.flat{A:Addr->Prop}(E:aA K H0 e8 env Z H)(fl:ig J env=true)(re:ReE J nw env eh)(hH:∀b o,H b=some o->H' b=some o\/A b)
  (hA:∀b,A b->H0 b=none/\((∃j∈J,Z[j]? =some (some (.ref b)))\/Cln e8 env Z b)/\∀o,H b=some o->isW o)(hJ:∀j∈J,∀a,Z[j]? =some (some (.ref a))->Wr H' a/\(nw j).top=true/\Inn K (Cln e8 env Z) H' (nw j) (.ref a)):aA K H0 e8 eh Z H' :=by
 have tj:∀j∈J,jz env[j]? :=λj hj=>by obtain⟨d,⟨q,_⟩| ⟨q,_⟩⟩:=re.new j hj<;>rw[q]<;>trivial
 have tj' :∀j∈J,jz eh[j]? :=λj hj=>by obtain⟨d,⟨_,q⟩| ⟨_,q⟩⟩:=re.new j hj<;>rw[q]<;>trivial
 have eY:∀j,ba eh[j]? ->ba env[j]? :=λj t=>by
  by_cases q:j∈J
  .exact(tj j q).top
  .rw[re.old j q] at t;exact t
 have ols:∀j,jz eh[j]? ->jz env[j]? :=λj t=>by
  by_cases q:j∈J
  .exact tj j q
  .rw[re.old j q] at t;exact t
 have cln:∀b,Cln e8 env Z b->Cln e8 eh Z b:=λb h=> ⟨h.1,λj t ej=>h.2 j (eY j t) ej⟩;have isT' :∀b o,H b=some o->isT o->H' b=some o:=λb o eb t=>(hH b o eb).resolve_right λz=>by
  have:=(hA b z).2.2 o eb;cases o<;>first|exact t.elim|exact this
 have other:∀j b,j∉J->ba env[j]? ->Z[j]? =some (some (.ref b))->H' b=H b:=λj b hj t ej=>by
  obtain⟨o,ho,_⟩:=E.sy t ej;rw[ho];refine(hH b o ho).resolve_right λz=> ?_;rcases(hA b z).2.1 with⟨i,hi,q⟩|q
  .have:=E.dj i j b (tj i hi) t q ej;subst this;exact hj hi
  .exact q.2 j t ej
 refine⟨λb o eb=>(hH b o (E.same b o eb)).resolve_right λz=>absurd ((hA b z).1.symm.trans eb) (by simp),by rw[re.len];exact E.len,λb hb z=> ?_,λj dj ej=> ?_,λj dj ej=> ?_,λj dj ej=> ?_,λj k b t1 t2 e1 e2=>E.dj j k b (ols j t1) (eY k t2) e1 e2⟩
 .cases q:H b with
  |none=>exact E.bad b hb q
  |some o=>
   rcases hH b o q with y|y
   .rw[y] at z;cases z
   .rcases(hA b y).2.1 with⟨i,hi,w⟩|w
    .obtain⟨d,hd⟩:=re.new i hi;obtain⟨a,q1,_,q3,_⟩:=E.ow i d (hd.imp (λz=>z.1) λz=>z.1);rw[w] at q1;cases q1;exact q3 hb
    .exact w.1 hb
 .by_cases q:j∈J
  .have:=tj' j q;rw[ej] at this;exact this.elim
  .rw[re.old j q] at ej;obtain⟨v,v1,v2⟩:=E.sh j dj ej;exact⟨v,v1,v2.bS isT' (jC fl q ej)⟩
 .by_cases q:j∈J
  .obtain⟨d,hd⟩:=re.new j q;obtain⟨a,q1,q2,q3,_⟩:=E.ow j d (hd.imp (λz=>z.1) λz=>z.1);obtain⟨w,t,inn⟩:=hJ j q a q1;have:dj=nw j:=by
    rcases hd with⟨_,hd⟩| ⟨_,hd⟩<;>rcases ej with ej|ej<;>rw[hd] at ej<;>cases ej<;>rfl
   subst this;exact⟨a,q1,q2,q3,w,t,inn.imp cln⟩
  .rw[re.old j q] at ej;obtain⟨b,q1,q2,q3,q4,q5,q6⟩:=E.ow j dj ej;have eq:=other j b q (by rcases ej with q|q<;>rw[q]<;>trivial) q1;obtain⟨o,o1,o2⟩:=q4;exact⟨b,q1,q2,q3,⟨o,by rw[eq];exact o1,o2⟩,q5,q6.bS isT' q5 (ej.elim (λy=>jC fl q y) λy=>jC fl q y) eq⟩
 .by_cases q:j∈J
  .have:=tj' j q;rw[ej] at this;exact this.elim
  .rw[re.old j q] at ej;obtain⟨b,q1,q4,q5,q6⟩:=E.bo j dj ej;have eq:=other j b q (by rw[ej];trivial) q1;obtain⟨o,o1,o2⟩:=q4;exact⟨b,q1,⟨o,by rw[eq];exact o1,o2⟩,q5,q6.bS isT' q5 (jC fl q ej) eq⟩
theorem b6.flat{A:Addr->Prop}(E:aA K H0 e8 env Z H)(pn:Pnd Pn env Z)(kn:l4 H0 H env Z)(E' :aA K H0 e8 eh Z H')(re:ReE J nw env eh)(hH:∀b o,H b=some o->H' b=some o\/A b)
  (hA:∀b,A b->(∃j∈J,Z[j]? =some (some (.ref b)))\/Cln e8 env Z b)(hk:∀j∈J,∀C ns ds,nw j= .obj C ns ds->∀a dx vs,Z[j]? =some (some (.ref a))->H' a=some (.ins C dx (ns.zip vs))->ns.length=vs.length->∀(k:Nat) l g,ds[k]? =some (.kid l)->vs[k]? =some (.ref g)->H0 g=none):b6 K H0 Pn eh Z H' :=by
 refine⟨e8,E',λp v z q=>pn p v z ?_,λj C ns ds ej a dx vs ea h ln=> ?_⟩
 .by_cases y:p∈J
  .obtain⟨d,⟨_,w⟩| ⟨w,_⟩⟩:=re.new p y
   .rw[w] at q;exact q.elim
   .rw[w];trivial
  .rw[re.old p y] at q;exact q
 .by_cases y:j∈J
  .obtain⟨d,⟨_,w⟩| ⟨_,w⟩⟩:=re.new j y
   .rw[ej] at w;cases w
   .rw[ej] at w;injection w with w;injection w with w;injection w with w
    exact hk j y C ns ds w.symm a dx vs ea h ln
  .rw[re.old j y] at ej;obtain⟨a3,zC,Pg,q1,_,_,q4,q5,_⟩:=E.kJ ej;rw[ea] at q1;cases q1
   have:H' a=some (.ins C zC (ns.zip Pg)):=(hH a _ q4).resolve_right λz=>by
    rcases hA a z with⟨i,hi,w⟩|w
    .have ti:jz env[i]? :=by obtain⟨d,⟨q,_⟩| ⟨q,_⟩⟩:=re.new i hi<;>rw[q]<;>trivial
     have:=E.dj i j a ti (by rw[ej];trivial) w ea;subst this;exact y hi
    .exact w.2 j (by rw[ej];trivial) ea
   rw[h] at this;injection this with this;injection this with _ _ this
   have:=zip_inj ln q5 this;subst this;exact kn j C ns ds ej a zC vs ea q4 q5
end
open PySem PySem.Spec PyProof.Rows L2
def Iw:D->Option RV
 | .kid l=>some ⟨.c,.lst l⟩
 |d=>if d.imm then some ⟨.c,d⟩ else none
def qV(C:Nat)(n:Str):D->Option RV
 | .obj C' ns ds=>if C' =C then((ns.zip ds).lookup n).bind Iw else none
 |_=>none
@[simp] def cj(C:Nat)(n:Str)(f:DE):DE:=λenv=>(f env).bind λx=>qV C n x.d
def gM(ds:List D):Bool:=ds.all λd=>match d with
 | .kid l=>a7 l
 |d=>d.imm
def fY(C:Nat)(n:Str)(g:List D->Option (List D)):D->Option D
 | .obj C' ns ds=>if C' =C/\gM ds=true then(ns.findIdx? λm=>m==n).bind λk=>match ds[k]? with
  |some (.kid l)=>(g l).bind λl' =>if a7 l' =true then some (.obj C ns (ds.set k (.kid l'))) else none
  |_=>none
  else none
 |_=>none
noncomputable def dB(i:Nat)(env:Env):Option D:=match env[i]? with
 |some (some (.lok d))=>some d
 |_=>none
def l5(d:D)(l:List D):Option (List D):=if l.length<aj then some (l++[d]) else none
noncomputable def fL(d:D)(l:List D):Option (List D):=if l.length=0 then none else some (l.set (l.length -1) d)
@[simp] def DV(i:Nat)(p:D->D->Option D)(f:DE):DW:=λenv=>(f env).bind λr=>if r.d.imm=true/\ig [i] env=true then((dB i env).bind (p r.d)).map λd' => .nx (env.set i (some (.lok d'))) else none
@[simp] def vn(i C:Nat)(n:Str)(f:DE):DW:=DV i (λd=>fY C n (l5 d)) f
@[simp] def kK(i C:Nat)(n:Str)(f:DE):DW:=DV i (λd=>fY C n (fL d)) f
def Au(X:Cx)(H0:Hp)(Pn:Nat->V->Prop)(E:XK)(D:Ends):ie->Prop
 | .nx e=>∀Z H,b6 X.K H0 Pn e Z H->D.nx Z H
 | .bk e=>∀Z H,b6 X.K H0 Pn e Z H->D.bk Z H
 | .ct e=>∀Z H,b6 X.K H0 Pn e Z H->D.ct Z H
 | .ret d e=>∀v Z H,b6 X.K H0 Pn e Z H->Rep X.K (λ_=>False) H d v->D.rt v H
 | .ex C n d=>∀v dx H,aW H0 H->H0 dx=none->H dx=some (.xd [(n,v)])->d.imm=true->Rep X.K (λ_=>False) H d v->E (.ref C) (some dx) H
def tW(X:Cx)(H0:Hp)(Pn:Nat->V->Prop)(E:XK)(f:DW):TS:=λD Z H=>∃env o,b6 X.K H0 Pn env Z H/\f env=some o/\Au X H0 Pn E D o
theorem _root_.L2.PS.nox{X:Cx}{st:Stmt}{t:TS}(h:PS X.nox st t):PS X st t:=λe7 s Z H D I hw=>
 GaO (h e7 s Z H D (I.cm _) hw) (λ_ _ q=>q.cz) λ_ _ z=>False.elim z
section
variable{X:Cx}{H0:Hp}{Pn:Nat->V->Prop}{E:XK}{st:Stmt}{Pj rest:List Stmt}{f:DS}{g g1 g2:DW}{c e:Expr}{t:DT}{h:DE}{pos:Pos}
theorem pM{D:Ends}{env:Env}{Z:St}{H:Hp}{e8:Addr->Prop}{o:ie}{o1:Out}(EO:aA X.K H0 e8 env Z H)(p:Pnd Pn env Z)(k:l4 H0 H env Z)(h2:ie.of o1=some o)(ok:Au X H0 Pn E D o):wU X H0 e8 env Z H D o1:=by
 cases o1 with
 |nx e' =>cases h2;exactλZ' H' E' st=>ok Z' H' (b6.stp k p EO E' st)
 |bk e' =>cases h2;exactλZ' H' E' st=>ok Z' H' (b6.stp k p EO E' st)
 |ct e' =>cases h2;exactλZ' H' E' st=>ok Z' H' (b6.stp k p EO E' st)
 |ret d=>cases h2
theorem sS(h:PSd X.nox st f):PS X st (tW X H0 Pn E (a8 f)):=by
 refine(PS.nox h).aB ?_;rintro D Z H ⟨env,o,⟨e8,EO,p,k⟩,e,ok⟩;obtain⟨o1,h1,h2⟩:=e6 e;exact⟨H0,e8,env,o1,EO,h1,pM EO p k h2 ok⟩
theorem Av(h:kY X.nox Pj f):PSs X Pj (tW X H0 Pn E (a8 f)):=by
 refine(PSs.nox h).aB ?_;rintro D Z H ⟨env,o,⟨e8,EO,p,k⟩,e,ok⟩;obtain⟨o1,h1,h2⟩:=e6 e;exact⟨H0,e8,env,o1,EO,h1,pM EO p k h2 ok⟩
theorem Aw(h1:PS X st (tW X H0 Pn E g1))(h2:PSs X rest (tW X H0 Pn E g2)):PSs X (st::rest) (tW X H0 Pn E (ag g1 g2)):=by
 refine(lJ h1 h2).aB ?_;rintro D Z H ⟨env,o,EW,e,ok⟩;obtain⟨o1,h1,h2⟩:=e6 e;refine⟨env,o1,EW,h1, ?_⟩;cases o1 with
 |nx e' =>exactλZ' H' E' => ⟨e',o,E',h2,ok⟩
 |bk e' =>cases h2;exact ok
 |ct e' =>cases h2;exact ok
 |ret d e' =>cases h2;exact ok
 |ex C n d=>cases h2;exact ok
theorem DY(h1:PS X st (tW X H0 Pn E g)):PSs X [st] (tW X H0 Pn E g):=nR h1
theorem LU{xs ys:List Stmt}(hc:PTd X.nox c t)(ha:PSs X xs (tW X H0 Pn E g1))(hb:PSs X ys (tW X H0 Pn E g2)):PS X (.If c xs ys pos) (tW X H0 Pn E (ifW t g1 g2)):=by
 refine(wj (PT.nox hc) ha hb).aB ?_;rintro D Z H ⟨env,o,⟨e8,EO,p,k⟩,e,ok⟩;obtain⟨b,h1,h2⟩:=e6 e;refine⟨H0,e8,env,b,EO,h1,λH1 s1=> ?_⟩;have EW:b6 X.K H0 Pn env Z H1:=b6.mono ⟨e8,EO,p,k⟩ s1;dsimp only;cases b with
 |true=>rw[Gak rfl];rw[Gak rfl] at h2;exact⟨env,o,EW,h2,ok⟩
 |false=>rw[Gam Gai];rw[Gam Gai] at h2;exact⟨env,o,EW,h2,ok⟩
theorem Iy(he:PEd X.nox e h):PS X (.Return (some e) pos) (tW X H0 Pn E (kZ h)):=by
 refine(nS (PE.nox he)).aB ?_;rintro D Z H ⟨env,o,⟨e8,EO,p,k⟩,e,ok⟩;obtain⟨r,h1,h2⟩:=e6 e;split at h2
 .rename_i im;cases h2;exact⟨H0,e8,env,r,EO,h1,λv H1 s1 R=>ok v Z H1 (b6.mono ⟨e8,EO,p,k⟩ s1) (R.inn.imm im)⟩
 .cases h2
end
section
variable{n:Str}
theorem mi{K:au}{F:Addr->Prop}{H:Hp}:∀{ns:List Str} {ds:List D} {vs:List V} {d:D},aI K F H ds vs->(ns.zip ds).lookup n=some d->∃v,(ns.zip vs).lookup n=some v/\Rep K F H d v
 |[],ds,vs,d,_,e=>by simp at e
 |m::ns,[],vs,d,_,e=>by simp at e
 |m::ns,x::ds,vs,d,r,e=>by
  obtain⟨v,us,rfl,h1,h2⟩:=r.cons_inv;rw[GaW,Gas] at e⊢;cases q:n==m with
  |true=>rw[q] at e;cases e;exact⟨v,rfl,h1⟩
  |false=>rw[q] at e;exact mi h2 e
theorem pO:∀{ns:List Str} {vs:List V} {k:Nat} {v:V},(ns.findIdx? λm=>m==n)=some k->vs[k]? =some v->(ns.zip vs).lookup n=some v
 |[],vs,k,v,h,_=>by simp at h
 |m::ns,[],k,v,_,e=>by simp at e
 |m::ns,u::us,k,v,h,e=>by
  rw[Gbw] at h;rw[GaW,Gas];cases q:m==n with
  |true=>
   rw[q] at h;cases h
   have:(n==m)=true:=by rw[Gay] at q⊢;exact q.symm
   rw[this];simpa using e
  |false=>
   rw[q] at h;have:(n==m)=false:=by rw[GaQ] at q⊢;exact GaG q
   rw[this];obtain⟨j,hj,rfl⟩:=Gaa.mp h;exact pO hj (by simpa using e)
end
section
variable{X:Cx}{H0:Hp}{Pn:Nat->V->Prop}{E:XK}{C:Addr}{n:Str}{e o:Expr}{f g:DE}{pos p:Pos}
theorem DZ{K:au}{F:Addr->Prop}{H:Hp}{d:D}{v:V}{r:RV}(h:Iw d=some r)(R:Rep K F H d v):r.k= .c/\Rep K F H r.d v:=by
 unfold Iw at h;split at h
 .cases h;cases R with
  |kid f h l r=>exact⟨rfl,.lst f (.inl h) l r⟩
 .split at h
  .cases h;exact⟨rfl,R⟩
  .cases h
theorem Iz(cl:L2.Cls X.K C)(na:bL X.K C n)(he:PEd X e f)(hb:autoParam (attributeBase e n X.env (eval e X.env)=eval e X.env) Za1._auto_1):PEd X (.Attribute e n pos) (cj C n f):=by
 refine(qH he hb).aB ?_;rintro Z H Q ⟨H0,e8,env,r,EO,h0,k⟩;obtain⟨x,hx,h⟩:=e6 h0;clear h0;refine⟨H0,e8,env,x,EO,hx,λv H1 s1 R=> ?_⟩;have ii:=R.inn;obtain⟨xk,xd⟩:=x;cases ii with
 | @obj _ _ C' _ _ _ h1 ln kd r1=>
  unfold qV at h;dsimp only at h;by_cases q:C' =C
  .rw[Gak q] at h;subst q
   obtain⟨d,hd,hk⟩:=e6 h;obtain⟨v,hv,rv⟩:=mi r1 hd;obtain⟨k1,k2⟩:=DZ hk rv;refine⟨_,_,_,_,v,rfl,h1,cl,na,hv,k v H1 s1 ?_⟩;obtain⟨rk,rd⟩:=r;cases k1;exact k2
  .rw[Gam q] at h;cases h
 |_=>cases h
theorem b6.kid{K:au}{H:Hp}{env:Env}{Z:St}{i:Nat}{d d' :D}{gl:List D->Option (List D)}{e8:Addr->Prop}(EO:aA K H0 e8 env Z H)(pn:Pnd Pn env Z)(kn:l4 H0 H env Z)(fl:ig [i] env=true)(e:env[i]? =some (some (.lok d)))(hp:fY C n gl d=some d'):
  ∃a dx fs g us l l',Z[i]? =some (some (.ref a))/\H a=some (.ins C dx fs)/\fs.lookup n=some (.ref g)/\H g=some (.lst us)/\aI K (Cln e8 env Z) H l us/\gl l=some l' /\a7 l' =true/\∀xS,aI K (Cln e8 env Z) H l' xS ->b6 K H0 Pn (env.set i (some (.lok d'))) Z (upd H g (.lst xS)):=by
 unfold fY at hp;split at hp
 .rename_i C' ns ds;split at hp
  .rename_i q;obtain⟨rfl,hf⟩:=q;obtain⟨k,hk,hp⟩:=e6 hp;split at hp
   .rename_i l hl;obtain⟨l',hg,hp⟩:=e6 hp;split at hp
    .rename_i im;cases hp;obtain⟨a,dx,vs,ea,z0,zb,ha,ln,kd,rs⟩:=EO.kJ e;obtain⟨v,hv,rv⟩:=rs.get hl;cases rv with
     | @kid g us _ fg yx l1 r1=>
      refine⟨a,dx,_,g,us,l,l',ea,ha,pO hk hv,yx,⟨l1,r1⟩,hg,im,λxS R0=> ?_⟩;have ne:a≠g:=λz=>by subst z;rw[ha] at yx;cases yx
      have xV :k<ds.length:=(Gac.mp hl).1;have stT:∀b o,H b=some o->isT o->upd H g (.lst xS) b=some o:=λb o eb t=>by
       rw[ak];exact eb
       rintro rfl;rw[yx] at eb;cases eb;exact t
      have R' :aI K (λ_=>False) (upd H g (.lst xS)) l' xS :=R0.bS stT im;have inn:Inn K (Cln e8 env Z) (upd H g (.lst xS)) (.obj C' ns (ds.set k (.kid l'))) (.ref a):=by
       refine .obj (vs:=vs) (by rw[ak ne];exact ha) ln (λx y l2 g2 e1 e2 e3=> ?_) ⟨by simpa using rs.1,λj dj vj e1 e2=> ?_⟩
       .by_cases q:k=x
        .subst q;rw[hv] at e2;cases e2
         exact kd k y l g hl hv e3
        .rw[Gab q] at e1;exact kd x y l2 g2 e1 e2 e3
       .by_cases q:k=j
        .subst q;rw[Gav xV] at e1;cases e1
         rw[hv] at e2;cases e2
         exact .kid fg aE R'.1 λi d v e1 e2=>(R'.2 i d v e1 e2).imp λ_ z=>z.elim
        .rw[Gab q] at e1;have fj:=Gau.mp hf dj (GaC e1);have rj:=rs.2 j dj vj e1 e2;cases rj with
         | @kid g2 us2 l2 f2 h2 ll r2=>
          have n2:g2≠g:=λz=>by subst z;exact q (kd k j l g2 hl hv e2)
          have im2:a7 l2=true:=fj;have:=aI.bS (K:=K) (F:=Cln e8 env Z) (F' :=Cln e8 env Z) (ds:=l2) (vs:=us2) stT ⟨ll,r2⟩ im2;exact .kid f2 (by rw[ak n2];exact h2) this.1 this.2
         |obj f h ln kd l r=>simp[D.imm] at fj
         |lst f h l r=>simp[D.imm] at fj
         |non=>exact .non
         |bl b=>exact .bl b
         |int i=>exact .int i
         |str x=>exact .str x
         |tup h l r=>exact(Rep.tup h l r).bS stT fj
         |scr h=>exact(Rep.scr (F:=Cln e8 env Z) h).bS stT fj
         |kt h=>exact .kt h
         |exc h r=>exact(Rep.exc h r).bS stT fj
      have hi:i<env.length:=(Gac.mp e).1;have re:ReE [i] (λ_=> .obj C' ns (ds.set k (.kid l'))) env (env.set i (some (.lok (.obj C' ns (ds.set k (.kid l')))))):=⟨by simp,λj hj=>Gab (by rintro rfl;simp at hj),λj hj=>by
       obtain rfl:j=i:=by simpa using hj
       exact⟨_,.inr ⟨e,b9 hi⟩⟩⟩
      have hH:∀b o,H b=some o->upd H g (.lst xS) b=some o\/b=g:=λb o eb=>by
       by_cases z:b=g
       .exact .inr z
       .left;rw[ak z];exact eb
      refine b6.flat EO pn kn (EO.flat (A:=(· =g)) fl re hH (λb hb=> ?_) λj hj a' e' => ?_) re hH (λb hb=>by subst hb;exact .inr fg) λj hj C2 Ql xq z a' QK yP e' h2 ln2 k2 l2 g2 e3 e4=> ?_
      .subst hb;exact⟨kn i C' ns ds e a dx vs ea ha ln k l b hl hv,.inr fg,λo eo=>by rw[yx] at eo;cases eo;trivial⟩
      .obtain rfl:j=i:=by simpa using hj
       rw[ea] at e';cases e'
       exact⟨⟨.ins C' dx (ns.zip vs),by rw[ak ne];exact ha,trivial⟩,rfl,inn⟩
      .obtain rfl:j=i:=by simpa using hj
       cases z;rw[ea] at e';cases e'
       rw[ak ne,ha] at h2;injection h2 with h2;injection h2 with _ _ h2
       have:=zip_inj ln ln2 h2;subst this;by_cases q:k=k2
       .subst q;exact kn j C' ns ds e a dx vs ea ha ln k l _ hl e4
       .rw[Gab q] at e3;exact kn j C' ns ds e a dx vs ea ha ln k2 l2 g2 e3 e4
    .cases hp
   .cases hp
  .cases hp
 .cases hp
end
open PySem PySem.Spec PyProof.Rows L2
open PySem.W (KasT kas_rev kas_asc kas_desc kas_tail3 kas_descPart kas_count kas_place kas_bin kas_sort)
section
variable{rk:Nat->Int}{N:Nat}
def Ord(N:Nat)(p:Array Nat):Prop:=p.toList.Perm (List.range N)
noncomputable def LV(rk:Nat->Int)(p:Array Nat)(i:Nat):Int:=rk (p.getD i 0)
def Up(rk:Nat->Int)(p:Array Nat)(k:Nat):Prop:=∀u v,u<=v->v<k->LV rk p u<=LV rk p v
end
open PySem PySem.Spec PyProof.Rows L2
def FO(h:Heap)(a:Addr)(T:String)(vs:Array Value):Prop:=∃o,h.get? a=some o/\o.cls= .type T/\o.data= .fields vs
section
variable{prog:Program}{w:World}{A:Around}{E:VSP}{z:Shared}
variable{vs:Array Value}{T:String}{a:Addr}
theorem FO.ty(x:FO z.heap a T vs):z.TypeIs (.ref a) T:=let⟨o,ho,hc,_⟩:=x;⟨o,ho,hc⟩
variable{x:Value}
theorem Ax{k:Nat}{Q:Unit->Shared->Prop}(f:FO z.heap a T vs)(h:∀h',FO h' a T (vs.setIfInBounds k x)/\Heap.SameBut a z.heap h' ->Q () {z with heap:=h' })(hk:k<vs.size):
  wpAny (model prog w) A (setField (.ref a) k x) Q E z:=by
 obtain⟨⟨c,dc,dt,sl⟩,ho,hc,hd⟩:=f;cases hc;cases hd
 exact wpAny_setField ho rfl hk (h _ ⟨⟨_,Gbx _ ho rfl,rfl,rfl⟩,Heap.SameBut.update ..⟩)
theorem fb{i:Nat}{Q:VSP}(f:FO z.heap a T vs)(e:vs[i]? =some x)(h:Q x z):wpAny (model prog w) A (field (.ref a) i) Q E z:=let⟨_,ho,_,hd⟩:=f;wpAny_field ho hd e h
theorem LW{α:Type}{Q:α->Shared->Prop}(hh:A.handled=none)(h:∀h' a,(∀b o,z.heap.get? b=some o->h'.get? b=some o)/\(∃o,h'.get? a=some o/\o.cls= .type "StopIteration")->E (.ref a) {z with heap:=h' }):
  wpAny (model prog w) A (newExc (.type "StopIteration") []>>=λe=>(raiseNew e:Sem α)) Q E z:=by
 obtain⟨hp,g,dr,tk,os⟩:=z
 wp_walk using Gbd
 .unfold raiseNew
  wp_walk
  exact h _ _ ⟨λb o e=>Gaf _ (Gaf _ e),_,Gar _ rfl,rfl⟩
 all_goals size_fits
theorem sU{e:Addr}{Q:Bool->Shared->Prop}(x:∃o,z.heap.get? e=some o/\o.cls= .type "StopIteration")(h:Q true z):wpAny (model prog w) A (isInstance (.ref e) (.type "StopIteration")) Q E z:=
 wpAny_isInstance (T:="StopIteration") x isSubtype_stop h
theorem on{α:Type}{t:Sem α}{Q Q' :α->Shared->Prop}(h:wpAny (model prog w) A t Q E z)(k:∀a s,Q a s->Q' a s):wpAny (model prog w) A t Q' E z:=GaO h k λ_ _ x=>x
end
open PySem
noncomputable def Ge:D->List Int
 | .non=>[0]
 | .int i=>[1,i]
 | .str x=>2::x.cps.toList.map Int.ofNat
 |_=>[3]
noncomputable def IB{α:Type} [DecidableEq α](lt:α->α->Bool):List α->List α->Bool
 |[],[]=>false
 |[],_::_=>true
 |_::_,[]=>false
 |a::as,b::bs=>if a=b then IB lt as bs else lt a b
noncomputable def ltI(a b:Int):Bool:=decide (a<b)
def ltC:List (List Int)->List (List Int)->Bool:=IB (IB ltI)
def code:D->List (List Int)
 | .tup ds=>ds.map Ge
 |d=>[Ge d]
def rank(cs:List (List (List Int)))(i:Nat):Int:=((cs.filter λc=>ltC c (cs[i]?.getD [])).length:Nat)
open PySem
@[simp] noncomputable def mj:Nat->List D->List D
 |_,[]=>[]
 |i,x::xs=> .tup [.int i,x]::mj (i+1) xs
@[simp] def nB(f:DE):DI:=λenv=>(f env).bind λr=>if r.k= .to then none else match r.d with
 | .lst xs=>some (mj 0 xs)
 | .tup xs=>some (mj 0 xs)
 |_=>none
theorem ka:∀(i:Nat) (xs:List D),(mj i xs).length=xs.length
 |_,[]=>rfl
 |i,x::xs=>by simp[ka (i+1) xs]
theorem kb:∀(k:Nat) (xs:List D) (i:Nat),(mj k xs)[i]? =(xs[i]?).map λx=> .tup [.int ((k+i:Nat)),x]
 |_,[],i=>by simp
 |k,x::xs,i=>by
  cases i with
  |zero=>simp
  |succ i=>
   simp only[mj,GbB];rw[kb (k+1) xs i,show k+1+i=k+(i+1) by lia]
open PySem
def sV(x:D)(ds:List D):Option Bool:=if aJ 10 x&&ds.all (aJ 10) then some (ds.any λy=>eqD y x) else none
def inB(x y:D):Option Bool:=match y with
 | .lst ds=>sV x ds
 | .tup ds=>sV x ds
 |_=>none
open PySem
noncomputable def oq:SpV
 |[.int i]=>some ⟨.c,.int i⟩
 |[.bl b]=>some ⟨.c,.int (if b then 1 else 0)⟩
 |_=>none
@[simp] theorem LX{i:Int}:oq [.int i]=some ⟨.c,.int i⟩:=rfl
@[simp] theorem NC{b:Bool}:oq [.bl b]=some ⟨.c,.int (if b then 1 else 0)⟩:=rfl
noncomputable def g9{α:Type}(xs:List α)(i:Int)(y:α):List α:=xs.take (if i<0 then(i+(xs.length:Int)).toNat else min i.toNat xs.length)++y::xs.drop (if i<0 then(i+(xs.length:Int)).toNat else min i.toNat xs.length)
theorem vo{α:Type}(xs:List α)(i:Int)(y:α):(g9 xs i y).length=xs.length+1:=by
 unfold g9;rw[GaJ,GaK,Gbi,Gci];lia
@[simp] def E5(i:Nat)(k v:DE):DS:=λenv=>(k env).bind λx=>(v env).bind λr=>(ownAt i env).bind λd=>match d,x.d with
 | .lst xs,.int j=>if r.free&&(decide (xs.length<aj)&&cu j) then some (.nx (env.set i (some (.own (.lst (g9 xs j r.d)))))) else none
 |_,_=>none
open PySem
open PySem
noncomputable def isInt:D->Bool
 | .int _=>true
 |_=>false
noncomputable def unI:D->Int
 | .int i=>i
 |_=>0
open PySem
open PySem
open PySem
open PySem
open PySem
open PySem
open PySem
noncomputable def ot(x:Str):List D:=x.cps.toList.map λc=> .str ⟨#[c]⟩
@[simp] def pP(f:DE):DI:=λenv=>(f env).bind λr=>match r.d with
 | .str x=>some (ot x)
 |_=>none
noncomputable def qW(x:Str):Option Nat:=match x.cps.toList with
 |[c]=>some c
 |_=>none
@[simp] theorem ND{c:Nat}:qW ⟨#[c]⟩=some c:=rfl
theorem sX{x:Str}{c:Nat}(h:qW x=some c):x=⟨#[c]⟩:=by
 unfold qW at h;split at h
 .rename_i c' e;cases h;obtain⟨⟨l⟩⟩:=x;have e' :l=[c]:=e;subst e'
  rfl
 .cases h
def ou:D->D->Option Bool
 | .str a,.str b=>(qW a).map λc=>decide (c∈b.cps.toList)
 |_,_=>none
def iK:D->D->Option Bool
 | .str a,.str b=>(qW a).map λc=> !decide (c∈b.cps.toList)
 |_,_=>none
@[simp] theorem LY{a b:Str}:ou (.str a) (.str b)=(qW a).map λc=>decide (c∈b.cps.toList):=rfl
@[simp] theorem KH{a b:Str}:iK (.str a) (.str b)=(qW a).map λc=> !decide (c∈b.cps.toList):=rfl
noncomputable def gc:SpV
 |[.int i]=>if i.natAbs<1000000000000000000 then some ⟨.c,.str (Str.ofString (toString i))⟩ else none
 |_=>none
@[simp] theorem Ay{i:Int}:gc [.int i]=if i.natAbs<1000000000000000000 then some ⟨.c,.str (Str.ofString (toString i))⟩ else none:=rfl
noncomputable def Az(c:Nat):Bool:=decide (48<=c)&&decide (c<=57)
noncomputable def E9(cs:List Nat):Nat:=cs.foldl (λacc c=>acc*10+(c -48)) 0
def kL:SpV
 |[.str x]=>if decide (x.length<=640)&&(decide (x.cps.toList≠[])&&x.cps.toList.all Az) then some ⟨.c,.int (E9 x.cps.toList)⟩ else none
 |_=>none
@[simp] theorem KI{x:Str}:kL [.str x]=if decide (x.length<=640)&&(decide (x.cps.toList≠[])&&x.cps.toList.all Az) then some ⟨.c,.int (E9 x.cps.toList)⟩ else none:=rfl
open PySem
abbrev DN:=Env->List (List D)->Option (Env×List (List D))
open PySem
open PySem
open PySem
abbrev Rws:=List (List Key×D)
abbrev DM:=Env->Rws->Option (Env×Rws)
open PySem PySem.Spec PyProof.Rows L2
open PySem.W (KatLex KatTups kas_sort kas_ask kat_kind kat_lt kat_one kat_run kat_snds BoolBack kat_lt_int)
section
variable{prog:Program}{w:World}{A:Around}{E:VSP}{s:Shared}
def sY(cs:List (List (List Int)))(vs:List Value)(out:Array Value):Prop:=∃p:Array Nat,Ord vs.length p/\Up (rank cs) p vs.length/\out=List.toArray (p.toList.map λi=>vs.getD i Value.none)
theorem sY.one{cs:List (List (List Int))}{vs:List Value}(c:vs.length<2):sY cs vs vs.toArray:=by
 refine⟨List.toArray (List.range vs.length),List.Perm.refl _,λu v q r=> ?_, ?_⟩
 .rw[show u=v by lia];exact Int.le_refl _
 .rcases vs with _| ⟨x,_| ⟨y,t⟩⟩
  .rfl
  .rfl
  .exact absurd c (by simp)
end
open PySem PySem.Spec PyProof.Rows L2
section
variable{X:Cx}{e a b c:Expr}{f g h:DE}{pos:Pos}
theorem _root_.L2.Inv.mm{e7:LAO}{Z:St}{H:Hp}{s s' :Shared}{ch:List Addr}{T:Addr}{o:HO}(I:Inv X e7 Z H s)(hf:∀b∈ch,gU X e7 H b)(yH:s'.os=s.os)(hg:s'.gens=s.gens)
  (k:∀b u,b∉ch->s.heap.get? b=some u->s'.heap.get? b=some u)(hT:s.heap.objs.size<=T)(new:bu X.prog X.w (upd H T o) s'.heap T o):Inv X e7 Z (upd H T o) s' :=by
 have hn:H T=none:=I.hok.fresh hT;have ne:∀{b u},H b=some u->b≠T:=λ{b u} q=>aN q hn;refine I.oX (ch:=ch) yH ⟨λb ob q _ _ hx=>k b ob hx q,λb ob q _ _ hx=> ⟨ob.slots,k b ob hx q⟩,λb ob q n _=> ?_,λb ob q hx=> ⟨ob,k b ob hx q⟩,λb xs q=> ?_,λb ob u q=> ?_,λb ps q=> ⟨#[], ?_⟩⟩ ?_ (by rw[hg];exact I.bare) λb hb=> ⟨(hf b hb).2.2.2.1,(hf b hb).2.1,(hf b hb).2.2.2.2.1,(hf b hb).2.2.2.2.2⟩
 .rw[ak (Gaq (Gah (Gaj q) hT))];exact n
 .rw[ak (ne q)];exact q
 .rw[ak (ne q)];exact q
 .rw[ak (ne q),q];simp
 .intro b u q;by_cases hb:b=T
  .subst hb;rw[aE] at q;cases q;exact new
  .rw[ak hb] at q;have tr:∀{c v},H c=some v->c∉ch:=λ{c v} z hc=>by rw[(hf c hc).1] at z;cases z
   refine(I.hok b u q).fW (λc v hc z=>k c v ?_ z) (λc z=>by rw[ak (ne z)];exact z) λc xs z=>by rw[ak (ne z)];exact z
   rcases hc with hc|hc
   .rw[hc];exact tr q
   .exact tr hc
def Ite(K:au)(l:Addr):It:=
 ⟨λi H=>∃xs x,SqL K H l xs/\xs[i]? =some x,λi H x H' =>∃p y,H p=none/\x= .ref p/\H' =upd H p (.tup [.int i,y])/\∀xs,SqL K H l xs->xs[i]? =some y,λi H=>∃xs,SqL K H l xs/\xs.length<=i⟩
variable{tp:Pos}{elts:List Expr}{w:World}{P:Program}
theorem vp{K:au}{x1}(en it l:Addr)(xU:en≠it):Turn P w K (.Tuple elts x1 tp) (Ite K l) [en,it] en (λi h=>(∃old,IsEnum h en it i old)/\h.IsListIter it l i) where
 mem:=by simp
 obj:=λi h st b hb=>by
  obtain⟨⟨old,he⟩,o,e,c,d⟩:=st;rcases Gan.mp hb with z|z
  .subst z;exact⟨_,he,λv z=>by
    have z' :Data.fields _=Data.cell v:=z;cases z'⟩
  .have z' :b=it:=by simpa using z
   subst z';exact⟨o,e,λv z=>by rw[d] at z;cases z⟩
 keep:=λi h h' st k=> ⟨let⟨old,he⟩:=st.1;⟨old,k en (by simp) _ he⟩,st.2.at λo e=>k it (by simp) o e⟩
 item:=by
  intro X hP hw hK hc i e7 s Z H E I hf st hg;subst hP hw hK;obtain⟨⟨old,he⟩,hit⟩:=st;obtain⟨xs,x,hq,hx⟩:=hg;obtain⟨eg,rv,p,hz⟩:=I.list hq;obtain⟨u,hu,ru⟩:=rv.get hx;refine wpAny_pyNext_enum_item he hit p.isList (x:=u) (by simpa using hu) xU λh' ho ye hT xF kk=> ⟨_,rfl, ?_⟩;refine wpAny_letOwnedTupleGo_enum (s:={s with heap:=h',toks:=s.toks+1}) ho λh2 Q4 sb=> ?_;have hltE:en<s.heap.objs.size:=Gaj he;have kept:∀b o,b∉[en,it]->s.heap.get? b=some o->h2.get? b=some o:=λb o hb e=>by
   have b1:b≠en:=λz=>hb (by simp[z]);have b2:b≠it:=λz=>hb (by simp[z]);exact(sb.2 b b1).trans (kk b o b1 b2 e)
  have zw:h2.get? s.heap.objs.size=some {cls:= .type "tuple",data:= .seq #[.int i s.toks,u]}:=(sb.2 _ (GaY hltE)).trans hT;have I1:Inv X e7 Z (upd H s.heap.objs.size (.tup [.int i,x])) {s with heap:=h2,toks:=s.toks+1}:=I.mm (ch:=[en,it]) hf rfl rfl kept (Gap _) (by
   refine⟨by simp[GbQ],[.int i s.toks,u],.cons ⟨_,rfl⟩ (.cons ru .nil),_,zw,rfl,0,rfl⟩)
  refine⟨.ref s.heap.objs.size,_,I1,rfl,⟨_,x,I.fresh,rfl,rfl,λys hy=>by rw[I.lH hy hq];exact hx⟩,⟨⟨u,by simpa using Q4⟩,ye.at λo e=>(sb.2 it (GaG xU)).trans e⟩,λb hb=> ?_⟩;obtain⟨o,ob,_⟩:∃o,s.heap.get? b=some o/\True:=by
   rcases Gan.mp hb with z|z
   .subst z;exact⟨_,he,trivial⟩
   .have z' :b=it:=by simpa using z
    subst z';obtain⟨o,e,_⟩:=hit;exact⟨o,e,trivial⟩
  rw[ak (Gaq (Gaj ob))];exact(hf b hb).1
 done:=by
  intro X hP hw hK hc i e7 s Z H E I hf st hg;subst hP hw hK;obtain⟨⟨old,he⟩,hit⟩:=st;obtain⟨xs,hq,hx⟩:=hg;obtain⟨eg,rv,p,hz⟩:=I.list hq;obtain⟨f0,f1,f2,f3,f4,f5⟩:=hf it (by simp);have hl:=rv.length;exact wpAny_pyNext_enum_end (I.ok.hd hc) he hit p.isList (by simp;lia) λh' eb=> ⟨rfl,I.turned (t' :=s.toks) (λb o hb e=>eb b o hb e) f0 f1 f3 f4 f5⟩
 self:=λ_ _ _ _ _ st h=>let⟨old,he⟩:=st.1;Gce he h
variable{z:Shared}{A:Around}{prog:Program}
theorem mq{E:VSP}{it t:Addr}{i:Nat}{eg:Array Value}{Q:VSP}(hh:A.handled=none)(hit:z.heap.IsTupleIter it t i)(ht:z.heap.IsTuple t eg)
  (hQ:∀x h',eg[i]? =some x->h'.IsTupleIter it t (i+1)->Heap.SameBut it z.heap h' ->Q x {z with heap:=h' })
  (hE:∀h' e,eg[i]? =none->Heap.ExtBut it z.heap h' ->(∃o,h'.get? e=some o/\o.cls= .type "StopIteration")->E (.ref e) {z with heap:=h' }):wpAny (model prog w) A (Builtin.SmallTypes.nextOf (.ref it)) Q E z:=by
 have f:FO z.heap it _ _:=hit;obtain⟨ol,Rb,_,nl,hdl⟩:=ht
 wp_walk using Gbq f.ty F.slot_tuple_iterator_next,GbN F.slot_tuple_iterator_next f.ty F.entry_tuple_iterator_next (ha:=F.args_tuple_iterator_next_1 _),fb (i:=0) (x:= .ref t) f rfl,fb (i:=1) (x:= .int i 0) f rfl,Gbz Rb hdl
 rw[show eg[(i:Int).toNat]? =eg[i]? by simp];cases h:eg[i]? with
 |some x=>
  wp_walk using Ax f
  .exactλh' k=>Gao ⟨_,rfl,Gao (hQ x h' h k.1 k.2)⟩
  .show _<2;decide
 |none=>
  wp_walk using Ax f
  .exactλh1 k=>LW hh λh' a q=>hE h' a h (λb o n e=>q.1 b o (k.2.extBut b o n e)) q.2
  .show _<2;decide
theorem nC(hh:A.handled=none)(it l:Addr)(xU:l≠it)(eg:Array Value):Draws prog w A it [it,l] eg.size (λi v=>eg[i]? =some v) (λi h=>h.IsTupleIter it l i/\h.IsTuple l eg) where
 live:=λ_ _ st=>let⟨o,ho,_⟩:=st.1;⟨o,ho⟩
 frame:=λ_ _ _ st hk=> ⟨st.1.at λo e=>hk it (by simp) o e,let⟨o,ho,r⟩:=st.2;⟨o,hk l (by simp) _ ho,r⟩⟩
 item:=λi z Q E hi st hQ=>mq hh st.1 st.2 (λx h' hx ye yv =>hQ x h' z.toks hx ⟨ye,let⟨o,ho,r⟩:=st.2;⟨o,yv.extBut _ _ xU ho,r⟩⟩ yv) λ_ _ q=>absurd hi (by simpa using q)
 done:=λz Q E st hE=>mq hh st.1 st.2 (λ_ _ q=>absurd (Gbh.mp q).1 (GaI _)) λh' e _=>hE h' e
def LZ(K:au)(l:Addr):It:=
 ⟨λi H=>∃xs x,SqT K H l xs/\xs[i]? =some x,λi H x H' =>∃p y,H p=none/\x= .ref p/\H' =upd H p (.tup [.int i,y])/\∀xs,SqT K H l xs->xs[i]? =some y,λi H=>∃xs,SqT K H l xs/\xs.length<=i⟩
theorem qX{K:au}{x1}(en it l:Addr)(xU:en≠it)(hle:l≠en)(Rj:l≠it):Turn P w K (.Tuple elts x1 tp) (LZ K l) [en,it] en (λi h=>(∃old,IsEnum h en it i old)/\h.IsTupleIter it l i) where
 mem:=by simp
 obj:=λi h st b hb=>by
  obtain⟨⟨old,he⟩,o,e,c,d⟩:=st;rcases Gan.mp hb with z|z
  .subst z;exact⟨_,he,λv z=>by
    have z' :Data.fields _=Data.cell v:=z;cases z'⟩
  .have z' :b=it:=by simpa using z
   subst z';exact⟨o,e,λv z=>by rw[d] at z;cases z⟩
 keep:=λi h h' st k=> ⟨let⟨old,he⟩:=st.1;⟨old,k en (by simp) _ he⟩,st.2.at λo e=>k it (by simp) o e⟩
 item:=by
  intro X hP hw hK hc i e7 s Z H E I hf st hg;subst hP hw hK;obtain⟨⟨old,he⟩,hit⟩:=st;obtain⟨xs,x,hq,hx⟩:=hg;obtain⟨eg,rv,p,hz⟩:=I.tuple hq;obtain⟨u,hu,ru⟩:=rv.get hx;have hi:i<eg.toArray.size:=by
   have:=(Gac.mp hu).1
   simpa using this
  refine wpAny_pyNext_enum_itemD (nC (A:=X.A.in1) (I.ok.hd hc) it l Rj eg.toArray) he ⟨hit,p⟩ hi xU (by simp[xU,GaG hle]) λu' h' tk Qw ho ye hT xF kk=> ⟨_,rfl, ?_⟩;have hit1:=ye.1;have eu:u' =u:=by
   have PL:eg.toArray[i]? =some u:=by simpa using hu
   rw[PL] at Qw;cases Qw;rfl
  subst eu;refine wpAny_letOwnedTupleGo_enum (s:={s with heap:=h',toks:=tk+1}) ho λh2 Q4 sb=> ?_;have hltE:en<s.heap.objs.size:=Gaj he;have kept:∀b o,b∉[en,it]->s.heap.get? b=some o->h2.get? b=some o:=λb o hb e=>by
   have b1:b≠en:=λz=>hb (by simp[z]);have b2:b≠it:=λz=>hb (by simp[z]);exact(sb.2 b b1).trans (kk b o b1 b2 e)
  have zw:h2.get? s.heap.objs.size=some {cls:= .type "tuple",data:= .seq #[.int i tk,u']}:=(sb.2 _ (GaY hltE)).trans hT;have I1:Inv X e7 Z (upd H s.heap.objs.size (.tup [.int i,x])) {s with heap:=h2,toks:=tk+1}:=I.mm (ch:=[en,it]) hf rfl rfl kept (Gap _) (by
   refine⟨by simp[GbQ],[.int i tk,u'],.cons ⟨_,rfl⟩ (.cons ru .nil),_,zw,rfl,0,rfl⟩)
  refine⟨.ref s.heap.objs.size,_,I1,rfl,⟨_,x,I.fresh,rfl,rfl,λys hy=>by rw[I.jV hy hq];exact hx⟩,⟨⟨u',by simpa using Q4⟩,hit1.at λo e=>(sb.2 it (GaG xU)).trans e⟩,λb hb=> ?_⟩;obtain⟨o,ob,_⟩:∃o,s.heap.get? b=some o/\True:=by
   rcases Gan.mp hb with z|z
   .subst z;exact⟨_,he,trivial⟩
   .have z' :b=it:=by simpa using z
    subst z';obtain⟨o,e,_⟩:=hit;exact⟨o,e,trivial⟩
  rw[ak (Gaq (Gaj ob))];exact(hf b hb).1
 done:=by
  intro X hP hw hK hc i e7 s Z H E I hf st hg;subst hP hw hK;obtain⟨⟨old,he⟩,hit⟩:=st;obtain⟨xs,hq,hx⟩:=hg;obtain⟨eg,rv,p,hz⟩:=I.tuple hq;obtain⟨f0,f1,f2,f3,f4,f5⟩:=hf it (by simp);have hl:=rv.length;have fe:FO s.heap en "enumerate" _:=⟨_,he,rfl,rfl⟩
  have pt:s.heap.IsTuple l eg.toArray:=p
  wp_walk using Gbq fe.ty F.slot_enumerate_next,GbN F.slot_enumerate_next fe.ty F.entry_enumerate_next (ha:=F.args_enumerate_next_1 _),fb (i:=2) (x:= .ref it) fe rfl,mq (A:=X.A.in1) (I.ok.hd hc) hit pt
  .exactλx h' q=>absurd (Gbh.mp q).1 (by simp;lia)
  .exactλh' e _ eb q=>Gae (sU q (Gao ⟨rfl,I.turned (t' :=s.toks) (λb o hb e=>eb b o hb e) f0 f1 f3 f4 f5⟩))
 self:=λ_ _ _ _ _ st h=>let⟨old,he⟩:=st.1;Gce he h
theorem AB{E:VSP}{b:Bool}{Q:Bool->Shared->Prop}(h:∀b,Q b z):wpAny (model prog w) A (pure b) Q E z:=Gao (h b)
theorem pQ(l:Addr)(items:Array Value):
  Meets (Builtin.«enumerate.__new__» ⟨[.type "enumerate",.ref l],[]⟩) (λ_ R s=>s.heap.IsTuple l items/\
   R (.ok (.ret (.ref (s.heap.objs.size+1)))) {s with heap:=(s.heap.push {cls:= .type "tuple_iterator",data:= .fields #[.ref l,.int 0 0]}).push {cls:= .type "enumerate",data:= .fields #[.none,.bool false,.ref s.heap.objs.size,rawInt 0,.none,.none]}}):=by
 apply Meets.of_wp;rintro prog w A R s ⟨hl,h⟩;have sub:=sub_enumerate
 wp_walk using GbE hl,wpAny_stack_any
 intro st;refine AB λshort=> ?_;have sz:(s.heap.push {cls:= .type "tuple_iterator",data:= .fields #[.ref l,.int 0 0]}).objs.size=s.heap.objs.size+1:=Gbb ..;rw[<-sz] at h;cases short<;>wp_walk using GbE hl<;>exact⟨_,rfl,h⟩
theorem qY{E:VSP}{l:Addr}{items:Array Value}{Q:VSP}(hL:z.heap.IsTuple l items)
  (h:∀h',IsEnum h' (z.heap.objs.size+1) z.heap.objs.size 0 .none->h'.IsTupleIter z.heap.objs.size l 0->(∀b o,z.heap.get? b=some o->h'.get? b=some o)->Q (.ref (z.heap.objs.size+1)) {z with heap:=h' }):
  wpAny (model prog w) A (call (.type "enumerate") [.ref l]) Q E z:=by
 have sz:(z.heap.push {cls:= .type "tuple_iterator",data:= .fields #[.ref l,.int 0 0]}).objs.size=z.heap.objs.size+1:=Gbb ..;have en:IsEnum ((z.heap.push {cls:= .type "tuple_iterator",data:= .fields #[.ref l,.int 0 0]}).push {cls:= .type "enumerate",data:= .fields #[.none,.bool false,.ref z.heap.objs.size,rawInt 0,.none,.none]}) (z.heap.objs.size+1) z.heap.objs.size 0 .none:=sz▸Gar _ rfl;exact callType_new F.called_enumerate (by decide) (F.typeCall_enumerate_1 _) (F.newCall_enumerate_1 _) (λ_=>F.args_object_init_2 _ _) F.entry_enumerate_new (pQ l items) ⟨hL,⟨_,en,rfl⟩,h _ en ⟨_,Gaf _ (Gar _ rfl),rfl,rfl⟩ λb o q=>Gaf _ (Gaf _ q)⟩
def M0(K:au)(tl:TA):TI:=λZ H R=>tl Z H λvs H1=>∃l,vs=[.ref l]/\(((∃xs,SqL K H1 l xs)/\R (Ite K l) H1)\/((∃xs,SqT K H1 l xs)/\R (LZ K l) H1))
variable{p:Pos}
theorem sZ{x1}{ta:TA}(hg:Gl X "enumerate")(hm:X.mg "enumerate"=none)(ha:PA X [a] ta)(hs:autoParam (starEach [a] X.env=[(false,eval a X.env)]) Za1._auto_1):PI X (.Tuple elts x1 tp) (.Call (.Name "enumerate" p) [a] [] pos) (M0 X.K ta):=by
 intro e7 s Z H R I h;refine Call_ (iQ I hg hm om (Gbe (thn (ha pos e7 s Z H _ I h) λus s1 ⟨vs,H1,I1,r1,q1⟩=> ?_) hs rfl));obtain⟨l,e,q1⟩:=q1;subst e;cases r1 with
 |cons r rr=>
  cases rr;cases r;have zW:∀b∈[s1.heap.objs.size+1,s1.heap.objs.size],gU X e7 H1 b:=λb hb=>by
   rcases Gan.mp hb with z|z
   .subst z;exact I1.qB (Gbk _) (I1.hok.fresh (Gbk _))
   .have z' :b=s1.heap.objs.size:=by simpa using z
    subst z';exact I1.qB (Gap _) (I1.hok.fresh (Gap _))
  rcases q1 with⟨⟨xs,hq⟩,q⟩| ⟨⟨xs,hq⟩,q⟩
  .obtain⟨eg,rv,pl,hz⟩:=I1.list hq;refine call_enumerate_list pl.isList λh' he hit xF kk=> ?_;refine Gce (s:={s1 with heap:=h' }) he ?_;exact⟨s1.heap.objs.size+1,[s1.heap.objs.size+1,s1.heap.objs.size],_,_,H1,rfl,I1.kept (t' :=s1.toks) kk,vp _ _ l (Nat.succ_ne_self _),⟨⟨.none,he⟩,hit⟩,zW,q⟩
  .obtain⟨eg,rv,pl,hz⟩:=I1.tuple hq;have xa:l<s1.heap.objs.size:=pl.lt;refine qY (show s1.heap.IsTuple l eg.toArray from pl) λh' he hit kk=> ?_;refine Gce (s:={s1 with heap:=h' }) he ?_;exact⟨s1.heap.objs.size+1,[s1.heap.objs.size+1,s1.heap.objs.size],_,_,H1,rfl,I1.kept (t' :=s1.toks) kk,qX _ _ l (Nat.succ_ne_self _) (Gaq (Gcc xa)) (Gaq xa),⟨⟨.none,he⟩,hit⟩,zW,q⟩
theorem Ea{x1}(hg:Gl X "enumerate")(hm:X.mg "enumerate"=none)(he:PEd X e f)(hs:autoParam (starEach [e] X.env=[(false,eval e X.env)]) Za1._auto_1):PId X (.Tuple elts x1 tp) (.Call (.Name "enumerate" p) [e] [] pos) (nB f):=by
 refine(sZ hg hm (bQ he dh hs) hs).aB ?_;rintro Z H R ⟨H0,e8,env,ds,E,hf,k⟩;obtain⟨⟨kd,d⟩,hr,hf⟩:=e6 hf;split at hf
 .cases hf
 rename_i hk;split at hf
 .rename_i xs hd;have xb :d= .lst xs:=hd;subst xb;cases hf;refine⟨H0,e8,env,[⟨kd,.lst xs⟩],E,by unfold a9 aD;rw[hr];rfl,λvs H1 s1 Rs=> ?_⟩;cases Rs with
  |cons Rv tl=>
   cases tl;have ii:=Rv.inn;have hno:=og E rfl hk Rv;have E1:=E.mono s1;cases ii with
   | @lst la lv _ h r=>
    refine⟨_,rfl,.inl ⟨⟨_,.inl h⟩,k _ H1 s1 λHi keep=> ?_⟩⟩;have hh:Rd Hi la (.lst lv):=by
     rcases h with h| ⟨o,h⟩
     .exact .inl (keep _ _ h (hno _ rfl))
     .exact .inr ⟨o,keep _ _ h (hno _ rfl)⟩
    refine⟨λi d hd=> ?_,⟨_,.inl hh,by rw[ka,r.1];exact Gap _⟩⟩;rw[kb] at hd;obtain⟨y,hy,rfl⟩:=Gaa.mp hd;obtain⟨v,h1,h2⟩:=r.get hy;refine⟨⟨_,v,.inl hh,h1⟩,λz H2 ⟨p,w,hp,ez,eH,ew⟩=> ?_⟩;subst ez eH;have:=ew _ (.inl hh);rw[h1] at this;cases this
    refine⟨aV hp, ?_⟩;have rp:=E1.dW keep h2;rw[show(((0+i:Nat)):Int)=(i:Int) by simp];exact cP hp (.cons (.int _) (.cons rp .nil))
 .rename_i xs hd;have xb :d= .tup xs:=hd;subst xb;cases hf;refine⟨H0,e8,env,[⟨kd,.tup xs⟩],E,by unfold a9 aD;rw[hr];rfl,λvs H1 s1 Rs=> ?_⟩;cases Rs with
  |cons Rv tl=>
   cases tl;have ii:=Rv.inn;have E1:=E.mono s1;cases ii with
   | @tup la lv _ h r=>
    refine⟨_,rfl,.inr ⟨⟨_,SqT.of h⟩,k _ H1 s1 λHi keep=> ?_⟩⟩;have hh:Hi la=some (.tup lv):=keep _ _ h λw=>E1.dk w h trivial;refine⟨λi d hd=> ?_,⟨_,SqT.of hh,by rw[ka,r.1];exact Gap _⟩⟩;rw[kb] at hd;obtain⟨y,hy,rfl⟩:=Gaa.mp hd;obtain⟨v,h1,h2⟩:=r.get hy;refine⟨⟨_,v,SqT.of hh,h1⟩,λz H2 ⟨p,w,hp,ez,eH,ew⟩=> ?_⟩;subst ez eH;have:=ew _ (SqT.of hh);rw[h1] at this;cases this
    refine⟨aV hp, ?_⟩;have rp:=E1.dW keep h2;rw[show(((0+i:Nat)):Int)=(i:Int) by simp];exact cP hp (.cons (.int _) (.cons rp .nil))
 .cases hf
end
open PySem PySem.Spec PyProof.Rows L2
section
variable{X:Cx}{e a b c:Expr}{f g h:DE}{pos:Pos}
def ox(K:au)(neg:Bool):R2:=λx y H Q=>∃p xs dx ds,y= .ref p/\(SqL K H p xs\/SqT K H p xs)/\aJ 10 dx=true/\ds.all (aJ 10)=true/\Rep K (λ_=>True) H dx x/\aI K (λ_=>True) H ds xs/\Q (.bl (if neg then !ds.any (λy=>eqD y dx) else ds.any (λy=>eqD y dx))) H
variable{x:V}{dx:D}{H:Hp}
theorem jD{e7:LAO}{Z:L2.St}{z:Shared}(I:Inv X e7 Z H z)(hu:X.A.units+20<cLine){xs:List V}{eg:List Value}{ds:List D}{v:Value}(r:Vals xs eg)(hx:aJ 10 dx=true)(hs:ds.all (aJ 10)=true)
  (rx:Rep X.K (λ_=>True) H dx x)(rs:aI X.K (λ_=>True) H ds xs)(rv:RelV x v):∃ev:Value->Bool,(∀w∈eg,SeqAt.EqAt X.A.in1 z w v (ev w))/\eg.any ev=ds.any λy=>eqD y dx:=by
 classical
 have hll:=r.length;have tri:∀(i:Nat) (w:Value),eg[i]? =some w->∃d u,ds[i]? =some d/\xs[i]? =some u/\RelV u w/\Rep X.K (λ_=>True) H d u/\aJ 10 d=true:=λi w hw=>by
  have hi:i<eg.length:=(Gac.mp hw).1;have hd:ds[i]? =some (ds[i]'(by rw[rs.1,hll];exact hi)):=Gal _;obtain⟨u,hu1,PL⟩:=rs.get hd;obtain⟨w',Qu,R5⟩:=r.get hu1;rw[hw] at Qu;cases Qu
  exact⟨_,u,hd,hu1,R5,PL,Gau.mp hs _ (GaC hd)⟩
 refine⟨λw=>decide (∃(i:Nat) (d:D),eg[i]? =some w/\ds[i]? =some d/\eqD d dx=true),λw hw=> ?_, ?_⟩
 .obtain⟨i,hi⟩:=Gbm hw;obtain⟨d,u,h1,h2,h3,h4,h5⟩:=tri i w hi;have key:decide (∃(i:Nat) (d:D),eg[i]? =some w/\ds[i]? =some d/\eqD d dx=true)=eqD d dx:=by
   cases q:eqD d dx with
   |true=>exact Gbt ⟨i,d,hi,h1,q⟩
   |false=>
    refine GaZ ?_;rintro⟨j,d',g1,g2,g3⟩;obtain⟨d2,u2,k1,k2,k3,k4,k5⟩:=tri j w g1;rw[g2] at k1;cases k1
    have eu:=RelV.inj h3 k3;subst eu;rw[oj 10 h5 k5 h4 k4] at q;rw[q] at g3;cases g3
  show SeqAt.EqAt X.A.in1 z w v (decide _);rw[key];exact me I 10 h5 hx h4 rx h3 rv (by show X.A.units+1+10<_;lia)
 .rw[Bool.eq_iff_iff,List.any_eq_true,List.any_eq_true];constructor
  .rintro⟨w,hw,e⟩;obtain⟨i,d,_,h2,h3⟩:=GaB e;exact⟨d,GaC h2,h3⟩
  .rintro⟨d,hd,e⟩;obtain⟨i,hi⟩:=Gbm hd;have hl:i<eg.length:=by rw[<-hll,<-rs.1];exact(Gac.mp hi).1
   exact⟨eg[i],GbO hl,Gbt ⟨i,d,Gal hl,hi,e⟩⟩
theorem IC(hu:X.A.units+20<cLine):OpR X (compareOp .In) (ox X.K false):=by
 intro e7 z Z H x y v u Q I rx ry h;obtain⟨p,xs,dx,ds,rfl,hq,fx,fs,r1,r2,q⟩:=h;cases ry;rcases hq with hq|hq
 .obtain⟨eg,r,pl,hz⟩:=I.list hq;obtain⟨ev,e1,e2⟩:=jD I hu r fx fs r1 r2 rx;refine SeqAt.in_listAt ev pl.isList (λw hw=>e1 w (by simpa using hw)) ⟨.bl _,H,I,rfl, ?_⟩;rw[show eg.toArray.any ev=eg.any ev by simp,e2];exact q
 .obtain⟨eg,r,pl,hz⟩:=I.tuple hq;obtain⟨ev,e1,e2⟩:=jD I hu r fx fs r1 r2 rx;refine SeqAt.in_tupleAt ev pl (λw hw=>e1 w (by simpa using hw)) ⟨.bl _,H,I,rfl, ?_⟩;rw[show eg.toArray.any ev=eg.any ev by simp,e2];exact q
theorem Eb(hu:X.A.units+20<cLine):OpR X (compareOp .NotIn) (ox X.K true):=by
 intro e7 z Z H x y v u Q I rx ry h;obtain⟨p,xs,dx,ds,rfl,hq,fx,fs,r1,r2,q⟩:=h;cases ry;rcases hq with hq|hq
 .obtain⟨eg,r,pl,hz⟩:=I.list hq;obtain⟨ev,e1,e2⟩:=jD I hu r fx fs r1 r2 rx;refine SeqAt.notIn_listAt ev pl.isList (λw hw=>e1 w (by simpa using hw)) ⟨.bl _,H,I,rfl, ?_⟩;rw[show eg.toArray.any ev=eg.any ev by simp,e2];exact q
 .obtain⟨eg,r,pl,hz⟩:=I.tuple hq;obtain⟨ev,e1,e2⟩:=jD I hu r fx fs r1 r2 rx;refine SeqAt.notIn_tupleAt ev pl (λw hw=>e1 w (by simpa using hw)) ⟨.bl _,H,I,rfl, ?_⟩;rw[show eg.toArray.any ev=eg.any ev by simp,e2];exact q
theorem ID(hu:X.A.units+20<cLine):OpR X (compareOp .In) (ox X.K false):=IC hu
theorem Ec(hu:X.A.units+20<cLine):OpR X (compareOp .NotIn) (ox X.K true):=Eb hu
theorem Ed{neg:Bool}{F:Addr->Prop}{dy:D}{y:V}{b:Bool}{Q:VK}(ix:Inn X.K F H dx x)(iy:Inn X.K F H dy y)(e:inB dx dy=some b)(q:Q (.bl (if neg then !b else b)) H):ox X.K neg x y H Q:=by
 have seq:∀{ds:List D} {p:Addr} {vs:List V},y= .ref p->(SqL X.K H p vs\/SqT X.K H p vs)->aI X.K F H ds vs->sV dx ds=some b->ox X.K neg x y H Q:=λ{ds p vs} ey hs r hb=>by
  unfold sV at hb;split at hb
  .rename_i c;rw[Gad] at c;cases hb;exact⟨p,vs,dx,ds,ey,hs,c.1,c.2,ix.any,⟨r.1,λi d v e1 e2=>(r.2 i d v e1 e2).inn.any⟩,q⟩
  .cases hb
 unfold inB at e;split at e
 .cases iy with
  |lst h r=>exact seq rfl (.inl (.inl h)) r e
 .cases iy with
  |tup h r=>exact seq rfl (.inr (SqT.of h)) r e
 .cases e
end
open PySem PySem.Spec PyProof.Rows L2
namespace Fr
end Fr
open PySem PySem.Spec PyProof.Rows L2
section
variable{X:Cx}{e a b c:Expr}{f g h:DE}{pos:Pos}
theorem vq:CallD X oq (λxs H Q=>(∃i,xs=[.int i]/\Q (.int i) H)\/∃k,xs=[.bl k]/\Q (.int (if k then 1 else 0)) H):=by
 intro F H ds vs rv Q ps e k;unfold oq at e;split at e
 .cases e;obtain⟨v,rfl,i⟩:=bT ps;cases i;exact .inl ⟨_,rfl,k _ H aU (.int _)⟩
 .cases e;obtain⟨v,rfl,i⟩:=bT ps;cases i;exact .inr ⟨_,rfl,k _ H aU (.int _)⟩
 .cases e
theorem AD{xs:List V}{eg:List Value}(r:Vals xs eg){x:V}{u:Value}(hx:RelV x u)(j:Int):Vals (g9 xs j x) (PySem.W.kl_ins eg j u):=by
 have hl:=r.length;unfold g9 PySem.W.kl_ins;rw[hl];have tk:∀{xs:List V} {eg:List Value} (r:Vals xs eg) (n:Nat),Vals (xs.take n) (eg.take n):=by
  intro xs eg r;induction r with
  |nil=>intro n;simp;exact .nil
  |cons h t ih=>intro n;cases n with
   |zero=>exact .nil
   |succ n=>exact .cons h (ih n)
 have dr:∀{xs:List V} {eg:List Value} (r:Vals xs eg) (n:Nat),Vals (xs.drop n) (eg.drop n):=by
  intro xs eg r;induction r with
  |nil=>intro n;simp;exact .nil
  |cons h t ih=>intro n;cases n with
   |zero=>exact .cons h t
   |succ n=>exact ih n
 exact(tk r _).append (.cons hx (dr r _))
def Ee:V->List V->Hp->VK->Prop:=λx vs H Q=>∃l xs j y,x= .ref l/\vs=[.int j,y]/\H l=some (.lst xs)/\xs.length<sizeLine/\-(2^62)<=j/\j<2^62/\Q .non (upd H l (.lst (g9 xs j y)))
theorem vt:MtM X "list.insert" Ee:=by
 intro e7 z Z H x vs v us Q I rx rv h;obtain⟨l,xs,j,y,rfl,rfl,hH,hz,h1,h2,q⟩:=h;cases rx;cases rv with
 |cons r1 t1=>
  cases t1 with
  |cons r2 t2=>
   cases t2;obtain⟨t,rfl⟩:=r1;rename_i u;obtain⟨_,eg,n,r,hl,e⟩:=I.wJ hH;have hfit:Builtin.List.listFitsIndex j=true:=by simp[Builtin.List.listFitsIndex];lia
   refine Gca F.slot_list_insert ⟨_,e,rfl⟩ F.entry_list_insert (F.args_list_insert_3 _ _ _) (PySem.AutoSeq1.list_insert_list_int_val_1 l eg.toArray n j t u (by simp[hfit]) (by rw[Gag];lia)) ⟨e, ?_⟩;refine⟨.non,_,I.De (its' :=PySem.W.kl_ins eg j u) hH e ?_ (AD r r2 j) ?_,rfl,q⟩
   .show(eg.toArray.extract 0 _).push u++eg.toArray.extract _=_;rw[PySem.W.kl_ins_eq];simp only[Gag]
    rfl
   .rw[vo];lia
theorem vw{i:Nat}{x:Str}{px apos eF:Pos}(hN:X.N[i]? =some x)(hv:Vis X.env.scope x)(he:PEd X e f)(ha:PEd X a g)(hd:autoParam ((x==("__debug__":Str))=false) Za2._auto_1)(eV:autoParam ((x==("__classdict__":Str))=false) Za2._auto_1)
  (eU:autoParam (starEach [e,a] X.env=(false,eval e X.env)::starEach [a] X.env) Za1._auto_1)(hW:autoParam (starEach [a] X.env=[(false,eval a X.env)]) Za1._auto_1)
  (xj:autoParam (attributeBase (.Name x px) "insert" X.env (eval (.Name x px) X.env)=eval (.Name x px) X.env) Za1._auto_1)
  (xK:((backTo eF (starEach [e,a] X.env)).all (λx=> !x.1)&&(backToKw eF (keywordEach [] X.env)).all (λx=>x.1.isSome)
   &&decide (([e,a]:List Expr).length+([]:List Keyword).length+(if([]:List Keyword).isEmpty then 0 else 1)<30))=true:=by rfl)
  (eP:autoParam ((apos.endLine==eF.line)=true) Za1._auto_1)(hs:autoParam (swapsWith (.Call (.Attribute (.Name x px) "insert" apos) [e,a] [] eF) none pos.line X.env=pure false) Za1._auto_1):
  PSd X (.Expr (.Call (.Attribute (.Name x px) "insert" apos) [e,a] [] eF) pos) (E5 i f g):=by
 refine(gr (lO Gbc PySem.F.slot_list_insert PySem.F.type_list_insert vt (ck hN hv hd eV) (bQ he (bQ ha dh hW) eU) xj xK eP eU (by rw[hW];rfl)) hs).aB ?_;rintro D Z H ⟨H0,e8,env,o,E,e,k⟩;obtain⟨r,hr,e⟩:=e6 e;obtain⟨r2,xr,e⟩:=e6 e;obtain⟨d,hd,e⟩:=e6 e;have q:=f6 hd;obtain⟨kd,rd⟩:=r;split at e
 .rename_i xs j hj;have y4 :rd= .int j:=hj;split at e
  .rename_i z;rw[Gad,Gad] at z;obtain⟨z1,z2,z3⟩:=z;cases e;subst y4;obtain⟨a,h1,h2,h3,h4,h5,h6⟩:=E.ow i _ (.inl q);obtain⟨vs,hH,rp⟩:=fK h4 h6;refine⟨_,h1,.inl ⟨rfl,vs,.inl (.inl hH)⟩,H0,e8,env,[⟨kd,.int j⟩,r2],E,by unfold a9 aD;rw[hr,xr];rfl,λws H2 s2 Rs=> ?_⟩;cases Rs with
   | @cons _ v _ _ R1 tl=>
    cases tl with
    | @cons _ v2 _ _ R2 tl=>
    cases tl;have i1:=R1.inn;cases i1;have xy:=s2 _ _ hH;have sj:=cA z3;refine⟨a,vs,j,v2,rfl,rfl,xy,by rw[<-rp.1,<-eG];exact GaB z2,sj.1,sj.2, ?_⟩;have E2:=E.mono s2;have rep1:=R2.rep E z1;have rp1:aI X.K (Cln e8 env Z) H2 xs vs:=rp.gen (.of_same s2) λ_ f _=>f;have rp2:aI X.K (Cln e8 env Z) H2 (g9 xs j r2.d) (g9 vs j v2):=by
     unfold g9;rw[<-rp1.1];exact(rp1.take _).append (.cons rep1 (rp1.drop _))
    obtain⟨E3,p3⟩:=E2.change (d' := .lst (g9 xs j r2.d)) (o:= .lst (g9 vs j v2)) q h1 trivial rfl (.lst (.inl aE) (rp2.gen (λb o hb w=>by
     have:b≠a:=by
      rintro rfl;rcases w with w|w
      .exact w.2 i (by rw[q];trivial) h1
      .rw[xy] at hb;cases hb;exact w
     rw[ak this];exact hb) λ_ f _=>f))
    exact k Z _ E3 ((Stp.of_same s2).trans p3)
  .cases e
 .cases e
end
open PySem.W (KatLex KatTups kas_sort kas_ask kat_kind kat_lt kat_one kat_run kat_snds BoolBack kat_lt_int)
noncomputable def Itx(x:Str):It:=⟨λi _=>i<x.length,λi H v H' =>H' =H/\∃c,x.cps[i]? =some c/\v= .str ⟨#[c]⟩,λi _=>x.length<=i⟩
theorem AE{P:Program}{w:World}{K:au}{tg:Expr}(it:Addr)(x:Str)(t:Tok)(ty:String)(yE:ty="str_ascii_iterator"\/ty="str_iterator"):Turn P w K tg (Itx x) [it] it (λi h=>h.IsStrIter it ty x t i) where
 mem:=by simp
 obj:=λi h st b hb=>by
  have e:b=it:=by simpa using hb
  subst e;obtain⟨o,e,c,d⟩:=st;exact⟨o,e,λv z=>by rw[d] at z;cases z⟩
 keep:=λi h h' st k=>by
  obtain⟨o,e,r⟩:=st;exact⟨o,k it (by simp) o e,r⟩
 item:=by
  intro X hP hw hK hc i e7 z Z H E I hf st hg;subst hP hw hK;obtain⟨f0,f1,f2,f3,f4,f5⟩:=hf it (by simp);have ym :i<x.cps.size:=hg;have hx:x.cps[i]? =some x.cps[i]:=Array.getElem?_eq_getElem ym;rcases yE with rfl|rfl
  .refine wpAny_pyNext_ascii_item st hx λh' xM sb=> ?_;have I1:Inv X e7 Z H {z with heap:=h',toks:=z.toks+1}:=I.turned (t' :=z.toks+1) (λb o hb e=>(sb.2 b hb).trans e) f0 f1 f3 f4 f5;obtain⟨o,e,c,d⟩:=id xM;exact⟨_,rfl,oY (s:={z with heap:=h',toks:=z.toks+1}) e c d (by decide) ⟨.str _,H,I1,⟨_,rfl⟩,⟨rfl,_,hx,rfl⟩,xM,λb hb=>(hf b hb).1⟩⟩
  .refine wpAny_pyNext_wide_item st hx λh' xM sb=> ?_;have I1:Inv X e7 Z H {z with heap:=h',toks:=z.toks+1}:=I.turned (t' :=z.toks+1) (λb o hb e=>(sb.2 b hb).trans e) f0 f1 f3 f4 f5;obtain⟨o,e,c,d⟩:=id xM;exact⟨_,rfl,oY (s:={z with heap:=h',toks:=z.toks+1}) e c d (by decide) ⟨.str _,H,I1,⟨_,rfl⟩,⟨rfl,_,hx,rfl⟩,xM,λb hb=>(hf b hb).1⟩⟩
 done:=by
  intro X hP hw hK hc i e7 z Z H E I hf st hg;subst hP hw hK;obtain⟨f0,f1,f2,f3,f4,f5⟩:=hf it (by simp);have hx:x.cps[i]? =none:=Array.getElem?_eq_none hg;rcases yE with rfl|rfl
  .exact wpAny_pyNext_ascii_end (I.ok.hd hc) st hx λh' eb=> ⟨rfl,I.turned (t' :=z.toks) (λb o hb e=>eb b o hb e) f0 f1 f3 f4 f5⟩
  .exact wpAny_pyNext_wide_end (I.ok.hd hc) st hx λh' eb=> ⟨rfl,I.turned (t' :=z.toks) (λb o hb e=>eb b o hb e) f0 f1 f3 f4 f5⟩
 self:=λ_ _ _ _ _ st h=>by
  rcases yE with rfl|rfl
  .exact wpAny_pyIter_striter_ascii st h
  .exact wpAny_pyIter_striter_wide st h
section
variable{X:Cx}{e a b c:Expr}{f g h:DE}{pos:Pos}
def Oz(tl:TE):TI:=λZ H R=>tl Z H λv H1=>∃x,v= .str x/\R (Itx x) H1
variable{tg:Expr}
theorem IE{l:Expr}{tl:TE}(hl:PE X l tl):PI X tg l (Oz tl):=by
 intro e7 z Z H R I h;refine thn (hl e7 z Z H _ I h) λv s1 ⟨y,H1,I1,r1,q1⟩=> ?_;obtain⟨x,e,q⟩:=q1;subst e;obtain⟨t,rfl⟩:=r1;have fin:∀ty,(ty="str_ascii_iterator"\/ty="str_iterator")->PIE X e7 Z tg R (.ref s1.heap.objs.size) {s1 with heap:=s1.heap.push {cls:= .type ty,data:= .fields #[.str x t,.int 0 0]}}:=by
  intro ty yE;refine⟨s1.heap.objs.size,[s1.heap.objs.size],_,_,H1,rfl,I1.kept (t' :=s1.toks) λb o e=>Gaf _ e,AE _ x t ty yE,⟨_,Gar _ rfl,rfl,rfl⟩,λb hb=> ?_,q⟩;have e:b=s1.heap.objs.size:=by simpa using hb
  subst e;exact I1.qB (Gap _) (I1.hok.fresh (Gap _))
 cases ha:x.cps.all (· <128) with
 |true=>exact wpAny_pyIter_ascii ha (fin _ (.inl rfl))
 |false=>exact wpAny_pyIter_wide ha (fin _ (.inr rfl))
theorem IF(he:PEd X e f):PId X tg e (pP f):=by
 refine(IE he).aB ?_;rintro Z H R ⟨H0,e8,env,ds,E,hf,k⟩;obtain⟨⟨kd,d⟩,hr,hf⟩:=e6 hf;split at hf
 .rename_i x hd;have xb :d= .str x:=hd;subst xb;cases hf;refine⟨H0,e8,env,_,E,hr,λv H1 s1 Rv=> ?_⟩;have ii:Inn X.K (Cln e8 env Z) H1 (.str x) v:=Rv.inn;cases ii;refine⟨x,rfl,k _ H1 s1 λHi keep=> ⟨λi d hd=> ?_, ?_⟩⟩
  .unfold ot at hd;rw[Gaw] at hd;obtain⟨c,hc,rfl⟩:=Gaa.mp hd;have yn :x.cps[i]? =some c:=by simpa using hc
   have hi:i<x.cps.size:=by
    rcases Nat.lt_or_ge i x.cps.size with h|h
    .exact h
    .rw[Array.getElem?_eq_none h] at yn;cases yn
   refine⟨hi,λy H2 ⟨e2,c2,h2,e3⟩=> ?_⟩;subst e2;rw[yn] at h2;cases h2;subst e3;exact⟨aU,.str _⟩
  .show x.length<=(ot x).length;simp[ot,Str.length]
 .cases hf
theorem IG:OpR X (compareOp .In) (λx y H Q=>∃c b,x= .str ⟨#[c]⟩/\y= .str b/\Q (.bl (decide (c∈b.cps.toList))) H):=by
 intro e7 z Z H x y v u Q I rx ry h;obtain⟨c,b,rfl,rfl,q⟩:=h;obtain⟨t,rfl⟩:=rx;obtain⟨t2,rfl⟩:=ry;refine PySem.P.in_str ?_;rw[StrLaws.found_one];exact⟨.bl _,H,I,rfl,q⟩
theorem Ef:OpR X (compareOp .NotIn) (λx y H Q=>∃c b,x= .str ⟨#[c]⟩/\y= .str b/\Q (.bl (!decide (c∈b.cps.toList))) H):=by
 intro e7 z Z H x y v u Q I rx ry h;obtain⟨c,b,rfl,rfl,q⟩:=h;obtain⟨t,rfl⟩:=rx;obtain⟨t2,rfl⟩:=ry;refine PySem.P.notIn_str ?_;rw[StrLaws.found_one];exact⟨.bl _,H,I,rfl,q⟩
theorem Eg:OpB X ou (λx y H Q=>∃c b,x= .str ⟨#[c]⟩/\y= .str b/\Q (.bl (decide (c∈b.cps.toList))) H):=by
 intro F H dx dy x y b Q ix iy e q;unfold ou at e;split at e
 .obtain⟨c,hc,rfl⟩:=Gaa.mp e;have:=sX hc;subst this;cases ix;cases iy
  exact⟨c,_,rfl,rfl,q⟩
 .cases e
theorem AF:OpB X iK (λx y H Q=>∃c b,x= .str ⟨#[c]⟩/\y= .str b/\Q (.bl (!decide (c∈b.cps.toList))) H):=by
 intro F H dx dy x y b Q ix iy e q;unfold iK at e;split at e
 .obtain⟨c,hc,rfl⟩:=Gaa.mp e;have:=sX hc;subst this;cases ix;cases iy
  exact⟨c,_,rfl,rfl,q⟩
 .cases e
theorem vA:CallD X gc (λxs H Q=>∃i,xs=[.int i]/\i.natAbs.log2<1920/\Q (.str (toString i)) H):=by
 intro F H ds vs rv Q ps e k;unfold gc at e;split at e
 .rename_i i;split at e
  .rename_i hz;cases e;obtain⟨v,rfl,ii⟩:=bT ps;cases ii;refine⟨_,rfl, ?_,k _ H aU (.str _)⟩;by_cases h0:i.natAbs=0
   .rw[h0];decide
   .exact Gah ((Nat.log2_lt (k:=60) h0).mpr (Gah hz (by decide))) (by decide)
  .cases e
 .cases e
theorem mR:cY X (.type "int") (λxs H Q=>∃x,xs=[.str x]/\x.length<=640/\x.cps.toList≠[]/\x.cps.toList.all Az=true/\Q (.int (E9 x.cps.toList)) H):=by
 intro e7 z Z H xs us Q I r h;obtain⟨x,rfl,h1,h2,h3,q⟩:=h;obtain⟨u,rfl,t,rfl⟩:=vals1 r;have ad:NumText.AllDigits x.cps.toList:=λc hc=>by
  have:=Gau.mp h3 c hc
  simpa[Az] using this
 exact PySem.W.KIN.call_text (intText_digits ad h2 (GaE h1 (by decide))) h1 ⟨.int _,H,I.tok _,⟨_,rfl⟩,q⟩
theorem qZ:CallD X kL (λxs H Q=>∃x,xs=[.str x]/\x.length<=640/\x.cps.toList≠[]/\x.cps.toList.all Az=true/\Q (.int (E9 x.cps.toList)) H):=by
 intro F H ds vs rv Q ps e k;unfold kL at e;split at e
 .split at e
  .rename_i x hz;rw[Gad,Gad] at hz;cases e;obtain⟨v,rfl,ii⟩:=bT ps;cases ii;exact⟨_,rfl,GaB hz.1,GaB hz.2.1,hz.2.2,k _ H aU (.int _)⟩
  .cases e
 .cases e
variable{t:Tok}{x:Str}
theorem AG{i:Int}(hg:Gl X x)(hm:X.mg x=some (.int i t))(hd:autoParam ((x==("__debug__":Str))=false) Za2._auto_1):PEd X (.Name x pos) (kE (.int i)):=
 (rY (v:= .int i) hg hm ⟨t,rfl⟩ hd).aB λZ H Q ⟨_,_,_,_,_,e,k⟩=>by cases e;exact k _ H aU (.int i)
theorem AH{y:Str}(hg:Gl X x)(hm:X.mg x=some (.str y t))(hd:autoParam ((x==("__debug__":Str))=false) Za2._auto_1):PEd X (.Name x pos) (kE (.str y)):=
 (rY (v:= .str y) hg hm ⟨t,rfl⟩ hd).aB λZ H Q ⟨_,_,_,_,_,e,k⟩=>by cases e;exact k _ H aU (.str y)
end
open PySem PyProof.Rows
abbrev SM:=StateT SortSt Sem
open PySem.W (kas_item)
open PySem.W (kas_item kas_swaps_map)
open PySem
open PySem PySem.Spec PyProof.Rows
section
variable{prog:Program}{w:World}{A:Around}{E:VSP}{z:Shared}
theorem after{c:Code}{Q:VSP}{R:Result->Shared->Prop}(h:codeAny (model prog w) A c (wants Q E) z)(k:∀v s',Q v s' ->R (.ok (.ret v)) s')(e:∀x s',E x s' ->R (.error x) s'):codeAny (model prog w) A c R z:=by
 refine GbK h ?_;rintro(x|(v|_|_|_)) s' q
 .exact e x s' q
 all_goals first|exact k _ s' q|exact q.elim
end
namespace Fr
end Fr
open PySem PySem.Spec PyProof.Rows
open PySem PySem.Spec PyProof.Rows L2
section
variable{X:Cx}{e a b c:Expr}{f g h:DE}{pos:Pos}{e7:LAO}{Z:St}{H:Hp}{s:Shared}
theorem jZ:∀{ns:List Int} {us:List Value},Vals (ns.map V.int) us->IntsAre us ns
 |[],_,.nil=> .nil
 |n::ns,_,.cons h t=>by
  obtain⟨k,rfl⟩:=h;exact .cons n k (jZ t)
end
namespace Fr
end Fr
open PySem PySem.Spec PyProof.Rows L2
theorem cK{N P:List Str}{sc:Scope}(a:autoParam (sc.kind= .function) Za1._auto_1)(b:autoParam (sc.isCoroutine=false) Za1._auto_1)(c:autoParam (sc.isGenerator=false) Za1._auto_1)(d:N.Nodup:=by decide+kernel)(e:autoParam (N.take P.length=P) Za1._auto_1)(f:∀x∈P,sc.names.lookup x=some .local\/sc.names.lookup x=some .cell:=by decide+kernel)(g:∀y∈sc.names,y.2≠ .free:=by decide+kernel):cp N P sc:=⟨a,b,c,d,e,f,g⟩
open PySem
def ai:D->D->Option RV
 | .tup [],.tup y=>some ⟨.c,.tup y⟩
 |x,y=>o7 x y
noncomputable def IH:Key->Option Int
 | .inl i=>some (hashInt i)
 | .inr _=>none
def tf:List Key->Option (List Int)
 |[]=>some []
 |k::ks=>match IH k,tf ks with
  |some h,some hs=>some (h::hs)
  |_,_=>none
def keyHash(ks:List Key):Option Int:=(tf ks).map λhs=>reduceHash (Builtin.Tuple.tupleHashOf hs)
section
variable{X:Cx}{e a b c:Expr}{f g h:DE}{pos:Pos}
theorem AI{prog:Program}{w:World}{A:Around}{E:VSP}{z:Shared}{t b:Addr}{ws:List Value}{Q:VSP}(ht:IsTup z.heap t #[])(hb:IsTup z.heap b ws.toArray)(h:Q (.ref b) z):wpAny (model prog w) A (binaryOp .Add (.ref t) (.ref b)) Q E z:=by
 obtain⟨⟨cls,dd,data,sl⟩,ho,hc,n,hd⟩:=id ht;obtain⟨⟨Qe,zY,data2,zJ⟩,yd,zt,n2,hd2⟩:=id hb;simp only at hc hd zt hd2;subst hc hd zt hd2;exact concat_meets ⟨_,ho,rfl⟩ ⟨_,yd,rfl⟩ noFill_tuple_add seq_tuple_add Gcf Gcb (GbU _ _)
  (tuple_addW0 t b #[] ws.toArray n n2 dd zY sl zJ (by simp)) ⟨ho,yd,h⟩
def Gf(K:au):R2:=λx y H Q=>∃a b ys,x= .ref a/\y= .ref b/\SqT K H a []/\SqT K H b ys/\Q (.ref b) H
theorem Eh:OpR X (binaryOp .Add) (Gf X.K):=by
 intro e7 s Z H x y v u Q I rx ry h;obtain⟨a,b,ys,rfl,rfl,ha,hb,q⟩:=h;cases rx;cases ry;obtain⟨eg,r1,p1,_⟩:=I.tuple ha;obtain⟨eD,r2,p2,_⟩:=I.tuple hb;have e:eg=[]:=r1.dA.mpr rfl;subst e;exact AI p1 p2 ⟨.ref b,H,I,rfl,q⟩
theorem AJ:OpD X ai (λx y H Q=>Gf X.K x y H Q\/wY X.K x y H Q):=by
 intro F H dx dy x y rv Q ix iy e k;unfold ai at e;split at e
 .cases e;cases ix with
  |tup hx rx=>
   cases iy with
   |tup hy ry=>
    have:=rx.ne.mpr rfl;subst this;exact .inl ⟨_,_,_,rfl,rfl,SqT.of hx,SqT.of hy,k _ H aU (.tup hy ry.1 ry.2)⟩
 .exact .inr (Ds F H dx dy x y rv Q ix iy e k)
theorem Ej(ha:PEd X a f)(hb:PEd X b g):PEd X (.BinOp a .Add b pos) (opE ai f g):=sA (Eh.or Dr) AJ ha hb
end
section
variable{prog:Program}{w:World}{A:Around}{E:VSP}{h:Heap}{g:Array GenState}{d:Drawn}{t:Nat}{os:OsState}
variable{nm q:Str}{C N:Addr}{bs bm zF:List Value}{zr:Bool}{sn:List Str}{sub:List Value}{ab:Bool}{col:Option Bool}{dd:Option Addr}{k0 k1 k2 k3 k5:Option Value}{B Bn newId Qm xH QX:String}{RJ:List Value}
theorem AK{α:Type}{m:Sem α}{Q:α->Shared->Prop}{s s' :Shared}(e:s=s')(h:wpAny (model prog w) A m Q E s'):wpAny (model prog w) A m Q E s:=e▸h
variable{us:List Value}
theorem AL(Fn:ExcBaseFacts Bn newId QX RJ)(QH:zF.contains (.type Bn)=true)(F:ExcBaseFacts B Qm xH zF)(T:OwnTail h zF bm){mN:Str->Option Value}{fI:Addr}{oI:Obj}{Q:VSP}
  (hC:h.get? C=some (excClassObj nm q C N bs bm zr sn sub ab col dd k0 k1 k2 k3 k5 newId))(hn:h.Ns N mN)(hi:mN "__init__"=some (.ref fI))(Rq:h.get? fI=some oI)(Q3:oI.cls= .type "function")
  (hq:∀h' e,Heap.MadeExcOf h h' e (.ref C) us->h.objs.size<e->wpAny (model prog w) (A.under (.builtin "type.__call__" ⟨.ref C::us,[]⟩)) (call (.ref fI) (.ref e::us)) (λr s' =>r= .none/\Q (.ref e) s') E ⟨h',g,d,t,os⟩)(hz:us.length<=sizeLine):
  wpAny (model prog w) A (call (.ref C) us) Q E ⟨h,g,d,t,os⟩:=by
 have f1:=tc_lookup;have f2:=tc_bind (.ref C);have tC:Shared.TypeIs ⟨h,g,d,t,os⟩ (.ref C) "type":=⟨_,hC,rfl⟩
 apply GbZ;apply codeAny_of_tree
 wp_walk using GbH hC
 refine⟨rfl,codeAny_call_builtin_at (Code.quiet_builtin _ (by decide+kernel)) entry_typeCall (wpAny_check_type_call_sub hC ?_)⟩
 wp_walk using GbH hC,wpAny_madeBy_exc hC
 refine codeAny_call_builtin_code (Code.quiet_builtin _ Fn.quiet) (wpAny_check_new_subU Fn QH T hC (codeAny_exc_new_subU Fn QH F T hC ?_ hz));have old:∀b o,h.get? b=some o->((h.push {cls:= .type "tuple",data:= .seq us.toArray}).push {cls:= .ref C,data:= .fields #[.ref h.objs.size,.none,.none,.none,.bool false,.none]}).get? b=some o:=λb o e=>Gaf _ (Gaf _ e);have eE:((h.push {cls:= .type "tuple",data:= .seq us.toArray}).push {cls:= .ref C,data:= .fields #[.ref h.objs.size,.none,.none,.none,.bool false,.none]}).get? (h.objs.size+1)=some {cls:= .ref C,data:= .fields #[.ref h.objs.size,.none,.none,.none,.bool false,.none]}:=by heap_get
 have eT:((h.push {cls:= .type "tuple",data:= .seq us.toArray}).push {cls:= .ref C,data:= .fields #[.ref h.objs.size,.none,.none,.none,.bool false,.none]}).get? h.objs.size=some {cls:= .type "tuple",data:= .seq us.toArray}:=Gaf _ (Gar _ rfl);have mE:Heap.MadeExcOf h ((h.push {cls:= .type "tuple",data:= .seq us.toArray}).push {cls:= .ref C,data:= .fields #[.ref h.objs.size,.none,.none,.none,.bool false,.none]}) (h.objs.size+1) (.ref C) us:=⟨old,Gco (Gbk _),h.objs.size,eE,Gco (Gap _),eT⟩
 have run:=hq _ _ mE (Gbs _);have T1:=T.keeps old;have eC:=old _ _ hC;have nN:Heap.Ns _ N mN:=let⟨o,es,ep,e,r⟩:=hn;⟨o,es,ep,old _ _ e,r⟩
 have eI:=old _ _ Rq;refine AK (s' :=⟨(h.push {cls:= .type "tuple",data:= .seq us.toArray}).push {cls:= .ref C,data:= .fields #[.ref h.objs.size,.none,.none,.none,.bool false,.none]},g,d,t,os⟩) rfl ?_;generalize (h.push {cls:= .type "tuple",data:= .seq us.toArray}).push {cls:= .ref C,data:= .fields #[.ref h.objs.size,.none,.none,.none,.bool false,.none]}=h1 at*;have tI:Shared.TypeIs ⟨h1,g,d,t,os⟩ (.ref fI) "function":=⟨_,eI,Q3⟩
 have inC:(Value.ref C::bm).contains (.ref C)=true:=by simp
 have sC:∀{P:Bool->Shared->Prop} {E' :VSP},P true ⟨h1,g,d,t,os⟩->wpAny (model prog w) (A.under (.builtin "type.__call__" ⟨.ref C::us,[]⟩)) (isSubtype (.ref C) (.ref C)) P E' ⟨h1,g,d,t,os⟩:=λq=>wpAny_isSubtype_exc eC (by rw[inC];exact q);have lI:∀{P:Option Value->Shared->Prop} {E' :VSP},P (some (.ref fI)) ⟨h1,g,d,t,os⟩->wpAny (model prog w) (A.under (.builtin "type.__call__" ⟨.ref C::us,[]⟩)) (typeLookup (.ref C) (Str.ofString "__init__")) P E' ⟨h1,g,d,t,os⟩:=λq=>wpAny_typeLookup_tail eC nN T1 F.mroIs F.init.lookup (by rw[hi];exact q);refine Gae (Gae (Gae (GbH eE (Gao (sC ?_)))))
 wp_walk using GbH eE
 refine lI (wpAny_holding (Gae (Gae (wpAny_typeOf tI (Gbj (by decide) (Gao (Gae (on run ?_))))))));rintro _ s' ⟨rfl,q⟩
 wp_walk
 exact q
theorem AM(F:ExcBaseFacts B Qm xH zF)(T:OwnTail h zF bm){e t0:Addr}{x1 x2 x3 x4 x5:Value}{dx:Option Addr}{sl:Array (Option Value)}{Q:VSP}
  (hC:h.get? C=some (excClassObj nm q C N bs bm zr sn sub ab col dd k0 k1 k2 k3 k5 newId))(he:h.get? e=some {cls:= .ref C,dict:=dx,data:= .fields #[.ref t0,x1,x2,x3,x4,x5],slots:=sl})
  (hq:∀h',h'.get? e=some {cls:= .ref C,dict:=dx,data:= .fields #[.ref h.objs.size,x1,x2,x3,x4,x5],slots:=sl}->h'.get? h.objs.size=some {cls:= .type "tuple",data:= .seq us.toArray}->(∀b o,b≠e->h.get? b=some o->h'.get? b=some o)->Q .none ⟨h',g,d,t,os⟩)(hz:us.length<=sizeLine):
  wpAny (model prog w) A (call (.builtin xH) (.ref e::us)) Q E ⟨h,g,d,t,os⟩:=by
 apply GbZ;apply Gct F.init.plain F.initEntry;apply wpAny_check_init_subU F T hC he rfl;have eE:=Gaf {cls:= .type "tuple",data:= .seq us.toArray} he;have ne:h.objs.size≠e:=GaY (Gaj he)
 wp_walk
 .refine hq _ ((Gbx (Obj.mapFields λx=>x.setIfInBounds 0 (.ref h.objs.size)) eE rfl).trans rfl) ?_ λb o n k=> ?_
  .rw[Gbg _ _ (GaG ne)];exact Gar _ rfl
  .rw[Gbg _ _ (GaG n)];exact Gaf _ k
end
def FX(h:Heap)(a:Addr)(cls:Value)(dx:Option Addr)(vs:Array Value):Prop:=∃sl,h.get? a=some {cls:=cls,dict:=dx,data:= .fields vs,slots:=sl}
section
variable{prog:Program}{w:World}{A:Around}{E:VSP}{z:Shared}
variable{vs:Array Value}{dx:Option Addr}{cls:Value}{a:Addr}{h:Heap}
theorem FX.at{h' :Heap}(x:FX h a cls dx vs)(k:∀o,h.get? a=some o->h'.get? a=some o):FX h' a cls dx vs:=let⟨sl,q⟩:=x;⟨sl,k _ q⟩
theorem FX.lt(x:FX h a cls dx vs):a<h.objs.size:=let⟨_,q⟩:=x;Gaj q
variable{x:Value}
theorem fh{i:Nat}{Q:VSP}(f:FX z.heap a cls dx vs)(e:vs[i]? =some x)(h:Q x z):wpAny (model prog w) A (field (.ref a) i) Q E z:=let⟨_,q⟩:=f;wpAny_field q rfl e h
theorem iY{k:Nat}{Q:Unit->Shared->Prop}(f:FX z.heap a cls dx vs)(h:∀h',FX h' a cls dx (vs.setIfInBounds k x)->Heap.SameBut a z.heap h' ->Q () {z with heap:=h' })(hk:k<vs.size):wpAny (model prog w) A (setField (.ref a) k x) Q E z:=by
 obtain⟨sl,q⟩:=f;exact wpAny_setField q rfl hk (h _ ⟨sl,Gbx _ q rfl⟩ (Heap.SameBut.update ..))
def Trc(h:Heap)(e:Addr)(tb:Value):Prop:=tb= .none\/∃T cls dx ts,tb= .ref T/\T≠e/\FX h T cls dx ts/\ts[3]? =some .none
variable{env:PySem.Env}
theorem pR{base:Heap}{outer:List PySem.Env}{L e:Addr}{a0 tb x2 x3 x4 x5:Value}{Q:Unit->Shared->Prop}(y6:A.frames=some (env::outer))(hl:z.heap.FunFrames base (env::outer))(hf:env.frame=some L)
  (f:FX z.heap e cls dx #[a0,tb,x2,x3,x4,x5])(ht:Trc z.heap e tb)
  (hQ:∀h' T ts,FX h' e cls dx #[a0,.ref T,x2,x3,x4,x5]->T≠e->z.heap.objs.size<=T->FX h' T (.type "traceback") none ts->ts[3]? =some .none->
   (∀b o,b≠e->tb≠ .ref b->z.heap.get? b=some o->∃sl,h'.get? b=some {o with slots:=sl})->(∀b o,b≠e->tb≠ .ref b->b∉(env::outer).filterMap (·.frame)->z.heap.get? b=some o->h'.get? b=some o)->Q () {z with heap:=h' }):
  wpAny (model prog w) A (noteFrame (.ref e) env) (λ_ s' =>wpAny (model prog w) A (setFlight (.ref e) none) Q E s') E z:=by
 have ne:e∉(env::outer).filterMap (·.frame):=λm=>by
  obtain⟨_,o,ho,no⟩:=hl.mem m;obtain⟨sl,q⟩:=f;rw[q] at ho;cases ho
  exact no _ rfl
 have make:∀(y:Shared) (P:Unit->Shared->Prop),y.heap.FunFrames base (env::outer)->FX y.heap e cls dx #[a0,tb,x2,x3,x4,x5]->(∀h' T ts,FX h' e cls dx #[a0,.ref T,x2,x3,x4,x5]->T≠e->y.heap.objs.size<=T->FX h' T (.type "traceback") none ts->3<ts.size->
   (∀b o,b≠e->y.heap.get? b=some o->∃sl,h'.get? b=some {o with slots:=sl})->(∀b o,b≠e->b∉(env::outer).filterMap (·.frame)->y.heap.get? b=some o->h'.get? b=some o)->P () {y with heap:=h' })->∀(hd:Value) (n:Bool) E',
   wpAny (model prog w) A (do let a<-frameOf env;let pl<-entryPlaceOf L n;let b<-EntryCells.newEntry hd a .none (rawInt L) .none pl;setField (.ref e) 1 b) P E' y:=by
  intro y P hl f hP hd n E';refine Gae (wpAny_frameOf_fun y6 hl hf λh1 s1=>Gae (wpAny_entryPlaceOf λpl hR=>Gae (Gbd ?_ (hR.sizeOk5 _ _ _ _ _))));have e1:FX h1 e cls dx #[a0,tb,x2,x3,x4,x5]:=let⟨sl,q⟩:=f;⟨sl,(s1.2.1 e ne).trans q⟩
  have nT:h1.objs.size≠e:=GaY e1.lt;have le:y.heap.objs.size<=h1.objs.size:=GcE s1.1.symm;refine iY (z:={y with heap:=h1.push _}) (e1.at λo=>Gaf _) (λh' fx sb=>hP h' h1.objs.size _ fx nT le ⟨_,(sb.2 _ nT).trans (Gar _ rfl)⟩ ?_ (λb o n q=> ?_) λb o n m q=> ?_) (by simp)
  .simp only[Gag,GaJ,GaK,List.length_nil];lia
  .obtain⟨sl,q⟩:=s1.2.2 b o q;exact⟨sl,(sb.2 b n).trans (Gaf _ q)⟩
  .exact(sb.2 b n).trans (Gaf _ ((s1.2.1 b m).trans q))
 have land:∀(h1:Heap) (T:Addr) (ts:Array Value) {P:Unit->Shared->Prop} {E'},FX h1 e cls dx #[a0,.ref T,x2,x3,x4,x5]->T≠e->FX h1 T (.type "traceback") none ts->3<ts.size->(∀h' yt,FX h' e cls dx #[a0,.ref T,x2,x3,x4,x5]->FX h' T (.type "traceback") none yt ->yt[3]? =some .none->(∀b o,b≠T->h1.get? b=some o->h'.get? b=some o)->P () {z with heap:=h' })->
   wpAny (model prog w) A (setFlight (.ref e) none) P E' {z with heap:=h1}:=by
  intro h1 T ts P E' fe n ft sz hP;refine Gae (fh (z:={z with heap:=h1}) (i:=1) (x:= .ref T) fe rfl (Gbj (by simp) (iY (z:={z with heap:=h1}) ft (λh' yO sb=>hP h' _ (fe.at λo=>(sb.2 e (GaG n)).trans) yO ?_ λb o n q=>(sb.2 b n).trans q) sz)));rw[Gby];simp[sz]
 unfold noteFrame;simp only[hf];rcases ht with rfl| ⟨T0,c0,d0,t0,rfl,n0,f0,q0⟩
 .refine Gae (fh (i:=1) (x:= .none) f rfl (GbF rfl (make z _ hl f (λh1 T ts fe n le ft sz k1 k2=>land h1 T ts fe n ft sz λh' yt Qa yO q k=>hQ h' T yt Qa n le yO q (λb o nb _ e=> ?_) λb o nb _ nf e=> ?_) _ _ _)))
  .obtain⟨sl,e1⟩:=k1 b o nb e;exact⟨sl,k b _ (Gaq (Gah (Gaj e) le)) e1⟩
  .exact k b o (Gaq (Gah (Gaj e) le)) (k2 b o nb nf e)
 .have lt3:3<t0.size:=(Gbh.mp q0).1;refine Gae (fh (i:=1) (x:= .ref T0) f rfl (Gbj (by simp) (Gae (fh (i:=3) f0 q0 (GbF (by simp[rawInt]) (Gae (iY f0 (λh0 RP sb=> ?_) lt3)))))));have old:∀b o,b≠T0->z.heap.get? b=some o->h0.get? b=some o:=λb o n e=>(sb.2 b n).trans e;have hl0:h0.FunFrames base (env::outer):=hl.of_keeps λb o e no=> ⟨o,old b o (λq=>by obtain⟨sl,q1⟩:=f0;rw[q,q1] at e;cases e;exact no _ rfl) e,rfl⟩;refine make {z with heap:=h0} _ hl0 (f.at λo=>old e o (GaG n0)) (λh1 T ts fe n le ft sz k1 k2=>land h1 T ts fe n ft sz λh' yt Qa yO q k=>hQ h' T yt Qa n (sb.1▸le) yO q (λb o nb nt e=> ?_) λb o nb nt nf e=> ?_) _ _ _
  .have nT:b≠T0:=λq=>nt (by rw[q]);obtain⟨sl,e1⟩:=k1 b o nb (old b o nT e);exact⟨sl,k b _ (Gaq (Gah (Gaj (old b o nT e)) le)) e1⟩
  .have nT:b≠T0:=λq=>nt (by rw[q]);exact k b o (Gaq (Gah (Gaj (old b o nT e)) le)) (k2 b o nb nf (old b o nT e))
theorem vB{e:Addr}{Q:Unit->Shared->Prop}(h:wpAny (model prog w) A (noteFrame (.ref e) env) (λ_ s' =>wpAny (model prog w) A (setFlight (.ref e) none) Q E s') E z):wpAny (model prog w) A (leaving env (.ref e)) Q E z:=Gae h
end
open PySem.W (findIn clsIn mroIn looks_findIn looks_clsIn looks_mroIn InstAt set_plain check_slot osa_eq Looks)
section
variable{prog:Program}{w:World}{A:Around}{E:VSP}{z:Shared}{K:PySem.W.Frag}
theorem lk{α:Type}{t:Sem α}{r:α}{Q:α->Shared->Prop}{n:Nat}(x:Looks (model prog w) z.heap t r)(q:Q r {z with toks:=n}):wpAny (model prog w) A t Q E {z with toks:=n}:=x _ _ _ _ (λ_ _ e=>e) q
variable{v:Value}{name:Str}
theorem vC{h:Heap}{a:Addr}(n:h.Ns1 a λy=>if y=name then some v else none):∃o,h.get? a=some o/\o.data.pastItsLine=none:=by
 have one:Within (λy=>if y=name then some v else none) [name]:=λy e=>by
  by_cases c:y=name
  .simp[c]
  .simp[c] at e
 obtain⟨o,es,ep,q,d,le⟩:=n.count one;have le:es.size<=1:=le;exact⟨o,q,d▸pastItsLine_dict (by lia)⟩
theorem pS{e C H:Addr}{cd:ClassData}{vs:Array Value}{Q:Unit->Shared->Prop}(X:K.In z.heap)(hs:findIn K (.ref C) "__setattr__"=some (some (.builtin "object.__setattr__")))(ho:mroIn K C (.type "object")=some true)
  (hc:clsIn K C=some cd)(hm:cd.mro=[.ref C,.ref H,.type "ValueError",.type "Exception",.type "BaseException",.type "object"])(hd:cd.hasDict=true)(hn:findIn K (.ref C) name=some none)(f:FX z.heap e (.ref C) none vs)
  (hQ:∀h' Ph,FX h' e (.ref C) (some z.heap.objs.size) vs->h'.Ns1 z.heap.objs.size (λy=>if y=name then some v else none)->(∀b o,b≠e->z.heap.get? b=some o->h'.get? b=some o)->Q () {z with heap:=h',toks:=Ph }):
  wpAny (model prog w) A (setAttr (.ref e) name v) Q E z:=by
 have SF:=PySem.F.store_ValueError;obtain⟨sl,q⟩:=f;have I:InstAt z.heap e {cls:= .ref C,dict:=none,data:= .fields vs,slots:=sl} C none:=⟨q,rfl,rfl,trivial⟩
 have isO:Looks (model prog w) z.heap (isInstance (.ref e) (.type "object")) true:=I.type.andThen (looks_mroIn X ho);have ne:e≠z.heap.objs.size:=Gaq (Gaj q);apply set_plain X I hs;apply Gct SF.slot.plain SF.entry;apply @check_slot (model prog w) _ _ {z with toks:=z.toks+1} "object.__setattr__" "object" "__setattr__" (.ref e) [.str name z.toks,v] [] _ SF.kind SF.split isO (SF.args (.ref e) (.str name z.toks) v);have mro:Looks (model prog w) z.heap (mroOf (.ref C)) cd.mro:=(looks_clsIn X hc).andThen .now;rw[osa_eq,refuse_eq];refine Gae (Gae (lk I.type (Gae (lk mro ?_))));rw[hm,refuseLoop_ref,refuseLoop_ref,SF.passes];refine Gao (Gae (lk I.type (Gae (lk (looks_findIn X hn) (Gae (Gao ?_))))));have kd:=looks_clsIn (M:=model prog w) X hc;have nm:(Value.ref C==Value.type "module")=false:=rfl;have qd:((z.heap.push {cls:= .type "dict",data:= .dict #[]}).update e λo=>{cls:=o.cls,dict:=some z.heap.objs.size,data:=o.data,slots:=o.slots}).get? z.heap.objs.size=some {cls:= .type "dict",data:= .dict #[]}:=(Gbg _ _ ne).trans (Gar _ rfl);have n1:=Heap.Ns1.of_empty (h:=(z.heap.push {cls:= .type "dict",data:= .dict #[]}).update e λo=>{cls:=o.cls,dict:=some z.heap.objs.size,data:=o.data,slots:=o.slots}) (a:=z.heap.objs.size) ⟨_,#[],0,qd,rfl,λe he=>absurd he (by simp),λ_=>rfl⟩
 wp_walk using lk kd,wpAny_nsSet1 (s:=⟨_,z.gens,z.drawn,z.toks+1,z.os⟩) n1
 intro h' n2 sb;obtain⟨oD,q2,small⟩:=vC n2;refine Gae (wpAny_lookBehind q2 small (Gao (hQ h' _ ⟨sl, ?_⟩ ?_ λb o nb k=> ?_)))
 .exact(sb.2 e ne).trans (Gbx _ (Gaf _ q) rfl)
 .exact n2
 .exact(sb.2 b (Gaq (Gaj k))).trans ((Gbg _ _ (GaG nb)).trans (Gaf _ k))
end
open PySem.W (findIn clsIn mroIn looks_findIn looks_clsIn looks_mroIn InstAt check_slot Looks handedIn handedOut_of)
section
variable{prog:Program}{w:World}{A:Around}{E:VSP}{z:Shared}{K:PySem.W.Frag}
theorem AN{e C dx:Addr}{cd:ClassData}{name:Str}{v:Value}{vs:Array Value}{m:Str->Option Value}{expr:Bool}{Q:VSP}(X:K.In z.heap)(hg:findIn K (.ref C) "__getattribute__"=some (some (.builtin "BaseException.__getattribute__")))(hh:findIn K (.ref C) "__getattr__"=some none)
  (hb:mroIn K C (.type "BaseException")=some true)(hc:clsIn K C=some cd)(hd:cd.hasDict=true)(hn:findIn K (.ref C) name=some none)(f:FX z.heap e (.ref C) (some dx) vs)(n:z.heap.Ns1 dx m)(hm:m name=some v)(hv:handedIn v=true)(hQ:Q v {z with toks:=z.toks+1}):
  wpAny (model prog w) A (getAttr (.ref e) name expr) Q E z:=by
 obtain⟨sl,q⟩:=f;have tE:Looks (model prog w) z.heap (typeOf (.ref e)) (.ref C):=(Looks.ld q).andThen .now;have isB:Looks (model prog w) z.heap (isInstance (.ref e) (.type "BaseException")) true:=tE.andThen (looks_mroIn X hb);have lg:=looks_findIn (M:=model prog w) X hg;have lh:=looks_findIn (M:=model prog w) X hh;have ln:=looks_findIn (M:=model prog w) X hn;have lc:=looks_clsIn (M:=model prog w) X hc;have no:(Value.builtin "BaseException.__getattribute__"==Value.builtin "object.__getattribute__")=false:=by decide+kernel
 refine Gae (wpAny_mkText (wpAny_holding (Gae (lk tE (Gae (lk lg ?_))))));dsimp only;rw[no,GbL];refine GbF rfl (Gae (Gbj rfl (lk lh (Gae (wpAny_attempt (wpAny_holding ?_))))));have G:=PySem.F.attrBase_ValueError.ga;have bd:=G.bind (.ref e);have nh:(expr&&onTheHeap (Value.builtin "BaseException.__getattribute__"))=false:=by cases expr<;>rfl
 refine GbF (by rw[nh];rfl) (Gae (wpAny_of_eq bd (GbZ (Gct G.plain PySem.F.entry_bexc_ga (@check_slot (model prog w) _ _ {z with toks:=z.toks+1} "BaseException.__getattribute__" "BaseException" "__getattribute__" (.ref e) [.str name z.toks] [] _ (by decide+kernel) (by decide+kernel) isB (PySem.F.args_bexc_ga _ _) ?_)))))
 wp_walk using lk tE,lk ln,lk lc,wpAny_nsGet (s:=⟨z.heap,z.gens,z.drawn,z.toks+1,z.os⟩) n.ns
 rw[hm]
 wp_walk
 show wpAny _ _ (handedOut v) _ _ _;rw[handedOut_of hv];exact Gao hQ
end
open PySem.W (findIn clsIn mroIn looks_findIn looks_clsIn looks_mroIn InstAt check_slot Looks handedIn handedOut_of keepIn readsIn findCls specialIn cls_value method_cls)
noncomputable abbrev bmV:List Value:=[.type "ValueError",.type "Exception",.type "BaseException",.type "object"]
structure XCl(K:PySem.W.Frag)(B C f:Addr)(n:Str):Prop where
 obj:∀h,K.In h->∃nm q N bs hd sn sub ab col dd k0 k1 k2 k3 k5 mN oI,h.get? C=some (excClassObj nm q C N bs (.ref B::bmV) hd sn sub ab col dd k0 k1 k2 k3 k5 "ValueError.__new__")/\OwnTail h bmV (.ref B::bmV)/\h.Ns N mN/\mN "__init__"=some (.ref f)/\h.get? f=some oI/\oI.cls= .type "function"
 st:findIn K (.ref C) "__setattr__"=some (some (.builtin "object.__setattr__"))
 ob:mroIn K C (.type "object")=some true
 cd:∃cd,clsIn K C=some cd/\cd.mro= .ref C:: .ref B::bmV/\cd.hasDict=true
 nf:findIn K (.ref C) n=some none
 ga:findIn K (.ref C) "__getattribute__"=some (some (.builtin "BaseException.__getattribute__"))
 gt:findIn K (.ref C) "__getattr__"=some none
 be:mroIn K C (.type "BaseException")=some true
 kp:keepIn K (.ref C)=true
structure XBs(K:PySem.W.Frag)(B:Addr):Prop where
 rd:readsIn K B (.type "type")=true
 fc:findCls K (.ref B) (.type "type") "__init__"=some (.val (.builtin "ValueError.__init__"))
 sp:specialIn K (.ref B) "__getattribute__"=some (some (.builtin "type.__getattribute__"))
def X0(a C:Addr):Heap->Prop:=λh=>∃t0,FX h a (.ref C) none #[.ref t0,.none,.none,.none,.bool false,.none]
def X1(a C dx:Addr):Heap->Prop:=λh=>∃t0,FX h a (.ref C) (some dx) #[.ref t0,.none,.none,.none,.bool false,.none]
variable{o:HO}{d:Addr}{h:Heap}{H:Hp}
theorem _root_.L2.Un.more{fs ex:List Addr}{H1:Hp}{h1:Heap}(u:Un fs ex H H1 h h1)(hd:h.objs.size<=d)(n:H1 d=none):Un fs ex H (upd H1 d o) h h1 where
 keep:=u.keep
 slot:=u.slot
 free:=λb ob q z x=>by rw[ak (Gaq (Gah (Gaj q) hd))];exact u.free b ob q z x
 there:=u.there
 iG:=λb xs q=>by rw[ak (aN (u.iG b xs q) n)];exact u.iG b xs q
 iz:=λb ob w q=>by rw[ak (aN (u.iz b ob w q) n)];exact u.iz b ob w q
 jU:=λb ps q=>let⟨m,e⟩:=u.jU b ps q;⟨m,by rw[ak (aN e n)];exact e⟩
theorem _root_.L2.HOk.more{P:Program}{w:World}(x:HOk P w H h)(n:H d=none)(new:bu P w (upd H d o) h d o):HOk P w (upd H d o) h:=λb u e=>by
 by_cases c:b=d
 .subst c;rw[aE] at e;cases e;exact new
 .rw[ak c] at e;exact(x b u e).fW (λ_ _ _ q=>q) (λy q=>by rw[ak (aN q n)];exact q) λy xs q=>by rw[ak (aN q n)];exact q
theorem one_le:1<=sizeLine:=by decide
section
variable{X:Cx}{B C f a:Addr}{n:Str}{H:Hp}
variable{h:Heap}
theorem Gg(x:X0 a C h):bu X.prog X.w H h a (.ext (X0 a C)):=⟨x,let⟨_,_,q⟩:=x;⟨_,q⟩,λ_ _ ⟨t,y⟩ k=> ⟨t,y.at k⟩⟩
theorem M1{dx:Addr}(x:X1 a C dx h):bu X.prog X.w H h a (.ext (X1 a C dx)):=⟨x,let⟨_,_,q⟩:=x;⟨_,q⟩,λ_ _ ⟨t,y⟩ k=> ⟨t,y.at k⟩⟩
theorem AO{o:HO}(h:H a=some o):upd H a o=H:=by
 funext b
 unfold upd;split
 .rename_i e;rw[e,h]
 .rfl
def M3(K:PySem.W.Frag)(B:Addr)(t:TA):TS:=λD Z H=>t Z H λvs H1=>∃a v C f n,vs=[.ref a,v]/\XCl K B C f n/\H1 a=some (.ext (X0 a C))/\D.nx Z H1
theorem II{b:Str}{e:Expr}{es:List Expr}{t:TA}{p1 p2 p3 p4:Pos}{pl:Sem Bool}(bs:XBs X.K B)(hg:Gl X b)(hm:X.mg b=some (.ref B))(ha:PA X (e::es) t)
  (ht:eval (.Call (.Attribute (.Name b p1) "__init__" p2) (e::es) [] p3) X.env=(do
   let ov<-eval (.Name b p1) X.env
   standAt p2.atName
   let(f,first)<-holding [ov] (getMethod ov "__init__" pl)
   callWith p3 f first (backTo p3 (starEach (e::es) X.env)) (backToKw p3 (keywordEach [] X.env))))(hV:autoParam ((b==("__debug__":Str))=false) Za2._auto_1)
  (xw:autoParam (starEach (e::es) X.env=(false,eval e X.env)::starEach es X.env) Za1._auto_1)(hR:autoParam ((backTo p3 (starEach es X.env)).any (·.1)=false) Za1._auto_1)(hs:autoParam (swapsWith (.Call (.Attribute (.Name b p1) "__init__" p2) (e::es) [] p3) none p4.line X.env=pure false) Za1._auto_1):
  PS X (.Expr (.Call (.Attribute (.Name b p1) "__init__" p2) (e::es) [] p3) p4) (M3 X.K B t):=by
 intro e7 s Z H D I h;refine wpAny_Expr_any (PySem.W.methodCall_KW (dw I hg hm (method_cls I.kIn bs.sp (cls_value I.kIn bs.rd bs.fc (by rfl) ?_)) hV) ht) I.quiet hs;have I1:=I.tok (s.toks+1);refine Gcr (thn (ha p3 e7 _ Z H _ I1 h) λus s1 ⟨vs,H1,I2,r,a,v,C,f,n,ev,cl,ea,q⟩=> ?_) xw hR;subst ev;cases r with
 |cons r0 r=>
  cases r with
  |cons r1 r=>
   cases r;obtain rfl:=(show _=Value.ref a from r0)
   obtain⟨⟨t0,sl,q0⟩,_,_⟩:=(show bu X.prog X.w H1 s1.heap a (.ext (X0 a C)) from I2.hok a _ ea)
   obtain⟨nm,qq,N,bs',hd,sn,sub,ab,col,dd,k0,k1,k2,k3,k5,mN,oI,hC,T,_⟩:=cl.obj _ I2.kIn;obtain⟨hh,g,d,tk,os⟩:=s1;refine AM GbP T hC q0 (λh' e1 e2 k=> ?_) one_le;refine⟨Z,H1, ?_,q⟩;have W:=I2.write (x:=a) (e:=a) (o:= .ext (X0 a C)) (h' :=h') (t' :=tk) (by rw[ea];trivial) (.inl rfl) k ⟨_,e1⟩ (Gg ⟨_,sl,e1⟩);rw[AO ea] at W;exact W
def M4(K:PySem.W.Frag)(B:Addr)(n:Str)(ta tv:TE):TS:=λD Z H=>tv Z H λy H1=>ta Z H1 λx H2=>∃a C f,x= .ref a/\XCl K B C f n/\H2 a=some (.ext (X0 a C))/\∀dx,H2 dx=none->dx≠a->D.nx Z (upd (upd H2 a (.ext (X1 a C dx))) dx (.xd [(n,y)]))
theorem IJ{o value:Expr}{ta tv:TE}{pos pos' :Pos}(ha:PE X o ta)(hv:PE X value tv)(hs:swapsWith value (some (.Attribute o n pos')) pos.line X.env=pure false):PS X (.Assign [.Attribute o n pos'] value pos) (M4 X.K B n ta tv):=by
 intro e7 s Z H D I h;refine plainObj_wpAny_Assign_Attribute (thn (hv e7 s Z H _ I h) λu s1 ⟨y,H1,I1,ry,q⟩=>thn (ha e7 s1 Z H1 _ I1 q) λov s2 ⟨x,H2,I2,rx,a,C,f,ex,cl,ea,q2⟩=> ?_) hs;subst ex;obtain rfl:ov=Value.ref a:=rx;obtain⟨⟨t0,fx⟩,_,_⟩:=(show bu X.prog X.w H2 s2.heap a (.ext (X0 a C)) from I2.hok a _ ea)
 obtain⟨cd,c1,c2,c3⟩:=cl.cd;refine pS I2.kIn cl.st cl.ob c1 c2 c3 cl.nf fx λh' Ph e1 e2 k=> ?_;have ne:s2.heap.objs.size≠a:=GaY fx.lt;have fr:H2 s2.heap.objs.size=none:=I2.hok.fresh (Gap _);refine⟨Z,_, ?_,q2 _ fr ne⟩;have I3:=I2.write (x:=a) (e:=a) (o:= .ext (X1 a C s2.heap.objs.size)) (h' :=h') (t' :=Ph) (by rw[ea];trivial) (.inl rfl) k (let⟨_,q⟩:=e1;⟨_,q⟩) (M1 ⟨_,e1⟩);have n3:upd H2 a (.ext (X1 a C s2.heap.objs.size)) s2.heap.objs.size=none:=by rw[ak ne];exact fr
 have un:Un X.fs [] H2 (upd H2 a (.ext (X1 a C s2.heap.objs.size))) s2.heap h' :=Un.write (e:=a) (by rw[ea];trivial) (.inl rfl) k (let⟨_,q⟩:=e1;⟨_,q⟩);refine I2.un (un.more (Gap _) n3) (I3.hok.more n3 ⟨_,e2,λy' => ?_⟩);by_cases c:y' =n
 .subst c;simp only[Gas,beq_self_eq_true,Gck];exact ry
 .have c' :(y' ==n)=false:=by simpa using c
  simp only[Gas,c',List.lookup_nil,Gam c];exact True.intro
end
open PySem.W (findIn clsIn mroIn looks_findIn looks_clsIn looks_mroIn InstAt check_slot Looks)
def iL(K:PySem.W.Frag)(B C:Addr)(n:Str):Sp:=λvs H Q _=>∃a v,vs=[.ref a,v]/\H a=some (.ext (X0 a C))/\∀dx,H dx=none->dx≠a->Q .non (upd (upd H a (.ext (X1 a C dx))) dx (.xd [(n,v)]))
section
variable{X:Cx}{B C f a:Addr}{n:Str}{H:Hp}{CX:CXT}{k:Nat}{fd:FuncData}{ps:List Str}{E:XK}{e7:LAO}{Z:L2.St}{s:Shared}
theorem Ek{Q:VK}{u:Value}{v:V}(cl:XCl X.K B C f n)(F:bH X.prog X.w X.K X.mg X.base CX k f fd ps (iL X.K B C n))(hr:bP (k+1) X.A)(hb:Binds X.K fd ps [])(hx:Passes CX X E)(I:Inv X e7 Z H s)(ru:RelV v u)
  (h:∀a dx,s.heap.objs.size<=a->H a=none->H dx=none->dx≠a->Q (.ref a) (upd (upd H a (.ext (X1 a C dx))) dx (.xd [(n,v)]))):wpAny (model X.prog X.w) X.A (call (.ref C) [u]) (EP X e7 Z Q) X.xe s:=by
 obtain⟨hh,g,d,tk,os⟩:=s;obtain⟨nm,qq,N,bs,hd,sn,sub,ab,col,dd,k0,k1,k2,k3,k5,mN,oI,hC,T,hn,hi,hf,Q3⟩:=cl.obj _ I.kIn;refine AL GbP (by decide) GbP T hC hn hi hf Q3 (λh' e m lt=> ?_) one_le;obtain⟨t0,q0,_⟩:=m.there;have le:hh.objs.size<=e:=GcD lt;have fr:=I.hok.fresh le;have I2:Inv X e7 Z (upd H e (.ext (X0 e C))) ⟨h',g,d,tk,os⟩:=I.laid (a:=e) (o:= .ext (X0 e C)) (t' :=tk) m.keeps le (Gg ⟨t0,_,q0⟩);have sp:iL X.K B C n [.ref e,v] (upd H e (.ext (X0 e C))) (λv H2=>v= .non/\Q (.ref e) H2) E:=⟨e,v,rfl,aE,λdx z ne=> ⟨rfl,by
  have q:=h e dx le fr (by rw[ak ne] at z;exact z) ne;rw[CO];exact q⟩⟩
 have hl:[Value.ref e,u].length=ps.length:=F.len _ _ _ _ sp;have r2:Vals [V.ref e,v] [Value.ref e,u]:= .cons rfl (.cons ru .nil);refine GbZ (GbK (F.run _ X.stack _ _ ⟨[.ref e,u],[]⟩ [.ref e,u] _ _ E (hr.make C [u] []) (I2.D4.make C [u] []) (by have:=hb ⟨h',g,d,tk,os⟩ [.ref e,u] I2.kIn (by rw[Gba];exact hl);rw[Gba] at this;exact this) r2 sp) λr s' yc => ?_);cases r with
 |error e=>exact hx e7 Z _ _ e s' I2 yc
 |ok fl=>
  cases fl with
  |ret u=>
   obtain⟨v',H',I3,rv,ev,q3⟩:=I2.after yc;subst ev;exact⟨rv,⟨V.ref e,H',I3,rfl,q3⟩⟩
  |next=>exact False.elim yc
  |brk=>exact False.elim yc
  |cont=>exact False.elim yc
theorem r9{env:PySem.Env}{x:Sem Value}{E' :VSP}{Q:Flow->Shared->Prop}{A:Around}(hh:A.handled=none)(h:wpAny (model X.prog X.w) A x (λv s1=>∃a C B f n dx,v= .ref a/\X.K.In s1.heap/\XCl X.K B C f n/\X1 a C dx s1.heap/\E' (.ref a) s1) E' s):
  wpAny (model X.prog X.w) A (raiseStmt env (some x) none) Q E' s:=by
 unfold raiseStmt;refine Gae (GaO h (λv s1 ⟨a,C,B,f,n,dx,ev,kin,cl,⟨t0,sl,q⟩,hE⟩=> ?_) λ_ _ y=>y);subst ev;have tE:Looks (model X.prog X.w) s1.heap (typeOf (.ref a)) (.ref C):=(Looks.ld q).andThen .now;have isB:Looks (model X.prog X.w) s1.heap (isInstance (.ref a) (.type "BaseException")) true:=tE.andThen (looks_mroIn kin cl.be);obtain⟨nm,qq,N,bs,hd,sn,sub,ab,col,dd,k0,k1,k2,k3,k5,mN,oI,hC,_⟩:=cl.obj _ kin;have tC:Looks (model X.prog X.w) s1.heap (typeOf (.ref C)) (.type "type"):=(Looks.ld hC).andThen .now;obtain⟨hp,g,d,tk,os⟩:=s1
 wp_walk using lk (z:=⟨hp,g,d,tk,os⟩) isB,lk (z:=⟨hp,g,d,tk,os⟩) tE,lk (z:=⟨hp,g,d,tk,os⟩) tC,GbH q
 exact wpAny_raiseNew_none hh hE
end
def X2(a C dx T:Addr):Heap->Prop:=λh=>∃t0,FX h a (.ref C) (some dx) #[.ref t0,.ref T,.none,.none,.bool false,.none]
structure IK(P:Program)(w:World)(outer:List PySem.Env)(H:Hp)(s:Shared)(a C dx T:Addr)(n:Str)(v:V)(H' :Hp)(s' :Shared):Prop where
 os:s'.os=s.os
 bare:AllBare s'.gens
 un:Un (frs outer) [] H H' s.heap s'.heap
 hok:HOk P w H' s'.heap
 new:s.heap.objs.size<=a
 Ng:s.heap.objs.size<=T
 ne:T≠a
 obj:H' a=some (.ext (X2 a C dx T))
 dct:H' dx=some (.xd [(n,v)])
 trc:∃ts,FX s'.heap T (.type "traceback") none ts/\ts[3]? =some .none
 trf:H' T=none
noncomputable def CXE(P:Program)(w:World)(K:PySem.W.Frag):CXT:=λouter H s E e s' =>∃a B C f dx T n v H',e= .ref a/\XCl K B C f n/\IK P w outer H s a C dx T n v H' s' /\E (.ref C) (some dx) H'
def Loose:Option HO->Prop
 |some (.ext _)=>True
 |some (.xd _)=>True
 |_=>False
theorem dC{H:Hp}{a b:Addr}{o:HO}(l:Loose (H a))(e:H b=some o)(n:¬Loose (some o)):b≠a:=λq=>by subst q;rw[e] at l;exact n l
section
variable{P:Program}{w:World}{H H1:Hp}{h h1 h2:Heap}{a:Addr}{o:HO}{fs:List Addr}
theorem _root_.L2.HOk.jE(ok:HOk P w H h)(l:Loose (H a))(k:∀b u,b≠a->H b≠none->h.get? b=some u->h1.get? b=some u)(new:bu P w (upd H a o) h1 a o):HOk P w (upd H a o) h1:=λb u q=>by
 by_cases hb:b=a
 .subst hb;rw[aE] at q;cases q;exact new
 .rw[ak hb] at q;refine(ok b u q).fW (λc v hc r=> ?_) (λc r=>by rw[ak (dC l r λz=>z)];exact r) λc xs r=>by rw[ak (dC l r λz=>z)];exact r
  rcases hc with rfl|hc
  .exact k c v hb (by rw[q];simp) r
  .exact k c v (dC l hc λz=>z) (by rw[hc];simp) r
theorem _root_.L2.Un.jE(u:Un fs [] H H1 h h1)(l:Loose (H1 a)):Un fs [] H (upd H1 a o) h h1 where
 keep:=u.keep
 slot:=u.slot
 free:=λb ob q z x=>by
  have e:=u.free b ob q z x;rw[ak λc=>by subst c;rw[e] at l;exact l];exact e
 there:=u.there
 iG:=λb xs q=>by rw[ak (dC l (u.iG b xs q) λz=>z)];exact u.iG b xs q
 iz:=λb ob w q=>by rw[ak (dC l (u.iz b ob w q) λz=>z)];exact u.iz b ob w q
 jU:=λb ps q=>let⟨m,e⟩:=u.jU b ps q;⟨m,by rw[ak (dC l e λz=>z)];exact e⟩
theorem _root_.L2.Un.past{ex:List Addr}(u:Un fs ex H H1 h h1)(k1:∀b ob,b<h.objs.size->h1.get? b=some ob->∃sl,h2.get? b=some {ob with slots:=sl})(k2:∀b ob,b<h.objs.size->b∉fs->h1.get? b=some ob->h2.get? b=some ob):Un fs ex H H1 h h2 where
 keep:=λb ob q z m x=>k2 b ob (Gaj q) m (u.keep b ob q z m x)
 slot:=λb ob q z m x=>by
  obtain⟨sl,e⟩:=u.slot b ob q z m x;obtain⟨zK,e'⟩:=k1 b _ (Gaj q) e;exact⟨zK,e'⟩
 free:=u.free
 there:=λb ob q x=>by
  obtain⟨o',e⟩:=u.there b ob q x;obtain⟨zK,e'⟩:=k1 b _ (Gaj q) e;exact⟨_,e'⟩
 iG:=u.iG
 iz:=u.iz
 jU:=u.jU
end
section
variable{P:Program}{w:World}{K:PySem.W.Frag}{mg:Str->Option Value}{base:Heap}{N:List Str}{qual:Str}{scope:Scope}{f:Addr}{cd:Value}{A:Around}{outer:List PySem.Env}{s s1:Shared}{H H1:Hp}{E:XK}{e7:LAO}{Z:L2.St}
variable{a C dx:Addr}
theorem Gh{T:Addr}{h:Heap}(x:X2 a C dx T h):bu P w H h a (.ext (X2 a C dx T)):=⟨x,let⟨_,_,q⟩:=x;⟨_,q⟩,λ_ _ ⟨t,y⟩ k=> ⟨t,y.at k⟩⟩
theorem AQ{B fI:Addr}{n:Str}{v:V}(I:Inv (cJ (CXE P w K) P w K mg base N qual scope f cd A outer s H E) e7 Z H1 s1)(cl:XCl K B C fI n)(ha:s.heap.objs.size<=a)(ea:H1 a=some (.ext (X1 a C dx)))(ed:H1 dx=some (.xd [(n,v)]))
  (hE:∀T,E (.ref C) (some dx) (upd H1 a (.ext (X2 a C dx T)))):(cJ (CXE P w K) P w K mg base N qual scope f cd A outer s H E).xe (.ref a) s1:=by
 obtain⟨⟨t0,fx⟩,_,_⟩:=(show bu P w H1 s1.heap a (.ext (X1 a C dx)) from I.hok a _ ea)
 have lo:Loose (H1 a):=by rw[ea];trivial
 have nd:dx≠a:=wa ed ea (λz=>by cases z);have fl:s.heap.objs.size<=(cJ (CXE P w K) P w K mg base N qual scope f cd A outer s H E).env.locals:=I.ok.above;have big:∀b,b<s.heap.objs.size->b∉frs outer->b∉(cJ (CXE P w K) P w K mg base N qual scope f cd A outer s H E).stack.filterMap (·.frame):=λb lt m z=>by
  rcases Gan.mp (I.lD b z) with e|z
  .exact absurd (Gah lt fl) (by rw[e];exact GaI _)
  .exact m z
 refine vB (pR (base:=base) I.ok.frames I.stack rfl fx (.inl rfl) λh' T ts fe n1 le ft q3 k1 k2=> ?_);refine⟨a,B,C,fI,dx,T,n,v,upd H1 a (.ext (X2 a C dx T)),rfl,cl,⟨I.os,I.bare,((show Un (frs outer) [] H H1 s.heap s1.heap from I.base).past (h2:=h') (λb ob lt q=>k1 b ob (Gaq (Gah lt ha)) (λz=>by cases z) q) λb ob lt m q=>k2 b ob (Gaq (Gah lt ha)) (λz=>by cases z) (big b lt m) q).jE lo,I.hok.jE lo (λb u nb z q=>k2 b u nb (λz=>by cases z) (λm=>z (I.je b m)) q) (Gh ⟨t0,fe⟩),ha,GaE I.sz le,n1,aE,by rw[ak nd];exact ed,⟨ts,ft,q3⟩, ?_⟩,hE T⟩;rw[ak n1];exact I.hok.fresh le
end
inductive RX where
 |ok (d:D)
 |exc (C:Nat) (n:Str) (d:D)
inductive OX where
 |o (x:Out)
 |x (C:Nat) (n:Str) (d:D)
abbrev DX:=Env->Option OX
@[simp] def rzX(C:Nat)(n:Str)(f:DE):DX:=λenv=>(f env).bind λr=>if r.d.imm then some (.x C n r.d) else none
noncomputable def M5(cs:List Nat)(m:Str):D->Option RV
 | .exc C n d=>if cs.contains C=true/\n=m then some ⟨.c,d⟩ else none
 |_=>none
@[simp] def AR(cs:List Nat)(m:Str)(f:DE):DE:=λenv=>(f env).bind λx=>match x.k with
 | .c=>M5 cs m x.d
 |_=>none
def XW(K:au)(H0:Hp)(E:XK)(C:Nat)(n:Str)(d:D):Prop:=∀v dx H',aW H0 H' ->H0 dx=none->H' dx=some (.xd [(n,v)])->Rep K (λ_=>True) H' d v->E (.ref C) (some dx) H'
def tX(X:Cx)(E:XK)(f:DX):TS:=λD Z H=>∃H0 e8 env o,aA X.K H0 e8 env Z H/\f env=some o/\match o with
 | .o o=>wU X H0 e8 env Z H D o
 | .x C n d=>XW X.K H0 E C n d
theorem _root_.L2.PA.nox{X:Cx}{es:List Expr}{t:TA}(h:PA X.nox es t):PA X es t:=λpos e7 s Z H Q I hw=>
 GaO (h pos e7 s Z H Q (I.cm _) hw) (λ_ _ ⟨v,H',I',r,q⟩=> ⟨v,H',I'.cz,r,q⟩) λ_ _ z=>False.elim z
section
variable{X:Cx}{E:XK}{st:Stmt}{Pj rest:List Stmt}{f:DS}{g g1 g2:DX}{c:Expr}{t:DT}{pos:Pos}
def XL(X:Cx)(E:XK):Prop:=∀(e7:LAO) (Z:L2.St) (H:Hp) (s:Shared) (a B C f dx:Addr) (n:Str) (v:V),Inv X e7 Z H s->XCl X.K B C f n->X.s₀.heap.objs.size<=a->H a=some (.ext (X1 a C dx))->H dx=some (.xd [(n,v)])->(∀T,E (.ref C) (some dx) (upd H a (.ext (X2 a C dx T))))->X.xe (.ref a) s
theorem Rep.told{K:au}{F F' :Addr->Prop}{H H' :Hp}{d:D}{v:V}(r:Rep K F H d v)(hd:d.imm=true)(s:∀b o,H b=some o->isT o->H' b=some o):Rep K F' H' d v:=
 (r.imm (F' :=λ_=>False) hd).gen (λb o e z=>s b o e (z.resolve_left λq=>q)) λ_ q _=>q.elim
theorem AS{B C fI:Addr}{n cn:Str}{k:Nat}{fd:FuncData}{ps:List Str}{e:Expr}{f:DE}{p1 p2 p3:Pos}(cl:XCl X.K B C fI n)(F:bH X.prog X.w X.K X.mg X.base CX0 k fI fd ps (iL X.K B C n))(hr:bP (k+1) X.A)(hb:Binds X.K fd ps [])
  (hL:XL X E)(hg:Gl X cn)(hm:X.mg cn=some (.ref C))(he:PEd X.nox e f)(hV:autoParam ((cn==("__debug__":Str))=false) Za2._auto_1)(hs:autoParam (starEach [e] X.env=(false,eval e X.env)::starEach [] X.env) Za1._auto_1):
  PS X (.Raise (some (.Call (.Name cn p1) [e] [] p2)) none p3) (tX X E (rzX C n f)):=by
 intro e7 s Z H D I h;obtain⟨H0,e8,env,o,EO,eo,k⟩:=h;obtain⟨r,hf,eo⟩:=e6 eo;split at eo
 .rename_i im;cases eo;rw[arm_exec_Raise];refine Gae (wpAny_standAt (r9 hr.hd (Gae (thn ?_ λv s1 q=>Gae (wpAny_standAt (Gao q))))));refine Gbu (dw I hg hm ?_ hV);have ha:PA X [e] (oZ (tE X f) wB):=cN (PE.nox he) gu hs;have h0:oZ (tE X f) wB Z H λvs H1=>∃v,vs=[v]/\aW H H1/\df X.K H0 e8 env Z H H1 r v:=⟨H0,e8,env,r,EO,hf,λv H1 s1 R=> ⟨v,rfl,s1,R⟩⟩
  refine Gcz (h₀:=X.base) I.ok.mod.kin cl.kp (thn (ha p2 e7 s Z H _ I h0) λus s1 ⟨vs,H1,I1,rr,v,ev,sm,R⟩=> ⟨I1.kIn, ?_⟩) hs rfl;subst ev;cases rr with
  |cons ru rr=>
   cases rr;rename_i u _;refine thn (Ek (Q:=λv2 H2=>∃a dx,s1.heap.objs.size<=a/\H1 a=none/\H1 dx=none/\dx≠a/\v2= .ref a/\H2=upd (upd H1 a (.ext (X1 a C dx))) dx (.xd [(n,v)])) cl F hr hb su I1 ru λa dx q1 q2 q3 q4=> ⟨a,dx,q1,q2,q3,q4,rfl,rfl⟩) λw s2 ⟨v2,H2,I2,rv,a,dx,q1,q2,q3,q4,e1,e2⟩=> ?_;subst e1 e2;obtain rfl:w=Value.ref a:=rv;have ea:upd (upd H1 a (.ext (X1 a C dx))) dx (.xd [(n,v)]) a=some (.ext (X1 a C dx)):=by rw[ak (GaG q4)];exact aE
   obtain⟨x1,_,_⟩:=(show bu X.prog X.w _ s2.heap a (.ext (X1 a C dx)) from I2.hok a _ ea)
   refine⟨a,C,B,fI,n,dx,rfl,I2.kIn,cl,x1,hL e7 Z _ s2 a B C fI dx n v I2 cl (GaE I1.sz q1) ea aE λT=> ?_⟩;have hS:aW H1 (upd (upd (upd H1 a (.ext (X1 a C dx))) dx (.xd [(n,v)])) a (.ext (X2 a C dx T))):=λb ob q=>by
    rw[ak (aN q q2),ak (aN q q3),ak (aN q q2)];exact q
   refine k v dx _ ((EO.same.trans sm).trans hS) ((EO.same.trans sm).free q3) (by rw[ak q4];exact aE) (((R.inn.imm (F' :=λ_=>True) im).same hS))
 .cases eo
end
theorem l4.mono{K:au}{H0 H H' :Hp}{e8:Addr->Prop}{env:Env}{Z:St}(k:l4 H0 H env Z)(EO:aA K H0 e8 env Z H)(s:aW H H'):l4 H0 H' env Z:=λj C ns ds ej a dx vs ea h ln=>by
 obtain⟨a3,zC,Pg,q1,_,_,q4,q5,_⟩:=EO.kJ ej;rw[ea] at q1;cases q1
 have:=s _ _ q4;rw[h] at this;injection this with this;injection this with _ _ this
 have:=zip_inj ln q5 this;subst this;exact k j C ns ds ej a zC vs ea q4 q5
section
variable{X:Cx}{H0:Hp}{Pn:Nat->V->Prop}{E:XK}{C:Addr}{n:Str}{e o:Expr}{f g:DE}{pos p:Pos}{i:Nat}{x:Str}
theorem cQ{env:Env}{d:D}(h:dB i env=some d):env[i]? =some (some (.lok d)):=by
 unfold dB at h;split at h
 .rename_i q;cases h;exact q
 .cases h
variable{px fp:Pos}
theorem El{apos eF:Pos}(cl:L2.Cls X.K C)(na:bL X.K C n)(hN:X.N[i]? =some x)(hv:Vis X.env.scope x)(hd:(x==("__debug__":Str))=false)(eV:(x==("__classdict__":Str))=false)(he:PEd X.nox e f)(eU:starEach [e] X.env=[(false,eval e X.env)])(eP:(apos.endLine==eF.line)=true):
  PS X (.Expr (.Call (.Attribute (.Attribute (.Name x px) n fp) "append" apos) [e] [] eF) pos) (tW X H0 Pn E (vn i C n f)):=by
 refine(gr (lO Gbc GbV GbW iA (qH (ck hN hv hd eV) rfl) (PA.nox (bQ he dh eU)) rfl (by rw[eU];rfl) eP eU rfl) rfl).aB ?_;rintro D Z H ⟨env,o,⟨e8,EO,p,k⟩,e,ok⟩;obtain⟨r,hr,e⟩:=e6 e;split at e
 .rename_i q;obtain⟨d',xb,rfl⟩:=Gaa.mp e;obtain⟨d,hl,hp⟩:=e6 xb;have el:=cQ hl;obtain⟨a,dx,fs,g0,us,l,l',ea,ha,hg,yx,_⟩:=b6.kid (Pn:=Pn) EO p k q.2 el hp;refine⟨_,ea,a,C,dx,fs,.ref g0,rfl,ha,cl,na,hg,.inl ⟨rfl,us,.inl (.inl yx)⟩,H0,e8,env,[r],EO,by unfold a9 aD;rw[hr];rfl,λws H2 s2 Rs=> ?_⟩;cases Rs with
  | @cons _ v _ _ R1 tl=>
   cases tl;have E2:=EO.mono s2;have k2:=k.mono EO s2;obtain⟨a',zD,Q9,g',xS,l2,Px,yh,zv,ym,yK,rs,yo,im,fin⟩:=b6.kid (Pn:=Pn) E2 p k2 q.2 el hp;rw[ea] at yh;cases yh
   have:=s2 _ _ ha;rw[zv] at this;cases this
   rw[hg] at ym;cases ym
   unfold l5 at yo;split at yo
   .rename_i sz;cases yo;refine⟨g0,xS,v,rfl,rfl,yK,by rw[<-rs.1,<-eG];exact sz, ?_⟩;exact ok Z _ (fin _ (rs.append (.cons (R1.inn.imm q.1) .nil)))
   .cases yo
 .cases e
theorem AU{p2:Pos}{k:Expr}(cl:L2.Cls X.K C)(na:bL X.K C n)(hu:X.A.units+1<cLine)(hN:X.N[i]? =some x)(hv:Vis X.env.scope x)(hd:(x==("__debug__":Str))=false)(eV:(x==("__classdict__":Str))=false)(he:PEd X.nox e f)(hk:PEd X.nox k (kE (.int (-1))))(hs:swapsWith e (some (.Subscript (.Attribute (.Name x px) n fp) k p2)) pos.line X.env=pure false):
  PS X (.Assign [.Subscript (.Attribute (.Name x px) n fp) k p2] e pos) (tW X H0 Pn E (kK i C n f)):=by
 refine(Iu hu (qH (ck hN hv hd eV) rfl) (PE.nox hk) (PE.nox he) hs).aB ?_;rintro D Z H ⟨env,o,⟨e8,EO,p,kn⟩,e,ok⟩;obtain⟨r,hr,e⟩:=e6 e;split at e
 .rename_i q;obtain⟨d',xb,rfl⟩:=Gaa.mp e;obtain⟨d,hl,hp⟩:=e6 xb;have el:=cQ hl;refine⟨H0,e8,env,r,EO,hr,λv H2 s2 R1=> ?_⟩;have E2:=EO.mono s2;have k2:=kn.mono EO s2;obtain⟨a,dx,fs,g0,us,l,l',ea,ha,hg,yx,_⟩:=b6.kid (Pn:=Pn) E2 p k2 q.2 el hp;refine⟨_,ea,a,C,dx,fs,.ref g0,rfl,ha,cl,na,hg,H0,e8,env,_,E2,rfl,λw H3 s3 R3=> ?_⟩;have E3:=E2.mono s3;have k3:=k2.mono E2 s3;obtain⟨a',zD,Q9,g',xS,l2,Px,yh,zv,ym,yK,rs,yj,im,fin⟩:=b6.kid (Pn:=Pn) E3 p k3 q.2 el hp;rw[ea] at yh;cases yh
  have:=s3 _ _ ha;rw[zv] at this;cases this
  rw[hg] at ym;cases ym
  have iw:=R3.inn;cases iw;unfold fL at yj;split at yj
  .cases yj
  .rename_i nz;cases yj;have lz:=rs.1;refine⟨g0,xS,-1,xS.length -1,rfl,rfl,yK, ?_, ?_⟩
   .unfold ixN;rw[Gam (by lia),Gak (by lia)];exact congrArg some (by lia)
   .have:=fin _ (rs.set (Rep.imp (λ_ z=>z.elim) ((R1.inn.same s3).imm (F' :=λ_=>False) q.1)) (l2.length -1));rw[lz] at this;exact ok Z _ (lz▸this)
 .cases e
end
def oy(C:Nat)(n:Str)(d:D):D->Option D
 | .obj C' ns ds=>if C' =C/\gM ds=true/\ns.length<1000/\ju d=false then(ns.findIdx? λm=>m==n).bind λk=>match ds[k]? with
  |some (.kid _)=>none
  |some _=>some (.obj C ns (ds.set k d))
  |none=>none
  else none
 |_=>none
@[simp] def Em(i C:Nat)(n:Str)(f:DE):DW:=DV i (oy C n) f
theorem pT{n:Str}{y:V}:∀{ns:List Str} {vs:List V} {k:Nat},ns.length=vs.length->(ns.findIdx? λm=>m==n)=some k->fE n y (ns.zip vs)=ns.zip (vs.set k y)
 |[],vs,k,_,h=>by simp at h
 |m::ns,[],k,l,_=>by simp at l
 |m::ns,v::vs,k,l,h=>by
  rw[Gbw] at h;rw[GaW];unfold fE;cases q:m==n with
  |true=>rw[q] at h;cases h;rw[Gak (Gay.mp q)];rfl
  |false=>
   rw[q] at h;obtain⟨j,hj,rfl⟩:=Gaa.mp h;rw[Gam (GaQ.mp q),pT (by simpa using l) hj]
   rfl
theorem b6.fld{K:au}{H0 H:Hp}{Pn:Nat->V->Prop}{C:Nat}{n:Str}{env:Env}{Z:St}{i:Nat}{d d' x:D}{v:V}{e8:Addr->Prop}(EO:aA K H0 e8 env Z H)(pn:Pnd Pn env Z)(kn:l4 H0 H env Z)(fl:ig [i] env=true)(e:env[i]? =some (some (.lok d)))(im:x.imm=true)(rx:Rep K (Cln e8 env Z) H x v)(hp:oy C n x d=some d'):
  ∃a dx fs,Z[i]? =some (some (.ref a))/\H a=some (.ins C dx fs)/\fs.length<1000/\b6 K H0 Pn (env.set i (some (.lok d'))) Z (upd H a (.ins C dx (fE n v fs))):=by
 unfold oy at hp;split at hp
 .rename_i C' ns ds;split at hp
  .rename_i q;obtain⟨rfl,hf,hn,sc⟩:=q;obtain⟨k,hk,hp⟩:=e6 hp;have:∃d0,ds[k]? =some d0/\(∀l,d0≠ .kid l)/\d' = .obj C' ns (ds.set k x):=by
    split at hp
    .cases hp
    .rename_i d0 nk e0;cases hp;exact⟨d0,e0,λl z=>nk l z,rfl⟩
    .cases hp
   obtain⟨d0,hl,nk,rfl⟩:=this;obtain⟨a,dx,vs,ea,z0,zb,ha,ln,kd,rs⟩:=EO.kJ e;refine⟨a,dx,_,ea,ha,by rw[List.length_zip,<-ln];lia, ?_⟩;rw[pT ln hk];have xV :k<ds.length:=(Gac.mp hl).1;have hkv:k<vs.length:=by rw[<-rs.1];exact xV
   have hi:i<env.length:=(Gac.mp e).1;generalize hu:HO.ins C' dx (ns.zip (vs.set k v))=u;have stT:∀b o,H b=some o->isT o->upd H a u b=some o:=λb o eb t=>by
    rw[ak];exact eb
    rintro rfl;rw[ha] at eb;cases eb;exact t
   have xim:∀l,x≠ .kid l:=λl z=>by subst z;simp[D.imm] at im
   have inn:Inn K (Cln e8 env Z) (upd H a u) (.obj C' ns (ds.set k x)) (.ref a):=by
    refine .obj (vs:=vs.set k v) (by rw[aE,hu]) (by simpa using ln) (λy z l2 g2 e1 e2 e3=> ?_) ⟨by simpa using rs.1,λj dj vj e1 e2=> ?_⟩
    .have ny:k≠y:=λw=>by subst w;rw[Gav xV] at e1;cases e1;exact xim _ rfl
     rw[Gab ny] at e1 e2;by_cases w:k=z
     .subst w;rw[Gav hkv] at e3;cases e3
      exfalso;cases rx with
      |tup h l r=>obtain⟨vv,q1,q2⟩:=rs.get e1;rw[e2] at q1;cases q1;cases q2 with|kid f h2 l2 r2=>rw[h] at h2;cases h2
      |scr h=>cases sc
      |kt h=>cases sc
      |exc h r=>cases sc
      |lst f h l r=>simp[D.imm] at im
      |obj f h ln kd l r=>simp[D.imm] at im
      |kid f h l r=>simp[D.imm] at im
     .rw[Gab w] at e3;exact kd y z l2 g2 e1 e2 e3
    .by_cases w:k=j
     .subst w;rw[Gav xV] at e1;cases e1
      rw[Gav hkv] at e2;cases e2
      exact rx.bS stT im
     .rw[Gab w] at e1 e2;have fj:=Gau.mp hf dj (GaC e1);have rj:=rs.2 j dj vj e1 e2;cases rj with
      | @kid g2 us2 l2 f2 h2 ll r2=>
       have n2:g2≠a:=λz=>by subst z;rw[ha] at h2;cases h2
       have:=aI.bS (K:=K) (F:=Cln e8 env Z) (F' :=Cln e8 env Z) (ds:=l2) (vs:=us2) stT ⟨ll,r2⟩ fj;exact .kid f2 (by rw[ak n2];exact h2) this.1 this.2
      |obj f h ln kd l r=>simp[D.imm] at fj
      |lst f h l r=>simp[D.imm] at fj
      |non=>exact .non
      |bl b=>exact .bl b
      |int i=>exact .int i
      |str x=>exact .str x
      |tup h l r=>exact(Rep.tup h l r).bS stT fj
      |scr h=>exact(Rep.scr (F:=Cln e8 env Z) h).bS stT fj
      |kt h=>exact .kt h
      |exc h r=>exact(Rep.exc h r).bS stT fj
   have re:ReE [i] (λ_=> .obj C' ns (ds.set k x)) env (env.set i (some (.lok (.obj C' ns (ds.set k x))))):=⟨by simp,λj hj=>Gab (by rintro rfl;simp at hj),λj hj=>by
    obtain rfl:j=i:=by simpa using hj
    exact⟨_,.inr ⟨e,b9 hi⟩⟩⟩
   have hH:∀b o,H b=some o->upd H a u b=some o\/b=a:=λb o eb=>by
    by_cases z:b=a
    .exact .inr z
    .left;rw[ak z];exact eb
   refine b6.flat EO pn kn (EO.flat (A:=(· =a)) fl re hH (λb hb=> ?_) λj hj a' e' => ?_) re hH (λb hb=> .inl ⟨i,by simp,by rw[hb];exact ea⟩) λj hj C2 Ql xq z a' QK yP e' h2 ln2 k2 l2 g2 e3 e4=> ?_
   .subst hb;exact⟨z0,.inl ⟨i,by simp,ea⟩,λo eo=>by rw[ha] at eo;cases eo;trivial⟩
   .obtain rfl:j=i:=by simpa using hj
    rw[ea] at e';cases e'
    exact⟨⟨u,aE,by rw[<-hu];trivial⟩,rfl,inn⟩
   .obtain rfl:j=i:=by simpa using hj
    cases z;rw[ea] at e';cases e'
    rw[aE,<-hu] at h2;injection h2 with h2;injection h2 with _ _ h2
    have:=zip_inj (by simpa using ln) ln2 h2;subst this;have ny:k≠k2:=λw=>by subst w;rw[Gav xV] at e3;cases e3;exact xim _ rfl
    rw[Gab ny] at e3 e4;exact kn j C' ns ds e a dx vs ea ha ln k2 l2 g2 e3 e4
  .cases hp
 .cases hp
section
variable{X:Cx}{H0:Hp}{Pn:Nat->V->Prop}{E:XK}{C:Addr}{n:Str}{e:Expr}{f:DE}{pos:Pos}{i:Nat}{x:Str}
theorem En{px fp:Pos}(cl:L2.Cls X.K C)(na:bL X.K C n)(hN:X.N[i]? =some x)(hv:Vis X.env.scope x)(hd:(x==("__debug__":Str))=false)(eV:(x==("__classdict__":Str))=false)(he:PEd X.nox e f)(hs:swapsWith e (some (.Attribute (.Name x px) n fp)) pos.line X.env=pure false):
  PS X (.Assign [.Attribute (.Name x px) n fp] e pos) (tW X H0 Pn E (Em i C n f)):=by
 refine(qI (ck hN hv hd eV) (PE.nox he) hs).aB ?_;rintro D Z H ⟨env,o,⟨e8,EO,p,kn⟩,e,ok⟩;obtain⟨r,hr,e⟩:=e6 e;split at e
 .rename_i q;obtain⟨d',xb,rfl⟩:=Gaa.mp e;obtain⟨d,hl,hp⟩:=e6 xb;have el:=cQ hl;refine⟨H0,e8,env,r,EO,hr,λv H2 s2 R1=> ?_⟩;obtain⟨a,dx,fs,ea,ha,hz,fin⟩:=b6.fld (Pn:=Pn) (EO.mono s2) p (kn.mono EO s2) q.2 el q.1 (R1.inn.imm q.1) hp;exact⟨_,ea,a,C,dx,fs,rfl,ha,cl,na,hz,ok Z _ fin⟩
 .cases e
end
def jF(J:List Nat)(k:Nat)(d:D):Slot:=if J.contains k then .lok d else if d.top then .bor d else .sh d
def bt(J:List Nat)(n:Nat)(ds:List D):Env:=(ds.mapIdx λk d=>some (jF J k d))++List.replicate (n -ds.length) none
def argsOk(J:List Nat)(ds:List D):Bool:=(List.range ds.length).all λk=>J.contains k||match ds[k]? with
 |some d=>d.aQ
 |none=>true
def flK:D->Bool
 | .obj _ _ ds=>gM ds
 |d=>d.aQ
def iM(e:Env):List Nat->Option (List D)
 |[]=>some []
 |j::J=>(dB j e).bind λd=>if flK d then(iM e J).map λls=>d::ls else none
def kc(J:List Nat):ie->Option (D×List D)
 | .ret d e=>(iM e J).map λls=>(d,ls)
 | .nx e=>(iM e J).map λls=>(.non,ls)
 |_=>none
def cW(n np:Nat)(J:List Nat)(body:DW):SpX:=λds=>if ds.length=np/\argsOk J ds=true then(body (bt J n ds)).bind (kc J) else none
def rb(K:au)(A:Addr->Prop)(J:List Nat)(vs:List V)(H:Hp)(d:D)(v:V):Prop:=∃a,v= .ref a/\A a/\Wr H a/\d.top=true/\Inn K (λb=>A b/\∀j∈J,vs[j]? ≠some (.ref b)) H d v
def AV(K:au)(A:Addr->Prop)(H:Hp)(d:D)(v:V):Prop:=(d.top=true/\∃a,v= .ref a/\¬A a/\Wr H a/\Inn K (λb=>¬A b) H d v)\/(d.top=false/\Rep K (λb=>¬A b) H d v)
def AX(K:au)(A:Addr->Prop)(J:List Nat)(vs:List V)(H H' :Hp)(ls:List D):Prop:=∀(m j:Nat) l,J[m]? =some j->ls[m]? =some l->∃a,vs[j]? =some (.ref a)/\Wr H' a/\l.top=true/\flK l=true/\Inn K (λb=>(A b\/H b=none)/\∀j∈J,vs[j]? ≠some (.ref b)) H' l (.ref a)
noncomputable def spW(K:au)(np:Nat)(J:List Nat)(sp:SpX):Sp:=λvs H Q _=>∃ds d ls A,ds.length=np/\ds.length=vs.length/\sp ds=some (d,ls)/\(∀b,A b->H b≠none)/\
 (∀(k:Nat) d v,ds[k]? =some d->vs[k]? =some v->(k∈J/\rb K A J vs H d v)\/(k∉J/\AV K A H d v))/\(∀i∈J,∀j∈J,∀v,vs[i]? =some v->vs[j]? =some v->i=j)/\
 ∀v H',(∀b o,H b=some o->¬A b->H' b=some o)->Rep K (λ_=>False) H' d v->ls.length=J.length->AX K A J vs H H' ls->Q v H'
open Classical in
noncomputable def hole(A:Addr->Prop)(H:Hp):Hp:=λb=>if A b then none else H b
variable{b:Addr}{H:Hp}
theorem tm{A:Addr->Prop}(h:A b):hole A H b=none:=by unfold hole;rw[Gak h]
theorem mr{A:Addr->Prop}(h:¬A b):hole A H b=H b:=by unfold hole;rw[Gam h]
theorem AY{A:Addr->Prop}{o:HO}(e:hole A H b=some o):H b=some o:=by
 unfold hole at e;split at e
 .cases e
 .exact e
theorem mw{e:Env}:∀{J:List Nat} {ls:List D},iM e J=some ls->ls.length=J.length/\∀(m j:Nat) l,J[m]? =some j->ls[m]? =some l->e[j]? =some (some (.lok l))/\flK l=true
 |[],ls,h=>by cases h;exact⟨rfl,λm j l q=>by simp at q⟩
 |j::J,ls,h=>by
  unfold iM at h;obtain⟨d,hd,h⟩:=e6 h;split at h
  .rename_i fk;obtain⟨r,hr,rfl⟩:=Gaa.mp h;obtain⟨a1,a2⟩:=mw hr;refine⟨by simp[a1],λm i l q1 q2=> ?_⟩;cases m with
   |zero=>simp at q1 q2;subst q1;subst q2;exact⟨cQ hd,fk⟩
   |succ m=>exact a2 m i l (by simpa using q1) (by simpa using q2)
  .cases h
section
variable{K:au}{A:Addr->Prop}{J:List Nat}{N:List Str}{ds:List D}{vs:List V}{H:Hp}
theorem vD{n k:Nat}{s:Slot}(e:(bt J n ds)[k]? =some (some s)):∃d,ds[k]? =some d/\s=jF J k d:=by
 unfold bt at e;by_cases hk:k<ds.length
 .rw[GaH (by simpa using hk),List.getElem?_mapIdx] at e;obtain⟨d,h1,h2⟩:=Gaa.mp e;exact⟨d,h1,by injection h2 with h2;exact h2.symm⟩
 .rw[GaL (by simpa using hk),Gbp] at e;split at e<;>cases e
theorem pU{k:Nat}{v:V}(h:vs[k]? =some v):(start N vs)[k]? =some (some v):=by
 have hk:=(Gac.mp h).1;unfold L2.start;rw[GaH (by simpa using hk),Gaw,h];rfl
theorem iZ(hl:ds.length<=N.length)(l:ds.length=vs.length)(ha:argsOk J ds=true)(hA:∀b,A b->H b≠none)
  (yX:∀(k:Nat) d v,ds[k]? =some d->vs[k]? =some v->(k∈J/\rb K A J vs H d v)\/(k∉J/\AV K A H d v))(hd:∀i∈J,∀j∈J,∀v,vs[i]? =some v->vs[j]? =some v->i=j):
  aA K (hole A H) (λ_=>False) (bt J N.length ds) (start N vs) H/\l4 (hole A H) H (bt J N.length ds) (start N vs):=by
 have okr:∀{k d},ds[k]? =some d->k∉J->d.aQ=true:=λ{k d} e nj=>by
  have hk:=(Gac.mp e).1;have:=Gau.mp ha k (GbJ.mpr hk);rw[GaT,e] at this;exact this.resolve_left λz=>nj (by simpa using z)
 have at_:∀{k s},(bt J N.length ds)[k]? =some (some s)->∃d v,ds[k]? =some d/\vs[k]? =some v/\(start N vs)[k]? =some (some v)/\s=jF J k d/\((k∈J/\s= .lok d/\rb K A J vs H d v)\/(k∉J/\d.top=true/\s= .bor d/\∃a,v= .ref a/\¬A a/\Wr H a/\Inn K (λb=>¬A b) H d v)\/(k∉J/\d.top=false/\s= .sh d/\Rep K (λb=>¬A b) H d v)):=λ{k s} e=>by
  obtain⟨d,h1,rfl⟩:=vD e;have hk:=(Gac.mp h1).1;have hv:vs[k]? =some vs[k]:=Gal (by rw[<-l];exact hk);refine⟨d,_,h1,hv,pU hv,rfl, ?_⟩;rcases yX k d _ h1 hv with⟨h,z⟩| ⟨h,⟨t,z⟩| ⟨t,z⟩⟩
  .exact .inl ⟨h,by unfold jF;rw[Gak (by simpa using h)],z⟩
  .exact .inr (.inl ⟨h,t,by unfold jF;rw[Gam (by simpa using h),Gak t],z⟩)
  .exact .inr (.inr ⟨h,t,by unfold jF;rw[Gam (by simpa using h),Gam (by rw[t];simp)],z⟩)
 have eY:∀{j b},ba (bt J N.length ds)[j]? ->(start N vs)[j]? =some (some (.ref b))->vs[j]? =some (.ref b)/\((j∈J/\A b)\/¬A b):=λ{j b} t ej=>by
  match e:(bt J N.length ds)[j]?,t with
  |some (some s),t=>
   obtain⟨d,v,_,q2,q3,_,q⟩:=at_ e;rw[q3] at ej;cases ej
   refine⟨q2, ?_⟩;rcases q with⟨h,_,a,z,aa,_⟩| ⟨_,_,_,a,z,aa,_⟩| ⟨_,_,rfl,_⟩
   .cases z;exact .inl ⟨h,aa⟩
   .cases z;exact .inr aa
   .exact t.elim
 have cln:∀b,A b/\(∀j∈J,vs[j]? ≠some (.ref b))->Cln (λ_=>False) (bt J N.length ds) (start N vs) b:=λb h=> ⟨λz=>z,λj t ej=>by
  obtain⟨q1,⟨q2,_⟩|q2⟩:=eY t ej
  .exact h.2 j q2 q1
  .exact q2 h.1⟩
 refine⟨⟨λb o e=>AY e,by simp[DL.bt,L2.start,l],λ_ h=>h.elim,λk d e=> ?_,λk d e=> ?_,λk d e=> ?_,λi j b t1 t2 e1 e2=> ?_⟩,λk C ns ks e a dx us ea h ln m l g e1 e2=> ?_⟩
 .obtain⟨d0,v,q1,q2,q3,_,q⟩:=at_ e;rcases q with⟨_,z,_⟩| ⟨_,_,z,_⟩| ⟨nj,t,z,r⟩
  .cases z
  .cases z
  .cases z;have:=okr q1 nj;have im:d.imm=true:=by cases d<;>first|exact this|cases t
   exact⟨v,q3,r.imm im⟩
 .have e' :∃s,(bt J N.length ds)[k]? =some (some s)/\(s= .own d\/s= .lok d):=e.elim (λe=> ⟨_,e,.inl rfl⟩) λe=> ⟨_,e,.inr rfl⟩;obtain⟨s,e',hs⟩:=e';obtain⟨d0,v,q1,q2,q3,_,q⟩:=at_ e';rcases q with⟨_,z,a,rfl,aa,w,t,i⟩| ⟨_,_,z,_⟩| ⟨_,_,z,_⟩
  .rcases hs with hs|hs
   .rw[z] at hs;cases hs
   .rw[z] at hs;cases hs
    exact⟨a,q3,tm aa,λz=>z,w,t,i.imp cln⟩
  .rcases hs with hs|hs<;>rw[z] at hs<;>cases hs
  .rcases hs with hs|hs<;>rw[z] at hs<;>cases hs
 .obtain⟨d0,v,q1,q2,q3,_,q⟩:=at_ e;rcases q with⟨_,z,_⟩| ⟨nj,t,z,a,rfl,na,w,i⟩| ⟨_,_,z,_⟩
  .cases z
  .cases z;exact⟨a,q3,w,t,i.bS (λ_ _ q _=>q) t (okr q1 nj) rfl⟩
  .cases z
 .obtain⟨q1,z1⟩:=eY t1.top e1;obtain⟨q2,z2⟩:=eY t2 e2
  match e:(bt J N.length ds)[i]?,t1 with
  |some (some s),t1=>
   obtain⟨d,v,p1,p2,_,_,q⟩:=at_ e;rcases q with⟨h,_,a,z,aa,_⟩| ⟨_,_,rfl,_⟩| ⟨_,_,rfl,_⟩
   .rw[q1] at p2;cases p2;cases z
    rcases z2 with⟨hj,_⟩|na
    .exact hd i h j hj _ q1 q2
    .exact absurd aa na
   .exact t1.elim
   .exact t1.elim
 .obtain⟨d0,v,q1,q2,q3,_,q⟩:=at_ e;rcases q with⟨_,z,a',rfl,aa,w,t,i⟩| ⟨_,_,z,_⟩| ⟨_,_,z,_⟩
  .cases z;rw[q3] at ea;cases ea
   cases i with
   |obj h' ln' kd r=>
    rw[h] at h';injection h' with h';injection h' with _ _ h'
    have:=zip_inj ln ln' h';subst this;obtain⟨vv,w1,w2⟩:=r.get e1;rw[e2] at w1;cases w1
    cases w2 with
    |kid f _ _ _=>exact tm f.1
  .cases z
  .cases z
end
theorem mx{K:au}{F F' :Addr->Prop}{H:Hp}{l:D}{a:Addr}(h:Inn K F H l (.ref a))(t:l.top=true)(fk:flK l=true)(hk:∀C ns ds,l= .obj C ns ds->∀dx vs,H a=some (.ins C dx (ns.zip vs))->ns.length=vs.length->∀(k:Nat) q g,ds[k]? =some (.kid q)->vs[k]? =some (.ref g)->F g->H g≠none->F' g):Inn K F' H l (.ref a):=by
 cases h with
 |lst h r=>exact .lst h (r.imm fk)
 | @obj _ dx C ns vs ds h ln kd r=>
  refine .obj h ln kd ⟨r.1,λj dj vj e1 e2=> ?_⟩;have fj:=Gau.mp fk dj (GaC e1);have rj:=r.2 j dj vj e1 e2;cases rj with
  | @kid g us l2 f2 h2 ll r2=>exact .kid (hk C ns ds rfl dx vs h ln j l2 g e1 e2 f2 (by rw[h2];simp)) h2 ll λi d v q1 q2=>(r2 i d v q1 q2).imm (jy fj i d q1)
  |obj f h ln kd l r=>simp[D.imm] at fj
  |lst f h l r=>simp[D.imm] at fj
  |non=>exact .non
  |bl b=>exact .bl b
  |int i=>exact .int i
  |str x=>exact .str x
  |tup h l r=>exact(Rep.tup h l r).imm fj
  |scr h=>exact .scr h
  |kt h=>exact .kt h
  |exc h r=>exact(Rep.exc h r).imm fj
 |_=>simp[D.top] at t
section
variable{P:Program}{w:World}{K:au}{mg:Str->Option Value}{base:Heap}{x qual:Str}{sd:Stmt}{fa:Addr}{fd:FuncData}{N ps:List Str}{k np:Nat}{J:List Nat}{body:DW}
theorem IL(F:Fun K x qual sd fa fd)(S:cp N ps (aw sd))(xJ:ps.length=np)(hJ:∀j∈J,j<np)
  (eX:∀(eJ:Value) (A:Around) (outer:List PySem.Env) (s:Shared) (H:Hp) (E:XK),bP k (A.deeper (envOfC qual (aw sd) s.heap.objs.size fa eJ))->∀(H0:Hp) (Pn:Nat->V->Prop) (E' :XK),
   PSs (cJ CX0 P w K mg base N qual (aw sd) fa eJ A outer s H E) (bI sd) (tW (cJ CX0 P w K mg base N qual (aw sd) fa eJ A outer s H E) H0 Pn E' body)):bH P w K mg base CX0 (k+1) fa fd ps (spW K np J (cW N.length np J body)):=by
 obtain⟨oc,od,kV,doc,pm,an,eJ,ct,yf,rfl,lk,eV⟩:=F.ex;refine si lk eV S (λvs H Q E h=> ?_) λA outer s H vs Q E hr h=> ?_
 .obtain⟨ds,_,_,_,h1,h2,_⟩:=h;rw[<-h2,h1,xJ]
 .obtain⟨ds,d,ls,AA,h1,h2,h3,h4,h5,h6,fin⟩:=h;unfold cW at h3;split at h3
  .rename_i q;obtain⟨o,ho,h3⟩:=e6 h3;have hl:ds.length<=N.length:=by
    have:=congrArg List.length S.pre;rw[Gbi] at this;lia
   obtain⟨EO,kn⟩:=iZ (N:=N) hl h2 q.2 h4 h5 h6;refine⟨_,eX eJ A outer s H E hr (hole AA H) (λk v=>k∈J/\vs[k]? =some v) (λ_ _ _=>False),bt J N.length ds,o,⟨_,EO,λp v z _=>pU z.2,kn⟩,ho, ?_⟩;have back:∀{e:Env} {Z:L2.St} {H' :Hp} {ls:List D},b6 K (hole AA H) (λk v=>k∈J/\vs[k]? =some v) e Z H' ->iM e J=some ls->(∀b o,H b=some o->¬AA b->H' b=some o)/\ls.length=J.length/\AX K AA J vs H H' ls:=λ{e Z H' ls} EW yw=>by
    obtain⟨e8,E1,pn,kn⟩:=EW;obtain⟨z1,z2⟩:=mw yw;refine⟨λb o eb na=>E1.same b o (by rw[mr na];exact eb),z1,λm j l e1 e2=> ?_⟩;obtain⟨z3,z4⟩:=z2 m j l e1 e2;have Qt:j∈J:=GaC e1;obtain⟨a,q1,_,_,q4,q5,q6⟩:=E1.ow j l (.inr z3);have pin:∀i∈J,∀b,vs[i]? =some (V.ref b)->kX e[i]? /\Z[i]? =some (some (.ref b)):=λi hi b hb=>by
     obtain⟨m',hm⟩:=Gbm hi;have xa:m' <ls.length:=by rw[z1];exact(Gac.mp hm).1
     obtain⟨z5,_⟩:=z2 m' i _ hm (Gal xa);have lb:kX e[i]? :=by rw[z5];trivial
     exact⟨lb,pn i _ ⟨hi,hb⟩ lb⟩
    have hjl:j<vs.length:=by rw[<-h2,h1];exact hJ j Qt
    have hv:vs[j]? =some vs[j]:=Gal hjl;have lb:kX e[j]? :=by rw[z3];trivial
    have:=pn j _ ⟨Qt,hv⟩ lb;rw[q1] at this;injection this with this;injection this with this
    rw[<-this] at hv;refine⟨a,hv,q4,q5,z4,mx q6 q5 z4 λC ns ds z dx us ha ln k q g w1 w2 cg _=> ⟨?_,λi hi y=> ?_⟩⟩
    .subst z;have:=kn j C ns ds z3 a dx us q1 ha ln k q g w1 w2;by_cases y:AA g
     .exact .inl y
     .rw[mr y] at this;exact .inr this
    .obtain⟨y1,y2⟩:=pin i hi g y;exact cg.2 i y1.top y2
   cases o with
   |ret d' e=>
    obtain⟨ls',yw,z⟩:=Gaa.mp h3;cases z
    exactλv Z H' EW r=>let⟨b1,b2,b3⟩:=back EW yw;fin v H' b1 r b2 b3
   |nx e=>
    obtain⟨ls',yw,z⟩:=Gaa.mp h3;cases z
    exactλZ H' EW=>let⟨b1,b2,b3⟩:=back EW yw;fin .non H' b1 .non b2 b3
   |bk e=>cases h3
   |ct e=>cases h3
   |ex C n d=>cases h3
  .cases h3
end
inductive AW where
 |lent (j:Nat)
 |name (j:Nat)
 |val (f:DE)
noncomputable def iH(j:Nat)(env:Env):Option D:=match env[j]? with
 |some (some (.own d))=>some d
 |some (some (.lok d))=>some d
 |some (some (.bor d))=>some d
 |_=>none
def dG(j:Nat)(env:Env):Option D:=match env[j]? with
 |some (some (.own d))=>if d.aQ then some d else none
 |some (some (.lok d))=>if flK d then some d else none
 |_=>none
def oz(env:Env):AW->Option D
 | .lent j=>dG j env
 | .name j=>(iH j env).bind λd=>if d.aQ then some d else none
 | .val f=>(f env).bind λr=>if r.d.imm then some r.d else none
def ij(env:Env):List AW->Option (List D)
 |[]=>some []
 |a::as=>(oz env a).bind λd=>(ij env as).map λds=>d::ds
noncomputable def cw(k:Nat):List AW->List Nat
 |[]=>[]
 | .lent _::as=>k::cw (k+1) as
 |_::as=>cw (k+1) as
noncomputable def bf:List AW->List Nat
 |[]=>[]
 | .lent j::as=>j::bf as
 |_::as=>bf as
noncomputable def gf:List AW->List Nat
 |[]=>[]
 | .name j::as=>j::gf as
 |_::as=>gf as
def j3:List Nat->List D->Env->Env
 |j::js,l::ls,env=>j3 js ls (env.set j ((env[j]?.getD none).map (Slot.put l)))
 |_,_,env=>env
def bx(sp:SpX)(as:List AW)(env:Env):Option (D×Env):=if ig (bf as) env=true/\(bf as).Nodup/\∀j∈gf as,j∉bf as then
  (ij env as).bind λds=>(sp ds).bind λr=>if r.1.imm then some (r.1,j3 (bf as) r.2 env) else none
 else none
abbrev DXW:=Env->Option (D×Env)
def tXw(X:Cx)(H0:Hp)(Pn:Nat->V->Prop)(m:DXW):TE:=λZ H Q=>∃env d eh,b6 X.K H0 Pn env Z H/\m env=some (d,eh)/\∀v H',b6 X.K H0 Pn eh Z H' ->d.imm=true->Rep X.K (λ_=>False) H' d v->Q v H'
def M6(K:au)(Z:St)(H:Hp)(d:D)(v:V):AW->Prop
 | .lent j=>Z[j]? =some (some v)
 | .name j=>Z[j]? =some (some v)
 | .val _=>d.imm=true/\Rep K (λ_=>False) H d v
def AZ(K:au)(Z:St)(H:Hp):List AW->List D->List V->Prop
 |[],[],[]=>True
 |a::as,d::ds,v::vs=>M6 K Z H d v a/\AZ K Z H as ds vs
 |_,_,_=>False
def tAw(X:Cx)(as:List AW):TA:=λZ H Q=>∃H0 e8 env ds,aA X.K H0 e8 env Z H/\ij env as=some ds/\∀vs H',aW H H' ->AZ X.K Z H' as ds vs->Q vs H'
section
variable{X:Cx}{e:Expr}{es:List Expr}{as:List AW}{f:DE}{j:Nat}{x:Str}{p:Pos}
theorem IM:PA X [] (tAw X []):=gu.aB λZ H Q ⟨_,_,_,ds,_,h,k⟩=>by cases h;exact k [] H aU trivial
theorem IP(he:PEd X.nox e f)(hr:PA X es (tAw X as))(hs:starEach (e::es) X.env=(false,eval e X.env)::starEach es X.env):PA X (e::es) (tAw X (.val f::as)):=by
 refine(cN (PE.nox he) hr hs).aB ?_;rintro Z H Q ⟨H0,e8,env,ds,EO,h,k⟩;obtain⟨d,hd,h⟩:=e6 h;obtain⟨r,hr,rfl⟩:=Gaa.mp h;obtain⟨u,hu,hd⟩:=e6 hd;split at hd
 .rename_i im;cases hd;refine⟨H0,e8,env,u,EO,hu,λv H1 s1 R=> ⟨H0,e8,env,r,EO.mono s1,hr,λvs H2 s2 A=>k _ H2 (s1.trans s2) ⟨⟨im,(R.inn.same s2).imm im⟩,A⟩⟩⟩
 .cases hd
theorem B0{a:AW}(ha:a= .lent j\/a= .name j)(hN:X.N[j]? =some x)(hv:Vis X.env.scope x)(hd:(x==("__debug__":Str))=false)(eV:(x==("__classdict__":Str))=false)(hr:PA X es (tAw X as))(hs:starEach (.Name x p::es) X.env=(false,eval (.Name x p) X.env)::starEach es X.env):PA X (.Name x p::es) (tAw X (a::as)):=by
 refine(cN (ck hN hv hd eV) hr hs).aB ?_;rintro Z H Q ⟨H0,e8,env,ds,EO,h,k⟩;obtain⟨d,hd,h⟩:=e6 h;obtain⟨r,hr,rfl⟩:=Gaa.mp h;have:∃v,Z[j]? =some (some v):=by
  have top:ba env[j]? :=by
   rcases ha with rfl|rfl
   .have hd:dG j env=some d:=hd;unfold dG at hd;split at hd
    .rename_i q;rw[q];trivial
    .rename_i q;rw[q];trivial
    .cases hd
   .obtain⟨d',xb,_⟩:=e6 hd;unfold iH at xb;split at xb
    .rename_i q;rw[q];trivial
    .rename_i q;rw[q];trivial
    .rename_i q;rw[q];trivial
    .cases xb
  obtain⟨_,a,_,h,_⟩:=EO.iH top;exact⟨_,h⟩
 obtain⟨v,hv⟩:=this;refine⟨v,hv,H0,e8,env,r,EO,hr,λvs H2 s2 A=>k _ H2 s2 ⟨?_,A⟩⟩;rcases ha with rfl|rfl<;>exact hv
end
theorem tq{K:au}{Z:St}{H:Hp}{env:Env}:∀{as:List AW} {ds:List D} {vs:List V},AZ K Z H as ds vs->ij env as=some ds->as.length=ds.length/\ds.length=vs.length/\∀(k:Nat) d v,ds[k]? =some d->vs[k]? =some v->∃a,as[k]? =some a/\M6 K Z H d v a/\oz env a=some d
 |[],[],[],_,_=> ⟨rfl,rfl,λk d v e=>by simp at e⟩
 |a::as,d::ds,v::vs,h,q=>by
  obtain⟨d',hd,q⟩:=e6 q;obtain⟨r,hr,z⟩:=Gaa.mp q;cases z;obtain⟨a1,a2,a3⟩:=tq h.2 hr;refine⟨by simp[a1],by simp[a2],λk d v e1 e2=> ?_⟩;cases k with
  |zero=>simp at e1 e2;subst e1;subst e2;exact⟨a,rfl,h.1,hd⟩
  |succ k=>exact a3 k d v (by simpa using e1) (by simpa using e2)
theorem iC:∀{as:List AW} {o k:Nat},k∈cw o as↔∃i j,k=o+i/\as[i]? =some (.lent j)
 |[],o,k=>by simp[cw]
 |a::as,o,k=>by
  have ih:= @iC as (o+1) k;have st:(∃i j,k=o+1+i/\as[i]? =some (.lent j))↔∃i j,k=o+(i+1)/\(a::as)[i+1]? =some (.lent j):=by
   constructor
   .rintro⟨i,j,h1,h2⟩;exact⟨i,j,by lia,by simpa using h2⟩
   .rintro⟨i,j,h1,h2⟩;exact⟨i,j,by lia,by simpa using h2⟩
  cases a with
  |lent j0=>
   unfold cw;rw[Gan,ih,st];constructor
   .rintro(rfl| ⟨i,j,h1,h2⟩)
    .exact⟨0,j0,rfl,rfl⟩
    .exact⟨i+1,j,h1,h2⟩
   .rintro⟨i,j,h1,h2⟩;cases i with
    |zero=>exact .inl h1
    |succ i=>exact .inr ⟨i,j,h1,h2⟩
  |name j0=>
   unfold cw;rw[ih,st];constructor
   .rintro⟨i,j,h1,h2⟩;exact⟨i+1,j,h1,h2⟩
   .rintro⟨i,j,h1,h2⟩;cases i with
    |zero=>simp at h2
    |succ i=>exact⟨i,j,h1,h2⟩
  |val f=>
   unfold cw;rw[ih,st];constructor
   .rintro⟨i,j,h1,h2⟩;exact⟨i+1,j,h1,h2⟩
   .rintro⟨i,j,h1,h2⟩;cases i with
    |zero=>simp at h2
    |succ i=>exact⟨i,j,h1,h2⟩
theorem ik:∀{as:List AW} {o m k:Nat},(cw o as)[m]? =some k->∃i j,k=o+i/\as[i]? =some (.lent j)/\(bf as)[m]? =some j
 |[],o,m,k,h=>by simp[cw] at h
 |a::as,o,m,k,h=>by
  cases a with
  |lent j0=>
   unfold cw at h;cases m with
   |zero=>simp at h;exact⟨0,j0,by lia,rfl,rfl⟩
   |succ m=>
    obtain⟨i,j,h1,h2,h3⟩:=ik (as:=as) (o:=o+1) (m:=m) (by simpa using h);exact⟨i+1,j,by lia,by simpa using h2,by unfold bf;simpa using h3⟩
  |name j0=>
   obtain⟨i,j,h1,h2,h3⟩:=ik (as:=as) (o:=o+1) (m:=m) (by simpa[cw] using h);exact⟨i+1,j,by lia,by simpa using h2,by unfold bf;exact h3⟩
  |val f=>
   obtain⟨i,j,h1,h2,h3⟩:=ik (as:=as) (o:=o+1) (m:=m) (by simpa[cw] using h);exact⟨i+1,j,by lia,by simpa using h2,by unfold bf;exact h3⟩
theorem gh:∀{as:List AW} {o:Nat},(cw o as).length=(bf as).length
 |[],o=>rfl
 | .lent j::as,o=>by unfold cw bf;rw[GaK,GaK,gh]
 | .name j::as,o=>by unfold cw bf;exact gh
 | .val f::as,o=>by unfold cw bf;exact gh
theorem gj:∀{as:List AW} {i j:Nat},as[i]? =some (.lent j)->j∈bf as
 |a::as,0,j,h=>by simp at h;subst h;unfold bf;exact GaA
 |a::as,i+1,j,h=>by
  have:=gj (as:=as) (i:=i) (by simpa using h);cases a<;>unfold bf<;>first|exact this|exact Gat _ this
theorem nD:∀{as:List AW} {i j:Nat},as[i]? =some (.name j)->j∈gf as
 |a::as,0,j,h=>by simp at h;subst h;unfold gf;exact GaA
 |a::as,i+1,j,h=>by
  have:=nD (as:=as) (i:=i) (by simpa using h);cases a<;>unfold gf<;>first|exact this|exact Gat _ this
theorem tw:∀{js:List Nat} {ls:List D} {env:Env},js.Nodup->ls.length=js.length->(∀j∈js,jz env[j]?)->ReE js (λj=>((js.zip ls).lookup j).getD .non) env (j3 js ls env)
 |[],ls,env,_,_,_=>by
  have:j3 [] ls env=env:=by unfold j3;rfl
  rw[this];exact⟨rfl,λ_ _=>rfl,λj h=>by simp at h⟩
 |j::js,[],env,_,l,_=>by simp at l
 |j::js,d::ls,env,nd,l,h=>by
  have nd' :=GaM.mp nd;have hj:=h j GaA;have:∃s,env[j]? =some (some s)/\∃d0,s= .own d0\/s= .lok d0:=by
   match e:env[j]?,hj with
   |some (some (.own d0)),_=>exact⟨_,rfl,d0,.inl rfl⟩
   |some (some (.lok d0)),_=>exact⟨_,rfl,d0,.inr rfl⟩
  obtain⟨s,es,d0,hs⟩:=this;have xa:j<env.length:=(Gac.mp es).1;have e1:j3 (j::js) (d::ls) env=j3 js ls (env.set j (some (s.put d))):=by
   conv=>lhs;unfold j3
   rw[es];rfl
  have ne:∀i∈js,j≠i:=λi hi z=>by subst z;exact nd'.1 hi
  have ih:=tw (js:=js) (ls:=ls) (env:=env.set j (some (s.put d))) nd'.2 (by simpa using l) λi hi=>by
   rw[Gab (ne i hi)];exact h i (Gat _ hi)
  rw[e1];refine⟨by rw[ih.len];simp,λi hi=> ?_,λi hi=> ?_⟩
  .rw[Gan,not_or] at hi;rw[ih.old i hi.2,Gab (GaG hi.1)]
  .by_cases q:i=j
   .subst q;rw[ih.old i nd'.1,b9 xa,es];refine⟨d0, ?_⟩;have:(((i::js).zip (d::ls)).lookup i).getD .non=d:=by simp[GaW,Gas]
    rw[this];rcases hs with rfl|rfl
    .exact .inl ⟨rfl,rfl⟩
    .exact .inr ⟨rfl,rfl⟩
   .have xP :i∈js:=(Gan.mp hi).resolve_left q;have:(((j::js).zip (d::ls)).lookup i).getD .non=((js.zip ls).lookup i).getD .non:=by
     rw[GaW,Gas,GaQ.mpr q]
    rw[this];obtain⟨d1,z⟩:=ih.new i xP;rw[Gab (GaG q)] at z;exact⟨d1,z⟩
theorem tx:∀{js:List Nat} {ls:List D} {m j:Nat} {l:D},js.Nodup->js[m]? =some j->ls[m]? =some l->((js.zip ls).lookup j).getD .non=l
 |[],ls,m,j,l,_,h,_=>by simp at h
 |i::js,[],m,j,l,_,_,h=>by simp at h
 |i::js,d::ls,0,j,l,_,h1,h2=>by simp at h1 h2;subst h1;subst h2;simp[GaW,Gas]
 |i::js,d::ls,m+1,j,l,nd,h1,h2=>by
  have nd' :=GaM.mp nd;have zx :js[m]? =some j:=by simpa using h1
  have ne:j≠i:=λz=>by subst z;exact nd'.1 (GaC zx)
  rw[GaW,Gas,GaQ.mpr ne];exact tx nd'.2 zx (by simpa using h2)
def nE(S:List Nat)(env:Env)(Z:St)(H:Hp)(b:Addr):Prop:=∃j∈S,∃(C:Nat) (ns:List Str) (ds:List D) (a dx:Addr) (us:List V) (k:Nat) (l:List D),env[j]? =some (some (.lok (.obj C ns ds)))/\Z[j]? =some (some (.ref a))/\H a=some (.ins C dx (ns.zip us))/\ns.length=us.length/\ds[k]? =some (D.kid l)/\us[k]? =some (.ref b)
section
variable{K:au}{H0 H:Hp}{e8:Addr->Prop}{env:Env}{Z:St}{S:List Nat}{b:Addr}
theorem nE.cln(E:aA K H0 e8 env Z H)(h:nE S env Z H b):Cln e8 env Z b/\∃us,H b=some (.lst us):=by
 obtain⟨j,_,C,ns,ds,a,dx,us,k,l,e,ea,ha,ln,h1,h2⟩:=h;obtain⟨a3,zC,Pg,q1,_,_,q4,q5,_,r⟩:=E.kJ e;rw[ea] at q1;cases q1
 rw[ha] at q4;injection q4 with q4;injection q4 with _ _ q4
 have:=zip_inj ln q5 q4;subst this;obtain⟨v,w1,w2⟩:=r.get h1;rw[h2] at w1;cases w1
 cases w2 with
 |kid f hb _ _=>exact⟨f,_,hb⟩
theorem nE.none(kn:l4 H0 H env Z)(h:nE S env Z H b):H0 b=none:=by
 obtain⟨j,_,C,ns,ds,a,dx,us,k,l,e,ea,ha,ln,h1,h2⟩:=h;exact kn j C ns ds e a dx us ea ha ln k l b h1 h2
variable{d:D}{j:Nat}
theorem vF(h:dG j env=some d):(env[j]? =some (some (.own d))/\d.aQ=true)\/(env[j]? =some (some (.lok d))/\flK d=true):=by
 unfold dG at h;split at h
 .rename_i q;split at h
  .rename_i z;cases h;exact .inl ⟨q,z⟩
  .cases h
 .rename_i q;split at h
  .rename_i z;cases h;exact .inr ⟨q,z⟩
  .cases h
 .cases h
theorem vG(h:d.aQ=true):flK d=true:=by
 cases d<;>first|exact h|simp[D.aQ,D.imm] at h
theorem B1(h:iH j env=some d):ba env[j]? /\∀(E:aA K H0 e8 env Z H),∃a,Z[j]? =some (some (.ref a))/\Wr H a/\d.top=true/\Inn K (Cln e8 env Z) H d (.ref a):=by
 unfold iH at h;split at h
 .rename_i q;cases h
  exact⟨by rw[q];trivial,λE=>let⟨a,h1,_,_,h4,h5,h6⟩:=E.ow j d (.inl q);⟨a,h1,h4,h5,h6⟩⟩
 .rename_i q;cases h
  exact⟨by rw[q];trivial,λE=>let⟨a,h1,_,_,h4,h5,h6⟩:=E.ow j d (.inr q);⟨a,h1,h4,h5,h6⟩⟩
 .rename_i q;cases h
  exact⟨by rw[q];trivial,λE=>E.bo j d q⟩
 .cases h
end
theorem pV:∀{as:List AW} {i j n:Nat},(bf as).Nodup->as[i]? =some (.lent n)->as[j]? =some (.lent n)->i=j
 |[],i,j,n,_,h,_=>by simp at h
 |a::as,0,0,n,_,_,_=>rfl
 |a::as,0,j+1,n,nd,h1,h2=>by
  simp at h1;subst h1
  unfold bf at nd;exact absurd (gj (as:=as) (i:=j) (by simpa using h2)) (GaM.mp nd).1
 |a::as,i+1,0,n,nd,h1,h2=>by
  simp at h2;subst h2
  unfold bf at nd;exact absurd (gj (as:=as) (i:=i) (by simpa using h1)) (GaM.mp nd).1
 |a::as,i+1,j+1,n,nd,h1,h2=>by
  have nd' :(bf as).Nodup:=by
   cases a<;>unfold bf at nd<;>first|exact nd|exact(GaM.mp nd).2
  rw[pV nd' (i:=i) (j:=j) (by simpa using h1) (by simpa using h2)]
section
variable{X:Cx}{H0:Hp}{Pn:Nat->V->Prop}{k np:Nat}{fa:Addr}{fd:FuncData}{ps:List Str}{sp:SpX}{x:Str}{p pos:Pos}{e:Expr}{es:List Expr}{as:List AW}
theorem Eo(F:bH X.prog X.w X.K X.mg X.base CX0 k fa fd ps (spW X.K np (cw 0 as) sp))(hr:bP k X.A)(hg:Gl X x)(hm:X.mg x=some (.ref fa))(hk:PySem.W.keepIn X.K (.ref fa)=true)(hb:Binds X.K fd ps [])(ha:PA X (e::es) (tAw X as))(hl:as.length=np)(hV:(x==("__debug__":Str))=false)(he:starEach (e::es) X.env=(false,eval e X.env)::starEach es X.env)(hR:(backTo pos (starEach es X.env)).any (·.1)=false):
  PE X (.Call (.Name x p) (e::es) [] pos) (tXw X H0 Pn (bx sp as)):=by
 refine(sg (dvs:=[]) F hr hg hm hk hb .nil su ha hV he hR).aB ?_;rintro Z H Q ⟨env,d,eh,⟨e8,EO,pn,kn⟩,h,fin⟩;unfold bx at h;split at h
 .rename_i q;obtain⟨fl,nd,nn⟩:=q;obtain⟨ds,xv,h⟩:=e6 h;obtain⟨⟨d',ls⟩,xG,h⟩:=e6 h;split at h
  .rename_i im;cases h;refine⟨H0,e8,env,ds,EO,xv,λvs H1 s1 R=> ?_⟩;show spW X.K np (cw 0 as) sp (vs++[]) H1 Q E0;rw[Gba];have E1:=EO.mono s1;have k1:=kn.mono EO s1;obtain⟨l1,l2,at_⟩:=tq R xv
   let A:Addr->Prop:=λb=>(∃j∈bf as,Z[j]? =some (some (V.ref b)))\/nE (bf as) env Z H1 b
   have lentV:∀{k j:Nat} {v:V},as[k]? =some (.lent j)->vs[k]? =some v->Z[j]? =some (some v)/\∃d,ds[k]? =some d/\((env[j]? =some (some (.own d))/\d.aQ=true)\/(env[j]? =some (some (.lok d))/\flK d=true)):=λ{k j v} ea ev=>by
    have hk:k<ds.length:=by rw[<-l1];exact(Gac.mp ea).1
    obtain⟨a,q1,q2,q3⟩:=at_ k ds[k] v (Gal hk) ev;rw[ea] at q1;cases q1
    exact⟨q2,ds[k],Gal hk,vF q3⟩
   have inJ:∀{k:Nat},k∈cw 0 as->∃j,as[k]? =some (.lent j):=λ{k} hk=>by
    obtain⟨i,j,q1,q2⟩:=iC.mp hk;exact⟨j,by rw[q1,GaP];exact q2⟩
   have olS:∀{k j:Nat} {v:V},as[k]? =some (.lent j)->vs[k]? =some v->jz env[j]? :=λea ev=>by
    obtain⟨_,d,_,⟨q,_⟩| ⟨q,_⟩⟩:=lentV ea ev<;>rw[q]<;>trivial
   have vsAt:∀{k j:Nat},as[k]? =some (.lent j)->∃v,vs[k]? =some v:=λ{k j} ea=> ⟨_,Gal (by rw[<-l2,<-l1];exact(Gac.mp ea).1)⟩;have slotOf:∀{j:Nat},j∈bf as->∃(k:Nat),as[k]? =some (.lent j):=λ{j} hj=>by
    obtain⟨m,hm⟩:=Gbm hj;have xa:m<(cw 0 as).length:=by rw[gh];exact(Gac.mp hm).1
    obtain⟨i,j',q1,q2,q3⟩:=ik (as:=as) (o:=0) (m:=m) (Gal xa);rw[hm] at q3;cases q3
    exact⟨i,q2⟩
   have olJ:∀j∈bf as,jz env[j]? :=λj hj=>by
    obtain⟨k,hk⟩:=slotOf hj;obtain⟨v,hv⟩:=vsAt hk;exact olS hk hv
   have kidS:∀{k j:Nat} {d:D} {a:Addr},as[k]? =some (.lent j)->(env[j]? =some (some (.own d))/\d.aQ=true)\/(env[j]? =some (some (.lok d))/\flK d=true)->Z[j]? =some (some (.ref a))->∀C ns ks,d= .obj C ns ks->∀dx us,H1 a=some (.ins C dx (ns.zip us))->ns.length=us.length->∀(m:Nat) q g,ks[m]? =some (.kid q)->us[m]? =some (.ref g)->nE (bf as) env Z H1 g:=λ{k j d a} ek hd ea C ns ks z dx us h ln m q g w1 w2=>by
    subst z;rcases hd with⟨_,y⟩| ⟨y,_⟩
    .simp[D.aQ,D.imm] at y
    .exact⟨j,gj ek,C,ns,ks,a,dx,us,m,q,y,ea,h,ln,w1,w2⟩
   have ndA:∀{b:Addr},A b->H0 b=none:=λ{b} h=>by
    rcases h with⟨j,hj,ej⟩|h
    .obtain⟨k,hk⟩:=slotOf hj;obtain⟨v,hv⟩:=vsAt hk;obtain⟨_,d,_,hd⟩:=lentV hk hv;obtain⟨a,q1,q2,_⟩:=E1.ow j d (hd.imp (λz=>z.1) λz=>z.1);rw[ej] at q1;cases q1;exact q2
    .exact h.none k1
   have notTop:∀{j:Nat} {b:Addr},ba env[j]? ->j∉bf as->Z[j]? =some (some (.ref b))->¬A b:=λ{j b} t nj ej h=>by
    rcases h with⟨i,hi,ei⟩|h
    .have:=E1.dj i j b (olJ i hi) t ei ej;subst this;exact nj hi
    .exact(h.cln E1).1.2 j t ej
   refine⟨ds,d',ls,A,by rw[<-l1];exact hl,l2,xG,λb h=> ?_,λm dm vm e1 e2=> ?_,λi hi j hj v e1 e2=> ?_,λv H' keep rv len back=> ?_⟩
   .rcases h with⟨j,hj,ej⟩|h
    .exact E1.i9 (olJ j hj).top ej
    .obtain⟨us,hb⟩:=(h.cln E1).2;rw[hb];simp
   .obtain⟨a,q1,q2,q3⟩:=at_ m dm vm e1 e2;cases a with
    |lent j=>
     obtain⟨_,d0,p1,hd⟩:=lentV q1 e2;rw[e1] at p1;cases p1
     obtain⟨a,r1,r2,r3,r4,r5,r6⟩:=E1.ow j dm (hd.imp (λz=>z.1) λz=>z.1);have q2:Z[j]? =some (some vm):=q2;rw[q2] at r1;cases r1
     refine .inl ⟨iC.mpr ⟨m,j,(GaP m).symm,q1⟩,a,rfl,.inl ⟨j,gj q1,q2⟩,r4,r5,mx r6 r5 (hd.elim (λz=>vG z.2) λz=>z.2) λC ns ks z dx us h ln n q g w1 w2 cg _=> ⟨.inr (kidS q1 hd q2 C ns ks z dx us h ln n q g w1 w2),λi hi y=> ?_⟩⟩;obtain⟨j',y4⟩:=inJ hi;obtain⟨y1,_⟩:=lentV y4 y;exact cg.2 j' (olS y4 y).top y1
    |name j=>
     refine .inr ⟨λhi=> ?_, ?_⟩
     .obtain⟨j',y4⟩:=inJ hi;rw[q1] at y4;cases y4
     .obtain⟨d0,yM,q3⟩:=e6 q3;split at q3
      .rename_i okr;cases q3;obtain⟨t,ff⟩:=B1 (K:=X.K) (H0:=H0) (H:=H1) (e8:=e8) (Z:=Z) yM;obtain⟨a,r1,r2,r3,r4⟩:=ff E1;have q2:Z[j]? =some (some vm):=q2;rw[q2] at r1;cases r1
       exact .inl ⟨r3,a,rfl,notTop t (nn j (nD q1)) q2,r2,r4.bS (λ_ _ z _=>z) r3 okr rfl⟩
      .cases q3
    |val f=>
     refine .inr ⟨λhi=> ?_,.inr ⟨?_,q2.2.imp λ_ z=>z.elim⟩⟩
     .obtain⟨j',y4⟩:=inJ hi;rw[q1] at y4;cases y4
     .have:=q2.1;cases dm<;>first|rfl|simp[D.imm] at this
   .obtain⟨j1,h1⟩:=inJ hi;obtain⟨j2,h2⟩:=inJ hj;obtain⟨y1,d1,_⟩:=lentV h1 e1;obtain⟨y2,d2,_⟩:=lentV h2 e2;obtain⟨_,a,_,z,_⟩:=E1.iH (olS h1 e1).top;rw[y1] at z;cases z
    have ej:j1=j2:=E1.dj j1 j2 a (olS h1 e1) (olS h2 e2).top y1 y2;subst ej;exact pV nd h1 h2
   .have lz:ls.length=(bf as).length:=by rw[len,gh]
    have re:=tw nd lz olJ;have hH:∀b o,H1 b=some o->H' b=some o\/A b:=λb o eb=>by
     by_cases z:A b
     .exact .inr z
     .exact .inl (keep b o eb z)
    have backJ:∀j∈bf as,∀a,Z[j]? =some (some (.ref a))->∃l,(((bf as).zip ls).lookup j).getD .non=l/\Wr H' a/\l.top=true/\flK l=true/\Inn X.K (λb=>(A b\/H1 b=none)/\∀j∈cw 0 as,vs[j]? ≠some (.ref b)) H' l (.ref a):=λj hj a ea=>by
     obtain⟨m,hm⟩:=Gbm hj;have xa:m<(cw 0 as).length:=by rw[gh];exact(Gac.mp hm).1
     obtain⟨i,j',q1,q2,q3⟩:=ik (as:=as) (o:=0) (m:=m) (Gal xa);rw[hm] at q3;cases q3
     have yw:m<ls.length:=by rw[len];exact xa
     obtain⟨a',w1,w2,w3,w4,w5⟩:=back m _ ls[m] (Gal xa) (Gal yw);rw[q1,GaP] at w1;have:=(lentV q2 w1).1;rw[ea] at this;cases this
     exact⟨ls[m],tx nd hm (Gal yw),w2,w3,w4,w5⟩
    have clnOf:∀{b:Addr},(A b\/H1 b=none)/\(∀j∈cw 0 as,vs[j]? ≠some (.ref b))->Cln e8 env Z b/\H0 b=none:=λ{b} h=>by
     rcases h.1 with(⟨j,hj,ej⟩|z)|z
     .exfalso;obtain⟨k,hk⟩:=slotOf hj;obtain⟨v,hv⟩:=vsAt hk;have:=(lentV hk hv).1;rw[ej] at this;cases this
      exact h.2 k (iC.mpr ⟨k,j,(GaP k).symm,hk⟩) hv
     .exact⟨(z.cln E1).1,z.none k1⟩
     .exact⟨E1.iT z,E1.same.free z⟩
    have hAc:∀b,A b->(∃j∈bf as,Z[j]? =some (some (V.ref b)))\/Cln e8 env Z b:=λb h=>h.imp id λz=>(z.cln E1).1;have EF:=E1.flat (A:=A) fl re hH (λb h=> ⟨ndA h,hAc b h,λo eo=>by
      rcases h with⟨j,hj,ej⟩|z
      .obtain⟨o',h1,h2⟩:=E1.sy (olJ j hj).top ej;rw[eo] at h1;cases h1;exact h2
      .obtain⟨us,hb⟩:=(z.cln E1).2;rw[hb] at eo;cases eo;trivial⟩) λj hj a ea=>by
      obtain⟨l,z,w2,w3,w4,w5⟩:=backJ j hj a ea;rw[z];exact⟨w2,w3,mx w5 w3 w4 λ_ _ _ _ _ _ _ _ _ _ _ _ _ f _=>(clnOf f).1⟩
    refine fin v H' (b6.flat E1 pn k1 EF re hH hAc λj hj C ns ks z a dx us ea h ln m q g w1 w2=> ?_) im rv;obtain⟨l,y,_,w3,w4,w5⟩:=backJ j hj a ea;rw[y] at z;subst z;cases w5 with
    |obj h' ln' kd r=>
     rw[h] at h';injection h' with h';injection h' with _ _ h'
     have:=zip_inj ln ln' h';subst this;obtain⟨vv,y1,y2⟩:=r.get w1;rw[w2] at y1;cases y1
     cases y2 with
     |kid f _ _ _=>exact(clnOf f).2
  .cases h
 .cases h
end
noncomputable def ip(m:DXW):DW:=λenv=>(m env).map λr=> .ret r.1 r.2
def setC(i:Nat)(m:DXW):DW:=λenv=>(m env).map λr=> .nx (r.2.set i (some (.sh r.1)))
abbrev DTW:=Env->Option (Bool×Env)
noncomputable def vH(m:DXW):DTW:=λenv=>(m env).bind λr=>match r.1 with
 | .bl b=>some (b,r.2)
 |_=>none
noncomputable def B3(t:DTW):DTW:=λenv=>(t env).map λr=>(!r.1,r.2)
noncomputable def ifC(t:DTW)(f g:DW):DW:=λenv=>(t env).bind λr=>if r.1 then f r.2 else g r.2
noncomputable def iq(g:DG)(body:DW):List D->Env->Option ie
 |[],env=>some (.nx env)
 |d::ds,env=>(g d env).bind λe=>(body e).bind λo=>match o with
  | .nx e=>iq g body ds e
  | .ct e=>iq g body ds e
  | .bk e=>some (.nx e)
  |o=>some o
def dK(i:Nat)(f:DE)(body:DW):DW:=λenv=>(aY f env).bind λds=>iq (gN i) body ds env
def rzW(C:Nat)(n:Str)(f:DE):DW:=λenv=>(f env).bind λr=>if r.d.imm then some (.ex C n r.d) else none
theorem b6.fH{K:au}{H0 H:Hp}{Pn:Nat->V->Prop}{env:Env}{Z:St}{d:D}{v:V}(E:b6 K H0 Pn env Z H)(r:Rep K (λ_=>False) H d v)(i:Nat):b6 K H0 Pn (env.set i (some (.sh d))) (Z.set i (some v)) H:=by
 obtain⟨e8,EO,p,k⟩:=E;exact b6.stp k p EO (EO.fH (r.imp λ_ z=>z.elim)) .fH
def tTw(X:Cx)(H0:Hp)(Pn:Nat->V->Prop)(t:DTW):TT:=λZ H Q=>∃env b eh,b6 X.K H0 Pn env Z H/\t env=some (b,eh)/\∀H',b6 X.K H0 Pn eh Z H' ->Q b H'
section
variable{X:Cx}{H0:Hp}{Pn:Nat->V->Prop}{E:XK}{e c:Expr}{m:DXW}{t:DTW}{g g1 g2:DW}{pos:Pos}
theorem Ep(h:PE X e (tXw X H0 Pn m)):PS X (.Return (some e) pos) (tW X H0 Pn E (ip m)):=by
 refine(nS h).aB ?_;rintro D Z H ⟨env,o,EW,e,ok⟩;obtain⟨⟨d,e'⟩,hm,rfl⟩:=Gaa.mp e;exact⟨env,d,e',EW,hm,λv H' E' im r=>ok v Z H' E' r⟩
theorem Er{i:Nat}{y:Str}{p:Pos}(hN:X.N.Nodup)(hi:X.N[i]? =some y)(hx:Loc X.env.scope y)(hf:X.fn y=true\/X.env.scope.names.lookup y=some .local)(h:PE X e (tXw X H0 Pn m))(hs:swapsWith e (some (.Name y p)) pos.line X.env=pure false):PS X (.Assign [.Name y p] e pos) (tW X H0 Pn E (setC i m)):=by
 refine(qA hN hi hx h hs hf).aB ?_;rintro D Z H ⟨env,o,EW,e,ok⟩;obtain⟨⟨d,e'⟩,hm,rfl⟩:=Gaa.mp e;exact⟨env,d,e',EW,hm,λv H' E' im r=>ok _ _ (E'.fH r i)⟩
theorem B4(h:PE X e (tXw X H0 Pn m))(hs:swapsWith e none pos.line X.env=pure false):PS X (.Expr e pos) (tW X H0 Pn E λenv=>(m env).map λr=> .nx r.2):=by
 refine(gr h hs).aB ?_;rintro D Z H ⟨env,o,EW,e,ok⟩;obtain⟨⟨d,e'⟩,hm,rfl⟩:=Gaa.mp e;exact⟨env,d,e',EW,hm,λv H' E' im r=>ok _ _ E'⟩
theorem tD(h:PE X e (tXw X H0 Pn m))(he:∀whole,isTrue e X.env whole=(do let v<-whole;standAt e.pos;holding [v] (truthy v))):PT X e (tTw X H0 Pn (vH m)):=by
 refine(wd h he).aB ?_;rintro Z H Q ⟨env,b,eh,EW,e,k⟩;obtain⟨⟨d,e'⟩,hm,h2⟩:=e6 e;refine⟨env,d,e',EW,hm,λv H' E' im r=> ?_⟩;cases d<;>try cases h2
 cases r;exact⟨b,rfl,k H' E'⟩
theorem Es(h:PT X e (tTw X H0 Pn t)):PT X (.UnaryOp .Not e pos) (tTw X H0 Pn (B3 t)):=by
 refine(we h).aB ?_;rintro Z H Q ⟨env,b,eh,EW,e,k⟩;obtain⟨⟨b',e'⟩,hm,h2⟩:=Gaa.mp e;cases h2;exact⟨env,b',_,EW,hm,λH' E' =>k H' E'⟩
theorem IQ{xs ys:List Stmt}(hc:PT X c (tTw X H0 Pn t))(ha:PSs X xs (tW X H0 Pn E g1))(hb:PSs X ys (tW X H0 Pn E g2)):PS X (.If c xs ys pos) (tW X H0 Pn E (ifC t g1 g2)):=by
 refine(wj hc ha hb).aB ?_;rintro D Z H ⟨env,o,EW,e,ok⟩;obtain⟨⟨b,e'⟩,h1,h2⟩:=e6 e;refine⟨env,b,e',EW,h1,λH1 E1=> ?_⟩;dsimp only at h2⊢;cases b with
 |true=>rw[Gak rfl];rw[Gak rfl] at h2;exact⟨e',o,E1,h2,ok⟩
 |false=>rw[Gam Gai];rw[Gam Gai] at h2;exact⟨e',o,E1,h2,ok⟩
theorem B5{B C fI:Addr}{n cn:Str}{k:Nat}{fd:FuncData}{ps:List Str}{f:DE}{p1 p2 p3:Pos}(cl:XCl X.K B C fI n)(F:bH X.prog X.w X.K X.mg X.base CX0 k fI fd ps (iL X.K B C n))(hr:bP (k+1) X.A)(hb:Binds X.K fd ps [])
  (hL:XL X E)(hg:Gl X cn)(hm:X.mg cn=some (.ref C))(he:PEd X.nox e f)(hV:(cn==("__debug__":Str))=false)(hs:starEach [e] X.env=(false,eval e X.env)::starEach [] X.env):
  PS X (.Raise (some (.Call (.Name cn p1) [e] [] p2)) none p3) (tW X H0 Pn E (rzW C n f)):=by
 refine(AS cl F hr hb hL hg hm he hV hs).aB ?_;rintro D Z H ⟨env,o,⟨e8,EO,pn,kn⟩,e,ok⟩;obtain⟨r,hr,h2⟩:=e6 e;split at h2
 .rename_i im;cases h2;exact⟨H0,e8,env,.x C n r.d,EO,by simp[rzX,hr,im],λv dx H' s z1 z2 rd=>ok v dx H' s z1 z2 im (rd.imm im)⟩
 .cases h2
end
noncomputable def rf(l:Nat)(env:Env):Option (List D):=match env[l]? with
 |some (some (.bor (.lst xs)))=>some xs
 |_=>none
def fM(i j l:Nat)(g:DW):Nat->Nat->Env->Option ie
 |0,_,_=>none
 |f+1,n,env=>(rf l env).bind λxs=>match xs[n]? with
  |none=>some (.nx env)
  |some d=>if d.imm then(g ((env.set i (some (.sh (.int (n:Nat))))).set j (some (.sh d)))).bind λo=>match o with
   | .nx e=>fM i j l g f (n+1) e
   | .ct e=>fM i j l g f (n+1) e
   | .bk e=>some (.nx e)
   |o=>some o
   else none
def tF(i j l:Nat)(g:DW):DW:=λenv=>(rf l env).bind λxs=>fM i j l g (xs.length+1) 0 env
variable{env:Env}
theorem ke{l:Nat}{xs:List D}(h:rf l env=some xs):env[l]? =some (some (.bor (.lst xs))):=by
 unfold rf at h;split at h
 .rename_i q;cases h;exact q
 .cases h
theorem b6.pin{K:au}{H0 H:Hp}{Pn xR :Nat->V->Prop}{Z:St}(E:b6 K H0 Pn env Z H)(h:∀p v,xR p v->Pn p v\/Z[p]? =some (some v)):b6 K H0 xR env Z H:=
 let⟨B,E,p,k⟩:=E
 ⟨B,E,λq v z l=>(h q v z).elim (λy=>p q v y l) id,k⟩
noncomputable def M7:D->Bool
 | .scr _=>true
 | .kt _=>true
 | .exc _ _ _=>true
 |_=>false
def oA(C:Nat)(n:Str)(d:D):D->Option D
 | .obj C' ns ds=>if C' =C/\gM ds=true/\ns.length<1000/\M7 d=false/\ns.length=ds.length/\(ns.findIdx? λm=>m==n)=none then some (.obj C (ns++[n]) (ds++[d])) else none
 |_=>none
@[simp] def Et(i C:Nat)(n:Str)(f:DE):DW:=DV i (oA C n) f
def M8:D->Bool
 | .obj _ _ ds=>ds.all λd=> !M7 d
 |_=>false
@[simp] def rg(i C:Nat)(n:Str):DW:=λenv=>if ig [i] env=true then((dB i env).bind λd=>if M8 d=true then oA C n (.kid []) d else none).map λd' => .nx (env.set i (some (.lok d'))) else none
theorem pW{n:Str}{y:V}:∀{ns:List Str} {vs:List V},ns.length=vs.length->(ns.findIdx? λm=>m==n)=none->fE n y (ns.zip vs)=(ns++[n]).zip (vs++[y])
 |[],[],_,_=>rfl
 |m::ns,[],l,_=>by simp at l
 |[],v::vs,l,_=>by simp at l
 |m::ns,v::vs,l,h=>by
  rw[Gbw] at h;rw[GaW];unfold fE;cases q:m==n with
  |true=>rw[q] at h;cases h
  |false=>
   rw[q] at h;have h:(ns.findIdx? λm=>m==n)=none:=by simpa using h
   rw[Gam (GaQ.mp q),pW (by simpa using l) h]
   rfl
theorem b6.M9{K:au}{H0 H:Hp}{Pn:Nat->V->Prop}{C:Nat}{n:Str}{env:Env}{Z:St}{i:Nat}{d d' x:D}{v:V}{e8:Addr->Prop}(EO:aA K H0 e8 env Z H)(pn:Pnd Pn env Z)(kn:l4 H0 H env Z)(fl:ig [i] env=true)(e:env[i]? =some (some (.lok d)))
  (hx:(x.imm=true/\Rep K (Cln e8 env Z) H x v)\/(x= .kid []/\∃g,v= .ref g/\H g=some (.lst [])/\H0 g=none/\Cln e8 env Z g/\∀a C dx fs,Z[i]? =some (some (.ref a))->H a=some (.ins C dx fs)->∀m,(m,.ref g)∉fs))(hp:oA C n x d=some d'):
  ∃a dx fs,Z[i]? =some (some (.ref a))/\H a=some (.ins C dx fs)/\fs.length<1000/\b6 K H0 Pn (env.set i (some (.lok d'))) Z (upd H a (.ins C dx (fE n v fs))):=by
 unfold oA at hp;split at hp
 .rename_i C' ns ds;split at hp
  .rename_i q;obtain⟨rfl,hf,hn,sc,Qr,hk⟩:=q;cases hp;obtain⟨a,dx,vs,ea,z0,zb,ha,ln,kd,rs⟩:=EO.kJ e;refine⟨a,dx,_,ea,ha,by rw[List.length_zip,<-ln];lia, ?_⟩;rw[pW ln hk];have hi:i<env.length:=(Gac.mp e).1;generalize hu:HO.ins C' dx ((ns++[n]).zip (vs++[v]))=u;have stT:∀b o,H b=some o->isT o->upd H a u b=some o:=λb o eb t=>by
    rw[ak];exact eb
    rintro rfl;rw[ha] at eb;cases eb;exact t
   have lv:ds.length=vs.length:=rs.1;have atL:∀{k:Nat} {d0:D},(ds++[x])[k]? =some d0->(k<ds.length/\ds[k]? =some d0)\/(k=ds.length/\d0=x):=λ{k d0} h=>by
    by_cases z:k<ds.length
    .rw[GaH z] at h;exact .inl ⟨z,h⟩
    .rw[GaL (by lia)] at h;have:k -ds.length=0:=by
      cases w:k -ds.length with
      |zero=>rfl
      |succ m=>rw[w] at h;simp at h
     rw[this] at h;simp at h;exact .inr ⟨by lia,h.symm⟩
   have atV:∀{k:Nat} {v0:V},(vs++[v])[k]? =some v0->(k<ds.length/\vs[k]? =some v0)\/(k=ds.length/\v0=v):=λ{k v0} h=>by
    by_cases z:k<vs.length
    .rw[GaH z] at h;exact .inl ⟨by lia,h⟩
    .rw[GaL (by lia)] at h;have:k -vs.length=0:=by
      cases w:k -vs.length with
      |zero=>rfl
      |succ m=>rw[w] at h;simp at h
     rw[this] at h;simp at h;exact .inr ⟨by lia,h.symm⟩
   have ga:∀{g:Addr} {us:List V},H g=some (.lst us)->g≠a:=λh z=>by subst z;rw[ha] at h;cases h
   have newNot:∀{k:Nat} {l:List D} {g:Addr},ds[k]? =some (.kid l)->vs[k]? =some (.ref g)->v≠ .ref g:=λ{k l g} w1 w2 z=>by
    subst z;obtain⟨vv,y1,y2⟩:=rs.get w1;rw[w2] at y1;cases y1
    rcases hx with⟨im,r⟩| ⟨rfl,g',z,hg,_,_,no⟩
    .cases y2 with
     |kid f h2 _ _=>
      cases r with
      |tup h l r=>rw[h] at h2;cases h2
      |scr h=>cases sc
      |kt h=>cases sc
      |exc h r=>cases sc
      |lst f h l r=>simp[D.imm] at im
      |obj f h ln kd l r=>simp[D.imm] at im
      |kid f h l r=>simp[D.imm] at im
    .cases z;have hkn:k<ns.length:=by rw[Qr];exact(Gac.mp w1).1
     refine no a C' dx _ ea ha ns[k] ?_;refine GaC (i:=k) ?_;rw[GbT];exact⟨Gal hkn,w2⟩
   have xk:∀{l:List D},x= .kid l->∃g,v= .ref g/\H g=some (.lst [])/\H0 g=none:=λ{l} z=>by
    rcases hx with⟨im,_⟩| ⟨_,g,z1,z2,z3,_⟩
    .subst z;simp[D.imm] at im
    .exact⟨g,z1,z2,z3⟩
   have inn:Inn K (Cln e8 env Z) (upd H a u) (.obj C' (ns++[n]) (ds++[x])) (.ref a):=by
    refine .obj (vs:=vs++[v]) (by rw[aE,hu]) (by simp[ln]) (λy z l2 g2 e1 e2 e3=> ?_) ⟨by simp[lv],λj dj vj e1 e2=> ?_⟩
    .rcases atL e1 with⟨y1,e1⟩| ⟨y1,e1⟩
     .rcases atV e2 with⟨_,e2⟩| ⟨y2,_⟩
      .rcases atV e3 with⟨_,e3⟩| ⟨_,e3⟩
       .exact kd y z l2 g2 e1 e2 e3
       .exact absurd e3.symm (newNot e1 e2)
      .lia
     .rcases atV e2 with⟨y2,_⟩| ⟨_,e2⟩
      .lia
      .rcases atV e3 with⟨y3,e3⟩| ⟨y3,_⟩
       .exfalso;obtain⟨g,q1,q2,_⟩:=xk e1.symm;rw[q1] at e2;cases e2
        rcases hx with⟨im,_⟩| ⟨_,g',z1,_,_,_,no⟩
        .rw[<-e1] at im;simp[D.imm] at im
        .rw[q1] at z1;cases z1
         have hkn:z<ns.length:=by rw[Qr];exact y3
         refine no a C' dx _ ea ha ns[z] (GaC (i:=z) ?_);rw[GbT];exact⟨Gal hkn,e3⟩
       .lia
    .rcases atL e1 with⟨y1,e1⟩| ⟨y1,e1⟩
     .rcases atV e2 with⟨_,e2⟩| ⟨y2,_⟩
      .have fj:=Gau.mp hf dj (GaC e1);have rj:=rs.2 j dj vj e1 e2;cases rj with
       | @kid g2 us2 l2 f2 h2 ll r2=>
        have:=aI.bS (K:=K) (F:=Cln e8 env Z) (F' :=Cln e8 env Z) (ds:=l2) (vs:=us2) stT ⟨ll,r2⟩ fj;exact .kid f2 (by rw[ak (ga h2)];exact h2) this.1 this.2
       |obj f h ln kd l r=>simp[D.imm] at fj
       |lst f h l r=>simp[D.imm] at fj
       |non=>exact .non
       |bl b=>exact .bl b
       |int i=>exact .int i
       |str x=>exact .str x
       |tup h l r=>exact(Rep.tup h l r).bS stT fj
       |scr h=>exact(Rep.scr (F:=Cln e8 env Z) h).bS stT fj
       |kt h=>exact .kt h
       |exc h r=>exact(Rep.exc h r).bS stT fj
      .lia
     .rcases atV e2 with⟨y2,_⟩| ⟨_,e2⟩
      .lia
      .subst e1 e2;rcases hx with⟨im,r⟩| ⟨e1,g,e2,hg,_,cl,_⟩
       .exact r.bS stT im
       .rw[e1,e2];exact .kid cl (by rw[ak (ga hg)];exact hg) rfl λi d v q=>by simp at q
   have re:ReE [i] (λ_=> .obj C' (ns++[n]) (ds++[x])) env (env.set i (some (.lok (.obj C' (ns++[n]) (ds++[x]))))):=⟨by simp,λj hj=>Gab (by rintro rfl;simp at hj),λj hj=>by
    obtain rfl:j=i:=by simpa using hj
    exact⟨_,.inr ⟨e,b9 hi⟩⟩⟩
   have hH:∀b o,H b=some o->upd H a u b=some o\/b=a:=λb o eb=>by
    by_cases z:b=a
    .exact .inr z
    .left;rw[ak z];exact eb
   refine b6.flat EO pn kn (EO.flat (A:=(· =a)) fl re hH (λb hb=> ?_) λj hj a' e' => ?_) re hH (λb hb=> .inl ⟨i,by simp,by rw[hb];exact ea⟩) λj hj C2 Ql xq z a' QK yP e' h2 ln2 k2 l2 g2 e3 e4=> ?_
   .subst hb;exact⟨z0,.inl ⟨i,by simp,ea⟩,λo eo=>by rw[ha] at eo;cases eo;trivial⟩
   .obtain rfl:j=i:=by simpa using hj
    rw[ea] at e';cases e'
    exact⟨⟨u,aE,by rw[<-hu];trivial⟩,rfl,inn⟩
   .obtain rfl:j=i:=by simpa using hj
    cases z;rw[ea] at e';cases e'
    rw[aE,<-hu] at h2;injection h2 with h2;injection h2 with _ _ h2
    have:=zip_inj (by simp[ln]) ln2 h2;subst this;rcases atL e3 with⟨y1,e3⟩| ⟨y1,e3⟩
    .rcases atV e4 with⟨_,e4⟩| ⟨y2,_⟩
     .exact kn j C' ns ds e a dx vs ea ha ln k2 l2 g2 e3 e4
     .lia
    .rcases atV e4 with⟨y2,_⟩| ⟨_,e4⟩
     .lia
     .obtain⟨g,q1,_,q3⟩:=xk e3.symm;rw[q1] at e4;cases e4;exact q3
  .cases hp
 .cases hp
section
variable{X:Cx}{H0:Hp}{Pn:Nat->V->Prop}{E:XK}{C:Addr}{n:Str}{e:Expr}{f:DE}{pos:Pos}{i:Nat}{x:Str}
variable{px fp:Pos}
theorem Eu(cl:L2.Cls X.K C)(na:bL X.K C n)(hN:X.N[i]? =some x)(hv:Vis X.env.scope x)(hd:(x==("__debug__":Str))=false)(eV:(x==("__classdict__":Str))=false)(he:PEd X.nox e f)(hs:swapsWith e (some (.Attribute (.Name x px) n fp)) pos.line X.env=pure false):
  PS X (.Assign [.Attribute (.Name x px) n fp] e pos) (tW X H0 Pn E (Et i C n f)):=by
 refine(qI (ck hN hv hd eV) (PE.nox he) hs).aB ?_;rintro D Z H ⟨env,o,⟨e8,EO,p,kn⟩,e,ok⟩;obtain⟨r,hr,e⟩:=e6 e;split at e
 .rename_i q;obtain⟨d',xb,rfl⟩:=Gaa.mp e;obtain⟨d,hl,hp⟩:=e6 xb;have el:=cQ hl;refine⟨H0,e8,env,r,EO,hr,λv H2 s2 R1=> ?_⟩;obtain⟨a,dx,fs,ea,ha,hz,fin⟩:=b6.M9 (Pn:=Pn) (EO.mono s2) p (kn.mono EO s2) q.2 el (.inl ⟨q.1,R1.inn.imm q.1⟩) hp;exact⟨_,ea,a,C,dx,fs,rfl,ha,cl,na,hz,ok Z _ fin⟩
 .cases e
theorem Ew{lp:Pos}(cl:L2.Cls X.K C)(na:bL X.K C n)(hN:X.N[i]? =some x)(hv:Vis X.env.scope x)(hd:(x==("__debug__":Str))=false)(eV:(x==("__classdict__":Str))=false)(hs:swapsWith (.List [] lp) (some (.Attribute (.Name x px) n fp)) pos.line X.env=pure false):
  PS X (.Assign [.Attribute (.Name x px) n fp] (.List [] lp) pos) (tW X H0 Pn E (rg i C n)):=by
 refine(qI (ck hN hv hd eV) (qL gu) hs).aB ?_;rintro D Z H ⟨env,o,⟨e8,EO,p,kn⟩,e,ok⟩;unfold rg at e;split at e
 .rename_i fl;obtain⟨d',xb,rfl⟩:=Gaa.mp e;obtain⟨d,hl,hp⟩:=e6 xb;split at hp
  .rename_i nsc;have el:=cQ hl;refine⟨by decide,λg hg=> ?_⟩;have s2:aW H (upd H g (.lst [])):=aV hg;have no:∀a C dx fs,Z[i]? =some (some (.ref a))->upd H g (.lst []) a=some (.ins C dx fs)->∀m,(m,.ref g)∉fs:=λa C2 dx fs e1 e2 m hm=>by
    cases d with
    |obj C' ns ds=>
     obtain⟨a',zD,vs,ea,_,_,ha,ln,_,rs⟩:=EO.kJ el;rw[ea] at e1;cases e1
     rw[s2 _ _ ha] at e2;cases e2
     obtain⟨z,hz⟩:=Gbm hm;obtain⟨q1,q2⟩:=GbT.mp hz;have hk:z<ds.length:=by rw[rs.1];exact(Gac.mp q2).1
     have r:=rs.2 z ds[z] _ (Gal hk) q2;have sc:=Gau.mp nsc ds[z] (GbO hk);generalize ds[z]=dz at r sc;cases r with
     |tup h l r=>rw[hg] at h;cases h
     |scr h=>cases sc
     |kt h=>cases sc
     |exc h r=>obtain⟨_,_,_,_,h,_⟩:=h;rw[hg] at h;cases h
     |lst f h l r=>rcases h with h| ⟨_,h⟩<;>rw[hg] at h<;>cases h
     |obj f h ln kd l r=>rw[hg] at h;cases h
     |kid f h l r=>rw[hg] at h;cases h
    |_=>cases nsc
   have E2:=EO.mono s2;obtain⟨a,dx,fs,ea,ha,hz,fin⟩:=b6.M9 (Pn:=Pn) (v:= .ref g) E2 p (kn.mono EO s2) fl el (.inr ⟨rfl,g,rfl,aE,EO.same.free hg,EO.iT hg,no⟩) hp;exact⟨_,ea,a,C,dx,fs,rfl,ha,cl,na,hz,ok Z _ fin⟩
  .cases hp
 .cases e
end
noncomputable def mkO(i C:Nat)(sp:SpX):DW:=λenv=>(sp [.obj C [] []]).bind λr=>match r with
 |(.non,[l])=>some (.nx (env.set i (some (.lok l))))
 |_=>none
theorem b6.IS{K:au}{H0 H H' :Hp}{Pn:Nat->V->Prop}{env:Env}{Z:St}{i:Nat}{l:D}{a:Addr}(E:b6 K H0 Pn env Z H)(s:aW H H')(n:H a=none)(w:Wr H' a)(t:l.top=true)(hP:∀v,¬Pn i v)(yX:Inn K (λb=>H b=none/\b≠a) H' l (.ref a)):b6 K H0 Pn (env.set i (some (.lok l))) (Z.set i (some (.ref a))) H' :=by
 by_cases hi:i<env.length
 rotate_left
 .have:=E.mono s;obtain⟨e8,EO,_⟩:=E;rw[List.set_eq_of_length_le (by lia),List.set_eq_of_length_le (by rw[<-EO.len];lia)];exact this
 obtain⟨e8,EO,pn,kn⟩:=E;have hs:i<Z.length:=by rw[<-EO.len];exact hi
 have E1:=((EO.k9 s hi n w t (yX.imp λb h=> ⟨EO.iT h.1,h.2⟩)).lock (some i)).1;have:aK (some i) (env.set i (some (.own l)))=env.set i (some (.lok l)):=by
  unfold aK;dsimp only;rw[b9 hi];exact GcF ..
 rw[this] at E1;refine⟨e8,E1,λp v z q=> ?_,λj C ns ds ej a' dx vs ea h ln k q g e1 e2=> ?_⟩
 .have ne:i≠p:=λw=>by subst w;exact hP v z
  rw[Gab ne] at q⊢;exact pn p v z q
 .by_cases y:i=j
  .subst y;rw[b9 hi] at ej;cases ej
   rw[Gav hs] at ea;cases ea
   cases yX with
   |obj h' ln' kd r=>
    rw[h] at h';injection h' with h';injection h' with _ _ h'
    have:=zip_inj ln ln' h';subst this;obtain⟨vv,y1,y2⟩:=r.get e1;rw[e2] at y1;cases y1
    cases y2 with
    |kid f _ _ _=>exact EO.same.free f.1
  .rw[Gab y] at ej ea;exact kn.mono EO s j C ns ds ej a' dx vs ea h ln k q g e1 e2
section
variable{X:Cx}{H0:Hp}{Pn:Nat->V->Prop}{E:XK}{k i:Nat}{C fa:Addr}{fd:FuncData}{ps:List Str}{sp:SpX}{x y:Str}{p q pos:Pos}
theorem Ma(mk:Mk X.K C fa)(F:bH X.prog X.w X.K X.mg X.base CX0 k fa fd ps (spW X.K 1 [0] sp))(hr:bP (k+1) X.A)(hg:Gl X x)(hm:X.mg x=some (.ref C))(hb:Binds X.K fd ps [])(hN:X.N.Nodup)(hi:X.N[i]? =some y)(hx:Loc X.env.scope y)(hf:X.fn y=true\/X.env.scope.names.lookup y=some .local)(hP:∀v,¬Pn i v)
  (hV:(x==("__debug__":Str))=false){pos' :Pos}(hs:swapsWith (.Call (.Name x p) [] [] pos) (some (.Name y q)) pos'.line X.env=pure false):PS X (.Assign [.Name y q] (.Call (.Name x p) [] [] pos) pos') (tW X H0 Pn E (mkO i C sp)):=by
 refine(qA hN hi hx (wF (dvs:=[]) mk F hr hg hm hb .nil su hV) hs hf).aB ?_;rintro D Z H ⟨env,o,EW,e,ok⟩;obtain⟨⟨d,ls⟩,xG,e⟩:=e6 e;split at e
 .rename_i l z;cases z;cases e;intro a dx n1 n2 ne;have sm:aW H (upd (upd H dx (.own a)) a (.ins C dx [])):=λc q z=>by rw[ak (aN z n1),ak (aN z n2)];exact z
  refine⟨[.obj C [] []],.non,[l],(· =a),rfl,rfl,xG,λb hb=> ?_,λm d v e1 e2=> ?_,λi1 h1 j1 h2 v _ _=> ?_,λv H' keep rv len back=> ?_⟩
  .subst hb;rw[aE];simp
  .cases m with
   |zero=>
    cases e1;cases e2
    exact .inl ⟨by simp,a,rfl,rfl,⟨_,aE,trivial⟩,rfl,.obj (vs:=[]) aE rfl (λi j l g q=>by simp at q) ⟨rfl,λi d v q=>by simp at q⟩⟩
   |succ m=>simp at e1
  .rw[Gbv] at h1 h2;rw[h1,h2]
  .have ev:v= .non:=by cases rv;rfl
   refine⟨ev,ok _ H' ?_⟩;obtain⟨a',w1,w2,w3,w4,w5⟩:=back 0 0 l rfl rfl;cases w1;refine EW.IS (λc o h=>keep c o (sm c o h) λz=>by subst z;rw[n1] at h;cases h) n1 w2 w3 hP (w5.imp λb h=> ?_);have QF:b≠a:=λz=>h.2 0 (by simp) (by rw[z];rfl);refine⟨?_,QF⟩;rcases h.1 with z|z
   .exact absurd z QF
   .cases w:H b with
    |none=>rfl
    |some o=>rw[sm b o w] at z;cases z
 .cases e
end
open PySem.W (Looks exmOne exm_one)
noncomputable abbrev hdl (X:Cx) (e:Value):Cx:={X with A:=X.A.mark (some e),calm:=false,xe:=λ_ _=>False}
section
variable{X:Cx}{e7:LAO}{Z:L2.St}{H:Hp}{s:Shared}
theorem _root_.L2.Inv.mark(I:Inv X e7 Z H s)(e:Value):Inv (hdl X e) e7 Z H s:=
 ⟨⟨I.ok.mod,I.ok.kind,I.ok.glob,I.ok.blt,I.ok.above,I.ok.inj,I.ok.has,I.ok.cab,λz=>(by cases z),I.ok.frames,I.ok.stk,I.ok.exf,I.ok.bs,I.ok.bsz,I.ok.rV,I.ok.rW,I.ok.jd,I.ok.frf⟩,I.os,I.bare,I.base,I.loc,I.cell,I.free,I.fV,I.pin,I.hok,I.len⟩
theorem _root_.L2.Inv.unmark{e:Value}(I:Inv (hdl X e) e7 Z H s)(hd:X.calm=true->X.A.handled=none):Inv X e7 Z H s:=
 ⟨⟨I.ok.mod,I.ok.kind,I.ok.glob,I.ok.blt,I.ok.above,I.ok.inj,I.ok.has,I.ok.cab,hd,I.ok.frames,I.ok.stk,I.ok.exf,I.ok.bs,I.ok.bsz,I.ok.rV,I.ok.rW,I.ok.jd,I.ok.frf⟩,I.os,I.bare,I.base,I.loc,I.cell,I.free,I.fV,I.pin,I.hok,I.len⟩
theorem vI{M:Model}{A:Around}{E:VSP}{k:Nat}{x:Str}{v:V}{Q:Unit->Shared->Prop}(I:Inv X e7 Z H s)(hN:X.N.Nodup)(hk:X.N[k]? =some x)(hx:X.env.scope.names.lookup x=some .local)(hv:Z[k]? =some (some v))
  (h:∀s',Inv X e7 (Z.set k none) H s' ->Q () s'):wpAny M A (unbindName X.env x) Q E s:=by
 have kl:X.env.kindOf x=some .local:=hx;obtain⟨m,hn,names⟩:=I.loc;obtain⟨u,hm⟩:∃u,m x=some u:=by
  obtain⟨u,_,⟨_,e⟩| ⟨z|z,_⟩⟩:=names k x v hk hv (.inl hx)
  .exact⟨u,e⟩
  all_goals rw[kl] at z;cases z
 have far:∀b,b<X.s₀.heap.objs.size->b≠X.env.locals:=λb lt e=>absurd (Gah lt I.ok.above) (by rw[e];exact GaI _);have left:∀{h' :Heap},Heap.SameBut X.env.locals s.heap h' ->HOk X.prog X.w H h' :=λhs b ob e=>(I.hok b ob e).fW (λc _ hc q=>(hs.2 c λz=>by subst z;rcases hc with z|z;(rw[<-z,I.free] at e;cases e);(rw[I.free] at z;cases z)).trans q) (λ_ q=>q) λ_ _ q=>q;refine wpAny_unbindName_local kl hn hm (by rw[I.ok.kind];rfl) λh' u' PX hs=>h _ {ok:=I.ok,os:=I.os,bare:=I.bare,base:= ?_,loc:=⟨_,PX,λj y v' e1 e2 e3=> ?_⟩,cell:=λy c e=> ?_,free:=I.free,fV:=I.fV,pin:=λp hp=> ?_,hok:=left hs,len:=by simpa using I.len}
 .exact I.base.past (λb ob lt q=> ⟨ob.slots,(hs.2 b (far b lt)).trans q⟩) λb ob lt _ q=>(hs.2 b (far b lt)).trans q
 .rcases eB e2 with⟨_,z⟩| ⟨hj,e2⟩
  .cases z
  .obtain⟨w,zi,look⟩:=names j y v' e1 e2 e3;have ny:y≠x:=λe=>hj (lF hN hk (e▸e1));exact⟨w,zi,look.imp (λ⟨a,b⟩=> ⟨a,(Gam ny).trans b⟩) λ⟨a,c,b,z⟩=> ⟨a,c,b,z.sameBut hs (I.cne y c b)⟩⟩
 .exact(I.cell y c e).imp λ_ z=>z.sameBut hs (I.cne y c e)
 .obtain⟨q1,q2,q3,q4⟩:=I.pin p hp;exact⟨(hs.2 _ q3).trans q1,q2,q3,q4⟩
end
section
variable{K:au}{H0 H H' :Hp}{e8:Addr->Prop}{env:Env}{Z:St}{k:Nat}
theorem gk{j:Nat}(h:ba (env.set k none)[j]?):k≠j/\ba env[j]? :=by
 by_cases q:k=j
 .subst q;by_cases z:k<env.length
  .rw[b9 z] at h;exact h.elim
  .rw[GaS (by simpa using Nat.le_of_not_lt z)] at h;exact h.elim
 .rw[Gab q] at h;exact⟨q,h⟩
theorem aA.clear(E:aA K H0 e8 env Z H)(k:Nat):aA K H0 e8 (env.set k none) (Z.set k none) H:=by
 have cln:∀b,Cln e8 env Z b->Cln e8 (env.set k none) (Z.set k none) b:=λb ⟨h1,h2⟩=> ⟨h1,λj t e=>by
  obtain⟨q,t⟩:=gk t;rw[Gab q] at e;exact h2 j t e⟩
 have at' :∀{i:Nat} {s:Slot},(env.set k none)[i]? =some (some s)->k≠i/\env[i]? =some (some s):=λe=>by
  rcases eB e with⟨_,z⟩|z
  .cases z
  .exact z
 refine⟨E.same,by simpa using E.len,E.bad,λi d e=> ?_,λi d e=> ?_,λi d e=> ?_,λi j a t1 t2 e1 e2=> ?_⟩
 .obtain⟨q,e⟩:=at' e;obtain⟨v,h1,h2⟩:=E.sh i d e;exact⟨v,by rw[Gab q];exact h1,h2.imp cln⟩
 .obtain⟨q,e⟩:k≠i/\(env[i]? =some (some (.own d))\/env[i]? =some (some (.lok d))):=by
   rcases e with e|e
   .exact⟨(at' e).1,.inl (at' e).2⟩
   .exact⟨(at' e).1,.inr (at' e).2⟩
  obtain⟨a,h1,h2,h3,h4,h5,h6⟩:=E.ow i d e;exact⟨a,by rw[Gab q];exact h1,h2,h3,h4,h5,h6.imp cln⟩
 .obtain⟨q,e⟩:=at' e;obtain⟨a,h1,h2,h3,h4⟩:=E.bo i d e;exact⟨a,by rw[Gab q];exact h1,h2,h3,h4.imp cln⟩
 .obtain⟨q1,_⟩:=gk t1.top;obtain⟨q2,zf⟩:=gk t2;rw[Gab q1] at t1 e1;rw[Gab q2] at e2;exact E.dj i j a t1 zf e1 e2
theorem Stp.clear:Stp env Z H (env.set k none) (Z.set k none) H:=⟨λ_ _ e _=>e,λb ⟨j,h,e⟩=>by
 obtain⟨q,_⟩:=gk h.ol.top;rw[Gab q] at h e;exact .inl ⟨j,h,e⟩,λj h=>by
 obtain⟨q,_⟩:=gk h.top;exact⟨Gab q,Gab q⟩⟩
end
def IT:ie->Option RX
 | .ret d _=>if d.imm then some (.ok d) else none
 | .nx _=>some (.ok .non)
 | .ex C n d=>some (.exc C n d)
 |_=>none
def B6(n np:Nat)(body:DW):List D->Option RX:=λds=>if ds.length=np/\argsOk [] ds=true then(body (bt [] n ds)).bind IT else none
def spR(K:au)(np:Nat)(sp:List D->Option RX):Sp:=λvs H Q E=>∃ds r,ds.length=np/\aI K (λa=>Wr H a) H ds vs/\sp ds=some r/\match r with
 | .ok d=>∀v H',aW H H' ->d.imm=true->Rep K (λ_=>False) H' d v->Q v H'
 | .exc C n d=>∀v dx H',aW H H' ->H dx=none->H' dx=some (.xd [(n,v)])->d.imm=true->Rep K (λ_=>False) H' d v->E (.ref C) (some dx) H'
variable{H:Hp}
theorem Gi:hole (λ_=>False) H=H:=funext λb=>mr λz=>z
theorem B7{K:au}{d:D}{v:V}(r:Rep K (λa=>Wr H a) H d v)(ok:d.aQ=true):AV K (λ_=>False) H d v:=by
 by_cases t:d.top=true
 .refine .inl ⟨t, ?_⟩;have ri:=r.inn;cases r with
  |lst f h l r=>exact⟨_,rfl,λz=>z,f,ri.imp λ_ _ z=>z⟩
  |obj f h ln kd l r=>exact⟨_,rfl,λz=>z,f,ri.imp λ_ _ z=>z⟩
  |_=>cases t
 .exact .inr ⟨by simpa using t,r.imp λ_ _ z=>z⟩
section
variable{P:Program}{w:World}{K:au}{mg:Str->Option Value}{base:Heap}{x qual:Str}{sd:Stmt}{fa:Addr}{fd:FuncData}{N ps:List Str}{k np:Nat}{body:DW}
theorem IU(F:Fun K x qual sd fa fd)(S:cp N ps (aw sd))(xJ:ps.length=np)
  (eX:∀(eJ:Value) (A:Around) (outer:List PySem.Env) (s:Shared) (H:Hp) (E:XK),bP k (A.deeper (envOfC qual (aw sd) s.heap.objs.size fa eJ))->XL (cJ (CXE P w K) P w K mg base N qual (aw sd) fa eJ A outer s H E) E->
   PSs (cJ (CXE P w K) P w K mg base N qual (aw sd) fa eJ A outer s H E) (bI sd) (tW (cJ (CXE P w K) P w K mg base N qual (aw sd) fa eJ A outer s H E) H (λ_ _=>False) E body)):bH P w K mg base (CXE P w K) (k+1) fa fd ps (spR K np (B6 N.length np body)):=by
 obtain⟨oc,od,kV,doc,pm,an,eJ,ct,yf,rfl,lk,eV⟩:=F.ex;refine si lk eV S (λvs H Q E h=> ?_) λA outer s H vs Q E hr h=> ⟨_,eX eJ A outer s H E hr (λe7 Z H s a B C f dx n v I cl ha ea ed hE=>AQ I cl ha ea ed hE), ?_⟩
 .obtain⟨ds,d,h1,h2,_⟩:=h;rw[<-h2.1,h1,xJ]
 .obtain⟨ds,r,h1,h2,h3,k⟩:=h;unfold B6 at h3;split at h3
  .rename_i q;obtain⟨o,ho,h3⟩:=e6 h3;have hl:ds.length<=N.length:=by
    have:=congrArg List.length S.pre;rw[Gbi] at this;lia
   have okr:∀{k:Nat} {d},ds[k]? =some d->d.aQ=true:=λ{k d} e=>by
    have hk:=(Gac.mp e).1;have:=Gau.mp q.2 k (GbJ.mpr hk);rw[GaT,e] at this;exact this.resolve_left λz=>by simp at z
   obtain⟨EO,kn⟩:=iZ (K:=K) (N:=N) (J:=[]) (A:=λ_=>False) (H:=H) hl h2.1 q.2 (λ_ z=>z.elim) (λk d v e1 e2=> .inr ⟨by simp,B7 (h2.2 k d v e1 e2) (okr e1)⟩) (λ_ z=>by simp at z);rw[Gi] at EO kn;refine⟨bt [] N.length ds,o,⟨_,EO,λ_ _ z=>z.elim,kn⟩,ho, ?_⟩;cases o with
   |ret d' e=>
    have h3:(if d'.imm then some (RX.ok d') else none)=some r:=h3;split at h3
    .rename_i im;cases h3
     exactλv Z H' ⟨_,E',_⟩ r=>k v H' E'.same im r
    .cases h3
   |nx e=>cases h3;exactλZ H' ⟨_,E',_⟩=>k .non H' E'.same rfl .non
   |bk e=>cases h3
   |ct e=>cases h3
   |ex C n d=>cases h3;exact k
  .cases h3
end
open PySem.W (findIn clsIn mroIn looks_findIn looks_clsIn looks_mroIn looks_find InstAt check_slot Looks findObj findObj_data specialIn takesIn KitX kitOne kia_one class_get handed_on)
section
variable{X:Cx}{e:Expr}{f:DE}{pos:Pos}
variable{v:V}
theorem rh{u:Value}(r:RelV v u):PySem.W.handedIn u=true:=by
 cases v<;>first|(obtain⟨t,q⟩:=r;cases q;rfl)|(cases(show u=_ from r);rfl)
theorem Ex{e7:LAO}{Z:L2.St}{H:Hp}{s:Shared}{a:Addr}{C:Nat}{n:Str}(I:Inv X e7 Z H s)(h:Xc H a C n v):∃dx vs sl od,s.heap.get? a=some {cls:= .ref C,dict:=some dx,data:= .fields vs,slots:=sl}/\InstAt s.heap a {cls:= .ref C,dict:=some dx,data:= .fields vs,slots:=sl} C (some od)/\H dx=some (.frz od (.xd [(n,v)])):=by
 obtain⟨dx,vs,sl,od,h1,h2⟩:=h;obtain⟨q1,_⟩:=(show bu X.prog X.w H s.heap a (.frz _ (.own a)) from I.hok a _ h1)
 obtain⟨q2,_⟩:=(show bu X.prog X.w H s.heap dx (.frz od _) from I.hok dx _ h2)
 exact⟨dx,vs,sl,od,q1,⟨q1,rfl,rfl,q2⟩,h2⟩
theorem Ey{m:Str}{cs:List Nat}(yZ:∀C∈cs,∃B fI,XCl X.K B C fI m)(he:PEd X e f)(hb:autoParam (attributeBase e m X.env (eval e X.env)=eval e X.env) Za1._auto_1):PEd X (.Attribute e m pos) (AR cs m f):=by
 intro e7 s Z H Q I hw;obtain⟨H0,e8,env,rv,EO,e0,k⟩:=hw;obtain⟨r,hr,eo⟩:=e6 e0;clear e0;have h0:tE X f Z H λv H1=>aW H H1/\df X.K H0 e8 env Z H H1 r v:=⟨H0,e8,env,r,EO,hr,λv H1 s1 R=> ⟨s1,R⟩⟩
 refine se hb (thn (he e7 s Z H _ I h0) λu s1 ⟨v,H1,I1,rl,sm,R⟩=> ?_);obtain⟨kd,d⟩:=r;cases kd with
 |c=>
  dsimp only at eo;cases d with
  |exc C n d=>
   replace eo:(if cs.contains C=true/\n=m then some ⟨.c,d⟩ else none)=some rv:=eo;by_cases q:cs.contains C=true/\n=m
   .rw[Gak q] at eo;obtain⟨qc,rfl⟩:=q;have e9:=Option.some.inj eo;subst e9;have R:Rep X.K (Cln e8 env Z) H1 (.exc C n d) v:=R;cases R with
    |exc hx rd=>
     obtain⟨B,fI,cl⟩:=yZ C (by simpa using qc);obtain rfl:u=Value.ref _:=rl;obtain⟨dx,vs,sl,od,q1,IA,h2⟩:=Ex I1 hx;obtain⟨_,mA,ns,xr⟩:=(show bu X.prog X.w H1 s1.heap dx (.frz od (.xd _)) from I1.hok dx _ h2)
     have hv:=xr n;simp only[Gas,beq_self_eq_true] at hv;cases em:mA n with
     |none=>rw[em] at hv;exact hv.elim
     |some u2=>
      rw[em] at hv;obtain⟨cd,c1,_,c3⟩:=cl.cd;refine AN I1.kIn cl.ga cl.gt cl.be c1 c3 cl.nf ⟨sl,q1⟩ ns em (rh hv) ?_;exact⟨_,H1,I1.tok _,hv,k _ H1 sm rd⟩
   .rw[Gam q] at eo;cases eo
  |_=>cases eo
 |_=>cases eo
end
def kf(rs:List RV):Bool:=rs.all λr=>r.d.imm||match r.k with
 | .tn=>r.d.aQ
 | .to=>r.d.aQ
 |_=>false
theorem Ez{K:au}{H0 H H' :Hp}{e8:Addr->Prop}{env:Env}{Z:St}{rs:List RV}{vs:List V}(p:Paired (df K H0 e8 env Z H H') rs vs)(h:kf rs=true):aI K (λa=>Wr H' a) H' (rs.map (·.d)) vs:=by
 have one:∀{d:D} {a:Addr},Wr H' a->d.top=true->d.aQ=true->Inn K (Cln e8 env Z) H' d (.ref a)->Rep K (λa=>Wr H' a) H' d (.ref a):=λ{d a} w t ok i=>by
  have i' :Inn K (λa=>Wr H' a) H' d (.ref a):=i.bS (λ_ _ z _=>z) t ok rfl;cases i' with
  |lst h r=>exact .lst w h r.1 r.2
  |obj h ln kd r=>exact .obj w h ln kd r.1 r.2
  |_=>cases t
 induction p with
 |nil=>exact aI.nil
 | @cons r v _ _ R t ih=>
  have h' :((r.d.imm||match r.k with
   | .tn=>r.d.aQ
   | .to=>r.d.aQ
   |_=>false)&&kf _)=true:=h
  rw[Gad] at h';refine aI.cons ?_ (ih h'.2);by_cases im:r.d.imm=true
  .exact R.inn.imm im
  .have q:=h'.1;rw[Bool.eq_false_iff.mpr im,Bool.false_or] at q;obtain⟨k,d⟩:=r;cases k with
   |c=>cases q
   |tb=>cases q
   |tn=>obtain⟨a,rfl,_,w,t,i⟩:=R;exact one w t q (i.imp λ_ z=>z.1)
   |to=>obtain⟨a,rfl,_,w,t,i⟩:=R;exact one w t q i
section
variable{X:Cx}{e7:LAO}{Z:L2.St}{H H1 H' :Hp}{s s1 s' :Shared}
theorem vJ{a B C Cn fI dx T:Addr}{n cn en:Str}{v:V}{k:Nat}{p5 p9:Pos}{Q:Flow->Shared->Prop}{hb:Stmt}{yz:List Stmt}{ts:TS}{N:L2.St->Hp->Prop}(I1:Inv X e7 Z H1 s1)(cx:IK X.prog X.w X.stack H1 s1 a C dx T n v H' s')(cl:XCl X.K B C fI n)(xw:X.stack=X.env::X.outer)(y6:X.env.frame=some X.env.locals)
  (hm:exmOne X.K (.ref C) (.ref Cn)=some true)(hg:Gl X cn)(yJ:X.mg cn=some (.ref Cn))(hN:X.N.Nodup)(hk:X.N[k]? =some en)(xY:X.env.scope.names.lookup en=some .local)
  (st:PSs (hdl X (.ref a)) (hb::yz) ts)(hV:(cn==("__debug__":Str))=false)
  (ht:∀Hf,(∃vs sl od,Hf a=some (.frz {cls:= .ref C,dict:=some dx,data:= .fields vs,slots:=sl} (.own a))/\Hf dx=some (.frz od (.xd [(n,v)])))->(∀b,b≠a->b≠dx->Hf b=H' b)->ts {nx:=N,rt:=λ_ _=>False} (Z.set k (some (.ref a))) Hf)
  (hq:∀Z' Hf s2,N Z' Hf->Inv X e7 (Z'.set k none) Hf s2->Q .next s2):
  wpAny (model X.prog X.w) X.A (noteFrame (.ref a) X.env) (λ_ s2=>wpAny (model X.prog X.w) X.A (setFlight (.ref a) none) (λ_ s3=>wpAny (model X.prog X.w) X.A (handleBy (.ref a) X.env [.ExceptHandler (some (.Name cn p5)) (some en) (hb::yz) p9]) Q X.xe s3) X.xe s2) X.xe s' :=by
 obtain⟨⟨t0,fx⟩,_,_⟩:=(show bu X.prog X.w H' s'.heap a (.ext (X2 a C dx T)) from cx.hok a _ cx.obj)
 obtain⟨ts,ft,q3⟩:=cx.trc;obtain⟨mA,QT,Po⟩:=(show bu X.prog X.w H' s'.heap dx (.xd [(n,v)]) from cx.hok dx _ cx.dct)
 obtain⟨od,RE,RF,QA,zj⟩:=id QT;have nd:dx≠a:=wa cx.dct cx.obj (λz=>by cases z);have I2:Inv X e7 Z H' s' :=I1.oX (ch:=[]) cx.os cx.un cx.hok cx.bare (λ_ z=>nomatch z);have lo:Loose (H' a):=by rw[cx.obj];trivial
 have stk:s'.heap.FunFrames X.base (X.env::X.outer):=xw▸I2.stack;have free:∀b∈frs (X.env::X.outer),H' b=none:=xw▸I2.je;refine pR (base:=X.base) (I1.ok.frames.trans (by rw[xw])) stk y6 fx (.inr ⟨T,_,_,ts,rfl,cx.ne,ft,q3⟩) λh' T' yt fe n1 le yO QR k1 k2=> ?_;have keep:∀b u,b≠a->H' b≠none->s'.heap.get? b=some u->h'.get? b=some u:=λb u nb z q=>k2 b u nb (λe=>by cases e;exact z cx.trf) (λm=>z (free b m)) q;have zo :h'.get? dx=some od:=keep dx od nd (by rw[cx.dct];simp) QA;obtain⟨sl,oa⟩:=id fe;have ltD:dx<s'.heap.objs.size:=Gaj QA;have un1:Un (frs X.stack) [] H1 H' s1.heap h' :=cx.un.past (λb ob lt q=>k1 b ob (Gaq (Gah lt cx.new)) (λe=>by cases e;exact absurd (Gah lt cx.Ng) (GaI _)) q)
  λb ob lt m q=>k2 b ob (Gaq (Gah lt cx.new)) (λe=>by cases e;exact absurd (Gah lt cx.Ng) (GaI _)) (λz=>m (by rw[xw];exact z)) q
 obtain⟨Hf,fA,fD,fO,I3⟩:∃Hf:Hp,Hf a=some (.frz {cls:= .ref C,dict:=some dx,data:= .fields #[.ref t0,.ref T',.none,.none,.bool false,.none],slots:=sl} (.own a))/\Hf dx=some (.frz od (.xd [(n,v)]))/\(∀b,b≠a->b≠dx->Hf b=H' b)/\Inv X e7 Z Hf {s' with heap:=h' }:=by
  have lod:∀o,Loose (upd H' a o dx):=λo=>by rw[ak nd,cx.dct];trivial
  refine⟨upd (upd H' a (.frz {cls:= .ref C,dict:=some dx,data:= .fields #[.ref t0,.ref T',.none,.none,.bool false,.none],slots:=sl} (.own a))) dx (.frz od (.xd [(n,v)])),by rw[ak (GaG nd)];exact aE,aE,λb h1 h2=>by rw[ak h2,ak h1], ?_⟩;have ok1:HOk X.prog X.w (upd H' a (.frz {cls:= .ref C,dict:=some dx,data:= .fields #[.ref t0,.ref T',.none,.none,.bool false,.none],slots:=sl} (.own a))) h' :=cx.hok.jE lo keep (show _/\_ from⟨oa,_,oa⟩);have ok2:HOk X.prog X.w (upd (upd H' a (.frz {cls:= .ref C,dict:=some dx,data:= .fields #[.ref t0,.ref T',.none,.none,.bool false,.none],slots:=sl} (.own a))) dx (.frz od (.xd [(n,v)]))) h' :=ok1.jE (lod _) (λ_ _ _ _ q=>q) (show _/\_ from⟨zo,mA,⟨od,RE,RF,zo,zj⟩,Po⟩);exact I1.oX (s' :={s' with heap:=h' }) (ch:=[]) cx.os ((un1.jE lo).jE (lod _)) ok2 cx.bare (λ_ z=>nomatch z)
 have fT:Hf T' =none:=by rw[fO T' n1 (GaY (Gah ltD le))];exact cx.hok.fresh le
 have sz3:3<yt.size:=(Gbh.mp QR).1;refine wpAny_handleBy_cons (codeAny_handlers_test (dw (X:=hdl X (.ref a)) (I3.mark (.ref a)) hg yJ ?_ hV)) (by intro q;cases q);have LT:Looks (model X.prog X.w) h' (typeOf (.ref a)) (.ref C):=(Looks.ld oa).andThen .now;refine exm_one (M:=model X.prog X.w) I3.kIn LT hm _ _ _ _ (λ_ _ e=>e) (codeAny_handlers_suite_as ?_);refine Gae (fh (z:={s' with heap:=h' }) (i:=1) (x:= .ref T') fe rfl (Gbj (by simp) (iY (z:={s' with heap:=h' }) yO (λh2 QJ sb=> ?_) sz3)));have I4:Inv X e7 Z Hf {s' with heap:=h2}:=I3.turned (s:={s' with heap:=h' }) (h' :=h2) (t' :=s'.toks) (it:=T') (λb o nb q=>(sb.2 b nb).trans q) fT (GaY (Gah I2.lt le)) (.inr (GaE I2.sz le))
  (λx c e z=>by obtain⟨_,o,ho,_⟩:=I2.cell x c e;exact absurd (Gah (Gaj ho) le) (by rw[z];exact GaI _))
  λp hp z=>absurd (Gah (Gaj (I2.pin p hp).1) le) (by rw[z];exact GaI _)
 have hkZ:k<Z.length:=by rw[I1.len];exact(Gac.mp hk).1
 refine gY I4 hN hk (.inl xY) (v:= .ref a) rfl (λs5 I5=> ?_) (.inr xY);refine GaO (st e7 s5 (Z.set k (some (.ref a))) Hf {nx:=N,rt:=λ_ _=>False} (I5.mark (.ref a)) (ht Hf ⟨_,_,_,fA,fD⟩ fO)) (λf s6 q=> ?_) λ_ _ z=>z.elim;cases f with
 |brk=>obtain⟨_,_,_,z⟩:=q;exact z.elim
 |cont=>obtain⟨_,_,_,z⟩:=q;exact z.elim
 |ret u=>obtain⟨_,_,_,_,_,z⟩:=q;exact z.elim
 |next=>
  obtain⟨Z6,H6,I6,e1⟩:=q;have I6:=I6.unmark I1.ok.hd;have hk6:k<Z6.length:=by rw[I6.len];exact(Gac.mp hk).1
  refine Gae (wpAny_bindName (gY I6 hN hk (.inl xY) (v:= .non) rfl (λs7 I7=> ?_) (.inr xY)));refine Gch (vI I7 hN hk xY (v:= .non) (Gav (by simpa using hk6)) λs8 I8=> ?_);rw[GcF] at I8;exact hq _ _ s8 e1 I8
theorem vK{k np:Nat}{fa:Addr}{fd:FuncData}{ps:List Str}{sp:List D->Option RX}{x:Str}{p pos:Pos}{e:Expr}{es:List Expr}{a:DA}{r:RX}{rs:List RV}{H0:Hp}{e8:Addr->Prop}{env:Env}{Q:VSP}{E:VSP}
  (F:bH X.prog X.w X.K X.mg X.base (CXE X.prog X.w X.K) k fa fd ps (spR X.K np sp))(hr:bP k X.A)(hg:Gl X x)(hm:X.mg x=some (.ref fa))(hk:PySem.W.keepIn X.K (.ref fa)=true)(hb:Binds X.K fd ps [])(ha:PAd X.nox (e::es) a)
  (I:Inv X e7 Z H s)(EO:aA X.K H0 e8 env Z H)(xI:a env=some rs)(hl:rs.length=np)(hw:kf rs=true)(xG:sp (rs.map (·.d))=some r)
  (hok:∀d,r= .ok d->∀u s' v H1 H',Inv X e7 Z H' s' ->RelV v u->aW H H1->aW H1 H' ->d.imm=true->Rep X.K (λ_=>False) H' d v->Q u s')
  (hex:∀C n d,r= .exc C n d->∀B f a dx T v s1 s' H1 H',Inv X e7 Z H1 s1->aW H H1->XCl X.K B C f n->IK X.prog X.w X.stack H1 s1 a C dx T n v H' s' ->aW H1 H' ->H1 dx=none->d.imm=true->Rep X.K (λ_=>False) H' d v->E (.ref a) s')
  (hV:(x==("__debug__":Str))=false)(he:starEach (e::es) X.env=(false,eval e X.env)::starEach es X.env)(hR:(backTo pos (starEach es X.env)).any (·.1)=false):
  wpAny (model X.prog X.w) X.A (eval (.Call (.Name x p) (e::es) [] pos) X.env) Q E s:=by
 refine Gbu (dw I hg hm ?_ hV);have zv :PA (X.cm E) (e::es) (tA X a):=PA.nox (X:=X.cm E) ha;have h0:tA X a Z H λvs H1=>aW H H1/\Paired (df X.K H0 e8 env Z H H1) rs vs:=⟨H0,e8,env,rs,EO,xI,λvs H1 s1 R=> ⟨s1,R⟩⟩
 refine Gcz (h₀:=X.base) I.ok.mod.kin hk (thn (zv pos e7 s Z H _ (I.cm E) h0) λus s1 ⟨vs,H1,I1,rv,sm,R⟩=> ⟨I1.kIn, ?_⟩) he hR;have I1:=I1.cz;have hsp' :spR X.K np sp vs H1 (λv H' =>aW H1 H' /\∃d,r= .ok d/\d.imm=true/\Rep X.K (λ_=>False) H' d v) (λc o H' =>∃C n d dx v,r= .exc C n d/\c= .ref C/\o=some dx/\aW H1 H' /\H1 dx=none/\H' dx=some (.xd [(n,v)])/\d.imm=true/\Rep X.K (λ_=>False) H' d v):=by
  refine⟨rs.map (·.d),r,by rw[Gax];exact hl,Ez R hw,xG, ?_⟩;cases r with
  |ok d=>exactλv H' s' im R' => ⟨s',d,rfl,im,R'⟩
  |exc C n d=>exactλv dx H' s' z e1 im e2=> ⟨C,n,d,dx,v,rfl,rfl,rfl,s',z,e1,im,e2⟩
 have eO:us.length=ps.length:=by rw[<-rv.length];exact F.len _ _ _ _ hsp'
 refine GbZ (GbK (F.run X.A X.stack s1 H1 ⟨us,[]⟩ us vs _ _ hr I1.D4 (by have:=hb s1 us I1.kIn (by rw[Gba];exact eO);rw[Gba] at this;exact this) rv hsp') λrr s2 hq=> ?_);cases rr with
 |error z=>
  obtain⟨a',B,C,f,dx,T,n,v,H',rfl,cl,cx,C',n',d,zD,v',e1,e2,e3,zh,z,e4,im,rep⟩:=hq;cases e2;cases e3
  have e5:=cx.dct.symm.trans e4;cases e5;exact hex _ _ _ e1 B f a' _ T _ s1 s2 H1 H' I1 sm cl cx zh z im rep
 |ok fl=>
  cases fl with
  |ret u=>
   obtain⟨v,H',I2,QQ,zh,d,e1,im,R'⟩:=I1.after hq;exact hok d e1 u s2 v H1 H' I2 QQ sm zh im R'
  |next=>exact False.elim hq
  |brk=>exact False.elim hq
  |cont=>exact False.elim hq
variable{kk np i k:Nat}{fa Cn:Addr}{fd:FuncData}{ps:List Str}{sp:List D->Option RX}{xi en cn fn:Str}{p1 p2 p3 p4 p5 p9 zk:Pos}{e:Expr}{es:List Expr}{a:DA}{cs:List Nat}{hb:Stmt}{yz:List Stmt}{g:DS}{H0:Hp}{Pn:Nat->V->Prop}{E:XK}
def vL(sp:List D->Option RX)(a:DA)(i:Nat)(cs:List Nat)(k:Nat)(g:DS):DW:=λenv=>(a env).bind λrs=>if kf rs=true then(sp (rs.map (·.d))).bind λr=>match r with
 | .ok d=>some (.nx (env.set i (some (.sh d))))
 | .exc C n d=>if cs.contains C then(g (env.set k (some (.sh (.exc C n d))))).bind λo=>match o with
  | .nx e=>some (.nx (e.set k none))
  |_=>none
  else none
 else none
theorem IV(F:bH X.prog X.w X.K X.mg X.base (CXE X.prog X.w X.K) kk fa fd ps (spR X.K np sp))(hr:bP kk X.A)(hg:Gl X fn)(hm:X.mg fn=some (.ref fa))(hk:PySem.W.keepIn X.K (.ref fa)=true)(Ry:Binds X.K fd ps [])(ha:PAd X.nox (e::es) a)(hl:∀env rs,a env=some rs->rs.length=np)
  (yZ:∀C∈cs,exmOne X.K (.ref C) (.ref Cn)=some true)(Ro:Gl X cn)(PY:X.mg cn=some (.ref Cn))(xw:X.stack=X.env::X.outer)(y6:X.env.frame=some X.env.locals)(hN:X.N.Nodup)(hi:X.N[i]? =some xi)(xV :X.N[k]? =some en)(R4:Loc X.env.scope xi)(xY:X.env.scope.names.lookup en=some .local)
  (hh:∀a,kY (hdl X (.ref a)) (hb::yz) g)
  (hs:swapsWith (.Call (.Name fn p2) (e::es) [] p3) (some (.Name xi p1)) p4.line X.env=pure false)
  (zq:X.fn xi=true\/X.env.scope.names.lookup xi=some .local)
  (yL:(fn==("__debug__":Str))=false)(hV:(cn==("__debug__":Str))=false)
  (he:starEach (e::es) X.env=(false,eval e X.env)::starEach es X.env)(hR:(backTo p3 (starEach es X.env)).any (·.1)=false):
  PS X (.Try [.Assign [.Name xi p1] (.Call (.Name fn p2) (e::es) [] p3) p4] [.ExceptHandler (some (.Name cn p5)) (some en) (hb::yz) p9] [] [] zk) (tW X H0 Pn E (vL sp a i cs k g)):=by
 rintro e7 s Z H D I ⟨env,o,EW,eo,ok⟩;obtain⟨e8,EO,pn,kn⟩:=id EW;obtain⟨rs,xI,eo⟩:=e6 eo;split at eo
 .rename_i hw;obtain⟨r,xG,eo⟩:=e6 eo;refine wpAny_Try_except (wpAny_execs_cons (wpAny_Assign_Name (vK F hr hg hm hk Ry ha I EO xI (hl env rs xI) hw xG (λd er u s' v H1 H' I' rv s1 s2 im R=> ?_) (λC n d er B f a' dx T v s1 s' H1 H' I1 sm cl cx s2 z im rep=> ?_) yL he hR) hs))
  .subst er;cases eo;exact gY I' hN hi R4 rv (λs3 I3=>GbD (GbD ⟨_,H',I3,ok _ _ ((EW.mono (s1.trans s2)).fH R i)⟩)) zq
  .subst er;dsimp only at eo;split at eo
   .rename_i q;obtain⟨o1,PV,eo⟩:=e6 eo;refine vJ (N:=λZ' QL =>∃e',o1= .nx e' /\b6 X.K H0 Pn e' Z' QL) I1 cx cl xw y6 (yZ C (by simpa using q)) Ro PY hN xV xY (hh a') hV (λHf hx ho=> ?_) λZ' Hf s3 ⟨e',ee,E'⟩ I3=> ?_
    .have za:=I1.hok.fresh cx.new;have sf:aW H Hf:=λb o e=>by
      have e1:=sm b o e;rw[ho b (aN e1 za) (aN e1 z)];exact s2 b o e1
     obtain⟨vs,sl,od,h1,h2⟩:=hx;have nt:∀{b o},H' b=some o->isT o->¬Loose (some o):=λ{b o} _ t=>by cases o<;>first|exact t.elim|exactλz=>z
     have r2:Rep X.K (λ_=>False) Hf d v:=rep.told im λb o e t=>by
      rw[ho b (dC (show Loose (H' a') by rw[cx.obj];trivial) e (nt e t)) (dC (show Loose (H' dx) by rw[cx.dct];trivial) e (nt e t))];exact e
     have r3:Rep X.K (λ_=>False) Hf (.exc C n d) (.ref a'):= .exc ⟨dx,vs,sl,od,h1,h2⟩ r2;obtain⟨B2,zG,Pp,Py⟩:=(EW.mono sf).fH r3 k;refine⟨H0,B2,_,o1,zG,PV, ?_⟩;cases o1 with
     |nx e1=>exactλZ' QL E' st=> ⟨e1,rfl,b6.stp Py Pp zG E' st⟩
     |bk e1=>cases eo
     |ct e1=>cases eo
     |ret d1=>cases eo
    .subst ee;cases eo;obtain⟨B2,zG,Pp,Py⟩:=E';exact⟨_,Hf,I3,ok _ _ (b6.stp Py Pp zG (zG.clear k) .clear)⟩
   .cases eo
 .cases eo
end
def my(i:Nat)(g:List D->List D):DW:=λenv=>(dB i env).bind λd=>match d with
 | .lst xs=>if(g xs).length<=aj/\a7 (g xs)=true then some (.nx (env.set i (some (.lok (.lst (g xs)))))) else none
 |_=>none
def dD(i:Nat)(f:DE):DW:=λenv=>(f env).bind λr=>my i (· ++[r.d]) env
def pX(i:Nat)(f:DE):DW:=λenv=>(f env).bind λr=>match r.d with
 | .lst ys=>my i (· ++ys) env
 |_=>none
theorem b6.Mc{K:au}{H0 H:Hp}{Pn:Nat->V->Prop}{env:Env}{Z:St}{i:Nat}{xs ys:List D}{us vs:List V}{a:Addr}{F:Addr->Prop}(E:b6 K H0 Pn env Z H)(e:env[i]? =some (some (.lok (.lst xs))))(ea:Z[i]? =some (some (.ref a)))(hH:H a=some (.lst vs))(rs:aI K F H ys us)(im:a7 ys=true):b6 K H0 Pn (env.set i (some (.lok (.lst ys)))) Z (upd H a (.lst us)):=by
 obtain⟨e8,EO,pn,kn⟩:=E;have hi:i<env.length:=(Gac.mp e).1;have E1:=EO.free (some i);have f1:de (some i) env=env.set i (some (.own (.lst xs))):=by unfold de;dsimp only;rw[e]
 rw[f1] at E1;have stT:∀b o,H b=some o->isT o->upd H a (.lst us) b=some o:=λb o eb t=>by
  rw[ak];exact eb
  rintro rfl;rw[hH] at eb;cases eb;exact t
 have E2:=((E1.change (d' := .lst ys) (o:= .lst us) (b9 hi) ea trivial rfl (.lst (.inl aE) (rs.bS stT im))).1.lock (some i)).1;have:aK (some i) ((env.set i (some (.own (.lst xs)))).set i (some (.own (.lst ys))))=env.set i (some (.lok (.lst ys))):=by
  unfold aK;dsimp only;rw[GcF,b9 hi];exact GcF ..
 rw[this] at E2;refine⟨e8,E2,λp v z q=>pn p v z ?_,λj C ns ds ej a' dx yr yh h ln=> ?_⟩
 .by_cases w:i=p
  .subst w;rw[e];trivial
  .rw[Gab w] at q;exact q
 .by_cases w:i=j
  .subst w;rw[b9 hi] at ej;cases ej
  .rw[Gab w] at ej;have:a' ≠a:=λz=>by
    subst z;exact w (EO.dj i j a' (by rw[e];trivial) (by rw[ej];trivial) ea yh)
   rw[ak this] at h;exact kn j C ns ds ej a' dx yr yh h ln
def Md:V->List V->Hp->VK->Prop:=λx vs H Q=>∃l b xs zs,x= .ref l/\vs=[.ref b]/\H l=some (.lst xs)/\Rd H b (.lst zs)/\xs.length+zs.length<=sizeLine/\Q .non (upd H l (.lst (xs++zs)))
section
variable{X:Cx}{H0:Hp}{Pn:Nat->V->Prop}{E:XK}{e:Expr}{f:DE}{pos:Pos}{i:Nat}{x:Str}
theorem EA:MtM X "list.extend" Md:=by
 intro e7 s Z H x vs v us Q I rx rv h;obtain⟨l,b,xs,zs,rfl,rfl,hH,hB,hz,q⟩:=h;cases rx;obtain⟨u,rfl,ru⟩:=rv.one;cases ru;obtain⟨z,eg,n,r,hl,e⟩:=I.wJ hH;obtain⟨z2,eD,n2,r2,e2⟩:=hB.ok I.hok;have yV:=r2.length;have xF:eg.toArray.size+eD.toArray.size<=sizeLine:=by rw[Gag,Gag];lia
 refine Gca GbX ⟨_,e,rfl⟩ PySem.F.entry_list_extend (PySem.F.args_list_extend_2 _ _)
  (AutoSeq1.list_extend_list_list_0 l eg.toArray n b eD.toArray n2 (by rw[pf xF,GbL];exact Gai) (by rw[Gag];lia) (by lia)) ⟨e,e2, ?_⟩
 exact⟨.non,_,I.De (its' :=eg++eD) hH e (by simp) (r.append r2) (by rw[GaJ];lia),rfl,q⟩
theorem kM{g:List D->List D}{env:Env}{o:ie}(h:my i g env=some o):∃xs,env[i]? =some (some (.lok (.lst xs)))/\(g xs).length<=aj/\a7 (g xs)=true/\o= .nx (env.set i (some (.lok (.lst (g xs))))):=by
 obtain⟨d,hd,h⟩:=e6 h;cases d with
 |lst xs=>
  dsimp only at h;split at h
  .rename_i q;cases h;exact⟨xs,cQ hd,q.1,q.2,rfl⟩
  .cases h
 |_=>cases h
variable{px apos eF:Pos}
theorem EB(hN:X.N[i]? =some x)(hv:Vis X.env.scope x)(hd:(x==("__debug__":Str))=false)(eV:(x==("__classdict__":Str))=false)(he:PEd X.nox e f)(eU:starEach [e] X.env=[(false,eval e X.env)])(eP:(apos.endLine==eF.line)=true):
  PS X (.Expr (.Call (.Attribute (.Name x px) "append" apos) [e] [] eF) pos) (tW X H0 Pn E (dD i f)):=by
 refine(gr (lO Gbc GbV GbW iA (ck hN hv hd eV) (PA.nox (bQ he dh eU)) rfl (by rw[eU];rfl) eP eU rfl) rfl).aB ?_;rintro D Z H ⟨env,o,EW,e,ok⟩;obtain⟨e8,EO,pn,kn⟩:=id EW;obtain⟨r,hr,e⟩:=e6 e;obtain⟨xs,el,sz,im,rfl⟩:=kM e;obtain⟨a,h1,h2,h3,h4,h5,h6⟩:=EO.ow i _ (.inr el);obtain⟨vs,hH,rp⟩:=fK h4 h6;refine⟨_,h1,.inl ⟨rfl,vs,.inl (.inl hH)⟩,H0,e8,env,[r],EO,by unfold a9 aD;rw[hr];rfl,λws H2 s2 Rs=> ?_⟩;cases Rs with
 | @cons _ v _ _ R1 tl=>
  cases tl;have xy:=s2 _ _ hH;have hd:r.d.imm=true:=jy im xs.length r.d (by simp);refine⟨a,vs,v,rfl,rfl,xy,by rw[GaJ,Gcl] at sz;rw[<-rp.1,<-eG];lia, ?_⟩;exact ok Z _ ((EW.mono s2).Mc el h1 xy ((rp.gen (.of_same s2) λ_ f _=>f).append (.cons (R1.inn.imm hd) .nil)) im)
theorem EC(hN:X.N[i]? =some x)(hv:Vis X.env.scope x)(hd:(x==("__debug__":Str))=false)(eV:(x==("__classdict__":Str))=false)(he:PEd X.nox e f)(eU:starEach [e] X.env=[(false,eval e X.env)])(eP:(apos.endLine==eF.line)=true):
  PS X (.Expr (.Call (.Attribute (.Name x px) "extend" apos) [e] [] eF) pos) (tW X H0 Pn E (pX i f)):=by
 refine(gr (lO Gbc GbX PySem.F.type_list_extend EA (ck hN hv hd eV) (PA.nox (bQ he dh eU)) rfl (by rw[eU];rfl) eP eU rfl) rfl).aB ?_;rintro D Z H ⟨env,o,EW,e,ok⟩;obtain⟨e8,EO,pn,kn⟩:=id EW;obtain⟨⟨kd,rd⟩,hr,e⟩:=e6 e;cases rd with
 |lst ys=>
  obtain⟨xs,el,sz,im,rfl⟩:=kM e;obtain⟨a,h1,h2,h3,h4,h5,h6⟩:=EO.ow i _ (.inr el);obtain⟨vs,hH,rp⟩:=fK h4 h6;refine⟨_,h1,.inl ⟨rfl,vs,.inl (.inl hH)⟩,H0,e8,env,[⟨kd,.lst ys⟩],EO,by unfold a9 aD;rw[hr];rfl,λws H2 s2 Rs=> ?_⟩;cases Rs with
  | @cons _ v _ _ R1 tl=>
   cases tl;have xy:=s2 _ _ hH;have ii:=R1.inn;cases ii with
   | @lst b us _ h r=>
    refine⟨a,b,vs,us,rfl,rfl,xy,h,by rw[GaJ] at sz;rw[<-rp.1,<-r.1,<-eG];exact sz, ?_⟩;exact ok Z _ ((EW.mono s2).Mc el h1 xy ((rp.gen (.of_same s2) λ_ f _=>f).append r) im)
 |_=>cases e
end
def ED:ie->Option D
 | .ret d _=>if d.imm then some d else none
 | .nx _=>some .non
 |_=>none
def B8(n np:Nat)(body:DW):SpF:=λds=>if ds.length=np/\a7 ds=true then(body (bt [] n ds)).bind ED else none
section
variable{P:Program}{w:World}{K:au}{mg:Str->Option Value}{base:Heap}{x qual:Str}{sd:Stmt}{fa:Addr}{fd:FuncData}{N ps:List Str}{k np:Nat}{body:DW}
variable{d:D}
theorem tH(h:d.imm=true):d.top=false:=by cases d<;>first|rfl|simp[D.imm] at h
theorem vM(h:d.imm=true):d.aQ=true:=by cases d<;>first|exact h|simp[D.imm] at h
theorem IW(F:Fun K x qual sd fa fd)(S:cp N ps (aw sd))(xJ:ps.length=np)
  (eX:∀(eJ:Value) (A:Around) (outer:List PySem.Env) (s:Shared) (H:Hp) (E:XK),bP k (A.deeper (envOfC qual (aw sd) s.heap.objs.size fa eJ))->
   PSs (cJ CX0 P w K mg base N qual (aw sd) fa eJ A outer s H E) (bI sd) (tW (cJ CX0 P w K mg base N qual (aw sd) fa eJ A outer s H E) H (λ_ _=>False) (λ_ _ _=>False) body)):bH P w K mg base CX0 (k+1) fa fd ps (spD K np (B8 N.length np body)):=by
 obtain⟨oc,od,kV,doc,pm,an,eJ,ct,yf,rfl,lk,eV⟩:=F.ex;refine si lk eV S (λvs H Q E h=> ?_) λA outer s H vs Q E hr h=> ⟨_,eX eJ A outer s H E hr, ?_⟩
 .obtain⟨ds,d,h1,h2,_⟩:=h;rw[<-h2.1,h1,xJ]
 .obtain⟨ds,d,h1,h2,h3,k⟩:=h;unfold B8 at h3;split at h3
  .rename_i q;obtain⟨o,ho,h3⟩:=e6 h3;have hl:ds.length<=N.length:=by
    have:=congrArg List.length S.pre;rw[Gbi] at this;lia
   have im:∀{k:Nat} {d},ds[k]? =some d->d.imm=true:=λ{k d} e=>jy q.2 k d e;have ao:argsOk [] ds=true:=Gau.mpr λk hk=>by
    have hk:=GbJ.mp hk;rw[Gal hk];rw[GaT];exact .inr (vM (im (Gal hk)))
   obtain⟨EO,kn⟩:=iZ (K:=K) (N:=N) (J:=[]) (A:=λ_=>False) (H:=H) hl h2.1 ao (λ_ z=>z.elim) (λk d v e1 e2=> .inr ⟨by simp,.inr ⟨tH (im e1),(h2.2 k d v e1 e2).imm (im e1)⟩⟩) (λ_ z=>by simp at z);rw[Gi] at EO kn;refine⟨bt [] N.length ds,o,⟨_,EO,λ_ _ z=>z.elim,kn⟩,ho, ?_⟩;cases o with
   |ret d' e=>
    have h3:(if d'.imm then some d' else none)=some d:=h3;split at h3
    .rename_i im;cases h3
     exactλv Z H' ⟨_,E',_⟩ r=>k v H' E'.same ⟨λt=>(by rw[tH im] at t;cases t),r.inn.imp λ_ z=>z.elim⟩
    .cases h3
   |nx e=>cases h3;exactλZ H' ⟨_,E',_⟩=>k .non H' E'.same ⟨λt=>(by cases t),.non⟩
   |bk e=>cases h3
   |ct e=>cases h3
   |ex C n d=>cases h3
  .cases h3
end
def jG(i j:Nat):DS:=λenv=>(ownAt i env).bind λd=>(ownAt j env).bind λe=>match d,e with
 | .lst xs,.lst ys=>if a7 xs=true/\a7 ys=true then some (.ret (.tup [.lst xs,.lst ys])) else none
 |_,_=>none
section
variable{X:Cx}{i j:Nat}{x y:Str}{p q pos pos' :Pos}{c:Nat}
theorem EG(hi:X.N[i]? =some x)(hv:Vis X.env.scope x)(hd:(x==("__debug__":Str))=false)(eV:(x==("__classdict__":Str))=false)(hj:X.N[j]? =some y)(PK:Vis X.env.scope y)(hd2:(y==("__debug__":Str))=false)(Q6:(y==("__classdict__":Str))=false)(hs:starEach [.Name x p,.Name y q] X.env=(false,eval (.Name x p) X.env)::starEach [.Name y q] X.env)(hW:starEach [.Name y q] X.env=(false,eval (.Name y q) X.env)::starEach [] X.env):
  PSd X (.Return (some (.Tuple [.Name x p,.Name y q] c pos)) pos') (jG i j):=by
 refine(nS (wC (cN (ck hi hv hd eV) (cN (ck hj PK hd2 Q6) gu hW) hs))).aB ?_;rintro D Z H ⟨H0,e8,env,o,E,e,k⟩;obtain⟨d1,q1,e⟩:=e6 e;obtain⟨d2,q2,e⟩:=e6 e;split at e
 .rename_i xs ys;split at e
  .rename_i im;cases e;obtain⟨a,h1,h2,_,h4,_,h6⟩:=E.ow i _ (.inl (f6 q1));obtain⟨b,g1,g2,_,g4,_,g6⟩:=E.ow j _ (.inl (f6 q2));refine⟨_,h1,_,g1,(show 2<=sizeLine by decide),λt ht=>k _ _ (E.same.trans (aV ht)) ⟨λz=>(by cases z), ?_⟩⟩;obtain⟨vs,hH,rp⟩:=fK h4 h6;obtain⟨us,gH,rq⟩:=fK g4 g6;have sm:aW H (upd H t (.tup [.ref a,.ref b])):=aV ht;have na:a≠t:=λz=>by subst z;rw[hH] at ht;cases ht
   have nb:b≠t:=λz=>by subst z;rw[gH] at ht;cases ht
   have r1:=aI.bS (F' :=λb=>H0 b=none/\V.ref t≠ .ref b) (λb o e _=>sm b o e) rp im.1;have r2:=aI.bS (F' :=λb=>H0 b=none/\V.ref t≠ .ref b) (λb o e _=>sm b o e) rq im.2;exact .tup aE (.cons (.lst ⟨h2,λz=>na (by cases z;rfl)⟩ (.inl (sm _ _ hH)) r1.1 r1.2) (.cons (.lst ⟨g2,λz=>nb (by cases z;rfl)⟩ (.inl (sm _ _ gH)) r2.1 r2.2) .nil))
  .cases e
 .cases e
end
open PySem.Builtin PySem.Builtin.Str
def kg:D->D->Option RV
 | .str x,.str y=>if(y.length==0)=false/\x.length+2<=aj then some ⟨.tn,.lst ((Txt.split x y).map .str)⟩ else none
 |_,_=>none
theorem nF:∀(k:Nat) (xs:List Str),Vals (xs.map V.str) (strsFrom k xs)
 |_,[]=> .nil
 |k,x::xs=> .cons ⟨k,rfl⟩ (nF (k+1) xs)
theorem nG{K:au}{F:Addr->Prop}{H:Hp}:∀(xs:List Str),aI K F H (xs.map .str) (xs.map V.str)
 |[]=> .nil
 |x::xs=> .cons (.str x) (nG xs)
section
variable{X:Cx}
theorem B9:MtR X "str.split" (λx xs H Q=>∃a b,x= .str a/\xs=[.str b]/\(b.length==0)=false/\a.length+2<=sizeLine/\∀p,H p=none->Q (.ref p) (upd H p (.lst ((Txt.split a b).map V.str)))):=by
 intro e7 s Z H x xs v us Q I rx rs h;obtain⟨a,b,rfl,rfl,hb,hz,q⟩:=h;obtain⟨t,rfl⟩:=rx;obtain⟨u,rfl,t2,rfl⟩:=vals1 rs;have fin:∀{l:List Value} {ys:List Str} {k:Nat},Txt.split a b=ys->Vals (ys.map V.str) l->ys.length<=sizeLine->EP X e7 Z Q (.ref s.heap.objs.size) {s with heap:=s.heap.push {cls:= .type "list",data:= .seq l.toArray},toks:=k}:=λ{l ys k} e hv z=>by
  subst e;exact⟨.ref _,_,I.Lf (t' :=k) hv (by rw[Gax];exact z),rfl,q _ I.fresh⟩
 have one:Vals ([a].map V.str) [Value.str a t]:= .cons ⟨t,rfl⟩ .nil;by_cases h1:(decide (a.length<b.length)||decide (strKind a<strKind b))=true
 .exact Gca F.slot_str_split (typeIs_str _ _ _) F.entry_str_split (F.args_str_split_2 _ _) (meets_str_split_cannot_occur a b t t2 h1) (fin (k:=s.toks) (by unfold Txt.split;rw[Gak h1]) one (by show 1<=sizeLine;lia))
 .by_cases hf:(occurrences a b 0 a.length (a.length+1)).isEmpty=true
  .exact Gca F.slot_str_split (typeIs_str _ _ _) F.entry_str_split (F.args_str_split_2 _ _) (meets_str_split_not_found a b t t2 (by simpa using h1) hb hf) (fin (k:=s.toks) (by unfold Txt.split;rw[Gam h1,Gak hf]) one (by show 1<=sizeLine;lia))
  .have hn:(partsBetween a (occurrences a b 0 a.length (a.length+1)) b.length).length<=sizeLine:=by
    have:=StrLaws.occ_length_le a b 0 a.length (a.length+1);rw[length_partsBetween];lia
   exact Gca F.slot_str_split (typeIs_str _ _ _) F.entry_str_split (F.args_str_split_2 _ _) (meets_str_split_sep a b t t2 (by simpa using h1) hb (by simpa using hf) (by lia) hn) (fin (by unfold Txt.split;rw[Gam h1,Gam hf]) (nF s.toks _) hn)
variable{a:Expr}{f g:DE}
theorem Ba{o:Expr}{apos eF:Pos}(ho:PEd X o f)(he:PEd X a g)(eU:autoParam (starEach [a] X.env=[(false,eval a X.env)]) Za1._auto_1)
  (xj:autoParam (attributeBase o "split" X.env (eval o X.env)=eval o X.env) Za1._auto_1)
  (eP:autoParam ((apos.endLine==eF.line)=true) Za1._auto_1):PEd X (.Call (.Attribute o "split" apos) [a] [] eF) (opE kg f g):=by
 refine(lO PySem.F.plainAttrs_str PySem.F.slot_str_split PySem.F.type_str_split B9 ho (bQ he dh eU) xj (by rw[eU];rfl) eP eU rfl).aB ?_;rintro Z H Q ⟨H0,e8,env,rv,E,e,k⟩;obtain⟨⟨kx,dx⟩,hx,e⟩:=e6 e;obtain⟨⟨ky,dy⟩,hy,e⟩:=e6 e;have e' :kg dx dy=some rv:=e;unfold kg at e';split at e'
 .rename_i xs ys;split at e'
  .rename_i z;cases e';refine⟨H0,e8,env,_,E,hx,λvx H1 s1 R1=> ?_⟩;have i1:Inn X.K (Cln e8 env Z) H1 (.str _) vx:=R1.inn;cases i1;refine⟨rfl,H0,e8,env,[⟨ky,_⟩],E.mono s1,by unfold a9 aD;rw[hy];rfl,λws H2 s2 Rs=> ?_⟩;cases Rs with
   | @cons _ v _ _ R2 tl=>
    cases tl;have i2:Inn X.K (Cln e8 env Z) H2 (.str _) v:=R2.inn;cases i2;refine⟨_,_,rfl,rfl,z.1,by rw[<-eG];exact z.2,λp hp=>k _ _ ((s1.trans s2).trans (aV hp)) ?_⟩;exact⟨p,rfl,(s1.trans s2).free hp,iU,rfl,.lst (.inl aE) (nG _)⟩
  .cases e'
 .cases e'
end
noncomputable def kD:Key->D
 | .inl i=> .int i
 | .inr x=> .str x
def jH(x y:D):Option Bool:=match y with
 | .kt ks=>if aJ 10 x=true then some ((ks.map kD).any λy=>eqD y x) else none
 |d=>inB x d
def gO(x y:D):Option Bool:=(jH x y).map (!·)
noncomputable def lkT(tbl:List (Key×List Key))(k:Key):Option (List Key):=(tbl.find? λp=>p.1=k).map (·.2)
@[simp] def kdE(tbl:List (Key×List Key))(f:DE):DE:=λenv=>(f env).bind λr=>(keyOf r.d).bind λk=>(lkT tbl k).map λks=> ⟨.c,.kt ks⟩
@[simp] def kdT(neg:Bool)(tbl:List (Key×List Key))(f:DE):DT:=λenv=>(f env).bind λr=>(keyOf r.d).map λk=>if neg then !(lkT tbl k).isSome else(lkT tbl k).isSome
theorem ly{K:au}{F:Addr->Prop}{H:Hp}:∀ks:List Key,aI K F H (ks.map kD) (ks.map kV)
 |[]=> .nil
 | .inl i::ks=> .cons (.int i) (ly ks)
 | .inr x::ks=> .cons (.str x) (ly ks)
theorem mz:∀ks:List Key,(ks.map kD).all (aJ 10)=true
 |[]=>rfl
 | .inl i::ks=>mz ks
 | .inr x::ks=>mz ks
def KDk(P:Program)(w:World)(K:au)(a:Addr)(tbl:List (Key×List Key)):Prop:=(a==sysModules)=false/\∃o vs,K.lookup a=some o/\o.IsDictOf (dO P w) vs/\Paired (λ(p:Key×List Key) (q:Key×Value)=>p.1=q.1/\∃b,q.2= .ref b/\Kt K b p.2) tbl vs
theorem KDk.at{K:au}{tbl:List (Key×List Key)}{vs:List (Key×Value)}(h:Paired (λ(p:Key×List Key) (q:Key×Value)=>p.1=q.1/\∃b,q.2= .ref b/\Kt K b p.2) tbl vs)(k:Key):(lkT tbl k=none/\valueAt vs k=none)\/∃ks b,lkT tbl k=some ks/\valueAt vs k=some (.ref b)/\Kt K b ks:=by
 induction h with
 |nil=>exact .inl ⟨rfl,rfl⟩
 | @cons p q ps qs hq t ih=>
  obtain⟨e,b,e2,hb⟩:=hq;unfold lkT valueAt;rw[List.find?_cons,List.find?_cons,<-e];by_cases z:p.1=k
  .rw[Gbt z];exact .inr ⟨p.2,b,rfl,by simp[e2],hb⟩
  .rw[GaZ z];exact ih
section
variable{X:Cx}{a b:Expr}{f g:DE}{pos:Pos}
variable{H:Hp}{neg:Bool}
theorem pY{F:Addr->Prop}{dx dy:D}{x y:V}{b:Bool}{Q:VK}(ix:Inn X.K F H dx x)(iy:Inn X.K F H dy y)(e:jH dx dy=some b)(q:Q (.bl (if neg then !b else b)) H):ox X.K neg x y H Q:=by
 unfold jH at e;split at e
 .rename_i ks;split at e
  .rename_i pl;cases e;cases iy with
   | @kt p _ h=>exact⟨p,ks.map kV,dx,ks.map kD,rfl,.inr (.inr h),pl,mz ks,ix.any,ly ks,q⟩
  .cases e
 .exact Ed ix iy e q
theorem EH:OpB X jH (ox X.K false):=λF H dx dy x y b Q ix iy e q=>pY (neg:=false) ix iy e q
theorem Bb:OpB X gO (ox X.K true):=λF H dx dy x y b Q ix iy e q=>by
 obtain⟨b',e',rfl⟩:=Gaa.mp e;exact pY (neg:=true) ix iy e' q
variable{ad:Addr}{c:Str}
theorem Me{ks:List Key}(hg:Gl X c)(hm:X.mg c=some (.ref ad))(hk:Kt X.K ad ks)(hV:(c==("__debug__":Str))=false):PEd X (.Name c pos) (kE (.kt ks)):=by
 rintro e7 s Z H Q I ⟨_,_,_,_,_,e,k⟩;cases e;exact dw I hg hm ⟨.ref ad,H,I,rfl,k _ H aU (.kt hk)⟩ hV
theorem KDk.heap{e7:LAO}{Z:St}{H:Hp}{s:Shared}{ad:Addr}{tbl:List (Key×List Key)}(h:KDk X.prog X.w X.K ad tbl)(I:Inv X e7 Z H s):(ad==sysModules)=false/\∃vs,s.heap.DictOf (dO X.prog X.w) ad vs/\Paired (λ(p:Key×List Key) (q:Key×Value)=>p.1=q.1/\∃b,q.2= .ref b/\Kt X.K b p.2) tbl vs:=by
 obtain⟨h0,o,vs,h1,h2,h3⟩:=h;exact⟨h0,vs,Heap.dictOf_iff.mpr ⟨o,I.kIn ad o h1,h2⟩,h3⟩
theorem tJ{F:Addr->Prop}{K:au}{d:D}{k:Key}{v:V}(h:keyOf d=some k)(i:Inn K F H d v):v=kV k:=by
 cases d<;>first|(cases h;cases i;rfl)|cases h
variable{p:Pos}{tbl:List (Key×List Key)}
theorem Mf(hu:X.A.units+1<cLine)(hg:Gl X c)(hm:X.mg c=some (.ref ad))(hk:KDk X.prog X.w X.K ad tbl)(hV:(c==("__debug__":Str))=false)(he:PEd X a f)(hs:Ht a):PEd X (.Subscript (.Name c p) a pos) (kdE tbl f):=by
 rintro e7 s Z H Q I ⟨H0,e8,env,rv,E,e,k⟩;obtain⟨r,hr,e⟩:=e6 e;obtain⟨ky,Q0,e⟩:=e6 e;obtain⟨ks,QD,rfl⟩:=Gaa.mp e;have h0:tE X f Z H λv H1=>aW H H1/\df X.K H0 e8 env Z H H1 r v:=⟨H0,e8,env,r,E,hr,λv H1 s1 R=> ⟨s1,R⟩⟩
 refine Dh PySem.F.slot_dict_getitem.lookup hs (dw I hg hm (thn (he e7 s Z H _ I h0) λu s1 ⟨v,H1,I1,rl,sm,R⟩=> ?_) hV);obtain⟨_,vs,dd,pr⟩:=hk.heap I1;obtain⟨o,es,ep,ho,ed,_⟩:=id dd;refine⟨⟨o,ho,ed.1⟩, ?_⟩;have ev:=tJ Q0 R.inn;subst ev;rcases KDk.at pr ky with⟨z,_⟩| ⟨QU,b,z1,z2,z3⟩
 .rw[QD] at z;cases z
 .rw[QD] at z1;cases z1
  exact wpAny_getItem_of (wK rl) dd.mapOf z2 ⟨.ref b,H1,I1.tok _,rfl,k _ H1 sm (.kt z3)⟩
theorem Gj{op:CmpOp}(ho:op=if neg then .NotIn else .In)(hg:Gl X c)(hm:X.mg c=some (.ref ad))(hk:KDk X.prog X.w X.K ad tbl)(hV:(c==("__debug__":Str))=false)(he:PEd X a f):PTd X (.Compare a [op] [.Name c p] pos) (kdT neg tbl f):=by
 have h1:PC X op a (.Name c p) (λZ H Q=>tE X f Z H λv H1=>∃k,v=kV k/\Q (.bl (if neg then !(lkT tbl k).isSome else(lkT tbl k).isSome)) H1):=by
  intro e7 s Z H Q I h;refine thn (he e7 s Z H _ I h) λu s1 ⟨v,H1,I1,rl,k,ev,q⟩=>dw I1 hg hm ?_ hV;subst ev;obtain⟨h0,vs,dd,pr⟩:=hk.heap I1;have eq:(valueAt vs k).isSome=(lkT tbl k).isSome:=by
   rcases KDk.at pr k with⟨z,z'⟩| ⟨QU,b,z1,z2,z3⟩
   .rw[z,z'];rfl
   .rw[z1,z2];rfl
  cases neg with
  |false=>subst ho;refine wpAny_in_of (wK rl) h0 dd.mapOf ?_;rw[eq];exact⟨.bl _,H1,I1.tok _,rfl,q⟩
  |true=>subst ho;refine wpAny_notIn_of (wK rl) h0 dd.mapOf ?_;rw[eq];exact⟨.bl _,H1,I1.tok _,rfl,q⟩
 refine(GQ h1 (by cases neg<;>subst ho<;>rfl)).aB ?_;rintro Z H Q ⟨H0,e8,env,bb,E,e,k⟩;obtain⟨r,hr,e⟩:=e6 e;obtain⟨ky,Q0,rfl⟩:=Gaa.mp e;exact⟨H0,e8,env,r,E,hr,λv H1 s1 R=> ⟨ky,tJ Q0 R.inn,_,rfl,k H1 s1⟩⟩
end
structure Zp(z TI TO i1 i2:Addr)(yq yp:List Addr):Prop where
 nd:[z,TI,TO,i1,i2].Nodup
 f1:z∉yq/\TO∉yq/\i2∉yq
 f2:z∉yp/\TO∉yp/\i1∉yp
 m1:i1∈yq
 m2:i2∈yp
section
variable{prog:Program}{w:World}{A:Around}{E:VSP}{s:Shared}{z TI TO i1 i2:Addr}{yq yp:List Addr}{n1 n2 k:Nat}{P1 P2:Nat->Value->Prop}{S1 S2:Nat->Heap->Prop}{a b:Value}
theorem EI{Q:VSP}(D1:Draws prog w A i1 yq n1 P1 S1)(D2:Draws prog w A i2 yp n2 P2 S2)(ap:Zp z TI TO i1 i2 yq yp)
  (hz:IsZip s.heap z TI TO .none)(xX:IsPair s.heap TI (.ref i1) (.ref i2))(y7:IsPair s.heap TO a b)(s1:S1 k s.heap)(s2:S2 k s.heap)(l1:k<n1)(l2:k<n2)
  (hQ:∀x y h' tk,P1 k x->P2 k y->IsZip h' z TI TO (rawInt s.heap.objs.size)->IsPair h' TO x y->S1 (k+1) h' ->S2 (k+1) h' ->IsPair h' s.heap.objs.size x y->h'.objs.size=s.heap.objs.size+1->
   (∀c o,c∉[z,TO,i1,i2]->s.heap.get? c=some o->h'.get? c=some o)->Q (.ref s.heap.objs.size) {s with heap:=h',toks:=tk}):
  wpAny (model prog w) A (Builtin.«zip.__next__» ⟨[.ref z],[]⟩) (λfin s' =>∃v,fin= .done (.ret v)/\Q v s') E s:=by
 have nd:=ap.nd;simp only[GaM,Gan,Gaz,GaX,not_or,GcC,List.nodup_nil,and_true] at nd;obtain⟨⟨yi,xC,yR,zl⟩,⟨yC,Pu,Pt⟩,⟨Pr,Qn⟩,n12⟩:=nd;have nTOz:=GaG xC;have nTO1:=Pr;have f:FO s.heap z _ _:=⟨_,hz,rfl,rfl⟩
 wp_walk using fb (i:=2) (x:= .bool false) f rfl,fb (i:=3) (x:= .ref TI) f rfl,Gbz xX rfl,fb (i:=0) (x:= .none) f rfl,fb (i:=4) (x:= .ref TO) f rfl,GbG hz
 .show 0<5;decide
 .intro h1 z1 b1;rw[show(#[Value.ref i1,Value.ref i2].toList.zipIdx)=[(.ref i1,0),(.ref i2,1)] from rfl];simp only[Gcs,List.forIn_nil];refine Gae (Gae (Gae (Gch ?_)));show wpAny _ _ (Builtin.SmallTypes.nextOf (.ref i1)>>=λx=>pure (some x)) _ _ _;refine Gae (D1.item k _ _ _ l1 (D1.frame k _ h1 s1 λc hc o e=>b1.extBut c o (λq=>ap.f1.1 (q▸hc)) e) λx h2 t2 px Qk b2=>Gao ?_);have o2:IsPair h2 TO a b:=b2.extBut _ _ nTO1 (b1.extBut _ _ nTOz y7)
  wp_walk using Gbz o2 rfl,Gcu o2
  intro h3 o3 b3;replace o3:IsPair h3 TO x b:=o3;refine Gae (wpAny_letGo (Gao ?_));refine Gae (Gae (Gch ?_));show wpAny _ _ (Builtin.SmallTypes.nextOf (.ref i2)>>=λx=>pure (some x)) _ _ _;have up3:∀c o,c≠z->c≠TO->c≠i1->s.heap.get? c=some o->h3.get? c=some o:=λc o c1 c2 c3 e=>b3.extBut _ _ c2 (b2.extBut _ _ c3 (b1.extBut _ _ c1 e));refine Gae (D2.item k _ _ _ l2 (D2.frame k _ h3 s2 λc hc o e=>up3 c o (λq=>ap.f2.1 (q▸hc)) (λq=>ap.f2.2.1 (q▸hc)) (λq=>ap.f2.2.2 (q▸hc)) e) λy h4 t4 py zh b4=>Gao ?_);have o4:IsPair h4 TO x b:=b4.extBut _ _ Qn o3
  wp_walk using Gbz o4 rfl,Gcu o4
  intro h5 o5 b5;replace o5:IsPair h5 TO x y:=o5;have z5:IsZip h5 z TI TO .ellipsis:=b5.extBut _ _ xC (b4.extBut _ _ zl (b3.extBut _ _ xC (b2.extBut _ _ yR z1)));have z6:IsZip (h5.push {cls:= .type "tuple",data:= .seq #[x,y]}) z TI TO .ellipsis:=Gaf _ z5;have xF:h5.objs.size=s.heap.objs.size:=by rw[b5.1,b4.1,b3.1,b2.1,b1.1]
  wp_walk using wpAny_letGo,Gbz o5 rfl,GbG z6
  .show 0<5;decide
  .intro h7 z7 b7
   wp_walk using GbG z7
   .show 1<5;decide
   .intro h8 z8 b8;have up:∀c o,c≠z->h5.get? c=some o->h8.get? c=some o:=λc o c1 e=>b8.extBut _ _ c1 (b7.extBut _ _ c1 (Gaf _ e));have xa:z<h5.objs.size:=Gaj z5;have p8:IsPair h8 h5.objs.size x y:=b8.extBut _ _ (GaY xa) (b7.extBut _ _ (GaY xa) (Gar _ rfl));have s8:h8.objs.size=h5.objs.size+1:=by rw[b8.1,b7.1,Gbb]
    refine Gao ⟨_,rfl, ?_⟩;rw[xF] at p8 s8 z8⊢;have f1:S1 (k+1) h8:=D1.frame (k+1) _ h8 Qk λc hc o e=>up c o (λq=>ap.f1.1 (q▸hc)) (b5.extBut _ _ (λq=>ap.f1.2.1 (q▸hc)) (b4.extBut _ _ (λq=>ap.f1.2.2 (q▸hc)) (b3.extBut _ _ (λq=>ap.f1.2.1 (q▸hc)) e)));have f2:S2 (k+1) h8:=D2.frame (k+1) _ h8 zh λc hc o e=>up c o (λq=>ap.f2.1 (q▸hc)) (b5.extBut _ _ (λq=>ap.f2.2.1 (q▸hc)) e);refine hQ x y h8 _ px py z8 (up _ _ nTOz o5) f1 f2 p8 s8 λc o hc e=> ?_;simp only[Gan,Gaz,GaX,not_or] at hc;exact up c o hc.1 (b5.extBut _ _ hc.2.1 (b4.extBut _ _ hc.2.2.2 (up3 c o hc.1 hc.2.1 hc.2.2.1 e)))
theorem IY{Q:Fin->Shared->Prop}(D1:Draws prog w A i1 yq n1 P1 S1)(D2:Draws prog w A i2 yp n2 P2 S2)(ap:Zp z TI TO i1 i2 yq yp)
  (hz:IsZip s.heap z TI TO .none)(xX:IsPair s.heap TI (.ref i1) (.ref i2))(y7:IsPair s.heap TO a b)(s1:S1 k s.heap)(s2:S2 k s.heap)(l:k=n1\/(k<n1/\k=n2))
  (hE:∀h' e tk,(∀c o,c∉[z,TO,i1,i2]->s.heap.get? c=some o->h'.get? c=some o)->(∃o,h'.get? e=some o/\o.cls= .type "StopIteration")->E (.ref e) {s with heap:=h',toks:=tk}):
  wpAny (model prog w) A (Builtin.«zip.__next__» ⟨[.ref z],[]⟩) Q E s:=by
 have nd:=ap.nd;simp only[GaM,Gan,Gaz,GaX,not_or,GcC,List.nodup_nil,and_true] at nd;obtain⟨⟨yi,xC,yR,zl⟩,⟨yC,Pu,Pt⟩,⟨Pr,Qn⟩,n12⟩:=nd;have f:FO s.heap z _ _:=⟨_,hz,rfl,rfl⟩
 wp_walk using fb (i:=2) (x:= .bool false) f rfl,fb (i:=3) (x:= .ref TI) f rfl,Gbz xX rfl,fb (i:=0) (x:= .none) f rfl,fb (i:=4) (x:= .ref TO) f rfl,GbG hz
 .show 0<5;decide
 .intro h1 z1 b1;rw[show(#[Value.ref i1,Value.ref i2].toList.zipIdx)=[(.ref i1,0),(.ref i2,1)] from rfl];simp only[Gcs,List.forIn_nil];refine Gae (Gae (Gae (Gch ?_)));show wpAny _ _ (Builtin.SmallTypes.nextOf (.ref i1)>>=λx=>pure (some x)) _ _ _;have g1:S1 k h1:=D1.frame k _ h1 s1 λc hc o e=>b1.extBut c o (λq=>ap.f1.1 (q▸hc)) e;have back:∀{h4:Heap} {t4:Nat} {e:Addr},IsZip h4 z TI TO .ellipsis->(∀c o,c∉[z,TO,i1,i2]->s.heap.get? c=some o->h4.get? c=some o)->(∃o,h4.get? e=some o/\o.cls= .type "StopIteration")->
    wpAny (model prog w) A (setField (.ref z) 0 .none) (λ_ yu =>E (.ref e) yu) E {s with heap:=h4,toks:=t4}:=λ{h4 t4 e} z4 k4 ⟨oe,PR,QE⟩=>by
   have hez:e≠z:=λq=>by subst q;rw[z4] at PR;cases PR;simp at QE
   refine GbG z4 (by show 0<5;decide) λh5 _ b5=>hE h5 e t4 (λc o hc q=>b5.extBut _ _ (λr=>hc (by simp[r])) (k4 c o hc q)) ⟨oe,b5.extBut _ _ hez PR,QE⟩
  rcases l with rfl| ⟨l1,rfl⟩
  .refine Gae (D1.done _ _ _ g1 λh2 e x2 he=>back (x2 _ _ yR z1) (λc o hc q=>x2 _ _ (λr=>hc (by simp[r])) (b1.extBut _ _ (λr=>hc (by simp[r])) q)) he)
  .refine Gae (D1.item k _ _ _ l1 g1 λx h2 t2 px Qk b2=>Gao ?_);have o2:IsPair h2 TO a b:=b2.extBut _ _ Pr (b1.extBut _ _ (GaG xC) y7)
   wp_walk using Gbz o2 rfl,Gcu o2
   intro h3 o3 b3;refine Gae (wpAny_letGo (Gao ?_));refine Gae (Gae (Gch ?_));show wpAny _ _ (Builtin.SmallTypes.nextOf (.ref i2)>>=λx=>pure (some x)) _ _ _;have up3:∀c o,c≠z->c≠TO->c≠i1->s.heap.get? c=some o->h3.get? c=some o:=λc o c1 c2 c3 e=>b3.extBut _ _ c2 (b2.extBut _ _ c3 (b1.extBut _ _ c1 e));refine Gae (D2.done _ _ _ (D2.frame k _ h3 s2 λc hc o e=>up3 c o (λq=>ap.f2.1 (q▸hc)) (λq=>ap.f2.2.1 (q▸hc)) (λq=>ap.f2.2.2 (q▸hc)) e) λh4 e x4 he=>back (t4:=t2) (x4 _ _ zl (b3.extBut _ _ xC (b2.extBut _ _ yR z1))) (λc o hc q=> ?_) he);simp only[Gan,Gaz,GaX,not_or] at hc;exact x4 _ _ hc.2.2.2 (up3 c o hc.1 hc.2.1 hc.2.2.1 q)
end
noncomputable def intsOf:List D->Option (List Int)
 |[]=>some []
 | .int i::ds=>(intsOf ds).map (i:: ·)
 |_=>none
noncomputable def IZ(xs ys:List D):List D:=List.zipWith (λx y=> .tup [x,y]) xs ys
section
open PySem.Spec
variable{w:World}
end
noncomputable def T0(mask:Nat):SetTable:={SetTable.fresh 0 0 false with mask:=mask}
section
variable{X:Cx}{e a b c:Expr}{f g h:DE}{pos:Pos}
theorem _root_.L2.Inv.EJ{e7:LAO}{Z:St}{H:Hp}{s:Shared}{h' :Heap}{ch:List Addr}(I:Inv X e7 Z H s)(hf:∀b∈ch,gU X e7 H b)(k:∀b o,b∉ch->s.heap.get? b=some o->h'.get? b=some o):Inv X e7 Z H {s with heap:=h' }:=by
 have nit:∀b u,H b=some u->b∉ch:=λb u e z=>by rw[(hf b z).1] at e;cases e
 refine I.oX (ch:=ch) rfl ⟨λb ob q _ _ hx=>k b ob hx q,λb ob q _ _ hx=> ⟨ob.slots,k b ob hx q⟩,λb ob q n _=>n,λb ob q hx=> ⟨ob,k b ob hx q⟩,λb xs q=>q,λb ob u q=>q,λb ps q=> ⟨#[],by rw[q];simp⟩⟩ ?_ I.bare λb hb=> ⟨(hf b hb).2.2.2.1,(hf b hb).2.1,(hf b hb).2.2.2.2.1,(hf b hb).2.2.2.2.2⟩;intro b u q;refine(I.hok b u q).fW (λc v hc z=>k c v ?_ z) (λ_ z=>z) λ_ _ z=>z;rcases hc with hc|hc
 .rw[hc];exact nit b u q
 .exact nit c _ hc
end
def sqK:Bool->au->Hp->Addr->List V->Prop
 |true,K,H,l,xs=>SqT K H l xs
 |false,K,H,l,xs=>SqL K H l xs
def itK:Bool->Heap->Addr->Addr->Nat->Prop
 |true,h,it,l,i=>h.IsTupleIter it l i
 |false,h,it,l,i=>h.IsListIter it l i
def mB:Bool->Heap->Addr->Array Value->Prop
 |true,h,l,eg=>h.IsTuple l eg
 |false,h,l,eg=>h.IsList l eg
theorem itK.at{b:Bool}{h h' :Heap}{it l:Addr}{i:Nat}(x:itK b h it l i)(e:∀o,h.get? it=some o->h'.get? it=some o):itK b h' it l i:=by
 cases b with
 |true=>exact Heap.IsTupleIter.at x e
 |false=>exact Heap.IsListIter.at x e
theorem itK.rec{b:Bool}{h:Heap}{it l:Addr}{i:Nat}(x:itK b h it l i):∃o vs,h.get? it=some o/\o.data= .fields vs:=by
 cases b with
 |true=>obtain⟨o,e,_,d⟩:=x;exact⟨o,_,e,d⟩
 |false=>obtain⟨o,e,_,d⟩:=x;exact⟨o,_,e,d⟩
variable{w:World}
theorem lA{prog:Program}{A:Around}(b:Bool)(hh:A.handled=none)(it l:Addr)(xU:l≠it)(eg:Array Value):Draws prog w A it [it,l] eg.size (λi v=>eg[i]? =some v) (λi h=>itK b h it l i/\mB b h l eg):=by
 cases b with
 |true=>exact nC hh it l xU eg
 |false=>exact Draws.list hh it l xU eg
section
variable{X:Cx}{e7:LAO}{Z:St}{H:Hp}{s:Shared}{l:Addr}{xs ys:List V}{b:Bool}
theorem nH(I:Inv X e7 Z H s)(h:sqK b X.K H l xs):∃eg:List Value,Vals xs eg/\mB b s.heap l eg.toArray/\l<s.heap.objs.size:=by
 cases b with
 |true=>obtain⟨eg,r,p,_⟩:=I.tuple h;exact⟨eg,r,p,p.lt⟩
 |false=>obtain⟨eg,r,p,_⟩:=I.list h;exact⟨eg,r,p.isList,let⟨_,ho,_⟩:=p.isList;Gaj ho⟩
theorem Gk(I:Inv X e7 Z H s)(h:sqK b X.K H l xs)(h' :sqK b X.K H l ys):xs=ys:=by
 cases b with
 |true=>exact I.jV h h'
 |false=>exact I.lH h h'
end
def Itk(K:au)(b1 b2:Bool)(l1 l2:Addr):It:=
 ⟨λi H=>∃xs ys x y,sqK b1 K H l1 xs/\sqK b2 K H l2 ys/\xs[i]? =some x/\ys[i]? =some y,λi H x H' =>∃p u v,H p=none/\x= .ref p/\H' =upd H p (.tup [u,v])/\(∀xs,sqK b1 K H l1 xs->xs[i]? =some u)/\∀ys,sqK b2 K H l2 ys->ys[i]? =some v,λi H=>∃xs ys,sqK b1 K H l1 xs/\sqK b2 K H l2 ys/\(i=xs.length\/(i<xs.length/\i=ys.length))⟩
theorem vN{P:Program}{K:au}{elts:List Expr}{x1}{tp:Pos}(b1 b2:Bool)(z TI TO i1 i2 l1 l2:Addr)(ap:Zp z TI TO i1 i2 [i1,l1] [i2,l2])(n1:l1≠i1)(n2:l2≠i2):Turn P w K (.Tuple elts x1 tp) (Itk K b1 b2 l1 l2) [z,TI,TO,i1,i2] z (λi h=>IsZip h z TI TO .none/\IsPair h TI (.ref i1) (.ref i2)/\(∃a b,IsPair h TO a b)/\itK b1 h i1 l1 i/\itK b2 h i2 l2 i) where
 mem:=by simp
 obj:=λi h st b hb=>by
  obtain⟨hz,xX,⟨a,b',y7⟩,h1,h2⟩:=st;obtain⟨o1,v1,e1,d1⟩:=h1.rec;obtain⟨o2,v2,e2,d2⟩:=h2.rec;simp only[Gan,Gaz,GaX] at hb;rcases hb with rfl|rfl|rfl|rfl|rfl
  .exact⟨_,hz,λv q=>by cases q⟩
  .exact⟨_,xX,λv q=>by cases q⟩
  .exact⟨_,y7,λv q=>by cases q⟩
  .exact⟨_,e1,λv q=>by rw[d1] at q;cases q⟩
  .exact⟨_,e2,λv q=>by rw[d2] at q;cases q⟩
 keep:=λi h h' st k=>by
  obtain⟨hz,xX,⟨a,b,y7⟩,h1,h2⟩:=st;exact⟨k z (by simp) _ hz,k TI (by simp) _ xX,⟨a,b,k TO (by simp) _ y7⟩,h1.at λo e=>k i1 (by simp) o e,h2.at λo e=>k i2 (by simp) o e⟩
 item:=by
  intro X hP hw hK hc i e7 s Z H E I hf st hg;subst hP hw hK;obtain⟨hz,xX,⟨a,b,y7⟩,h1,h2⟩:=st;obtain⟨xs,ys,x,y,yT,xZ,hx,hy⟩:=hg;obtain⟨xT,zM,p1,_⟩:=nH I yT;obtain⟨eD,zL,p2,_⟩:=nH I xZ;obtain⟨u,hu,ru⟩:=zM.get hx;obtain⟨v,hv,rv⟩:=zL.get hy;have k1:i<xT.toArray.size:=by simpa using(Gac.mp hu).1
  have k2:i<eD.toArray.size:=by simpa using(Gac.mp hv).1
  have fz:FO s.heap z "zip" _:=⟨_,hz,rfl,rfl⟩
  wp_walk using Gbq fz.ty Gcv,GbN Gcv fz.ty F.entry_zip_next (ha:=F.args_zip_next_1 _),EI (lA b1 (A:=X.A.in1) (I.ok.hd hc) i1 l1 n1 xT.toArray) (lA b2 (A:=X.A.in1) (I.ok.hd hc) i2 l2 n2 eD.toArray) ap hz xX y7 ⟨h1,p1⟩ ⟨h2,p2⟩ k1 k2
  intro u' v' h' tk eu ev a1 a2 a3 a4 a5 a6 kk;have eu' :u' =u:=by rw[show xT.toArray[i]? =some u by simpa using hu] at eu;cases eu;rfl
  have ev' :v' =v:=by rw[show eD.toArray[i]? =some v by simpa using hv] at ev;cases ev;rfl
  subst eu' ev';refine Gao ⟨_,rfl,wpAny_letOwnedTupleGo_zip (s:={s with heap:=h',toks:=tk}) a1 λh3 QY sb=> ?_⟩;have xa:z<s.heap.objs.size:=Gaj hz;have nd:=ap.nd;simp only[GaM,Gan,Gaz,GaX,not_or,GcC,List.nodup_nil,and_true] at nd;obtain⟨⟨yi,xC,yR,zl⟩,⟨yC,Pu,Pt⟩,_⟩:=nd;have kept:∀b o,b∉[z,TI,TO,i1,i2]->s.heap.get? b=some o->h3.get? b=some o:=λb o hb e=>by
   simp only[Gan,Gaz,GaX,not_or] at hb;exact sb.extBut _ _ hb.1 (kk b o (by simp[hb]) e)
  have zw:h3.get? s.heap.objs.size=some {cls:= .type "tuple",data:= .seq #[u',v']}:=sb.extBut _ _ (GaY xa) a5;have I1:Inv X e7 Z (upd H s.heap.objs.size (.tup [x,y])) {s with heap:=h3,toks:=tk}:=I.mm (ch:=[z,TI,TO,i1,i2]) hf rfl rfl kept (Gap _) ⟨by simp[GbQ],[u',v'],.cons ru (.cons rv .nil),_,zw,rfl,0,rfl⟩;refine⟨.ref s.heap.objs.size,_,I1,rfl,⟨_,x,y,I.fresh,rfl,rfl,λzs q=>by rw[Gk I q yT];exact hx,λzs q=>by rw[Gk I q xZ];exact hy⟩,⟨QY,sb.extBut _ _ (GaG yi) (kk _ _ (by simp[yC,Pu,Pt,GaG yi]) xX),⟨_,_,sb.extBut _ _ (GaG xC) a2⟩,a3.1.at λo e=>sb.extBut _ _ (GaG yR) e,a4.1.at λo e=>sb.extBut _ _ (GaG zl) e⟩,λb hb=> ?_⟩;have lt:b<s.heap.objs.size:=by
   obtain⟨o1,_,e1,_⟩:=h1.rec;obtain⟨o2,_,e2,_⟩:=h2.rec;have hb' :=hb;simp only[Gan,Gaz,GaX] at hb';rcases hb' with rfl|rfl|rfl|rfl|rfl
   .exact xa
   .exact Gaj xX
   .exact Gaj y7
   .exact Gaj e1
   .exact Gaj e2
  rw[ak (Gaq lt)];exact(hf b hb).1
 done:=by
  intro X hP hw hK hc i e7 s Z H E I hf st hg;subst hP hw hK;obtain⟨hz,xX,⟨a,b,y7⟩,h1,h2⟩:=st;obtain⟨xs,ys,yT,xZ,hl⟩:=hg;obtain⟨xT,zM,p1,_⟩:=nH I yT;obtain⟨eD,zL,p2,_⟩:=nH I xZ;have l1' :=zM.length;have Px :=zL.length;have fz:FO s.heap z "zip" _:=⟨_,hz,rfl,rfl⟩
  wp_walk using Gbq fz.ty Gcv,GbN Gcv fz.ty F.entry_zip_next (ha:=F.args_zip_next_1 _),IY (lA b1 (A:=X.A.in1) (I.ok.hd hc) i1 l1 n1 xT.toArray) (lA b2 (A:=X.A.in1) (I.ok.hd hc) i2 l2 n2 eD.toArray) ap hz xX y7 ⟨h1,p1⟩ ⟨h2,p2⟩ (by rw[Gag,Gag,<-l1',<-Px];exact hl)
  exactλh' e tk kk q=>Gae (sU (z:={s with heap:=h',toks:=tk}) q (Gao ⟨rfl,Inv.tok (s:={s with heap:=h' }) (I.EJ hf λb o hb e=>kk b o (λq=>hb (by simp only[Gan,Gaz,GaX] at q⊢;rcases q with q|q|q|q<;>simp[q])) e) tk⟩))
 self:=λ_ _ _ _ _ st h=>wpAny_pyIter_zip st.1 h
noncomputable def kN(b:Bool)(l:Addr):Obj:={cls:= .type (if b then "tuple_iterator" else "list_iterator"),data:= .fields #[.ref l,.int 0 0]}
variable{l:Addr}{b:Bool}{s:Shared}{A:Around}{w:World}{prog:Program}
theorem Bc{E:VSP}{eg:Array Value}{Q:VSP}(hl:mB b s.heap l eg)(h:Q (.ref s.heap.objs.size) {s with heap:=s.heap.push (kN b l)}):wpAny (model prog w) A (pyIter (.ref l)) Q E s:=by
 cases b with
 |true=>exact GbE hl h
 |false=>exact wpAny_pyIter_list hl h
theorem mB.push{b:Bool}{h:Heap}{l:Addr}{eg:Array Value}(x:mB b h l eg)(o:Obj):mB b (h.push o) l eg:=by
 cases b with
 |true=>obtain⟨ob,e,r⟩:=x;exact⟨ob,Gaf _ e,r⟩
 |false=>exact Heap.IsList.push x o
theorem rn(b1 b2:Bool)(l1 l2:Addr)(xs ys:Array Value):
  Meets (Builtin.«zip.__new__» ⟨[.type "zip",.ref l1,.ref l2],[]⟩) (λ_ R s=>mB b1 s.heap l1 xs/\mB b2 s.heap l2 ys/\
   R (.ok (.ret (.ref (s.heap.objs.size+4)))) {s with heap:=((((s.heap.push (kN b1 l1)).push (kN b2 l2)).push {cls:= .type "tuple",data:= .seq #[.ref s.heap.objs.size,.ref (s.heap.objs.size+1)]}).push {cls:= .type "tuple",data:= .seq #[.none,.none]}).push {cls:= .type "zip",data:= .fields #[.none,.bool false,.bool false,.ref (s.heap.objs.size+2),.ref (s.heap.objs.size+3)]}}):=by
 apply Meets.of_wp;rintro prog w A R s ⟨h1,h2,h⟩;have sub:=PySem.sub_zip;have z9 :mB b2 (s.heap.push (kN b1 l1)) l2 ys:=h2.push _;have z1:(s.heap.push (kN b1 l1)).objs.size=s.heap.objs.size+1:=Gbb ..
 wp_walk using Bc h1,Bc (s:={s with heap:=s.heap.push (kN b1 l1)}) z9
 refine⟨_,rfl, ?_⟩;simp only[Gbb];exact h
theorem tL{h:Heap}{it:Addr}(e:h.get? it=some (kN b l)):itK b h it l 0:=by
 cases b with
 |true=>exact⟨_,e,rfl,rfl⟩
 |false=>exact⟨_,e,rfl,rfl⟩
theorem vO{E:VSP}{b1 b2:Bool}{l1 l2:Addr}{xs ys:Array Value}{Q:VSP}(Rk:mB b1 s.heap l1 xs)(yV:mB b2 s.heap l2 ys)
  (h:∀h',IsZip h' (s.heap.objs.size+4) (s.heap.objs.size+2) (s.heap.objs.size+3) .none->IsPair h' (s.heap.objs.size+2) (.ref s.heap.objs.size) (.ref (s.heap.objs.size+1))->
   IsPair h' (s.heap.objs.size+3) .none .none->itK b1 h' s.heap.objs.size l1 0->itK b2 h' (s.heap.objs.size+1) l2 0->
   (∀c o,s.heap.get? c=some o->h'.get? c=some o)->Q (.ref (s.heap.objs.size+4)) {s with heap:=h' }):
  wpAny (model prog w) A (call (.type "zip") [.ref l1,.ref l2]) Q E s:=by
 refine callType_new F.called_zip (by decide) (F.typeCall_zip_2 _ _) (F.newCall_zip_2 _ _) (λobj=>F.args_object_init_3 obj _ _) F.entry_zip_new (rn b1 b2 l1 l2 xs ys) ⟨Rk,yV, ?_⟩;generalize hh:Heap.push _ _=h';have at_:∀{g:Heap} {n:Nat} {o:Obj},g.objs.size=n->o.isFreed=false->(g.push o).get? n=some o:=λe f=>by subst e;exact Gar _ f
 have sz:∀{g:Heap} {n:Nat} {o:Obj},g.objs.size=n->(g.push o).objs.size=n+1:=λe=>by subst e;exact Gbb ..
 have k5:∀{c:Addr} {o o' :Obj} {g:Heap},g.get? c=some o->(g.push o').get? c=some o:=λe=>Gaf _ e;have fr:∀b l,(kN b l).isFreed=false:=λb l=>by cases b<;>rfl
 have a5:IsZip h' (s.heap.objs.size+4) (s.heap.objs.size+2) (s.heap.objs.size+3) .none:=by subst hh;exact at_ (sz (sz (sz (sz rfl)))) rfl
 have a3:IsPair h' (s.heap.objs.size+2) (.ref s.heap.objs.size) (.ref (s.heap.objs.size+1)):=by subst hh;exact k5 (k5 (at_ (sz (sz rfl)) rfl))
 have a4:IsPair h' (s.heap.objs.size+3) .none .none:=by subst hh;exact k5 (at_ (sz (sz (sz rfl))) rfl)
 have a1:itK b1 h' s.heap.objs.size l1 0:=tL (by subst hh;exact k5 (k5 (k5 (k5 (at_ rfl (fr _ _))))));have a2:itK b2 h' (s.heap.objs.size+1) l2 0:=tL (by subst hh;exact k5 (k5 (k5 (at_ (sz rfl) (fr _ _)))));exact⟨⟨_,a5,rfl⟩,h h' a5 a3 a4 a1 a2 λc o e=>by subst hh;exact k5 (k5 (k5 (k5 (k5 e))))⟩
theorem J1{n l1 l2:Nat}(h1:l1<n)(h2:l2<n):Zp (n+4) (n+2) (n+3) n (n+1) [n,l1] [n+1,l2]:=by
 have m:∀{i j:Nat},i≠j->n+i≠n+j:=λq z=>q (Nat.add_left_cancel z);have k:∀{l:Nat},l<n->∀i,n+i≠l:=λq i=>GaY (Gah q (Nat.le_add_right _ _));have two:∀{a b c:Nat},a≠b->a≠c->a∉[b,c]:=λp q z=>by rcases Gan.mp z with z|z;exact p z;exact q (Gbv.mp z)
 refine⟨?_,⟨two (m (j:=0) (by decide)) (k h1 4),two (m (j:=0) (by decide)) (k h1 3),two (m (j:=0) (by decide)) (k h1 1)⟩,⟨two (m (by decide)) (k h2 4),two (m (by decide)) (k h2 3),two (m (i:=0) (by decide)) (k h2 0)⟩,GaA,GaA⟩;have c:∀{a:Nat} {l:List Nat},(∀b∈l,a≠b)->l.Nodup->(a::l).Nodup:=λp q=>GaM.mpr ⟨λz=>p _ z rfl,q⟩;show[n+4,n+2,n+3,n+0,n+1].Nodup;refine c ?_ (c ?_ (c ?_ (c ?_ (c ?_ .nil))))<;>intro b hb<;>simp only[Gan,Gaz,GaX] at hb
 .rcases hb with rfl|rfl|rfl|rfl<;>first|exact m (j:=0) (by decide)|exact m (by decide)
 .rcases hb with rfl|rfl|rfl<;>first|exact m (j:=0) (by decide)|exact m (by decide)
 .rcases hb with rfl|rfl<;>first|exact m (j:=0) (by decide)|exact m (by decide)
 .rcases hb with rfl;exact m (i:=0) (by decide)
section
variable{X:Cx}{a b:Expr}{f g:DE}{pos:Pos}
def Mg(K:au)(tl:TA):TI:=λZ H R=>tl Z H λvs H1=>∃b1 b2 l1 l2,vs=[.ref l1,.ref l2]/\(∃xs,sqK b1 K H1 l1 xs)/\(∃ys,sqK b2 K H1 l2 ys)/\R (Itk K b1 b2 l1 l2) H1
variable{tp p:Pos}{elts:List Expr}
theorem EK{x1}{ta:TA}(hg:Gl X "zip")(hm:X.mg "zip"=none)(ha:PA X [a,b] ta)(hs:starEach [a,b] X.env=(false,eval a X.env)::starEach [b] X.env)(hW:starEach [b] X.env=[(false,eval b X.env)]):PI X (.Tuple elts x1 tp) (.Call (.Name "zip" p) [a,b] [] pos) (Mg X.K ta):=by
 intro e7 s Z H R I h;refine Call_ (iQ I hg hm boot_zip (Gbe (thn (ha pos e7 s Z H _ I h) λus s1 ⟨vs,H1,I1,r1,q1⟩=> ?_) hs (by rw[hW];rfl)));obtain⟨b1,b2,l1,l2,e,⟨xs,yT⟩,⟨ys,xZ⟩,q⟩:=q1;subst e;cases r1 with
 |cons r rr=>
 cases rr with
 |cons r2 rr=>
  cases rr;cases r;cases r2;obtain⟨xT,zM,p1,Qp⟩:=nH I1 yT;obtain⟨eD,zL,p2,Qo⟩:=nH I1 xZ;have ap:=J1 Qp Qo;refine vO p1 p2 λh' a1 a2 a3 a4 a5 kk=> ?_;refine wpAny_pyIter_zip (s:={s1 with heap:=h' }) a1 ?_;have zW:∀b∈[s1.heap.objs.size+4,s1.heap.objs.size+2,s1.heap.objs.size+3,s1.heap.objs.size,s1.heap.objs.size+1],gU X e7 H1 b:=λb hb=>by
   have le:s1.heap.objs.size<=b:=by
    simp only[Gan,Gaz,GaX] at hb;rcases hb with rfl|rfl|rfl|rfl|rfl<;>lia
   exact I1.qB le (I1.hok.fresh le)
  exact⟨s1.heap.objs.size+4,_,_,_,H1,rfl,I1.kept (t' :=s1.toks) kk,vN b1 b2 _ _ _ _ _ l1 l2 ap (Gaq Qp) (Gaq (Gcc Qo)),⟨a1,a2,⟨_,_,a3⟩,a4,a5⟩,zW,q⟩
def J2:D->Option (Bool×List D)
 | .lst xs=>some (false,xs)
 | .tup xs=>some (true,xs)
 | .kt ks=>some (true,ks.map kD)
 |_=>none
@[simp] def EM(f g:DE):DI:=λenv=>(f env).bind λr=>(g env).bind λq=>if r.k= .to\/q.k= .to then none else(J2 r.d).bind λx=>(J2 q.d).map λy=>IZ x.2 y.2
theorem tM{H0 H H1:Hp}{e8:Addr->Prop}{env:Env}{Z:St}{r:RV}{v:V}{bb:Bool}{ds:List D}(E:aA X.K H0 e8 env Z H)(s1:aW H H1)(hk:r.k≠ .to)(R:df X.K H0 e8 env Z H H1 r v)(e:J2 r.d=some (bb,ds)):
  ∃l vs,v= .ref l/\sqK bb X.K H1 l vs/\aI X.K (Cln e8 env Z) H1 ds vs/\∀Hi:Hp,(∀b o,H1 b=some o->¬Ow env Z b->Hi b=some o)->sqK bb X.K Hi l vs:=by
 obtain⟨kd,d⟩:=r;have ii:=R.inn;cases d with
 |lst xs=>
  cases e;have hno:=og E rfl hk R;cases ii with
  | @lst la lv _ h r=>
   refine⟨la,lv,rfl,.inl h,r,λHi keep=> .inl ?_⟩;rcases h with h| ⟨o,h⟩
   .exact .inl (keep _ _ h (hno _ rfl))
   .exact .inr ⟨o,keep _ _ h (hno _ rfl)⟩
 |tup xs=>
  cases e;cases ii with
  | @tup la lv _ h r=>exact⟨la,lv,rfl,SqT.of h,r,λHi keep=>SqT.of (keep _ _ h λw=>(E.mono s1).dk w h trivial)⟩
 |kt ks=>
  cases e;cases ii with
  | @kt la _ h=>exact⟨la,_,rfl,.inr h,ly ks,λHi keep=> .inr h⟩
 |_=>cases e
theorem ER{x1}(hg:Gl X "zip")(hm:X.mg "zip"=none)(he:PEd X a f)(hd:PEd X b g)(hs:autoParam (starEach [a,b] X.env=(false,eval a X.env)::starEach [b] X.env) Za1._auto_1)(hW:autoParam (starEach [b] X.env=[(false,eval b X.env)]) Za1._auto_1):PId X (.Tuple elts x1 tp) (.Call (.Name "zip" p) [a,b] [] pos) (EM f g):=by
 refine(EK hg hm (bQ he (bQ hd dh hW) hs) hs hW).aB ?_;rintro Z H R ⟨H0,e8,env,ds,E,hf,k⟩;obtain⟨r,hr,hf⟩:=e6 hf;obtain⟨q,hq,hf⟩:=e6 hf;split at hf
 .cases hf
 rename_i hk;obtain⟨⟨b1,xs⟩,e1,hf⟩:=e6 hf;obtain⟨⟨b2,ys⟩,e2,rfl⟩:=Gaa.mp hf;refine⟨H0,e8,env,[r,q],E,by unfold a9 aD;rw[hr,hq];rfl,λvs H1 s1 Rs=> ?_⟩;cases Rs with
 |cons R1 tl=>
 cases tl with
 |cons R2 tl=>
  cases tl;have E1:=E.mono s1;obtain⟨l1,v1,rfl,q1,r1,g1⟩:=tM E s1 (λz=>hk (.inl z)) R1 e1;obtain⟨l2,v2,rfl,q2,r2,g2⟩:=tM E s1 (λz=>hk (.inr z)) R2 e2;refine⟨b1,b2,l1,l2,rfl,⟨_,q1⟩,⟨_,q2⟩,k _ H1 s1 λHi keep=> ?_⟩;have g1:=g1 Hi keep;have g2:=g2 Hi keep;refine⟨λi d hd=> ?_,⟨_,_,g1,g2, ?_⟩⟩
  .unfold IZ at hd;rw[List.getElem?_zipWith] at hd;split at hd
   .rename_i x y hx hy;cases hd;obtain⟨v,w1,w2⟩:=r1.get hx;obtain⟨v',w3,w4⟩:=r2.get hy;refine⟨⟨_,_,v,v',g1,g2,w1,w3⟩,λz H2 ⟨p,u,u',hp,ez,eH,e1,e2⟩=> ?_⟩;subst ez eH;have q1:=e1 _ g1;have q2:=e2 _ g2;rw[w1] at q1;cases q1
    rw[w3] at q2;cases q2
    exact⟨aV hp,cP hp (.cons (E1.dW keep w2) (.cons (E1.dW keep w4) .nil))⟩
   .cases hd
  .unfold IZ;rw[List.length_zipWith,r1.1,r2.1];lia
end
@[simp] def tN(is:List Nat)(g:DE):DE:=λenv=>(g env).bind λr=>match r.d with
 | .int i=>if is.all (λj=>(ownAt j env).isSome)=true/\is.length<=1000 then(atI is i).bind λj=>(ownAt j env).map λd=> ⟨.to,d⟩ else none
 |_=>none
def tVs(is:List Nat):TA:=λZ H Q=>∃vs:List V,vs.length=is.length/\(∀(k j:Nat) v,is[k]? =some j->vs[k]? =some v->Z[j]? =some (some v))/\Q vs H
section
variable{X:Cx}{es:List Expr}{is:List Nat}{b:Expr}{g:DE}{pos lp:Pos}
theorem J3:PA X [] (tVs []):=gu.aB λZ H Q ⟨vs,h,_,q⟩=>by rw[GaF h] at q;exact q
theorem Mh{x:Str}{j:Nat}{p:Pos}(hN:X.N[j]? =some x)(hv:Vis X.env.scope x)(hd:(x==("__debug__":Str))=false)(eV:(x==("__classdict__":Str))=false)(hr:PA X es (tVs is))(hs:starEach (.Name x p::es) X.env=(false,eval (.Name x p) X.env)::starEach es X.env):PA X (.Name x p::es) (tVs (j::is)):=by
 refine(cN (ck hN hv hd eV) hr hs).aB ?_;rintro Z H Q ⟨vs,hl,h,q⟩;cases vs with
 |nil=>cases hl
 |cons v vs=>exact⟨v,h 0 j v rfl rfl,vs,by simpa using hl,λk i u e1 e2=>h (k+1) i u (by simpa using e1) (by simpa using e2),q⟩
theorem tP(hu:X.A.units+1<cLine)(ha:PA X es (tVs is))(hb:PEd X b g)(hs:lj b):PEd X (.Subscript (.List es lp) b pos) (tN is g):=by
 refine(FU wI (qL ha) hb hs).aB ?_;rintro Z H Q ⟨H0,e8,env,rv,E,e,k⟩;obtain⟨y,hy,e⟩:=e6 e;split at e
 .rename_i i hi;split at e
  .rename_i c;obtain⟨j,hj,e⟩:=e6 e;obtain⟨d,hd,rfl⟩:=Gaa.mp e;have at_:∀j∈is,∃v,Z[j]? =some (some v):=λj hj=>by
    have:=Gau.mp c.1 j hj;obtain⟨d,hd⟩:=Option.isSome_iff_exists.mp this;obtain⟨a,h1,_⟩:=E.ow j d (.inl (f6 hd));exact⟨_,h1⟩
   let vs:List V:=is.map λj=>((Z[j]?).getD none).getD .non
   have Qv:∀(k j:Nat) v,is[k]? =some j->vs[k]? =some v->Z[j]? =some (some v):=λk j v e1 e2=>by
    obtain⟨u,hu⟩:=at_ j (GaC e1);have:vs[k]? =some (((Z[j]?).getD none).getD .non):=by simp only[vs,Gaw,e1,Gbf]
    rw[e2] at this;rw[hu] at this⊢;rw[Option.some.inj this]
    rfl
   have eO:vs.length=is.length:=by simp[vs]
   refine⟨vs,eO,Qv,by rw[eO];exact GaE c.2 (by decide),λp hp=> ?_⟩;have sm:aW H (upd H p (.lst vs)):=aV hp;refine⟨H0,e8,env,y,E.mono sm,hy,λvy H2 s2 R2=> ?_⟩;have iy:=R2.inn;rw[hi] at iy;cases iy;obtain⟨a,h1,h2,h3,h4,h5,h6⟩:=E.ow j d (.inl (f6 hd));have RB:atI vs i=some (.ref a):=by
    unfold atI at hj⊢;rw[eO];obtain⟨m,hm,hj⟩:=e6 hj;rw[hm];have hml:m<vs.length:=by rw[eO];exact(Gac.mp hj).1
    have q:vs[m]? =some vs[m]:=Gal hml;have:=Qv m j _ hj q;rw[h1] at this;injection this with this;injection this with this
    show vs[m]? =_;rw[q,<-this]
   refine .inl ⟨_,_,_,.ref a,rfl,rfl,.inl (.inl (s2 _ _ aE)),RB, ?_⟩;have s12:=sm.trans s2;refine k (.ref a) H2 s12 ⟨a,rfl,h2, ?_,h5,h6.same s12⟩;obtain⟨o,o1,o2⟩:=h4;exact⟨o,s12 _ _ o1,o2⟩
  .cases e
 .cases e
end
open PySem.W (findIn clsIn mroIn nsIn nsOkIn tailIn tail_of_in isNs_of_in keepIn readsIn findCls specialIn takesIn)
section
variable{K:au}{B C f N:Addr}{n nm q:Str}
theorem ES{h:Heap}{mN:Str->Option Value}{v:Value}(X:K.In h)(G:h.Ns N mN)(e:nsIn K N n=some (some v)):mN n=some v:=by
 obtain⟨o,es,ep,at_,hd,_,names⟩:=G;cases l:K.lookup N with
 |none=>simp[nsIn,l] at e
 |some o' =>
  obtain rfl:o' =o:=Option.some.inj ((X _ _ l).symm.trans at_);obtain⟨c,d,dt,sl⟩:=o';obtain rfl:dt= .dict es ep:=hd;simp only[nsIn,l] at e;refine(names n).symm.trans ?_;show(es.find? _).map _=_;rw[<-Array.find?_toList];cases q:es.toList.find? (·.key.isStr n) with
  |some x=>rw[q] at e;exact Option.some.inj e
  |none=>rw[q] at e;dsimp only at e;split at e<;>cases e
theorem J4{bs:List Value}{sn:List Str}{sub:List Value}{ab:Bool}{col:Option Bool}{dd:Option Addr}{k0 k1 k2 k3 k5:Option Value}{oI:Obj}
  (l:K.lookup C=some (excClassObj nm q C N bs (.ref B::bmV) true sn sub ab col dd k0 k1 k2 k3 k5 "ValueError.__new__"))(t:tailIn K bmV (.ref B::bmV)=true)(ok:nsOkIn K N=true)(i:nsIn K N "__init__"=some (some (.ref f)))(lf:K.lookup f=some oI)(fc:oI.cls= .type "function")
  (st:findIn K (.ref C) "__setattr__"=some (some (.builtin "object.__setattr__")))(nf:findIn K (.ref C) n=some none)(ga:findIn K (.ref C) "__getattribute__"=some (some (.builtin "BaseException.__getattribute__")))(gt:findIn K (.ref C) "__getattr__"=some none)(kp:keepIn K (.ref C)=true):XCl K B C f n:=by
 have hc:clsIn K C=some {name:=nm,bases:=bs,mro:= .ref C:: .ref B::bmV,ns:=N,qualname:=q,hasDict:=true,slotNames:=sn,subclasses:=sub,abstract:=ab,collection:=col,hasDel:=false}:=by
  unfold clsIn;rw[l]
 have inC:∀T:String,bmV.contains (.type T)=true->mroIn K C (.type T)=some true:=λT h=>by
  unfold mroIn;rw[hc];have e:(Value.ref C::Value.ref B::bmV).contains (.type T)=true:=by rw[List.contains_cons,List.contains_cons,h,GcG,GcG]
  exact congrArg some e
 refine⟨λh X=> ?_,st,inC "object" (by decide),⟨_,hc,rfl,rfl⟩,nf,ga,gt,inC "BaseException" (by decide),kp⟩;have G:h.Ns N (h.nsMap N):= .of_isNs (isNs_of_in X ok);exact⟨_,_,N,_,_,_,_,_,_,_,_,_,_,_,_,_,oI,X _ _ l,tail_of_in X t,G,ES X G i,X _ _ lf,fc⟩
end
section
variable{P:Program}{w:World}{K:au}{mg:Str->Option Value}{base:Heap}{qual:Str}{sd:Stmt}{B C fa:Addr}{fd:FuncData}{b n x:Str}{p1 p2 p3 p4 p5 p6 p7 p8 p9 zk:Pos}
theorem ET(F:Fun K "__init__" qual sd fa fd)(S:cp ["self",x] ["self",x] (aw sd))(bs:XBs K B)(cl:XCl K B C fa n)
  (eX:bI sd=[.Expr (.Call (.Attribute (.Name b p1) "__init__" p2) [.Name "self" p3,.Name x p4] [] p5) p6,.Assign [.Attribute (.Name "self" p7) n p8] (.Name x p9) zk])
  (hm:mg b=some (.ref B))(hg:(aw sd).names.lookup b=some .globalImplicit)(h1:(aw sd).names.lookup ("self":Str)=some .local)(h2:(aw sd).names.lookup x=some .local)
  (hV:(b==("__debug__":Str))=false)(Rt:(x==("__debug__":Str))=false)(Ru:(x==("__classdict__":Str))=false)
  (ht:∀env:PySem.Env,∃pl,eval (.Call (.Attribute (.Name b p1) "__init__" p2) [.Name "self" p3,.Name x p4] [] p5) env=(do
   let ov<-eval (.Name b p1) env
   standAt p2.atName
   let(f,first)<-holding [ov] (getMethod ov "__init__" pl)
   callWith p5 f first (backTo p5 (starEach [.Name "self" p3,.Name x p4] env)) (backToKw p5 (keywordEach [] env))))
  (eU:∀env:PySem.Env,swapsWith (.Call (.Attribute (.Name b p1) "__init__" p2) [.Name "self" p3,.Name x p4] [] p5) none p6.line env=pure false)(hW:∀env:PySem.Env,swapsWith (.Name x p9) (some (.Attribute (.Name "self" p7) n p8)) zk.line env=pure false):
  bH P w K mg base CX0 1 fa fd ["self",x] (iL K B C n):=by
 refine F.ok S (λvs H Q E ⟨a,v,e,_⟩=>by rw[e];rfl) λeJ A outer s H vs Q E hr h=> ?_;rw[eX];generalize hX:(cJ CX0 P w K mg base ["self",x] qual (aw sd) fa eJ A outer s H E).nox=X;have eK:X.K=K:=by rw[<-hX];rfl
 have eN:X.N=[("self":Str),x]:=by rw[<-hX];rfl
 have eM:X.mg=mg:=by rw[<-hX];rfl
 have eS:X.env.scope=aw sd:=by rw[<-hX];rfl
 have v0:∀p,PE X (.Name "self" p) (qz 0):=λp=>ck (i:=0) (by rw[eN];rfl) (by rw[eS];exact .inl h1);have v1:∀p,PE X (.Name x p) (qz 1):=λp=>ck (i:=1) (by rw[eN];rfl) (by rw[eS];exact .inl h2) Rt Ru;obtain⟨pl,ht⟩:=ht X.env;have s1:PS X (.Expr (.Call (.Attribute (.Name b p1) "__init__" p2) [.Name "self" p3,.Name x p4] [] p5) p6) (M3 X.K B (oZ (qz 0) (oZ (qz 1) wB))):=II (eK▸bs) (show X.env.kindOf b=_ by show X.env.scope.names.lookup b=_;rw[eS];exact hg) (eM▸hm) (cN (v0 p3) (cN (v1 p4) gu)) ht hV (hs:=eU X.env);have s2:PS X (.Assign [.Attribute (.Name "self" p7) n p8] (.Name x p9) zk) (M4 X.K B n (qz 0) (qz 1)):=IJ (v0 p7) (v1 p9) (hW X.env);refine⟨_,lJ s1 (nR s2), ?_⟩;obtain⟨a,v,rfl,ea,k⟩:=h;rw[eK];exact⟨.ref a,rfl,v,rfl,a,v,C,fa,n,rfl,cl,ea,v,rfl,.ref a,rfl,a,C,fa,rfl,cl,ea,λdx z ne=>k dx z ne⟩
end
structure Gm where
 N:List Str
 kd:Str->Option NameKind
 fns:Str->Option (Nat×(SpF))
 bl:List Str
 top:Bool
 cs:Str->Option D
 ds:Str->Option (List (Key×List Key))
 C:Nat
 fs:List Str
 nv:Bool
structure Ev where
 E:Expr->Option DE
 V:Expr->Option DT
 T:Expr->Option DT
 W:Expr->Option DT
 S:Stmt->Option DS
 B:List Stmt->Option DS
noncomputable def aF{α:Type}(b:Bool)(x:Option α):Option α:=if b then x else none
theorem ae{α:Type}{b:Bool}{x:Option α}{y:α}(h:aF b x=some y):b=true/\x=some y:=by
 unfold aF at h;cases b<;>simp at h;exact⟨rfl,h⟩
noncomputable def ixN(N:List Str)(x:Str):Option Nat:=N.findIdx? λy=>y==x
theorem rA{N:List Str}{x:Str}{i:Nat}(h:ixN N x=some i):N[i]? =some x:=by
 obtain⟨h1,h2,_⟩:=List.findIdx?_eq_some_iff_getElem.mp h;rw[Gal h1];exact congrArg some (by simpa using h2)
def rdK:Option NameKind->Bool
 |some .local=>true
 |some .cell=>true
 |some .free=>true
 |_=>false
noncomputable def odd(x:Str):Bool:=x=="__debug__"||x=="__classdict__"
def vR(G:Gm)(x:Str):Option Nat:=aF (rdK (G.kd x)&& !odd x) (ixN G.N x)
def lR(G:Gm)(x:Str):Option Nat:=aF (G.kd x==some .local||(G.top&&G.kd x==some .cell)) (ixN G.N x)
def gR(G:Gm)(x:Str):Bool:=G.kd x==some .globalImplicit&& !odd x&&x !="__name__"
def bR(G:Gm)(x:Str):Bool:=gR G x&&G.bl.contains x
noncomputable def ns:Expr->Bool
 | .Starred _ _=>false
 |_=>true
def aR(f:Expr->Option DE):List Expr->Option (Nat×DA)
 |[]=>some (0,aD)
 |e::es=>aF (ns e) ((f e).bind λx=>(aR f es).map λr=>(r.1+1,a9 x r.2))
structure GmO(G:Gm)(X:Cx):Prop where
 N:X.N=G.N
 nd:X.N.Nodup
 vis:∀x,rdK (G.kd x)=true->Vis X.env.scope x
 loc:∀x,(G.kd x==some .local||(G.top&&G.kd x==some .cell))=true->Loc X.env.scope x/\(X.fn x=true\/X.env.scope.names.lookup x=some .local)
 gl:∀x,G.kd x=some .globalImplicit->Gl X x
 cf:∀x,mP (G.kd x)=true->mP (X.env.kindOf x)=true
 sw:G.top=true->∀x,(X.env.blockKind== .function&&X.env.kindOf x==some .local)=(G.kd x==some .local)
 calm:X.calm=true
 own:X.xe=λ_ _=>False
 hu:X.A.units+20<cLine
 fns:∀x np sp,G.fns x=some (np,sp)->∃k fa fd ps,bH X.prog X.w X.K X.mg X.base CX0 k fa fd ps (spD X.K np sp)/\bP k X.A/\X.mg x=some (.ref fa)/\PySem.W.keepIn X.K (.ref fa)=true/\Binds X.K fd ps []
 no:∀x∈G.bl,X.mg x=none
def OA(X:Cx)(x:Str):D->Prop
 | .int i=>∃t,X.mg x=some (.int i t)
 | .str y=>∃t,X.mg x=some (.str y t)
 | .kt ks=>∃a,X.mg x=some (.ref a)/\Kt X.K a ks
 |_=>False
structure aZ(G:Gm)(X:Cx):Prop extends GmO G X where
 cs:∀x d,G.cs x=some d->OA X x d
 ds:∀x t,G.ds x=some t->∃a,X.mg x=some (.ref a)/\KDk X.prog X.w X.K a t
 cl:G.fs≠[]->L2.Cls X.K G.C
 na:∀n∈G.fs,bL X.K G.C n
structure cL(v:Ev)(X:Cx):Prop where
 E:∀e f,v.E e=some f->PEd X e f
 V:∀e t,v.V e=some t->PEd X e (bE t)
 T:∀e t,v.T e=some t->PTd X e t
 W:∀e t,v.W e=some t->PWd X e t
 S:∀s f,v.S s=some f->PSd X s f
 B:∀b f,v.B b=some f->kY X b f
theorem aT{e:Expr}{es:List Expr}{env:PySem.Env}(h:ns e=true):starEach (e::es) env=(false,eval e env)::starEach es env:=by
 cases e<;>first|rfl|cases h
section
variable{G:Gm}{X:Cx}
theorem aZ.hu1(g:aZ G X):X.A.units+1<cLine:=by have:=g.hu;lia
variable{i:Nat}{x:Str}
theorem gP(g:aZ G X)(h:vR G x=some i):X.N[i]? =some x/\Vis X.env.scope x/\(x==("__debug__":Str))=false/\(x==("__classdict__":Str))=false:=by
 obtain⟨h1,h2⟩:=ae h;rw[Gad] at h1;have:=h1.2;unfold odd at this;simp only[GbI,Gcw] at this;exact⟨by rw[g.N];exact rA h2,g.vis x h1.1,this.1,this.2⟩
theorem iN(g:aZ G X)(h:lR G x=some i):X.N[i]? =some x/\Loc X.env.scope x/\(X.fn x=true\/X.env.scope.names.lookup x=some .local):=by
 obtain⟨h1,h2⟩:=ae h;exact⟨by rw[g.N];exact rA h2,g.loc x h1⟩
theorem iO(g:aZ G X)(h:gR G x=true):Gl X x/\x≠"__name__"/\(x==("__debug__":Str))=false:=by
 unfold gR at h;simp only[Gad,bne_iff_ne,Gay] at h;have:=h.1.2;unfold odd at this;simp only[GbI,Gcw] at this;exact⟨g.gl x h.1.1,h.2,this.1⟩
theorem jI(g:aZ G X)(h:bR G x=true):Gl X x/\X.mg x=none/\x≠"__name__"/\(x==("__debug__":Str))=false:=by
 unfold bR at h;rw[Gad] at h;obtain⟨h1,h2,h3⟩:=iO g h.1;exact⟨h1,g.no x (by simpa using h.2),h2,h3⟩
theorem jJ{f:Expr->Option DE}(hf:∀e d,f e=some d->PEd X e d):∀{es:List Expr} {n:Nat} {r:DA},aR f es=some (n,r)->
  PAd X es r/\(∀env rs,r env=some rs->rs.length=n)/\(∀pos,(backTo pos (starEach es X.env)).any (·.1)=false)/\es.all ns=true
 |[],n,r,h=>by cases h;exact⟨dh,DC,λ_=>rfl,rfl⟩
 |e::es,n,r,h=>by
  obtain⟨h1,h2⟩:=ae h;obtain⟨x,hx,h2⟩:=e6 h2;obtain⟨⟨m,q⟩,hq,h2⟩:=Gaa.mp h2;cases h2;obtain⟨a1,a2,a3,a4⟩:=jJ hf hq;refine⟨bQ (hf e x hx) a1 (aT h1),Ae a2,λpos=> ?_,by rw[Gbo,h1,a4];rfl⟩;rw[aT h1];exact a3 pos
theorem tQ{f:Expr->Option DE}{es:List Expr}{n:Nat}{r:DA}(h:aR f es=some (n,r))(hn:n≠0):∃e t,es=e::t/\ns e=true/\∃m q,aR f t=some (m,q):=by
 cases es with
 |nil=>cases h;exact absurd rfl hn
 |cons e t=>
  obtain⟨h1,h2⟩:=ae h;obtain⟨x,hx,h2⟩:=e6 h2;obtain⟨⟨m,q⟩,hq,h2⟩:=Gaa.mp h2;exact⟨e,t,rfl,h1,m,q,hq⟩
end
noncomputable def orE(f g:DE):DE:=λenv=>match f env with
 |some r=>some r
 |none=>g env
noncomputable def orI(f g:DI):DI:=λenv=>match f env with
 |some r=>some r
 |none=>g env
noncomputable def l8(f g:DS):DS:=λenv=>match f env with
 |some r=>some r
 |none=>g env
noncomputable def orB(f g:D->D->Option Bool):D->D->Option Bool:=λx y=>match f x y with
 |some r=>some r
 |none=>g x y
noncomputable def orS(f g:SpV):SpV:=λds=>match f ds with
 |some r=>some r
 |none=>g ds
section
variable{X:Cx}
theorem J5{e:Expr}{f g:DE}(h1:PEd X e f)(h2:PEd X e g):PEd X e (orE f g):=λe7 s Z H Q I ⟨H0,e8,env,r,E,e,k⟩=>by
 unfold orE at e;split at e
 .rename_i q;exact h1 e7 s Z H Q I ⟨H0,e8,env,r,E,by rw[q,e],k⟩
 .exact h2 e7 s Z H Q I ⟨H0,e8,env,r,E,e,k⟩
theorem J6{tg e:Expr}{f g:DI}(h1:PId X tg e f)(h2:PId X tg e g):PId X tg e (orI f g):=λe7 s Z H R I ⟨H0,e8,env,r,E,e,k⟩=>by
 unfold orI at e;split at e
 .rename_i q;exact h1 e7 s Z H R I ⟨H0,e8,env,r,E,by rw[q,e],k⟩
 .exact h2 e7 s Z H R I ⟨H0,e8,env,r,E,e,k⟩
theorem J7{st:Stmt}{f g:DS}(h1:PSd X st f)(h2:PSd X st g):PSd X st (l8 f g):=λe7 s Z H D I ⟨H0,e8,env,r,E,e,k⟩=>by
 unfold l8 at e;split at e
 .rename_i q;exact h1 e7 s Z H D I ⟨H0,e8,env,r,E,by rw[q,e],k⟩
 .exact h2 e7 s Z H D I ⟨H0,e8,env,r,E,e,k⟩
theorem Be{f g:D->D->Option Bool}{r r' :R2}(h1:OpB X f r)(h2:OpB X g r'):OpB X (orB f g) (λx y H Q=>r x y H Q\/r' x y H Q):=λF H dx dy x y b Q ix iy e q=>by
 unfold orB at e;split at e
 .rename_i z;exact .inl (h1 F H dx dy x y b Q ix iy (by rw[z,e]) q)
 .exact .inr (h2 F H dx dy x y b Q ix iy e q)
theorem Bf{f g:SpV}{r r' :List V->Hp->VK->Prop}(h1:CallD X f r)(h2:CallD X g r'):CallD X (orS f g) (λxs H Q=>r xs H Q\/r' xs H Q):=λF H ds vs rv Q p e k=>by
 unfold orS at e;split at e
 .rename_i z;exact .inl (h1 F H ds vs rv Q p (by rw[z,e]) k)
 .exact .inr (h2 F H ds vs rv Q p e k)
end
def EU(op:CmpOp)(b:Expr):Option (D->D->Option Bool):=aF (!behindInMarks op b) (match op,b with
 | .Is,.Constant .none _ _=>some fF
 | .IsNot,.Constant .none _ _=>some m5
 | .Is,_=>none
 | .IsNot,_=>none
 | .Eq,_=>some eqB
 | .NotEq,_=>some neB
 | .Lt,_=>some ltB
 | .LtE,_=>some leB
 | .Gt,_=>some gtB
 | .GtE,_=>some geB
 | .In,_=>some (orB jH ou)
 | .NotIn,_=>some (orB gO iK))
def EV(x:Str)(n:Nat):Option (SpV):=
 if x="len"/\n=1 then some cM else if x="min"/\n=2 then some gL else if x="max"/\n=2 then some m6
 else if x="all"/\n=1 then some qQ else if x="sum"/\n=1 then some mO
 else if x="int"/\n=1 then some (orS oq kL) else if x="str"/\n=1 then some gc else if x="tuple"/\n=1 then some bF else if x="list"/\n=1 then some listS else none
noncomputable def J8(x:Str):Option String:=
 if x="int" then some "int" else if x="bool" then some "bool" else if x="str" then some "str" else if x="tuple" then some "tuple" else if x="list" then some "list" else none
noncomputable def Bg:Expr->Bool
 | .Slice _ _ _ _=>false
 |_=>true
theorem kh{b:Expr}(h:Bg b=true):lj b:=by
 cases b<;>first|exactλ_ _=>rfl|cases h
noncomputable def plT:Expr->Bool
 | .UnaryOp _ _ _=>false
 | .BoolOp _ _ _=>false
 | .IfExp _ _ _ _=>false
 | .Compare _ _ _ _=>false
 |_=>true
theorem rB{e:Expr}{env:PySem.Env}(h:plT e=true):∀whole,isTrue e env whole=(do let v<-whole;standAt e.pos;holding [v] (truthy v)):=by
 cases e<;>first|exactλ_=>rfl|cases h
section
variable{G:Gm}{X:Cx}
theorem oB(g:aZ G X){op:CmpOp}{b:Expr}{o:D->D->Option Bool}(h:EU op b=some o):behindInMarks op b=false/\∃r,OpR X (compareOp op) r/\OpB X o r:=by
 obtain⟨h1,h2⟩:=ae h;refine⟨by simpa using h1, ?_⟩;have hu:=g.hu;split at h2<;>cases h2
 .exact⟨_,Hj,Du⟩
 .exact⟨_,CY,A0⟩
 .exact⟨_,Ie hu,Ih⟩
 .exact⟨_,Ig hu,Ij⟩
 .exact⟨_,L3,HI⟩
 .exact⟨_,L4,HJ⟩
 .exact⟨_,L5,HK⟩
 .exact⟨_,L6,HL⟩
 .exact⟨_,(ID hu).or IG,Be EH Eg⟩
 .exact⟨_,(Ec hu).or Ef,Be Bb AF⟩
variable{x:Str}
theorem EX(g:aZ G X){n:Nat}{o:SpV}(h:EV x n=some o)(hb:bR G x=true){e:Expr}{es:List Expr}{ra:DA}{p pos:Pos}(ha:PAd X (e::es) ra)(he:ns e=true)(hR:(backTo pos (starEach es X.env)).any (·.1)=false):PEd X (.Call (.Name x p) (e::es) [] pos) (bw o ra):=by
 obtain⟨b1,b2,b3,b4⟩:=jI g hb;have hc:=g.calm;unfold EV at h
 repeat' split at h
 all_goals first|cases h|skip
 all_goals (rename_i q;obtain⟨rfl,_⟩:=q)
 .exact ma wz uY b1 b2 Ik ha b3 b4 (aT he) hR
 .exact ma (uJ hc) qR b1 b2 Il ha b3 b4 (aT he) hR
 .exact ma (uI hc) qS b1 b2 Im ha b3 b4 (aT he) hR
 .exact ma (vg hc) vi b1 b2 Ip ha b3 b4 (aT he) hR
 .exact ma (vh hc) vk b1 b2 Io ha b3 b4 (aT he) hR
 .exact jA (uK.or mR) (Bf vq qZ) b1 b2 Af ha b3 b4 (aT he) hR
 .exact jA nU vA b1 b2 Ag ha b3 b4 (aT he) hR
 .exact jA mM pB b1 b2 pG ha b3 b4 (aT he) hR
 .exact jA nY qT b1 b2 sM ha b3 b4 (aT he) hR
theorem EY{T:String}(h:J8 x=some T):md X.K T/\bootBuiltins x=some (.type T):=by
 unfold J8 at h
 repeat' split at h
 all_goals first|cases h|skip
 all_goals (rename_i q;obtain rfl:=q)
 .exact⟨DJ,Af⟩
 .exact⟨Ai,DH⟩
 .exact⟨DK,Ag⟩
 .exact⟨kit_tuple,pG⟩
 .exact⟨Ah,sM⟩
end
abbrev Rc:=Gm->Ev
def cpR(v:Ev):Expr->Option DT
 | .Compare a [op] [b] _=>(EU op b).bind λo=>(v.E a).bind λf=>(v.E b).map λg=>af o f g
 | .Compare a [op,xB] [b,c] _=>(EU op b).bind λo=>(EU xB c).bind λo' =>(v.E a).bind λf=>(v.E b).bind λg=>(v.E c).map λh=>k8 o o' f g h
 |_=>none
def EZ(v:Ev)(G:Gm):Expr->Option DT
 | .Call (.Name x _) [e,.Name y _] [] _=>aF (x=="isinstance"&&bR G x&&bR G y&&ns e) ((J8 y).bind λT=>(v.E e).map λf=>i6 T f)
 |_=>none
def vV(v:Ev)(G:Gm)(e:Expr):Option DT:=match e with
 | .Compare _ _ _ _=>cpR v e
 | .BoolOp _ [a] _=>v.V a
 | .BoolOp .And (a::b::rest) p=>(v.V a).bind λt=>(v.V (.BoolOp .And (b::rest) p)).map λu=>bc t u
 | .BoolOp .Or (a::b::rest) p=>(v.V a).bind λt=>(v.V (.BoolOp .Or (b::rest) p)).map λu=>orT t u
 | .UnaryOp .Not a _=>(v.V a).map k7
 | .Call _ _ _ _=>match EZ v G e with
  |some t=>some t
  |none=>(v.E e).map fX
 |_=>(v.E e).map fX
def tV(v:Ev)(e:Expr):Option DT:=match e with
 | .Compare _ _ _ _=>cpR v e
 | .BoolOp _ _ _=>v.W e
 | .UnaryOp .Not a _=>(v.T a).map k7
 |_=>aF (plT e) ((v.E e).map fX)
def wV(v:Ev):Expr->Option DT
 | .BoolOp .And [a] _=>v.T a
 | .BoolOp .Or [a] _=>v.T a
 | .BoolOp .And (a::b::rest) p=>(v.T a).bind λt=>(v.W (.BoolOp .And (b::rest) p)).map λu=>bc t u
 | .BoolOp .Or (a::b::rest) p=>(v.T a).bind λt=>(v.W (.BoolOp .Or (b::rest) p)).map λu=>orT t u
 |_=>none
def tgs(G:Gm):List Expr->Option (List Nat)
 |[]=>some []
 | .Name x _::r=>(lR G x).bind λi=>(tgs G r).map λis=>i::is
 |_=>none
def tgR(G:Gm):Expr->Option DG
 | .Name x _=>(lR G x).map gN
 | .Tuple es _ _=>(tgs G es).map gT
 |_=>none
noncomputable def tgN:Expr->List Str
 | .Name x _=>[x]
 | .Tuple es _ _=>es.filterMap λ| .Name x _=>some x|_=>none
 |_=>[]
noncomputable def J9:Expr->Bool
 | .Tuple _ _ _=>true
 |_=>false
noncomputable def Ja:Expr->Bool
 | .Set _ _ _=>false
 |_=>true
noncomputable def Jb:Expr->Bool
 | .Call (.Name _ _) [] [] _=>false
 |_=>true
def F0(v:Ev)(G:Gm)(tg iter:Expr):Option DI:=match iter with
 | .Call (.Name x _) [a] [] _=>
  if x="range" then aF (bR G x&&ns a) ((v.E a).map aY)
  else if x="enumerate" then aF (bR G x&&ns a&&J9 tg) ((v.E a).map nB)
  else(v.E iter).map m8
 | .Call (.Name x _) [a,b] [] _=>
  if x="zip" then aF (bR G x&&ns a&&ns b&&J9 tg) ((v.E a).bind λf=>(v.E b).map λg=>EM f g) else if x="range" then aF (bR G x&&ns a&&ns b) ((v.E a).bind λf=>(v.E b).map λg=>jw f g) else(v.E iter).map m8
 |_=>(v.E iter).map λf=>orI (m8 f) (pP f)
def Gn(G:Gm):Expr->Option Nat
 | .Name x _=>ixN G.N x
 | .Call (.Name y _) [.Name x _] [] _=>if y="enumerate" then ixN G.N x else none
 |_=>none
def inG(G:Gm)(scope:Scope)(tn:List Str):Gm:={G with N:=tn++G.N.filter λx=>scope.names.lookup x==some .free,kd:=λx=>scope.names.lookup x,top:=false}
def Mi(G:Gm)(scope:Scope):List Nat:=(G.N.filter λx=>scope.names.lookup x==some .free).filterMap (ixN G.N)
def scB(G:Gm)(scope:Scope)(N:List Str)(n:Nat)(eA:List Nat):Bool:=
 (scope.names.all λy=>y.2 != .cell)&&scope.kind== .function&&(scope.names.all λy=>y.2 != .local||scope.names.lookup y.1==some .local)&&(scope.names.all λy=>y.2 != .free||mP (G.kd y.1))
  &&N.drop n==(eA.map λi=>(G.N[i]?).getD ("":Str))&&decide (n<=N.length)&&(eA.all λi=>decide (i<G.N.length))&&((N.drop n).all λx=>scope.names.lookup x==some .free)&&decide N.Nodup
def tsR(v:Ev):List Expr->Option DT
 |[]=>some bD
 |[c]=>v.T c
 |_=>none
section
variable{G:Gm}{X:Cx}{v:Ev}
variable{t:DT}
theorem Bh(g:aZ G X)(k:cL v X){e:Expr}(h:cpR v e=some t):PTd X e t/\PEd X e (bE t):=by
 unfold cpR at h;split at h
 .obtain⟨o,ho,h⟩:=e6 h;obtain⟨f,hf,h⟩:=e6 h;obtain⟨q,hq,rfl⟩:=Gaa.mp h;obtain⟨m,r,h1,h2⟩:=oB g ho;exact⟨HG h1 h2 (k.E _ _ hf) (k.E _ _ hq) m,HH h1 h2 (k.E _ _ hf) (k.E _ _ hq) m⟩
 .obtain⟨o,ho,h⟩:=e6 h;obtain⟨o',xD,h⟩:=e6 h;obtain⟨f,hf,h⟩:=e6 h;obtain⟨q,hq,h⟩:=e6 h;obtain⟨u,hu,rfl⟩:=Gaa.mp h;obtain⟨m,r,h1,h2⟩:=oB g ho;obtain⟨m',r',zx,z9⟩:=oB g xD;exact⟨A2 h1 h2 zx z9 (k.E _ _ hf) (k.E _ _ hq) (k.E _ _ hu) m',As h1 h2 zx z9 (k.E _ _ hf) (k.E _ _ hq) (k.E _ _ hu) m'⟩
 .cases h
theorem tR(g:aZ G X)(k:cL v X){e:Expr}(h:EZ v G e=some t):PEd X e (bE t):=by
 unfold EZ at h;split at h
 .obtain⟨c,h⟩:=ae h;obtain⟨T,hT,h⟩:=e6 h;obtain⟨f,hf,rfl⟩:=Gaa.mp h;simp only[Gad,Gay] at c;obtain⟨⟨⟨c1,c2⟩,c3⟩,c4⟩:=c;subst c1;obtain⟨a1,a2,_,_⟩:=jI g c2;obtain⟨b1,b2,b3,b4⟩:=jI g c3;obtain⟨k1,k2⟩:=EY (X:=X) hT;exact Ib k1 (k.E _ _ hf) a1 a2 b1 b2 k2 b3 b4 (aT c4) (aT rfl) rfl
 .cases h
theorem Gp(g:aZ G X)(k:cL v X){e:Expr}(h:vV v G e=some t):PEd X e (bE t):=by
 unfold vV at h;split at h
 .exact(Bh g k h).2
 .exact HS (k.V _ _ h)
 .obtain⟨a,ha,h⟩:=e6 h;obtain⟨u,hu,rfl⟩:=Gaa.mp h;exact HU (k.V _ _ ha) (k.V _ _ hu)
 .obtain⟨a,ha,h⟩:=e6 h;obtain⟨u,hu,rfl⟩:=Gaa.mp h;exact LP (k.V _ _ ha) (k.V _ _ hu)
 .obtain⟨u,hu,rfl⟩:=Gaa.mp h;exact HV (k.V _ _ hu)
 .split at h
  .rename_i q;cases h;exact tR g k q
  .obtain⟨u,hu,rfl⟩:=Gaa.mp h;exact pz (k.E _ _ hu)
 .obtain⟨u,hu,rfl⟩:=Gaa.mp h;exact pz (k.E _ _ hu)
theorem Mj(g:aZ G X)(k:cL v X){e:Expr}(h:tV v e=some t):PTd X e t:=by
 unfold tV at h;split at h
 .exact(Bh g k h).1
 .exact(k.W _ _ h).pt
 .obtain⟨u,hu,rfl⟩:=Gaa.mp h;exact HR (k.T _ _ hu)
 .obtain⟨c,h⟩:=ae h;obtain⟨u,hu,rfl⟩:=Gaa.mp h;exact HM (k.E _ _ hu) (rB c)
theorem Ml(k:cL v X){e:Expr}(h:wV v e=some t):PWd X e t:=by
 unfold wV at h;split at h
 .exact Dv (k.T _ _ h)
 .exact HP (k.T _ _ h)
 .obtain⟨a,ha,h⟩:=e6 h;obtain⟨u,hu,rfl⟩:=Gaa.mp h;exact HQ (k.T _ _ ha) (k.W _ _ hu)
 .obtain⟨a,ha,h⟩:=e6 h;obtain⟨u,hu,rfl⟩:=Gaa.mp h;exact LO (k.T _ _ ha) (k.W _ _ hu)
 .cases h
theorem Bi(g:aZ G X):∀{es:List Expr} {is:List Nat},tgs G es=some is->PGs X es (tGs X is)/\(assignEach es X.env).length=is.length/\(assignEach es X.env).findIdx? (·.1)=none
 |[],is,h=>by cases h;exact⟨Dz,rfl,rfl⟩
 |e::r,is,h=>by
  unfold tgs at h;split at h
  .rename_i q;cases q
  .rename_i x p r' q;cases q;obtain⟨i,hi,h⟩:=e6 h;obtain⟨js,hj,rfl⟩:=Gaa.mp h;obtain⟨h1,h2,h3⟩:=iN g hi;obtain⟨a1,a2,a3⟩:=Bi g hj;refine⟨Ac (sJ g.nd h1 h2 h3) a1 rfl, ?_, ?_⟩
   .show(assignEach r X.env).length+1=_;rw[a2];rfl
   .show((false,assign (.Name x p) X.env)::assignEach r X.env).findIdx? (·.1)=none;rw[Gbw,a3];rfl
  .cases h
theorem oC(g:aZ G X){e:Expr}{gd:DG}(h:tgR G e=some gd):PGd X e gd/\nr gd:=by
 unfold tgR at h;split at h
 .obtain⟨i,hi,rfl⟩:=Gaa.mp h;obtain⟨h1,h2,h3⟩:=iN g hi;exact⟨sJ g.nd h1 h2 h3,Al⟩
 .obtain⟨is,hi,rfl⟩:=Gaa.mp h;obtain⟨a1,a2,a3⟩:=Bi g hi;exact⟨I0 g.calm a1 a2 a3 rfl,Am⟩
 .cases h
variable{env:PySem.Env}
theorem oF{e:Expr}(h:Ja e=true):∀x,foldedSetIterable e env x=pure x:=by
 cases e<;>first|exactλ_=>rfl|cases h
theorem tU{o:Expr}{m:Str}(h:Jb o=true):attributeBase o m env (eval o env)=eval o env:=by
 unfold attributeBase;split
 .cases h
 .rfl
theorem Gq{e:Expr}(h:J9 e=true):∃a b c,e= .Tuple a b c:=by
 cases e<;>first|exact⟨_,_,_,rfl⟩|cases h
theorem tY(g:aZ G X)(k:cL v X){tg e:Expr}{src:DI}(h:F0 v G tg e=some src):PId X tg e src:=by
 have seq:∀{e:Expr} {src:DI},(v.E e).map m8=some src->PId X tg e src:=λh=>by
  obtain⟨u,hu,rfl⟩:=Gaa.mp h;exact Ab (k.E _ _ hu)
 unfold F0 at h;split at h
 .split at h
  .rename_i q;subst q
   obtain⟨c,h⟩:=ae h;obtain⟨u,hu,rfl⟩:=Gaa.mp h;rw[Gad] at c;obtain⟨b1,b2,_⟩:=jI g c.1;exact uZ b1 b2 (k.E _ _ hu) (aT c.2)
  .split at h
   .rename_i q;subst q
    obtain⟨c,h⟩:=ae h;obtain⟨u,hu,rfl⟩:=Gaa.mp h;simp only[Gad] at c;obtain⟨b1,b2,_⟩:=jI g c.1.1;obtain⟨_,_,_,rfl⟩:=Gq c.2;exact Ea b1 b2 (k.E _ _ hu) (aT c.1.2)
   .exact seq h
 .split at h
  .rename_i q;subst q
   obtain⟨c,h⟩:=ae h;obtain⟨f,hf,h⟩:=e6 h;obtain⟨u,hu,rfl⟩:=Gaa.mp h;simp only[Gad] at c;obtain⟨b1,b2,_⟩:=jI g c.1.1.1;obtain⟨_,_,_,rfl⟩:=Gq c.2;exact ER b1 b2 (k.E _ _ hf) (k.E _ _ hu) (aT c.1.1.2) (aT c.1.2)
  split at h
  .rename_i q;subst q
   obtain⟨c,h⟩:=ae h;obtain⟨f,hf,h⟩:=e6 h;obtain⟨u,hu,rfl⟩:=Gaa.mp h;simp only[Gad] at c;obtain⟨b1,b2,_⟩:=jI g c.1.1;exact v5 b1 b2 (k.E _ _ hf) (k.E _ _ hu) (by rw[aT c.1.2,aT c.2];rfl) (aT c.2)
  .exact seq h
 .obtain⟨u,hu,rfl⟩:=Gaa.mp h;exact J6 (Ab (k.E _ _ hu)) (IF (k.E _ _ hu))
end
def lcR(r:Rc)(G:Gm)(elt tg iter:Expr)(ifs:List Expr)(scope:Scope):Option DE:=
 aF (scB G scope (inG G scope (tgN tg)).N (tgN tg).length (Mi G scope)&&Ja iter) ((tgR (inG G scope (tgN tg)) tg).bind λgd=>(tsR (r (inG G scope (tgN tg))) ifs).bind λt=>((r (inG G scope (tgN tg))).E elt).bind λf=>(F0 (r G) G tg iter).map λsrc=>bC (Gn G iter) (tgN tg).length (Mi G scope) src gd t f)
section
variable{G:Gm}{X:Cx}{r:Rc}
variable{eA:List Nat}{scope:Scope}
theorem Bj(g:aZ G X){N:List Str}{n:Nat}(h:scB G scope N n eA=true):gw X scope N n eA/\N.Nodup:=by
 unfold scB at h;simp only[Gad] at h;obtain⟨⟨⟨⟨⟨⟨⟨⟨h1,h2⟩,h3⟩,h4⟩,h5⟩,h6⟩,h7⟩,h8⟩,h9⟩:=h;refine⟨⟨h1,by simpa using h2,h3,Gau.mpr λy hy=> ?_,by rw[g.N];exact GaB (by simpa using h5),GaB h6,by rw[g.N];exact h7,h8⟩,GaB h9⟩;have:=Gau.mp h4 y hy;rw[GaT] at this⊢;exact this.imp id (g.cf y.1)
theorem oG(g:aZ G X){tn:List Str}{n:Nat}(h:scB G scope (inG G scope tn).N n eA=true)(cl:List (Str×Addr))(C:Addr)(s:Shared)(H:Hp)(ex:List Addr):aZ (inG G scope tn) (blk X scope cl C (inG G scope tn).N s H ex):=by
 have nc:∀x,scope.names.lookup x≠some .cell:=λx hx=>by
  unfold scB at h;simp only[Gad] at h;have h1:=h.1.1.1.1.1.1.1.1;have:(x,NameKind.cell)∈scope.names:=by
   clear h;generalize scope.names=l at*;induction l with
   |nil=>simp at hx
   |cons p l ih=>
    rw[Gas] at hx;cases q:x==p.1 with
    |true=>rw[q] at hx;obtain⟨a,b⟩:=p;injection hx with hx;subst hx;rw[Gay.mp q];exact GaA
    |false=>rw[q] at hx;rw[Gbo,Gad] at h1;exact Gat _ (ih hx h1.2)
  have:=Gau.mp h1 _ this;simp at this
 have nd:=(Bj g h).2;exact{
  N:=rfl
  nd:=nd
  vis:=λx hx=>by
   have hx:rdK (scope.names.lookup x)=true:=hx
   match q:scope.names.lookup x with
   |some .local=>exact vb q
   |some .free=>exact Ak q
   |some .cell=>exact absurd q (nc x)
   |none=>rw[q] at hx;cases hx
   |some .globalExplicit=>rw[q] at hx;cases hx
   |some .globalImplicit=>rw[q] at hx;cases hx
  loc:=λx hx=>by
   have hx:scope.names.lookup x=some .local:=by simpa[inG] using hx
   exact⟨vc hx,Ir hx⟩
  gl:=λx hx=>Iq hx
  cf:=λx hx=>by
   have hx:mP (scope.names.lookup x)=true:=hx;have q:scope.names.lookup x=some .free:=by
    match q:scope.names.lookup x with
    |some .free=>rfl
    |some .cell=>exact absurd q (nc x)
    |some .local=>rw[q] at hx;cases hx
    |none=>rw[q] at hx;cases hx
    |some .globalExplicit=>rw[q] at hx;cases hx
    |some .globalImplicit=>rw[q] at hx;cases hx
   rcases(d3 (env:=X.env) q) with z|z
   .show mP (List.lookup x _)=true;exact(congrArg mP z).trans rfl
   .show mP (List.lookup x _)=true;exact(congrArg mP z).trans rfl
  sw:=λz=>by cases z
  calm:=g.calm
  own:=rfl
  hu:=g.hu
  fns:=g.fns
  no:=g.no
  cs:=g.cs
  ds:=g.ds
  cl:=g.cl
  na:=g.na}
theorem Bk(hr:∀G X,aZ G X->cL (r G) X)(g:aZ G X){elt tg iter:Expr}{ifs:List Expr}{pos:Pos}{f:DE}(h:lcR r G elt tg iter ifs scope=some f):
  PEd X (.ListComp elt [⟨tg,iter,ifs,0⟩] scope pos) f/\(∀{x:Str} {i:Nat} {p' p:Pos},lR G x=some i->swapsWith (.ListComp elt [⟨tg,iter,ifs,0⟩] scope pos) (some (.Name x p')) p.line X.env=pure true->PSd X (.Assign [.Name x p'] (.ListComp elt [⟨tg,iter,ifs,0⟩] scope pos) p) (av i f)):=by
 obtain⟨c,h⟩:=ae h;rw[Gad] at c;obtain⟨gd,hg,h⟩:=e6 h;obtain⟨t,ht,h⟩:=e6 h;obtain⟨u,hu,h⟩:=e6 h;obtain⟨S,nd⟩:=Bj g c.1;have B:Blk X scope (inG G scope (tgN tg)).N tg elt ifs gd t u:=⟨λcl C s H ex=>(oC (oG g c.1 cl C s H ex) hg).1,λcl C s H ex=>by
  have k:=hr _ _ (oG g c.1 cl C s H ex);unfold tsR at ht;split at ht
  .cases ht;exact v9
  .exact va (k.T _ _ ht)
  .exact(by cases ht),λcl C s H ex=>(hr _ _ (oG g c.1 cl C s H ex)).E _ _ hu⟩
 have no:=(oC (oG g c.1 [] 0 X.s₀ X.H0 []) hg).2;obtain⟨src,PM,rfl⟩:=Gaa.mp h;have I:=tY g (hr G X g) PM;exact⟨DR g.calm S I no B (oF c.2),λhx hs=>by
  obtain⟨l1,l2,l3⟩:=iN g hx;exact DU g.nd l1 l2 g.calm S I no B hs (oF c.2) l3⟩
end
def opO:Operator->Option (D->D->Option RV)
 | .Add=>some ai
 | .Sub=>some gV
 | .Mult=>some k6
 | .Mod=>some dP
 |_=>none
def slO(v:Ev):Option Expr->Option DO
 |none=>some noO
 |some e=>(v.E e).map fG
def clR(v:Ev)(G:Gm)(x:Str)(args:List Expr):Option DE:=match G.fns x with
 |some (np,sp)=>aF (gR G x) ((aR v.E args).bind λa=>aF (a.1==np&&a.1 !=0) (some (bO sp a.2)))
 |none=>aF (bR G x) ((aR v.E args).bind λa=>(EV x a.1).map λo=>bw o a.2)
def F1(G:Gm):List Expr->Option (List Nat)
 |[]=>some []
 | .Name x _::r=>(vR G x).bind λi=>(F1 G r).map λis=>i::is
 |_=>none
def nmE(G:Gm)(x:Str):Option DE:=match vR G x with
 |some i=>some (vE i)
 |none=>aF (gR G x) ((G.cs x).map kE)
noncomputable def alt{α:Type}(a b:Option α):Option α:=match a with
 |some x=>some x
 |none=>b
theorem cB{α:Type}{a b:Option α}{x:α}(h:alt a b=some x):a=some x\/b=some x:=by
 cases a with
 |none=>exact .inr h
 |some y=>exact .inl h
theorem nn{α:Type}{x:Option α}{f:α}{C:Prop}(h:x=some f)(e:x=none):C:=by rw[e] at h;cases h
def eR0(r:Rc)(G:Gm)(e:Expr):Option DE:=match e with
 | .Name x _=>nmE G x
 | .Constant (.int i) _ _=>some (kE (.int i))
 | .Constant (.bool b) _ _=>some (kE (.bl b))
 | .Constant .none _ _=>some (kE .non)
 | .Constant (.str x) _ _=>some (kE (.str x))
 | .BinOp a op b _=>(opO op).bind λo=>((r G).E a).bind λf=>((r G).E b).map λg=>opE o f g
 | .UnaryOp .USub a _=>((r G).E a).map (unE iS)
 | .UnaryOp .Not _ _=>(vV (r G) G e).map bE
 | .Compare _ _ _ _=>(vV (r G) G e).map bE
 | .BoolOp _ _ _=>(vV (r G) G e).map bE
 | .IfExp c a b _=>((r G).T c).bind λt=>((r G).E a).bind λf=>((r G).E b).map λg=>ifE t f g
 | .Tuple es _ _=>(aR (r G).E es).map λa=>gW a.2
 | .Attribute a n _=>aF (G.fs.contains n&&Jb a) (((r G).E a).map λf=>cj G.C n f)
 | .List es _=>(aR (r G).E es).map λa=>cy a.2
 |_=>none
def eR1(r:Rc)(G:Gm)(e:Expr):Option DE:=match e with
 | .Subscript a (.Slice lo hi none _) _=>((r G).E a).bind λf=>(slO (r G) lo).bind λl=>(slO (r G) hi).map λh=>slE f l h
 | .Subscript (.Name x _) b _=>aF (Bg b) (match aF (gR G x) (G.ds x) with
  |some t=>((r G).E b).map λg=>kdE t g
  |none=>(nmE G x).bind λf=>((r G).E b).map λg=>ixE f g)
 | .Subscript (.List es lp) b _=>aF (Bg b) (((r G).E b).bind λg=>match(r G).E (.List es lp),F1 G es with
  |some f,some is=>some (orE (ixE f g) (tN is g))
  |some f,none=>some (ixE f g)
  |none,some is=>some (tN is g)
  |none,none=>none)
 | .Subscript a b _=>aF (Bg b) (((r G).E a).bind λf=>((r G).E b).map λg=>ixE f g)
 |_=>none
def eR2(r:Rc)(G:Gm)(e:Expr):Option DE:=match e with
 | .Call (.Attribute o m apos) [a] [] eF=>aF (m=="split"&&Jb o&&ns a&&(apos.endLine==eF.line)) (((r G).E o).bind λf=>((r G).E a).map λg=>opE kg f g)
 |_=>none
def eR3(r:Rc)(G:Gm)(e:Expr):Option DE:=match e with
 | .ListComp elt [⟨tg,iter,ifs,0⟩] scope _=>lcR r G elt tg iter ifs scope
 |_=>none
def eR4(r:Rc)(G:Gm)(e:Expr):Option DE:=match e with
 | .Call (.Name x _) args [] _=>match EZ (r G) G e with
  |some t=>some (bE t)
  |none=>clR (r G) G x args
 |_=>none
def eR(r:Rc)(G:Gm)(e:Expr):Option DE:=alt (eR0 r G e) (alt (eR1 r G e) (alt (eR2 r G e) (alt (eR3 r G e) (eR4 r G e))))
section
variable{G:Gm}{X:Cx}{r:Rc}{v:Ev}
variable{p:Pos}{f:DE}{x:Str}
theorem Jc(g:aZ G X)(k:cL v X){args:List Expr}{pos:Pos}(h:clR v G x args=some f):PEd X (.Call (.Name x p) args [] pos) f:=by
 unfold clR at h;split at h
 .rename_i np sp hf;obtain⟨c,h⟩:=ae h;obtain⟨⟨n,a⟩,ha,h⟩:=e6 h;obtain⟨c2,h⟩:=ae h;cases h;simp only[Gad,Gay,bne_iff_ne] at c2;obtain⟨rfl,n0⟩:=c2;obtain⟨e,t,rfl,h1,m,q,hq⟩:=tQ ha n0;obtain⟨kk,fa,fd,ps,F,hr,hm,hk,hb⟩:=g.fns x _ _ hf;obtain⟨g1,_,g3⟩:=iO g c;exact Dw F hr g1 hm hk hb su (jJ k.E ha).1 (jJ k.E ha).2.1 g3 (aT h1) ((jJ k.E hq).2.2.1 pos)
 .obtain⟨c,h⟩:=ae h;obtain⟨⟨n,a⟩,ha,h⟩:=e6 h;obtain⟨o,ho,rfl⟩:=Gaa.mp h;have n0:n≠0:=λz=>by subst z;simp[EV] at ho
  obtain⟨e,t,rfl,h1,m,q,hq⟩:=tQ ha n0;exact EX g ho c (jJ k.E ha).1 h1 ((jJ k.E hq).2.2.1 pos)
theorem Bl(k:cL v X){e:Option Expr}{d:DO}(h:slO v e=some d):PO X e (tO X d):=by
 unfold slO at h;split at h
 .cases h;exact ve
 .obtain⟨u,hu,rfl⟩:=Gaa.mp h;exact vf (k.E _ _ hu)
theorem Bm(g:aZ G X)(h:nmE G x=some f):PEd X (.Name x p) f:=by
 unfold nmE at h;split at h
 .rename_i i hi;cases h;obtain⟨v1,v2,v3,v4⟩:=gP g hi;exact wW i v1 v2 v3 v4
 .obtain⟨c,h⟩:=ae h;obtain⟨d,hd,rfl⟩:=Gaa.mp h;obtain⟨g1,_,g3⟩:=iO g c;have:=g.cs x d hd;cases d with
  |int i=>obtain⟨t,ht⟩:=this;exact AG g1 ht g3
  |str y=>obtain⟨t,ht⟩:=this;exact AH g1 ht g3
  |kt ks=>obtain⟨a,ha,hk⟩:=this;exact Me g1 ha hk g3
  |_=>exact this.elim
theorem oH(g:aZ G X):∀{es:List Expr} {is:List Nat},F1 G es=some is->PA X es (tVs is)
 |[],is,h=>by cases h;exact J3
 |e::r,is,h=>by
  unfold F1 at h;split at h
  .rename_i q;cases q
  .rename_i x p r' q;cases q;obtain⟨i,hi,h⟩:=e6 h;obtain⟨js,hj,rfl⟩:=Gaa.mp h;obtain⟨v1,v2,v3,v4⟩:=gP g hi;exact Mh v1 v2 v3 v4 (oH g hj) (aT rfl)
  .cases h
theorem F3{b:Expr}(h:Bg b=true):Ht b:=by
 cases b<;>first|exactλ_ _=>rfl|cases h
theorem Jd(hr:∀G X,aZ G X->cL (r G) X)(g:aZ G X){e:Expr}(h:eR0 r G e=some f):PEd X e f:=by
 have k:=hr G X g;have vv:∀{e:Expr} {f:DE},(vV (r G) G e).map bE=some f->PEd X e f:=λh=>by
  obtain⟨u,hu,rfl⟩:=Gaa.mp h;exact Gp g k hu
 unfold eR0 at h;split at h
 .exact Bm g h
 .cases h;exact wX
 .cases h;exact LM
 .cases h;exact HA
 .cases h;exact HB
 .obtain⟨o,ho,h⟩:=e6 h;obtain⟨a,ha,h⟩:=e6 h;obtain⟨b,hb,rfl⟩:=Gaa.mp h;unfold opO at ho;split at ho
  .cases ho;exact Ej (k.E _ _ ha) (k.E _ _ hb)
  .cases ho;exact HD (k.E _ _ ha) (k.E _ _ hb)
  .cases ho;exact HE (k.E _ _ ha) (k.E _ _ hb)
  .cases ho;exact HF (k.E _ _ ha) (k.E _ _ hb)
  .cases ho
 .obtain⟨u,hu,rfl⟩:=Gaa.mp h;exact wZ (k.E _ _ hu)
 .exact vv h
 .exact vv h
 .exact vv h
 .obtain⟨o,ho,h⟩:=e6 h;obtain⟨a,ha,h⟩:=e6 h;obtain⟨b,hb,rfl⟩:=Gaa.mp h;exact A1 (k.T _ _ ho) (k.E _ _ ha) (k.E _ _ hb)
 .obtain⟨⟨n,a⟩,ha,rfl⟩:=Gaa.mp h;exact HW (jJ k.E ha).1
 .obtain⟨c,h⟩:=ae h;obtain⟨u,hu,rfl⟩:=Gaa.mp h;rw[Gad] at c;have hn:=GbM.mp c.1;exact Iz (g.cl λz=>by rw[z] at hn;cases hn) (g.na _ hn) (k.E _ _ hu) (tU c.2)
 .obtain⟨⟨n,a⟩,ha,rfl⟩:=Gaa.mp h;exact HX (jJ k.E ha).1
 .cases h
theorem Je(hr:∀G X,aZ G X->cL (r G) X)(g:aZ G X){e:Expr}(h:eR1 r G e=some f):PEd X e f:=by
 have k:=hr G X g;unfold eR1 at h;split at h
 .obtain⟨o,ho,h⟩:=e6 h;obtain⟨a,ha,h⟩:=e6 h;obtain⟨b,hb,rfl⟩:=Gaa.mp h;exact Ao (k.E _ _ ho) (Bl k ha) (Bl k hb)
 .obtain⟨c,h'⟩:=ae h;clear h;split at h'
  .rename_i t ht;obtain⟨c2,ht⟩:=ae ht;obtain⟨u,hu,rfl⟩:=Gaa.mp h';obtain⟨g1,_,g3⟩:=iO g c2;obtain⟨a,ha,hk⟩:=g.ds _ _ ht;exact Mf g.hu1 g1 ha hk g3 (k.E _ _ hu) (F3 c)
  .obtain⟨a,ha,h'⟩:=e6 h';obtain⟨b,hb,rfl⟩:=Gaa.mp h';exact sF g.hu1 (Bm g ha) (k.E _ _ hb) (kh c)
 .obtain⟨c,h'⟩:=ae h;clear h;obtain⟨u,hu,h⟩:=e6 h';clear h';split at h
  .rename_i q1 q2;cases h;exact J5 (sF g.hu1 (k.E _ _ q1) (k.E _ _ hu) (kh c)) (tP g.hu1 (oH g q2) (k.E _ _ hu) (kh c))
  .rename_i q1 q2;cases h;exact sF g.hu1 (k.E _ _ q1) (k.E _ _ hu) (kh c)
  .rename_i q1 q2;cases h;exact tP g.hu1 (oH g q2) (k.E _ _ hu) (kh c)
  .cases h
 .obtain⟨c,h⟩:=ae h;obtain⟨a,ha,h⟩:=e6 h;obtain⟨b,hb,rfl⟩:=Gaa.mp h;exact sF g.hu1 (k.E _ _ ha) (k.E _ _ hb) (kh c)
 .cases h
theorem Jf(hr:∀G X,aZ G X->cL (r G) X)(g:aZ G X){e:Expr}(h:eR2 r G e=some f):PEd X e f:=by
 have k:=hr G X g;cases e<;>try exact nn h rfl
 rename_i fe ar kw p1;cases fe<;>try exact nn h rfl
 rename_i o m p2;cases ar<;>try exact nn h rfl
 rename_i a ar;cases ar<;>try exact nn h rfl
 cases kw<;>try exact nn h rfl
 unfold eR2 at h
 try dsimp only at h
 obtain⟨c,h⟩:=ae h;obtain⟨o,ho,h⟩:=e6 h;obtain⟨u,hu,rfl⟩:=Gaa.mp h;simp only[Gad,Gay] at c;obtain⟨⟨⟨rfl,c2⟩,c3⟩,c4⟩:=c;exact Ba (k.E _ _ ho) (k.E _ _ hu) (aT c3) (tU c2) (by rw[c4];exact beq_self_eq_true _)
theorem Jg(hr:∀G X,aZ G X->cL (r G) X)(g:aZ G X){e:Expr}(h:eR3 r G e=some f):PEd X e f:=by
 have k:=hr G X g;unfold eR3 at h;split at h
 .exact(Bk hr g h).1
 .cases h
theorem Jh(hr:∀G X,aZ G X->cL (r G) X)(g:aZ G X){e:Expr}(h:eR4 r G e=some f):PEd X e f:=by
 have k:=hr G X g;cases e<;>try exact nn h rfl
 rename_i fe ar kw p1;cases fe<;>try exact nn h rfl
 rename_i x p2;cases kw<;>try exact nn h rfl
 unfold eR4 at h
 try dsimp only at h
 split at h
 .rename_i q;cases h;exact tR g k q
 .exact Jc g k h
theorem Mm(hr:∀G X,aZ G X->cL (r G) X)(g:aZ G X){e:Expr}(h:eR r G e=some f):PEd X e f:=by
 rcases cB h with h|h
 .exact Jd hr g h
 rcases cB h with h|h
 .exact Je hr g h
 rcases cB h with h|h
 .exact Jf hr g h
 rcases cB h with h|h
 .exact Jg hr g h
 exact Jh hr g h
end
noncomputable def nLC:Expr->Bool
 | .ListComp _ _ _ _=>false
 | .SetComp _ _ _ _=>false
 | .DictComp _ _ _ _ _=>false
 |_=>true
theorem ki{e:Expr}{t:Option Expr}{n:Nat}{env:PySem.Env}(h:nLC e=true):swapsWith e t n env=pure false:=by
 cases e<;>first|rfl|cases h
def kdR(v:Ev)(G:Gm):Expr->Option DT
 | .Compare a [op] [.Name x _] _=>match aF (gR G x) (G.ds x) with
  |some t=>if op= .In then(v.E a).map (kdT false t) else if op= .NotIn then(v.E a).map (kdT true t) else none
  |none=>none
 |_=>none
def tK(v:Ev)(G:Gm)(e:Expr):Option DT:=match kdR v G e with
 |some t=>some t
 |none=>tV v e
def r2R(G:Gm):Expr->Option DS
 | .Tuple [.Name x _,.Name y _] _ _=>(vR G x).bind λi=>(vR G y).map λj=>jG i j
 |_=>none
def swB(G:Gm)(x:Str)(p lp:Pos)(scope:Scope):Bool:=(G.kd x==some .local)&&(p.line==lp.line)&& !(scope.names.any λ(n,k)=>n==x&&(k== .local||k== .cell))
def asR(r:Rc)(G:Gm)(x:Str)(p:Pos)(e:Expr):Option DE:=match e with
 | .ListComp elt [⟨tg,iter,ifs,0⟩] scope lp=>aF G.top (match swB G x p lp scope with
  |true=>lcR r G elt tg iter ifs scope
  |false=>(r G).E e)
 |_=>aF (nLC e) ((r G).E e)
def meR(v:Ev)(G:Gm)(x m:Str)(args:List Expr):Option DS:=(vR G x).bind λi=>match args with
 |[a]=>aF (ns a) (if m="append" then(v.E a).map λf=>aH i f else if m="extend" then(v.E a).map λf=>cZ i f else none)
 |[a,b]=>aF (ns a&&ns b) (if m="insert" then(v.E a).bind λf=>(v.E b).map λg=>E5 i f g else none)
 |_=>none
def sR0(r:Rc)(G:Gm)(s:Stmt):Option DS:=match s with
 | .Assign [.Name x p] e _=>(lR G x).bind λi=>(asR r G x p e).map λf=>av i f
 |_=>none
def sR1(r:Rc)(G:Gm)(s:Stmt):Option DS:=match s with
 | .Assign [.Tuple es c p] (.Subscript a i q) _=>(tgR G (.Tuple es c p)).bind λgd=>((r G).E (.Subscript a i q)).map λf=>uV gd f
 |_=>none
def sR2(r:Rc)(G:Gm)(s:Stmt):Option DS:=match s with
 | .Return (some e) _=>((r G).E e).map λf=>match r2R G e with
  |some g=>l8 (retS f) g
  |none=>retS f
 | .If c xs ys _=>((r G).T c).bind λt=>((r G).B xs).bind λa=>((r G).B ys).map λb=>ifS t a b
 |_=>none
def sR3(r:Rc)(G:Gm)(s:Stmt):Option DS:=match s with
 | .For tg iter body [] _=>aF (Ja iter) ((F0 (r G) G tg iter).bind λsrc=>(tgR G tg).bind λgd=>((r G).B body).map λb=>dY (Gn G iter) src gd b)
 |_=>none
def sR4(r:Rc)(G:Gm)(s:Stmt):Option DS:=match s with
 | .Expr (.Call (.Attribute (.Name x _) m apos) args [] eF) _=>aF (apos.endLine==eF.line) (meR (r G) G x m args)
 |_=>none
def sR(r:Rc)(G:Gm)(s:Stmt):Option DS:=alt (sR0 r G s) (alt (sR1 r G s) (alt (sR2 r G s) (alt (sR3 r G s) (sR4 r G s))))
def sN(r:Rc)(G:Gm)(s:Stmt):Option DS:=match sR r G s with
 |some f=>some f
 |none=>aF G.nv (some aX)
def blR(v:Ev):List Stmt->Option DS
 |[]=>some az
 |[s]=>v.S s
 |s::t::rest=>(v.S s).bind λa=>(v.B (t::rest)).map λb=>aC a b
def Mn(r:Rc):Rc:=λG=> ⟨eR r G,vV (r G) G,tK (r G) G,wV (r G),sN r G,blR (r G)⟩
def Bo:Nat->Rc
 |0=>λ_=> ⟨λ_=>none,λ_=>none,λ_=>none,λ_=>none,λ_=>none,λ_=>none⟩
 |n+1=>Mn (Bo n)
section
variable{G:Gm}{X:Cx}{r:Rc}{v:Ev}
variable{t:DT}
theorem Ji(g:aZ G X)(k:cL v X){e:Expr}(h:kdR v G e=some t):PTd X e t:=by
 unfold kdR at h;split at h
 .split at h
  .rename_i tb ht;obtain⟨c,ht⟩:=ae ht;obtain⟨g1,_,g3⟩:=iO g c;obtain⟨a,ha,hk⟩:=g.ds _ _ ht;split at h
   .rename_i q;subst q
    obtain⟨u,hu,rfl⟩:=Gaa.mp h;exact Gj (neg:=false) rfl g1 ha hk g3 (k.E _ _ hu)
   .split at h
    .rename_i q;subst q
     obtain⟨u,hu,rfl⟩:=Gaa.mp h;exact Gj (neg:=true) rfl g1 ha hk g3 (k.E _ _ hu)
    .cases h
  .cases h
 .cases h
theorem Mp(g:aZ G X)(k:cL v X){e:Expr}(h:tK v G e=some t):PTd X e t:=by
 unfold tK at h;split at h
 .rename_i q;cases h;exact Ji g k q
 .exact Mj g k h
variable{pos:Pos}{f:DS}
theorem Jj(g:aZ G X){e:Expr}(h:r2R G e=some f):PSd X (.Return (some e) pos) f:=by
 unfold r2R at h;split at h
 .obtain⟨i,hi,h⟩:=e6 h;obtain⟨j,hj,rfl⟩:=Gaa.mp h;obtain⟨v1,v2,v3,v4⟩:=gP g hi;obtain⟨u1,u2,u3,u4⟩:=gP g hj;exact EG v1 v2 v3 v4 u1 u2 u3 u4 (aT rfl) (aT rfl)
 .cases h
variable{x:Str}
theorem Jk(hr:∀G X,aZ G X->cL (r G) X)(g:aZ G X){p:Pos}{e:Expr}{i:Nat}{f:DE}(hx:lR G x=some i)(h:asR r G x p e=some f):PSd X (.Assign [.Name x p] e pos) (av i f):=by
 obtain⟨l1,l2,l3⟩:=iN g hx;unfold asR at h;split at h
 .rename_i elt tg iter ifs scope lp;obtain⟨c,h'⟩:=ae h;clear h;have sw:swapsWith (.ListComp elt [⟨tg,iter,ifs,0⟩] scope lp) (some (.Name x p)) pos.line X.env=pure (swB G x p lp scope):=by
   show(pure _:Sem Bool)=_;unfold swB;rw[<-g.sw c x]
   rfl
  split at h'
  .rename_i q;exact(Bk hr g h').2 hx (by rw[sw,q])
  .rename_i q;exact qU g.nd l1 l2 ((hr G X g).E _ _ h') (by rw[sw,q]) l3
 .obtain⟨c,h'⟩:=ae h;exact qU g.nd l1 l2 ((hr G X g).E _ _ h') (ki c) l3
theorem Jl(g:aZ G X)(k:cL v X){m:Str}{args:List Expr}{px apos eF:Pos}(hl:(apos.endLine==eF.line)=true)(h:meR v G x m args=some f):PSd X (.Expr (.Call (.Attribute (.Name x px) m apos) args [] eF) pos) f:=by
 obtain⟨i,hi,h'⟩:=e6 h;clear h;obtain⟨v1,v2,v3,v4⟩:=gP g hi;split at h'
 .obtain⟨c,h2⟩:=ae h';clear h';split at h2
  .rename_i q;subst q
   obtain⟨u,hu,rfl⟩:=Gaa.mp h2;exact v7 v1 v2 (k.E _ _ hu) v3 v4 (aT c) rfl (by rw[aT c];rfl) hl rfl
  .split at h2
   .rename_i q;subst q
    obtain⟨u,hu,rfl⟩:=Gaa.mp h2;exact v8 v1 v2 (k.E _ _ hu) v3 v4 (aT c) rfl (by rw[aT c];rfl) hl rfl
   .cases h2
 .obtain⟨c,h2⟩:=ae h';clear h';rw[Gad] at c;split at h2
  .rename_i q;subst q
   obtain⟨a,ha,h3⟩:=e6 h2;obtain⟨u,hu,rfl⟩:=Gaa.mp h3;exact vw v1 v2 (k.E _ _ ha) (k.E _ _ hu) v3 v4 (aT c.1) (aT c.2) rfl (by rw[aT c.1,aT c.2];rfl) hl rfl
  .cases h2
 .cases h'
variable{s:Stmt}
theorem Jm(hr:∀G X,aZ G X->cL (r G) X)(g:aZ G X)(h:sR0 r G s=some f):PSd X s f:=by
 have k:=hr G X g;cases s<;>try exact nn h rfl
 rename_i ts e p;cases ts<;>try exact nn h rfl
 rename_i t1 ts;cases t1<;>try exact nn h rfl
 rename_i x p1;cases ts<;>try exact nn h rfl
 unfold sR0 at h
 try dsimp only at h
 obtain⟨i,hi,h⟩:=e6 h;obtain⟨u,hu,rfl⟩:=Gaa.mp h;exact Jk hr g hi hu
theorem Jn(hr:∀G X,aZ G X->cL (r G) X)(g:aZ G X)(h:sR1 r G s=some f):PSd X s f:=by
 have k:=hr G X g;cases s<;>try exact nn h rfl
 rename_i ts e p;cases ts<;>try exact nn h rfl
 rename_i t1 ts;cases t1<;>try exact nn h rfl
 rename_i es c p1;cases ts<;>try exact nn h rfl
 cases e<;>try exact nn h rfl
 rename_i a ix p2;unfold sR1 at h
 try dsimp only at h
 obtain⟨gd,hg,h⟩:=e6 h;obtain⟨u,hu,rfl⟩:=Gaa.mp h;exact Ia (k.E _ _ hu) (oC g hg).1 rfl rfl rfl
theorem Jo(hr:∀G X,aZ G X->cL (r G) X)(g:aZ G X)(h:sR2 r G s=some f):PSd X s f:=by
 have k:=hr G X g;unfold sR2 at h;split at h
 .obtain⟨u,hu,rfl⟩:=Gaa.mp h;split
  .rename_i q;exact J7 (A8 (k.E _ _ hu)) (Jj g q)
  .exact A8 (k.E _ _ hu)
 .obtain⟨t,ht,h⟩:=e6 h;obtain⟨a,ha,h⟩:=e6 h;obtain⟨u,hu,rfl⟩:=Gaa.mp h;exact LQ (k.T _ _ ht) (k.B _ _ ha) (k.B _ _ hu)
 .cases h
theorem Jp(hr:∀G X,aZ G X->cL (r G) X)(g:aZ G X)(h:sR3 r G s=some f):PSd X s f:=by
 have k:=hr G X g;have ow:PassesOwn (model X.prog X.w) X.A X.env X.xe:=by rw[g.own];exact PassesOwn.never
 cases s<;>try exact nn h rfl
 rename_i tg it bd os p;cases os<;>try exact nn h rfl
 unfold sR3 at h
 try dsimp only at h
 obtain⟨c,h⟩:=ae h;obtain⟨t,ht,h⟩:=e6 h;obtain⟨a,ha,h⟩:=e6 h;obtain⟨u,hu,rfl⟩:=Gaa.mp h;exact HY ow g.calm (tY g k ht) (oC g ha).1 (k.B _ _ hu) (oF c)
theorem Jq(hr:∀G X,aZ G X->cL (r G) X)(g:aZ G X)(h:sR4 r G s=some f):PSd X s f:=by
 have k:=hr G X g;cases s<;>try exact nn h rfl
 rename_i e p;cases e<;>try exact nn h rfl
 rename_i fe ar kw p1;cases fe<;>try exact nn h rfl
 rename_i o m p2;cases o<;>try exact nn h rfl
 rename_i x p3;cases kw<;>try exact nn h rfl
 unfold sR4 at h
 try dsimp only at h
 obtain⟨c,h⟩:=ae h;exact Jl g k c h
theorem Mq(hr:∀G X,aZ G X->cL (r G) X)(g:aZ G X)(h:sR r G s=some f):PSd X s f:=by
 rcases cB h with h|h
 .exact Jm hr g h
 rcases cB h with h|h
 .exact Jn hr g h
 rcases cB h with h|h
 .exact Jo hr g h
 rcases cB h with h|h
 .exact Jp hr g h
 exact Jq hr g h
theorem Mr(hr:∀G X,aZ G X->cL (r G) X)(g:aZ G X)(h:sN r G s=some f):PSd X s f:=by
 unfold sN at h;split at h
 .rename_i q;cases h;exact Mq hr g q
 .obtain⟨_,h⟩:=ae h;cases h;exact A7
theorem oJ:∀(n:Nat) (G:Gm) (X:Cx),aZ G X->cL (Bo n G) X
 |0,G,X,g=>by constructor<;>(intro _ _ h;cases h)
 |n+1,G,X,g=>by
  have hr:=oJ n;have k:=hr G X g;refine⟨λe f h=>Mm hr g h,λe t h=>Gp g k h,λe t h=>Mp g k h,λe t h=>Ml k h,λs f h=>Mr hr g h,λb f h=> ?_⟩;have h:blR (Bo n G) b=some f:=h;unfold blR at h;split at h
  .cases h;exact A5
  .exact A6 (k.S _ _ h)
  .obtain⟨a,ha,h⟩:=e6 h;obtain⟨u,hu,rfl⟩:=Gaa.mp h;exact Dx (k.S _ _ ha) (k.B _ _ hu)
end
section
variable{prog:Program}{w:World}{A:Around}{E:VSP}{z:Shared}
theorem vP{base:Heap}{env:PySem.Env}{outer:List PySem.Env}{L e:Addr}{cls:Value}{dx:Option Addr}{a0 x2 x3 x4 x5:Value}{Q:Unit->Shared->Prop}{E1 E2:VSP}(y6:A.frames=some (env::outer))(hl:z.heap.FunFrames base (env::outer))(hf:env.frame=some L)
  (f:FX z.heap e cls dx #[a0,.none,x2,x3,x4,x5])
  (hQ:∀h' T ts,FX h' e cls dx #[a0,.ref T,x2,x3,x4,x5]->T≠e->z.heap.objs.size<=T->FX h' T (.type "traceback") none ts->ts[3]? =some .none->
   (∀b o,b≠e->z.heap.get? b=some o->∃sl,h'.get? b=some {o with slots:=sl})->(∀b o,b≠e->b∉(env::outer).filterMap (·.frame)->z.heap.get? b=some o->h'.get? b=some o)->Q () {z with heap:=h' }):
  wpAny (model prog w) A (noteFrame (.ref e) env) (λ_ s' =>wpAny (model prog w) A (do
   if(<-field (.ref e) 1)== .none then unsupported "frame.own-activation:exception-without-traceback"
   setFlight (.ref e) env.frame) (λ_ yu =>wpAny (model prog w) A (leaving env (.ref e)) Q E yu) E1 s') E2 z:=by
 have ne:e∉(env::outer).filterMap (·.frame):=λm=>by
  obtain⟨_,o,ho,no⟩:=hl.mem m;obtain⟨sl,q⟩:=f;rw[q] at ho;cases ho
  exact no _ rfl
 unfold noteFrame;simp only[hf];refine Gae (fh (i:=1) (x:= .none) f rfl (GbF rfl ?_));refine Gae (wpAny_frameOf_fun y6 hl hf λh1 s1=>Gae (wpAny_entryPlaceOf λpl hR=>Gae (Gbd ?_ (hR.sizeOk5 _ _ _ _ _))));have e1:FX h1 e cls dx #[a0,.none,x2,x3,x4,x5]:=let⟨sl,q⟩:=f;⟨sl,(s1.2.1 e ne).trans q⟩
 have nT:h1.objs.size≠e:=GaY e1.lt;have le:z.heap.objs.size<=h1.objs.size:=GcE s1.1.symm;refine iY (z:={z with heap:=h1.push _}) (e1.at λo=>Gaf _) (λh2 f2 b2=> ?_) (by simp);obtain⟨T,hT⟩:∃T,T=h1.objs.size:=⟨_,rfl⟩
 obtain⟨t0,Qy⟩:∃t0:Array Value,t0=([Value.none,Value.ref L,Value.none,rawInt ↑L,Value.none]++if pl.isEmpty=true then List.replicate 6 Value.none else pl).toArray:=⟨_,rfl⟩
 have q3:t0[3]? =some (rawInt L):=by subst Qy;rfl
 have sz3:3<t0.size:=(Gbh.mp q3).1;have QJ:FX h2 T (.type "traceback") none t0:=by subst hT Qy;exact⟨_,(b2.2 _ nT).trans (Gar _ rfl)⟩
 have fe2:FX h2 e cls dx #[a0,.ref T,x2,x3,x4,x5]:=by subst hT;exact f2
 have nTe:T≠e:=by subst hT;exact nT
 have k1:∀b o,b≠e->z.heap.get? b=some o->∃sl,h2.get? b=some {o with slots:=sl}:=λb o nb q=>by
  obtain⟨sl,q⟩:=s1.2.2 b o q;exact⟨sl,(b2.2 b nb).trans (Gaf _ q)⟩
 have k2:∀b o,b≠e->b∉(env::outer).filterMap (·.frame)->z.heap.get? b=some o->h2.get? b=some o:=λb o nb m q=>(b2.2 b nb).trans (Gaf _ ((s1.2.1 b m).trans q));have le2:z.heap.objs.size<=T:=by subst hT;exact le
 have nb:∀{b o},z.heap.get? b=some o->b≠T:=λq=>Gaq (Gah (Gaj q) le2);show wpAny (model prog w) A _ _ E1 {z with heap:=h2};refine Gae (fh (z:={z with heap:=h2}) (i:=1) (x:= .ref T) fe2 rfl (GbF rfl ?_));refine Gae (fh (z:={z with heap:=h2}) (i:=1) (x:= .ref T) fe2 rfl (Gbj (by simp) (iY (z:={z with heap:=h2}) QJ (λh3 QI b3=> ?_) sz3)));have fe3:FX h3 e cls dx #[a0,.ref T,x2,x3,x4,x5]:=fe2.at λo=>(b3.2 e (GaG nTe)).trans;have q33:(t0.setIfInBounds 3 (rawInt L))[3]? =some (rawInt L):=by rw[Gby];simp[sz3]
 have sz33:3<(t0.setIfInBounds 3 (rawInt L)).size:=by simpa using sz3
 show wpAny (model prog w) A (leaving env (.ref e)) Q E {z with heap:=h3};unfold leaving;refine Gae ?_;unfold noteFrame;simp only[hf];refine Gae (fh (z:={z with heap:=h3}) (i:=1) (x:= .ref T) fe3 rfl (Gbj (by simp) (Gae (fh (z:={z with heap:=h3}) (i:=3) QI q33 (Gbj (by simp) (Gao ?_))))));refine Gae (fh (z:={z with heap:=h3}) (i:=1) (x:= .ref T) fe3 rfl (Gbj (by simp) (iY (z:={z with heap:=h3}) QI (λh4 RD b4=> ?_) sz33)));refine hQ h4 T _ (fe3.at λo=>(b4.2 e (GaG nTe)).trans) nTe le2 RD (by rw[Gby];simp[sz3]) (λb o n q=> ?_) λb o n m q=> ?_
 .obtain⟨sl,q'⟩:=k1 b o n q;exact⟨sl,(b4.2 b (nb q)).trans ((b3.2 b (nb q)).trans q')⟩
 .exact(b4.2 b (nb q)).trans ((b3.2 b (nb q)).trans (k2 b o n m q))
end
abbrev lpx(X:Cx):VSP:=notedBy (model X.prog X.w) X.A X.env (cameBackBy (model X.prog X.w) X.A X.env X.xe)
section
variable{P:Program}{w:World}{K:au}{mg:Str->Option Value}{base:Heap}{N:List Str}{qual:Str}{scope:Scope}{f:Addr}{cd:Value}{A:Around}{outer:List PySem.Env}{s:Shared}{H:Hp}{E:XK}
theorem F4:XL ((cJ (CXE P w K) P w K mg base N qual scope f cd A outer s H E).cm (lpx (cJ (CXE P w K) P w K mg base N qual scope f cd A outer s H E))) E:=by
 intro e7 Z H1 s1 a B C fI dx n v I cl ha ea ed hE;have ha:s.heap.objs.size<=a:=ha;have I:Inv (cJ (CXE P w K) P w K mg base N qual scope f cd A outer s H E) e7 Z H1 s1:=I.cz;obtain⟨⟨t0,fx⟩,_,_⟩:=(show bu P w H1 s1.heap a (.ext (X1 a C dx)) from I.hok a _ ea)
 have lo:Loose (H1 a):=by rw[ea];trivial
 have nd:dx≠a:=wa ed ea (λz=>by cases z);have fl:s.heap.objs.size<=(cJ (CXE P w K) P w K mg base N qual scope f cd A outer s H E).env.locals:=I.ok.above;have big:∀b,b<s.heap.objs.size->b∉frs outer->b∉(cJ (CXE P w K) P w K mg base N qual scope f cd A outer s H E).stack.filterMap (·.frame):=λb lt m z=>by
  rcases Gan.mp (I.lD b z) with e|z
  .exact absurd (Gah lt fl) (by rw[e];exact GaI _)
  .exact m z
 refine vP (base:=base) I.ok.frames I.stack rfl fx λh' T ts fe n1 le ft q3 k1 k2=> ?_;refine⟨a,B,C,fI,dx,T,n,v,upd H1 a (.ext (X2 a C dx T)),rfl,cl,⟨I.os,I.bare,((show Un (frs outer) [] H H1 s.heap s1.heap from I.base).past (h2:=h') (λb ob lt q=>k1 b ob (Gaq (Gah lt ha)) q) λb ob lt m q=>k2 b ob (Gaq (Gah lt ha)) (big b lt m) q).jE lo,I.hok.jE lo (λb u nb z q=>k2 b u nb (λm=>z (I.je b m)) q) (Gh ⟨t0,fe⟩),ha,GaE I.sz le,n1,aE,by rw[ak nd];exact ed,⟨ts,ft,q3⟩, ?_⟩,hE T⟩;rw[ak n1];exact I.hok.fresh le
end
section
variable{X:Cx}{tg:Expr}
theorem tZ{iter:Expr}{body:List Stmt}{wi:TI}{g:TG}{tb:TS}{pos:Pos}(hc:X.calm=true)(hi:PI X tg iter wi)(hg:PG (X.cm (lpx X)) tg g)(hb:PSs (X.cm (lpx X)) body tb)
  (hs:∀x,foldedSetIterable iter X.env x=pure x):PS X (.For tg iter body [] pos) (KY wi g tb):=by
 intro e7 s Z H D I h;refine wpAny_For (thn (hi e7 s Z H _ I h) λv s1 h1=>thn h1 λzm s2 h2=> ?_) hs;obtain⟨it,fp,tn,J,H2,e,I2,T,yB,f2,W,⟨m0,w0⟩,turn⟩:=h2;subst e;have stat:∀{H' :Hp},(∀b∈fp,H' b=none)->∀b∈fp,gU X e7 H' b:=λhn b hb=> ⟨hn b hb,(f2 b hb).2⟩;refine codeAny_forLoop_any (λn s' =>∃i Z' H',Inv X e7 Z' H' s' /\tn i s'.heap/\(∀b∈fp,H' b=none)/\W i n Z' H') ?_ m0 ⟨0,Z,H2,I2,yB,λb hb=>(f2 b hb).1,w0⟩;rintro n s3 ⟨i,Z3,H3,I3,zg,zz,w3⟩;rcases turn i n Z3 H3 w3 with⟨stop,qn⟩| ⟨go,N,hN,step⟩
 .refine thn (T.done X rfl rfl rfl hc i e7 s3 Z3 H3 (lpx X) I3 (stat zz) zg stop) λr s4 ⟨hr,I4⟩=> ?_;subst hr;exact GbD ⟨Z3,H3,I4,qn⟩
 .refine thn (T.item X rfl rfl rfl hc i e7 s3 Z3 H3 (lpx X) I3 (stat zz) zg go) λr s4 ⟨u,hr,h4⟩=> ?_;subst hr;refine thn h4 λ_ s5 ⟨x,H5,I5,r5,y5,y8,zy⟩=> ?_;have I5' :=I5.pinned (stat zy) (T.obj _ _ y8);refine thn (hg _ s5 Z3 H5 x u _ (I5'.cm _) r5 (step x H5 y5)) λ_ s6 ⟨Z6,H6,I6,q6⟩=> ?_;refine thn (hb _ s6 Z6 H6 _ I6 q6) λf s7 q7=> ?_;have again:∀{Z7:St} {H7:Hp},Inv (X.cm (lpx X)) (e7++jW fp s5.heap) Z7 H7 s7->N Z7 H7->∃m,m<n/\∃i Z' H',Inv X e7 Z' H' s7/\tn i s7.heap/\(∀b∈fp,H' b=none)/\W i m Z' H' :=λ{Z7 H7} I7 n7=>by
   have I7:=I7.cz;obtain⟨m',hm,w7⟩:=hN Z7 H7 n7;refine⟨m',hm,i+1,Z7,H7,I7.dX,T.keep _ _ _ y8 λb hb o e=>(I7.pin (b,o) (GaD _ (GaD _ (d9 hb e)))).1,λb hb=> ?_,w7⟩;obtain⟨o,e,d⟩:=T.obj _ _ y8 b hb;exact(I7.pin (b,o) (GaD _ (GaD _ (d9 hb e)))).2.1
  cases f with
  |next=>obtain⟨Z7,H7,I7,n7⟩:=q7;exact again I7 n7
  |cont=>obtain⟨Z7,H7,I7,n7⟩:=q7;exact again I7 n7
  |brk=>obtain⟨Z7,H7,I7,q7⟩:=q7;exact⟨Z7,H7,I7.cz.dX,q7⟩
  |ret v=>obtain⟨x7,Z7,H7,I7,r7,q7⟩:=q7;exact⟨x7,Z7,H7,I7.cz.dX,r7,q7⟩
end
section
variable{X:Cx}{H0:Hp}{Pn:Nat->V->Prop}{E:XK}{e c:Expr}{g g1 g2:DW}{pos:Pos}
variable{body:List Stmt}{p2 p3:Pos}{y:Str}{i:Nat}
theorem Bp{j l:Nat}{z x:Str}{q1 q2 q3 p1:Pos}{cx:Nat}(hc:X.calm=true)(hg:Gl X "enumerate")(hm:X.mg "enumerate"=none)(hN:X.N.Nodup)(hi:X.N[i]? =some y)(hj:X.N[j]? =some z)(hl:X.N[l]? =some x)
  (hx:Loc X.env.scope y)(hf:X.fn y=true\/X.env.scope.names.lookup y=some .local)(PH:Loc X.env.scope z)(Rr:X.fn z=true\/X.env.scope.names.lookup z=some .local)(hv:Vis X.env.scope x)(hd:(x==("__debug__":Str))=false)(eV:(x==("__classdict__":Str))=false)
  (hb:∀xR,(∀p v,xR p v->Pn p v\/p=l)->PSs (X.cm (lpx X)) body (tW X H0 xR E g)):PS X (.For (.Tuple [.Name y q1,.Name z q2] cx q3) (.Call (.Name "enumerate" p1) [.Name x p2] [] p3) body [] pos) (tW X H0 Pn E (tF i j l g)):=by
 rintro e7 s Z H D I ⟨env,o,EW,e,ok⟩;obtain⟨xs,zO,zS⟩:=e6 e;obtain⟨e8,EO,pn,kn⟩:=id EW;obtain⟨la,ea,w0,_,QW⟩:=EO.bo l _ (ke zO)
 let xR :Nat->V->Prop:=λp v=>Pn p v\/(p=l/\v= .ref la)
 have toP:∀{e Z H},b6 X.K H0 xR e Z H->b6 X.K H0 Pn e Z H:=λE=>E.pin λp v z=> .inl (.inl z);refine tZ hc (sZ hg hm (cN (ck hl hv hd eV) gu rfl) rfl) (wm (X:=X.cm (lpx X)) hc (lK (l9 hN hi hx hf) (lK (l9 hN hj PH Rr) rZ rfl) rfl) rfl rfl) (hb xR λp v z=>z.imp id λq=>q.1) (λ_=>rfl) e7 s Z H D I ?_;have lstAt:∀{e Z H xs},b6 X.K H0 xR e Z H->rf l e=some xs->∃vs e8,Rd H la (.lst vs)/\aI X.K (Cln e8 e Z) H xs vs:=λ{e Z H xs} E h=>by
  obtain⟨B,E,p,k⟩:=E;obtain⟨RK,yh,_,_,Pz⟩:=E.bo l _ (ke h);have:=p l (.ref la) (.inr ⟨rfl,rfl⟩) (by rw[ke h];trivial);rw[yh] at this;cases this
  cases Pz with
  |lst h r=>exact⟨_,B,h,r⟩
 have QM :b6 X.K H0 xR env Z H:=EW.pin λp v z=>z.imp id λ⟨e1,e2⟩=>by subst e1 e2;exact ea
 obtain⟨QN,_,h0,_⟩:=lstAt QM zO;refine⟨_,ea,la,rfl,.inl ⟨⟨QN,.inl h0⟩,λn m Z' H' =>∃eh,b6 X.K H0 xR eh Z' H' /\fM i j l g m n eh =some o,⟨xs.length+1,env,QM,zS⟩, ?_⟩⟩;rintro n m Z' H' ⟨eh,E',xx⟩;cases m with
 |zero=>cases xx
 |succ m=>
  unfold fM at xx;obtain⟨ys,QZ,xx⟩:=e6 xx;obtain⟨vs,B2,hr,rs⟩:=lstAt E' QZ;split at xx
  .rename_i q;cases xx;exact .inl ⟨⟨vs,.inl hr,by rw[<-rs.1];exact List.getElem?_eq_none_iff.mp q⟩,ok Z' H' (toP E')⟩
  .rename_i d q;split at xx
   .rename_i im;obtain⟨v,zP,rv⟩:=rs.get q;obtain⟨o2,yd,xx⟩:=e6 xx;refine .inr ⟨⟨vs,v,.inl hr,zP⟩,λZ2 H2=>∃eh,b6 X.K H0 xR eh Z2 H2/\fM i j l g m (n+1) eh =some o,λZ2 H2 z=> ⟨m,Gbs _,z⟩, ?_⟩;rintro x' H2 ⟨p,w,Ra,rfl,rfl,hw⟩;have:=hw vs (.inl hr);rw[zP] at this;cases this
    refine⟨p,[.int n,v],rfl,.inl (.inl aE),rfl,.int n,[v],rfl,v,[],rfl,rfl, ?_⟩;have sm:aW H' (upd H' p (.tup [.int n,v])):=aV Ra;have E2:=((E'.mono sm).fH (.int (n:Int)) i).fH (d:=d) (v:=v) ((rv.same sm).imm im) j;refine⟨_,o2,E2,yd, ?_⟩;cases o2 with
    |nx e3=>exactλZ3 H3 E3=> ⟨e3,E3,xx⟩
    |ct e3=>exactλZ3 H3 E3=> ⟨e3,E3,xx⟩
    |bk e3=>cases xx;exactλZ3 H3 E3=>ok Z3 H3 (toP E3)
    |ret d e3=>cases xx;exactλv Z3 H3 E3 r=>ok v Z3 H3 (toP E3) r
    |ex C n d=>cases xx;exact ok
   .cases xx
theorem Bq{q:Pos}{f:DE}(hc:X.calm=true)(hg:Gl X "range")(hm:X.mg "range"=none)(he:PEd X.nox e f)(hN:X.N.Nodup)(hi:X.N[i]? =some y)(hx:Loc X.env.scope y)(hf:X.fn y=true\/X.env.scope.names.lookup y=some .local)(hb:PSs (X.cm (lpx X)) body (tW X H0 Pn E g))
  (eU:starEach [e] X.env=[(false,eval e X.env)]):PS X (.For (.Name y q) (.Call (.Name "range" p2) [e] [] p3) body [] pos) (tW X H0 Pn E (dK i f g)):=by
 refine(tZ hc (mX hg hm (bQ (PE.nox he) dh eU) eU) (l9 (X:=X.cm (lpx X)) hN hi hx hf) hb (λ_=>rfl)).aB ?_;rintro D Z H ⟨env,o,EW,e,ok⟩;obtain⟨ds,xv,zS⟩:=e6 e;obtain⟨e8,EO,pn,kn⟩:=id EW;obtain⟨r,hr,xv⟩:=e6 xv;split at xv
 .rename_i j ej;split at xv
  .rename_i sj;cases xv;refine⟨H0,e8,env,[r],EO,by unfold a9 aD;rw[hr];rfl,λvs H1 s1 P=> ?_⟩;cases P with
   |cons R1 tl=>
    cases tl;have ii:=R1.inn;rw[ej] at ii;cases ii;obtain⟨z1,z2⟩:=cA sj;refine⟨j,rfl,by lia,by lia,λn m Z' H' =>m+n=j.toNat/\∃eh,b6 X.K H0 Pn eh Z' H' /\iq (gN i) g ((b0 0 j.toNat).drop n) eh =some o,⟨j.toNat,rfl,env,EW.mono s1,by simpa using zS⟩, ?_⟩;rintro n m Z' H' ⟨em,eh,E',hl⟩;have len:(b0 0 j.toNat).length=j.toNat:=by simp[b0]
    cases m with
    |zero=>
     refine .inl ⟨(by show j.toNat<=n;lia), ?_⟩;rw[List.drop_eq_nil_of_le (by lia)] at hl;cases hl;exact ok Z' H' E'
    |succ m=>
     have xa:n<(b0 0 j.toNat).length:=by lia
     refine .inr ⟨(by show n<j.toNat;lia),λZ2 H2=>m+(n+1)=j.toNat/\∃eh,b6 X.K H0 Pn eh Z2 H2/\iq (gN i) g ((b0 0 j.toNat).drop (n+1)) eh =some o,λZ2 H2 z=> ⟨m,Gbs _,z⟩, ?_⟩;rintro x H2 ⟨rfl,rfl⟩;rw[GbS xa] at hl;have ed:(b0 0 j.toNat)[n]= .int (0+(n:Int)):=by simp[b0]
     unfold iq at hl;obtain⟨e2,yl,hl⟩:=e6 hl;obtain⟨o2,yd,hl⟩:=e6 hl;rw[ed] at yl;cases yl;refine⟨_,o2,E'.fH (.int _) i,yd, ?_⟩;cases o2 with
     |nx e3=>exactλZ3 H3 E3=> ⟨by lia,e3,E3,hl⟩
     |ct e3=>exactλZ3 H3 E3=> ⟨by lia,e3,E3,hl⟩
     |bk e3=>cases hl;exactλZ3 H3 E3=>ok Z3 H3 E3
     |ret d e3=>cases hl;exact ok
     |ex C n d=>cases hl;exact ok
  .cases xv
 .cases xv
end
open PySem.W (exmOne)
structure Wm where
 fw:Str->Option (Nat×List Nat×(SpX))
 rd:Str->Option (Nat×(List D->Option RX))
 mo:Str->Option (Nat×(SpX))
 rz:Str->Option (Nat×Str)
 nm:List Str
 mv:List Nat
 lv:Nat
noncomputable def Wm.inner(M:Wm):Wm:={M with lv:=M.lv -1}
structure mS(M:Wm)(X:Cx)(E:XK):Prop where
 fw:∀x np J sp,M.fw x=some (np,J,sp)->∃k fa fd ps,bH X.prog X.w X.K X.mg X.base CX0 k fa fd ps (spW X.K np J sp)/\bP k X.A/\X.mg x=some (.ref fa)/\PySem.W.keepIn X.K (.ref fa)=true/\Binds X.K fd ps []
 rd:∀x np sp,M.rd x=some (np,sp)->∃k fa fd ps,bH X.prog X.w X.K X.mg X.base (CXE X.prog X.w X.K) k fa fd ps (spR X.K np sp)/\bP k X.A/\X.mg x=some (.ref fa)/\PySem.W.keepIn X.K (.ref fa)=true/\Binds X.K fd ps []
 mo:∀x C sp,M.mo x=some (C,sp)->∃k fa fd ps,Mk X.K C fa/\bH X.prog X.w X.K X.mg X.base CX0 k fa fd ps (spW X.K 1 [0] sp)/\bP (k+1) X.A/\X.mg x=some (.ref C)/\Binds X.K fd ps []
 rz:∀x C n,M.rz x=some (C,n)->(∃B fI k fd ps,XCl X.K B C fI n/\bH X.prog X.w X.K X.mg X.base CX0 k fI fd ps (iL X.K B C n)/\bP (k+1) X.A/\Binds X.K fd ps [])/\X.mg x=some (.ref C)/\exmOne X.K (.ref C) (.ref C)=some true
 lv:M.lv<=2
 xl:1<=M.lv->XL X E
 xl2:2<=M.lv->XL (X.cm (lpx X)) E
 st:X.stack=X.env::X.outer/\X.env.frame=some X.env.locals
def jK(M:Wm)(Pn:Nat->V->Prop):Prop:=∀i∈M.mv,∀v,¬Pn i v
structure WEv where
 S:Stmt->Option DW
 B:List Stmt->Option DW
structure WOk(r:WEv)(M:Wm)(X:Cx)(H0:Hp)(E:XK):Prop where
 S:∀s f,r.S s=some f->∀Pn,jK M Pn->PS X s (tW X H0 Pn E f)
 B:∀s f,r.B s=some f->∀Pn,jK M Pn->PSs X s (tW X H0 Pn E f)
noncomputable def orW(f g:DW):DW:=λenv=>match f env with
 |some r=>some r
 |none=>g env
theorem Bt{X:Cx}{H0:Hp}{Pn:Nat->V->Prop}{E:XK}{s:Stmt}{f g:DW}(h1:PS X s (tW X H0 Pn E f))(h2:PS X s (tW X H0 Pn E g)):PS X s (tW X H0 Pn E (orW f g)):=λe7 z Z H D I ⟨env,o,EW,e,ok⟩=>by
 unfold orW at e;split at e
 .rename_i q;exact h1 e7 z Z H D I ⟨env,o,EW,by rw[q,e],ok⟩
 .exact h2 e7 z Z H D I ⟨env,o,EW,e,ok⟩
def awR(v:Ev)(G:Gm)(nm:List Str)(J:List Nat):Nat->List Expr->Option (List AW)
 |_,[]=>some []
 |i,e::es=>aF (ns e) ((awR v G nm J (i+1) es).bind λr=>match e with
  | .Name x _=>if J.contains i then(vR G x).map λj=> .lent j::r else if nm.contains x then(vR G x).map λj=> .name j::r else(v.E e).map λf=> .val f::r
  |_=>(v.E e).map λf=> .val f::r)
def cwR(v:Ev)(G:Gm)(M:Wm):Expr->Option DXW
 | .Call (.Name x _) (a::as) [] _=>(M.fw x).bind λf=>aF (gR G x) ((awR v G M.nm f.2.1 0 (a::as)).bind λr=>aF (cw 0 r==f.2.1&&r.length==f.1) (some (bx f.2.2 r)))
 |_=>none
def ctR(v:Ev)(G:Gm)(M:Wm):Expr->Option DTW
 | .UnaryOp .Not a _=>aF (plT a) ((cwR v G M a).map λm=>B3 (vH m))
 |e=>aF (plT e) ((cwR v G M e).map vH)
noncomputable def xW(m:DXW):DW:=λenv=>(m env).map λr=> .nx r.2
section
variable{G:Gm}{M:Wm}{X:Cx}{v:Ev}{H0:Hp}{Pn:Nat->V->Prop}{E:XK}
theorem Bu(g:aZ G X.nox)(k:cL v X.nox){nm:List Str}{J:List Nat}:∀{es:List Expr} {i:Nat} {r:List AW},awR v G nm J i es=some r->PA X es (tAw X r)/\es.all ns=true/\∀pos,(backTo pos (starEach es X.env)).any (·.1)=false
 |[],i,r,h=>by cases h;exact⟨IM,rfl,λ_=>rfl⟩
 |e::es,i,r,h=>by
  obtain⟨c,h⟩:=ae h;obtain⟨q,hq,h⟩:=e6 h;obtain⟨a1,a2,a3⟩:=Bu g k hq;refine⟨?_,by rw[Gbo,c,a2];rfl,λpos=>by rw[aT c];exact a3 pos⟩;have val:∀{f:DE},v.E e=some f->PA X (e::es) (tAw X (.val f::q)):=λhf=>IP (k.E _ _ hf) a1 (aT c);split at h
  .split at h
   .obtain⟨j,hj,rfl⟩:=Gaa.mp h;obtain⟨v1,v2,v3,v4⟩:=gP g hj;exact B0 (.inl rfl) v1 v2 v3 v4 a1 (aT c)
   .split at h
    .obtain⟨j,hj,rfl⟩:=Gaa.mp h;obtain⟨v1,v2,v3,v4⟩:=gP g hj;exact B0 (.inr rfl) v1 v2 v3 v4 a1 (aT c)
    .obtain⟨f,hf,rfl⟩:=Gaa.mp h;exact val hf
  .obtain⟨f,hf,rfl⟩:=Gaa.mp h;exact val hf
theorem mC(g:aZ G X.nox)(k:cL v X.nox)(w:mS M X E){e:Expr}{m:DXW}(h:cwR v G M e=some m):PE X e (tXw X H0 Pn m):=by
 unfold cwR at h;split at h
 .rename_i x p a as pos;obtain⟨⟨np,J,sp⟩,hf,h⟩:=e6 h;obtain⟨c,h⟩:=ae h;obtain⟨r,hr,h⟩:=e6 h;obtain⟨c2,h⟩:=ae h;cases h;simp only[Gad,Gay] at c2;obtain⟨rfl,rfl⟩:=c2;obtain⟨kk,fa,fd,ps,F,rm,hm,hk,hb⟩:=w.fw _ _ _ _ hf;obtain⟨g1,_,g3⟩:=iO g c;obtain⟨a1,a2,a3⟩:=Bu g k hr;rw[Gbo,Gad] at a2;have tl:(backTo pos (starEach as X.env)).any (·.1)=false:=by have:=a3 pos;rw[aT a2.1] at this;exact this
  exact Eo F rm g1 hm hk hb a1 rfl g3 (aT a2.1) tl
 .cases h
theorem Jr(g:aZ G X.nox)(k:cL v X.nox)(w:mS M X E){e:Expr}{t:DTW}(h:ctR v G M e=some t):PT X e (tTw X H0 Pn t):=by
 unfold ctR at h;split at h
 .obtain⟨c,h⟩:=ae h;obtain⟨m,hm,rfl⟩:=Gaa.mp h;exact Es (tD (mC g k w hm) (rB c))
 .obtain⟨c,h⟩:=ae h;obtain⟨m,hm,rfl⟩:=Gaa.mp h;exact tD (mC g k w hm) (rB c)
end
def hnR(G:Gm)(C:Nat)(n0:Str)(k:Nat)(en:Str):List Stmt->Option DS
 |[.Assign [.Name x _] (.Attribute (.Name y _) n _) _]=>aF (y==en&&n==n0) ((lR G x).map λj=>av j (AR [C] n (vE k)))
 |_=>none
def pw0(v:Ev)(G:Gm)(M:Wm)(r r2:WEv)(s:Stmt):Option DW:=match s with
 | .Return (some e) _=>match cwR v G M e with
  |some m=>some (ip m)
  |none=>(v.E e).map λf=>kZ f
 | .If c xs ys _=>(r.B xs).bind λa=>(r.B ys).bind λb=>match ctR v G M c with
  |some t=>some (ifC t a b)
  |none=>(v.T c).map λt=>ifW t a b
 |_=>none
def pw1(v:Ev)(G:Gm)(M:Wm)(r r2:WEv)(s:Stmt):Option DW:=match s with
 | .Assign [.Name x _] e _=>aF (nLC e) ((lR G x).bind λi=>match cwR v G M e with
  |some m=>some (setC i m)
  |none=>match e with
   | .Call (.Name c _) [] [] _=>(M.mo c).bind λq=>aF (gR G c&&M.mv.contains i) (some (mkO i q.1 q.2))
   |_=>none)
 |_=>none
def pw2(v:Ev)(G:Gm)(M:Wm)(r r2:WEv)(s:Stmt):Option DW:=match s with
 | .Assign [.Attribute (.Name x _) n _] e _=>aF (G.fs.contains n&&nLC e) ((vR G x).bind λi=>match e with
  | .List [] _=>some (rg i G.C n)
  |_=>(v.E e).map λf=>orW (Em i G.C n f) (Et i G.C n f))
 |_=>none
def pw3(v:Ev)(G:Gm)(M:Wm)(r r2:WEv)(s:Stmt):Option DW:=match s with
 | .Assign [.Subscript (.Attribute (.Name x _) n _) (.UnaryOp .USub (.Constant (.int i1) _ _) _) _] e _=>aF (G.fs.contains n&&nLC e&&i1==1) ((vR G x).bind λi=>(v.E e).map λf=>kK i G.C n f)
 |_=>none
def pw4(v:Ev)(G:Gm)(M:Wm)(r r2:WEv)(s:Stmt):Option DW:=match s with
 | .Expr (.Call (.Attribute (.Attribute (.Name x _) n _) m apos) [e] [] eF) _=>aF (m=="append"&&G.fs.contains n&&ns e&&(apos.endLine==eF.line)) ((vR G x).bind λi=>(v.E e).map λf=>vn i G.C n f)
 |_=>none
def pw5(v:Ev)(G:Gm)(M:Wm)(r r2:WEv)(s:Stmt):Option DW:=match s with
 | .Expr (.Call (.Attribute (.Name x _) m apos) [e] [] eF) _=>aF (ns e&&(apos.endLine==eF.line)) ((vR G x).bind λi=>(v.E e).bind λf=>if m="append" then some (dD i f) else if m="extend" then some (pX i f) else none)
 | .Expr e _=>aF (nLC e) ((cwR v G M e).map xW)
 |_=>none
def pw6(v:Ev)(G:Gm)(M:Wm)(r r2:WEv)(s:Stmt):Option DW:=match s with
 | .For (.Name y _) (.Call (.Name f _) [a] [] _) body [] _=>aF (f=="range"&&bR G f&&ns a) ((lR G y).bind λi=>(v.E a).bind λh=>(r2.B body).map λb=>dK i h b)
 |_=>none
def pw7(v:Ev)(G:Gm)(M:Wm)(r r2:WEv)(s:Stmt):Option DW:=match s with
 | .For (.Tuple [.Name y _,.Name z _] _ _) (.Call (.Name f _) [.Name x _] [] _) body [] _=>aF (f=="enumerate"&&bR G f) ((lR G y).bind λi=>(lR G z).bind λj=>(vR G x).bind λl=>aF (!M.mv.contains l) ((r2.B body).map λb=>tF i j l b))
 |_=>none
def pw8(v:Ev)(G:Gm)(M:Wm)(r r2:WEv)(s:Stmt):Option DW:=match s with
 | .Raise (some (.Call (.Name c _) [e] [] _)) none _=>(M.rz c).bind λq=>aF (gR G c&&ns e&&decide (1<=M.lv)) ((v.E e).map λf=>rzW q.1 q.2 f)
 |_=>none
def pw9(v:Ev)(G:Gm)(M:Wm)(r r2:WEv)(s:Stmt):Option DW:=match s with
 | .Try [.Assign [.Name xi _] (.Call (.Name fn _) (a::as) [] _) _] [.ExceptHandler (some (.Name cn _)) (some en) (hb::yz) _] [] [] _=>(M.rd fn).bind λq=>(M.rz cn).bind λz=>aF (gR G fn&&gR G cn) ((lR G xi).bind λi=>(ixN G.N en).bind λk=>aF (G.kd en==some .local&& !odd en) ((aR v.E (a::as)).bind λd=>aF (d.1==q.1) ((hnR G z.1 z.2 k en (hb::yz)).map λh=>vL q.2 d.2 i [z.1] k h)))
 |_=>none
def Ms(v:Ev)(G:Gm)(M:Wm)(r r2:WEv)(s:Stmt):Option DW:=alt (pw0 v G M r r2 s) (alt (pw1 v G M r r2 s) (alt (pw2 v G M r r2 s) (alt (pw3 v G M r r2 s) (alt (pw4 v G M r r2 s) (alt (pw5 v G M r r2 s) (alt (pw6 v G M r r2 s) (alt (pw7 v G M r r2 s) (alt (pw8 v G M r r2 s) (pw9 v G M r r2 s)))))))))
def sW(v:Ev)(G:Gm)(M:Wm)(r r2:WEv)(s:Stmt):Option DW:=match v.S s,Ms v G M r r2 s with
 |some f,some h=>some (orW (a8 f) h)
 |some f,none=>some (a8 f)
 |none,h=>h
def bW(r:WEv):List Stmt->Option DW
 |[]=>some (a8 az)
 |[s]=>r.S s
 |s::t::rest=>(r.S s).bind λa=>(r.B (t::rest)).map λb=>ag a b
def pZ(n0:Nat)(G:Gm):Nat->Wm->WEv
 |0,_=> ⟨λ_=>none,λ_=>none⟩
 |n+1,M=> ⟨λs=>sW (Bo n0 G) G M (pZ n0 G n M) (pZ n0 G n M.inner) s,λb=>bW (pZ n0 G n M) b⟩
section
variable{G:Gm}{M:Wm}{X:Cx}{v:Ev}{r r2:WEv}{H0:Hp}{E:XK}
theorem kM1{i j:Nat}{p q:Pos}{i1:Int}(h:(i1==1)=true):PEd X.nox (.UnaryOp .USub (.Constant (.int i1) j p) q) (kE (.int (-1))):=by
 rw[Gay] at h;subst h;exact wZ (f:=kE (.int 1)) wX
theorem Bv(g:aZ G X.nox){n:Str}(h:G.fs.contains n=true):L2.Cls X.K G.C/\bL X.K G.C n:=by
 have hn:=GbM.mp h;exact⟨g.cl (λz=>by rw[z] at hn;cases hn),g.na _ hn⟩
theorem Js(g:aZ G X.nox){C k:Nat}{n0 en:Str}{hb:List Stmt}{h:DS}(hk:X.N[k]? =some en)(xY:X.env.scope.names.lookup en=some .local)(zU:odd en=false)(cl:∃B fI,XCl X.K B C fI n0)(e:hnR G C n0 k en hb=some h)(a:Addr):kY (hdl X (.ref a)) hb h:=by
 unfold hnR at e;split at e
 .obtain⟨c,e'⟩:=ae e;clear e;obtain⟨j,hj,rfl⟩:=Gaa.mp e';simp only[Gad,Gay] at c;obtain⟨rfl,rfl⟩:=c;obtain⟨l1,l2,l3⟩:=iN g hj;unfold odd at zU;simp only[Gcw] at zU;exact A6 (qU (X:=hdl X (.ref a)) g.nd l1 l2 (Ey (X:=hdl X (.ref a)) (λC' hC=>by rw[Gbv.mp hC];exact cl) (wW (X:=hdl X (.ref a)) k hk (.inl xY) zU.1 zU.2) rfl) rfl l3)
 .cases e
section
variable(g:aZ G X.nox)(k:cL v X.nox)(wk:mS M X E)(hr:WOk r M X H0 E)(xr:WOk r2 M.inner (X.cm (lpx X)) H0 E)(xu:∀x,G.kd x=some .local->X.env.scope.names.lookup x=some .local)(hc:X.calm=true)
include g k wk hr xr xu hc
variable{s:Stmt}
theorem Jt{f:DW}(h:pw0 v G M r r2 s=some f){Pn:Nat->V->Prop}(hP:jK M Pn):PS X s (tW X H0 Pn E f):=by
 unfold pw0 at h;split at h
 .split at h
  .rename_i m hm;cases h;exact Ep (mC g k wk hm)
  .obtain⟨u,hu,rfl⟩:=Gaa.mp h;exact Iy (k.E _ _ hu)
 .obtain⟨a,ha,h⟩:=e6 h;obtain⟨b,hb,h⟩:=e6 h;split at h
  .rename_i t ht;cases h;exact IQ (Jr g k wk ht) (hr.B _ _ ha Pn hP) (hr.B _ _ hb Pn hP)
  .obtain⟨t,ht,rfl⟩:=Gaa.mp h;exact LU (k.T _ _ ht) (hr.B _ _ ha Pn hP) (hr.B _ _ hb Pn hP)
 .cases h
theorem Ju{f:DW}(h:pw1 v G M r r2 s=some f){Pn:Nat->V->Prop}(hP:jK M Pn):PS X s (tW X H0 Pn E f):=by
 cases s<;>try exact nn h rfl
 rename_i ts e p;cases ts<;>try exact nn h rfl
 rename_i t1 ts;cases t1<;>try exact nn h rfl
 rename_i x p1;cases ts<;>try exact nn h rfl
 unfold pw1 at h;dsimp only at h;obtain⟨c,h⟩:=ae h;obtain⟨i,hi,h⟩:=e6 h;obtain⟨l1,l2,l3⟩:=iN g hi;split at h
 .rename_i m hm;cases h;exact Er g.nd l1 l2 l3 (mC g k wk hm) (ki c)
 .split at h
  .obtain⟨⟨C,sp⟩,hq,h⟩:=e6 h;obtain⟨c2,h⟩:=ae h;cases h;rw[Gad] at c2;obtain⟨g1,_,g3⟩:=iO g c2.1;obtain⟨kk,fa,fd,ps,mk,F,rm,hm,hb⟩:=wk.mo _ _ _ hq;exact Ma mk F rm g1 hm hb g.nd l1 l2 l3 (hP i (GbM.mp c2.2)) g3 rfl
  .cases h
theorem Jv{f:DW}(h:pw2 v G M r r2 s=some f){Pn:Nat->V->Prop}(hP:jK M Pn):PS X s (tW X H0 Pn E f):=by
 cases s<;>try exact nn h rfl
 rename_i ts e p;cases ts<;>try exact nn h rfl
 rename_i t1 ts;cases t1<;>try exact nn h rfl
 rename_i o n p1;cases o<;>try exact nn h rfl
 rename_i x p2;cases ts<;>try exact nn h rfl
 unfold pw2 at h;dsimp only at h;obtain⟨c,h⟩:=ae h;rw[Gad] at c;obtain⟨i,hi,h⟩:=e6 h;obtain⟨v1,v2,v3,v4⟩:=gP g hi;obtain⟨f1,f2⟩:=Bv g c.1;split at h
 .cases h;exact Ew f1 f2 v1 v2 v3 v4 rfl
 .obtain⟨u,hu,rfl⟩:=Gaa.mp h;exact Bt (En f1 f2 v1 v2 v3 v4 (k.E _ _ hu) (ki c.2)) (Eu f1 f2 v1 v2 v3 v4 (k.E _ _ hu) (ki c.2))
theorem Jw{f:DW}(h:pw3 v G M r r2 s=some f){Pn:Nat->V->Prop}(hP:jK M Pn):PS X s (tW X H0 Pn E f):=by
 cases s<;>try exact nn h rfl
 rename_i ts e p;cases ts<;>try exact nn h rfl
 rename_i t1 ts;cases t1<;>try exact nn h rfl
 rename_i o ix p1;cases o<;>try exact nn h rfl
 rename_i o2 n p2;cases o2<;>try exact nn h rfl
 rename_i x p3;cases ix<;>try exact nn h rfl
 rename_i uo un p4;cases uo<;>try exact nn h rfl
 cases un<;>try exact nn h rfl
 rename_i cv j p5;cases cv<;>try exact nn h rfl
 rename_i i1;cases ts<;>try exact nn h rfl
 unfold pw3 at h;dsimp only at h;obtain⟨c,h⟩:=ae h;simp only[Gad] at c;obtain⟨i,hi,h⟩:=e6 h;obtain⟨u,hu,rfl⟩:=Gaa.mp h;obtain⟨v1,v2,v3,v4⟩:=gP g hi;obtain⟨f1,f2⟩:=Bv g c.1.1;exact AU f1 f2 g.hu1 v1 v2 v3 v4 (k.E _ _ hu) (kM1 (i:=0) c.2) (ki c.1.2)
theorem Jx{f:DW}(h:pw4 v G M r r2 s=some f){Pn:Nat->V->Prop}(hP:jK M Pn):PS X s (tW X H0 Pn E f):=by
 cases s<;>try exact nn h rfl
 rename_i e0 p;cases e0<;>try exact nn h rfl
 rename_i fe ar kw p1;cases fe<;>try exact nn h rfl
 rename_i o m p2;cases o<;>try exact nn h rfl
 rename_i o2 n p3;cases o2<;>try exact nn h rfl
 rename_i x p4;cases ar<;>try exact nn h rfl
 rename_i e ar;cases ar<;>try exact nn h rfl
 cases kw<;>try exact nn h rfl
 unfold pw4 at h;dsimp only at h;obtain⟨c,h'⟩:=ae h;clear h;simp only[Gad] at c;obtain⟨⟨⟨c1,c2⟩,c3⟩,c4⟩:=c;have c1' :=Gay.mp c1;clear c1;subst c1';obtain⟨i,hi,h⟩:=e6 h';obtain⟨u,hu,rfl⟩:=Gaa.mp h;obtain⟨v1,v2,v3,v4⟩:=gP g hi;obtain⟨f1,f2⟩:=Bv g c2;exact El f1 f2 v1 v2 v3 v4 (k.E _ _ hu) (aT c3) c4
theorem Jy{f:DW}(h:pw5 v G M r r2 s=some f){Pn:Nat->V->Prop}(hP:jK M Pn):PS X s (tW X H0 Pn E f):=by
 unfold pw5 at h;split at h
 .obtain⟨c,h⟩:=ae h;rw[Gad] at c;obtain⟨i,hi,h2⟩:=e6 h;clear h;obtain⟨u,hu,h⟩:=e6 h2;clear h2;obtain⟨v1,v2,v3,v4⟩:=gP g hi;split at h
  .rename_i q;cases h;subst q;exact EB v1 v2 v3 v4 (k.E _ _ hu) (aT c.1) c.2
  .split at h
   .rename_i q;cases h;subst q;exact EC v1 v2 v3 v4 (k.E _ _ hu) (aT c.1) c.2
   .cases h
 .obtain⟨c,h⟩:=ae h;obtain⟨m,hm,rfl⟩:=Gaa.mp h;exact B4 (mC g k wk hm) (ki c)
 .cases h
theorem Jz{f:DW}(h:pw6 v G M r r2 s=some f){Pn:Nat->V->Prop}(hP:jK M Pn):PS X s (tW X H0 Pn E f):=by
 cases s<;>try exact nn h rfl
 rename_i tg it bd os p;cases tg<;>try exact nn h rfl
 rename_i y p1;cases it<;>try exact nn h rfl
 rename_i fe ar kw p4;cases fe<;>try exact nn h rfl
 rename_i f0 p5;cases ar<;>try exact nn h rfl
 rename_i a1 ar;cases ar<;>try exact nn h rfl
 cases kw<;>try exact nn h rfl
 cases os<;>try exact nn h rfl
 unfold pw6 at h;dsimp only at h;obtain⟨c,h'⟩:=ae h;clear h;simp only[Gad] at c;obtain⟨⟨c1,c2⟩,c3⟩:=c;have c1' :=Gay.mp c1;clear c1;subst c1';obtain⟨i,hi,h⟩:=e6 h';obtain⟨u,hu,h⟩:=e6 h;obtain⟨b,hb,rfl⟩:=Gaa.mp h;obtain⟨l1,l2,l3⟩:=iN g hi;obtain⟨b1,b2,_⟩:=jI g c2;exact Bq hc b1 b2 (k.E _ _ hu) g.nd l1 l2 l3 (xr.B _ _ hb Pn hP) (aT c3)
theorem JA{f:DW}(h:pw7 v G M r r2 s=some f){Pn:Nat->V->Prop}(hP:jK M Pn):PS X s (tW X H0 Pn E f):=by
 cases s<;>try exact nn h rfl
 rename_i tg it bd os p;cases tg<;>try exact nn h rfl
 rename_i es c p1;cases es<;>try exact nn h rfl
 rename_i e1 es;cases e1<;>try exact nn h rfl
 rename_i y p2;cases es<;>try exact nn h rfl
 rename_i e2 es;cases e2<;>try exact nn h rfl
 rename_i z p3;cases es<;>try exact nn h rfl
 cases it<;>try exact nn h rfl
 rename_i fe ar kw p4;cases fe<;>try exact nn h rfl
 rename_i f0 p5;cases ar<;>try exact nn h rfl
 rename_i a1 ar;cases a1<;>try exact nn h rfl
 rename_i x p6;cases ar<;>try exact nn h rfl
 cases kw<;>try exact nn h rfl
 cases os<;>try exact nn h rfl
 unfold pw7 at h;dsimp only at h;obtain⟨c,h'⟩:=ae h;clear h;rw[Gad] at c;obtain⟨c0,cb⟩:=c;have c1:=Gay.mp c0;clear c0;subst c1;obtain⟨i,hi,h⟩:=e6 h';obtain⟨j,hj,h⟩:=e6 h;obtain⟨l,hl,h⟩:=e6 h;obtain⟨c2,h⟩:=ae h;obtain⟨b,hb,rfl⟩:=Gaa.mp h;obtain⟨l1,l2,l3⟩:=iN g hi;obtain⟨m1,m2,m3⟩:=iN g hj;obtain⟨v1,v2,v3,v4⟩:=gP g hl;obtain⟨b1,b2,_⟩:=jI g cb;refine Bp hc b1 b2 g.nd l1 m1 v1 l2 l3 m2 m3 v2 v3 v4 λxR Q7 =>xr.B _ _ hb xR λq hq u hu=> ?_;rcases Q7 q u hu with z|z
 .exact hP q hq u z
 .subst z;rw[GbM.mpr (show q∈M.mv from hq)] at c2;cases c2
theorem JB{f:DW}(h:pw8 v G M r r2 s=some f){Pn:Nat->V->Prop}(hP:jK M Pn):PS X s (tW X H0 Pn E f):=by
 cases s<;>try exact nn h rfl
 rename_i ex ca p;cases ex<;>try exact nn h rfl
 rename_i ee;cases ee<;>try exact nn h rfl
 rename_i fe ar kw p1;cases fe<;>try exact nn h rfl
 rename_i c p2;cases ar<;>try exact nn h rfl
 rename_i e ar;cases ar<;>try exact nn h rfl
 cases kw<;>try exact nn h rfl
 cases ca<;>try exact nn h rfl
 unfold pw8 at h;dsimp only at h;obtain⟨⟨C,n⟩,hq,h⟩:=e6 h;obtain⟨c,h⟩:=ae h;obtain⟨u,hu,rfl⟩:=Gaa.mp h;simp only[Gad] at c;obtain⟨g1,_,g3⟩:=iO g c.1.1;obtain⟨⟨B,fI,kk,fd,ps,cl,F,rm,hb⟩,hm,_⟩:=wk.rz _ _ _ hq;exact B5 cl F rm hb (wk.xl (GaB c.2)) g1 hm (k.E _ _ hu) g3 (aT c.1.2)
theorem JC{f:DW}(h:pw9 v G M r r2 s=some f){Pn:Nat->V->Prop}(hP:jK M Pn):PS X s (tW X H0 Pn E f):=by
 cases s<;>try exact nn h rfl
 rename_i b hs os fs p;cases b<;>try exact nn h rfl
 rename_i s1 b;cases s1<;>try exact nn h rfl
 rename_i ts vl p2;cases ts<;>try exact nn h rfl
 rename_i t1 ts;cases t1<;>try exact nn h rfl
 rename_i xi p1;cases ts<;>try exact nn h rfl
 cases vl<;>try exact nn h rfl
 rename_i fe ar kw p3;cases fe<;>try exact nn h rfl
 rename_i fn p4;cases ar<;>try exact nn h rfl
 rename_i a as;cases kw<;>try exact nn h rfl
 cases b<;>try exact nn h rfl
 cases hs<;>try exact nn h rfl
 rename_i h1 hs;cases h1<;>try exact nn h rfl
 rename_i ty nm bd p5;cases ty<;>try exact nn h rfl
 rename_i te;cases te<;>try exact nn h rfl
 rename_i cn p6;cases nm<;>try exact nn h rfl
 rename_i en;cases bd<;>try exact nn h rfl
 rename_i hb0 yz;cases hs<;>try exact nn h rfl
 cases os<;>try exact nn h rfl
 cases fs<;>try exact nn h rfl
 unfold pw9 at h;dsimp only at h;obtain⟨⟨np,sp⟩,hq,h⟩:=e6 h;obtain⟨⟨C,n⟩,hz,h⟩:=e6 h;obtain⟨c,h⟩:=ae h;rw[Gad] at c;obtain⟨i,hi,h⟩:=e6 h;obtain⟨kk,Rl,h⟩:=e6 h;obtain⟨c2,h⟩:=ae h;obtain⟨⟨m,da⟩,hd,h⟩:=e6 h;obtain⟨c3,h⟩:=ae h;obtain⟨hn,Rm,rfl⟩:=Gaa.mp h;rw[Gad] at c2;have hkl:G.kd en=some .local:=by simpa using c2.1
 have hN:X.N[kk]? =some en:=by have:=rA Rl;rw[<-g.N] at this;exact this
 have xY:X.env.scope.names.lookup en=some .local:=xu en hkl;obtain⟨l1,l2,l3⟩:=iN g hi;obtain⟨j,fa,fd,ps,F,rm,hm,hk,hb⟩:=wk.rd _ _ _ hq;obtain⟨⟨B,fI,_,_,_,cl,_⟩,PY,hex⟩:=wk.rz _ _ _ hz;obtain⟨g1,_,g3⟩:=iO g c.1;obtain⟨q1,_,q3⟩:=iO g c.2;obtain⟨a1,a2,a3,a4⟩:=jJ k.E hd;rw[Gbo,Gad] at a4;have e3:m=np:=Gay.mp c3;refine IV F rm g1 hm hk hb a1 (λenv rs h=>by rw[<-e3];exact a2 env rs h) (λC' hC=>by rw[Gbv.mp hC];exact hex) q1 PY wk.st.1 wk.st.2 g.nd l1 hN l2 xY (Js g hN xY (by simpa using c2.2) ⟨B,fI,cl⟩ Rm) rfl l3 g3 q3 (aT a4.1) ?_;have:=a3 p3;rw[aT a4.1] at this;exact this
end
variable{s:Stmt}
theorem u0(g:aZ G X.nox)(k:cL v X.nox)(w:mS M X E)(hr:WOk r M X H0 E)(xr:WOk r2 M.inner (X.cm (lpx X)) H0 E)(xu:∀x,G.kd x=some .local->X.env.scope.names.lookup x=some .local)(hc:X.calm=true){f:DW}(h:Ms v G M r r2 s=some f){Pn:Nat->V->Prop}(hP:jK M Pn):PS X s (tW X H0 Pn E f):=by
 rcases cB h with h|h
 .exact Jt g k w hr xr xu hc h hP
 rcases cB h with h|h
 .exact Ju g k w hr xr xu hc h hP
 rcases cB h with h|h
 .exact Jv g k w hr xr xu hc h hP
 rcases cB h with h|h
 .exact Jw g k w hr xr xu hc h hP
 rcases cB h with h|h
 .exact Jx g k w hr xr xu hc h hP
 rcases cB h with h|h
 .exact Jy g k w hr xr xu hc h hP
 rcases cB h with h|h
 .exact Jz g k w hr xr xu hc h hP
 rcases cB h with h|h
 .exact JA g k w hr xr xu hc h hP
 rcases cB h with h|h
 .exact JB g k w hr xr xu hc h hP
 exact JC g k w hr xr xu hc h hP
theorem Mt(g:aZ G X.nox)(k:cL v X.nox)(w:mS M X E)(hr:WOk r M X H0 E)(xr:WOk r2 M.inner (X.cm (lpx X)) H0 E)(xu:∀x,G.kd x=some .local->X.env.scope.names.lookup x=some .local)(hc:X.calm=true){f:DW}(h:sW v G M r r2 s=some f){Pn:Nat->V->Prop}(hP:jK M Pn):PS X s (tW X H0 Pn E f):=by
 unfold sW at h;split at h
 .rename_i q1 q2;cases h;exact Bt (sS (k.S _ _ q1)) (u0 g k w hr xr xu hc q2 hP)
 .rename_i q1 q2;cases h;exact sS (k.S _ _ q1)
 .exact u0 g k w hr xr xu hc h hP
theorem mS.inner(w:mS M X E):mS M.inner (X.cm (lpx X)) E where
 fw:=w.fw
 rd:=w.rd
 mo:=w.mo
 rz:=w.rz
 lv:=GaE (Nat.sub_le _ _) w.lv
 xl:=λh=>w.xl2 (by have:1<=M.lv -1:=h;lia)
 xl2:=λh=>absurd w.lv (by have:2<=M.lv -1:=h;lia)
 st:=w.st
theorem jL(n0:Nat):∀(n:Nat) (M:Wm) (X:Cx),aZ G X.nox->mS M X E->(∀x,G.kd x=some .local->X.env.scope.names.lookup x=some .local)->X.calm=true->WOk (pZ n0 G n M) M X H0 E
 |0,M,X,g,w,xu,hc=>by constructor<;>(intro _ _ h;cases h)
 |n+1,M,X,g,w,xu,hc=>by
  have hr:=jL n0 n M X g w xu hc;have xr:=jL n0 n M.inner (X.cm (lpx X)) g w.inner xu hc;have k:=oJ n0 G X.nox g;refine⟨λs f h Pn hP=>Mt g k w hr xr xu hc h hP,λb f h Pn hP=> ?_⟩;have h:bW (pZ n0 G n M) b=some f:=h;unfold bW at h;split at h
  .cases h;exact Av A5
  .exact DY (hr.S _ _ h Pn hP)
  .obtain⟨a,ha,h⟩:=e6 h;obtain⟨u,hu,rfl⟩:=Gaa.mp h;exact Aw (hr.S _ _ ha Pn hP) (hr.B _ _ hu Pn hP)
end
structure Tbl where
 fn:Str->Option (Nat×(SpF))
 fw:Str->Option (Nat×List Nat×(SpX))
 rd:Str->Option (Nat×(List D->Option RX))
 mo:Str->Option (Nat×(SpX))
 rz:Str->Option (Nat×Str)
 bl:List Str
 cs:Str->Option D
 ds:Str->Option (List (Key×List Key))
 C:Nat
 fs:List Str
 nv:Bool
section
variable{P:Program}{w:World}{K:au}{mg:Str->Option Value}{base:Heap}
def Hv(P:Program)(w:World)(K:au)(mg:Str->Option Value)(base:Heap)(CX:CXT)(k:Nat)(x:Str)(sp:Sp):Prop:=∃j fa fd ps,bH P w K mg base CX j fa fd ps sp/\j<=k/\mg x=some (.ref fa)/\PySem.W.keepIn K (.ref fa)=true/\Binds K fd ps []
structure cC(P:Program)(w:World)(K:au)(mg:Str->Option Value)(base:Heap)(k:Nat)(T:Tbl):Prop where
 fn:∀x np sp,T.fn x=some (np,sp)->Hv P w K mg base CX0 k x (spD K np sp)
 fw:∀x np J sp,T.fw x=some (np,J,sp)->Hv P w K mg base CX0 k x (spW K np J sp)
 rd:∀x np sp,T.rd x=some (np,sp)->Hv P w K mg base (CXE P w K) k x (spR K np sp)
 mo:∀x C sp,T.mo x=some (C,sp)->∃j fa fd ps,Mk K C fa/\bH P w K mg base CX0 j fa fd ps (spW K 1 [0] sp)/\j+1<=k/\mg x=some (.ref C)/\Binds K fd ps []
 rz:∀x C n,T.rz x=some (C,n)->(∃B fI j fd ps,XCl K B C fI n/\bH P w K mg base CX0 j fI fd ps (iL K B C n)/\j+1<=k/\Binds K fd ps [])/\mg x=some (.ref C)/\exmOne K (.ref C) (.ref C)=some true
 bl:∀x∈T.bl,mg x=none
 cs:∀x d,T.cs x=some d->match d with
  | .int i=>∃t,mg x=some (.int i t)
  | .str y=>∃t,mg x=some (.str y t)
  | .kt ks=>∃a,mg x=some (.ref a)/\Kt K a ks
  |_=>False
 ds:∀x t,T.ds x=some t->∃a,mg x=some (.ref a)/\KDk P w K a t
 cl:T.fs≠[]->L2.Cls K T.C
 na:∀n∈T.fs,bL K T.C n
def Tbl.gm(T:Tbl)(N:List Str)(sd:Stmt):Gm:=⟨N,λx=>(aw sd).names.lookup x,T.fn,T.bl,true,T.cs,T.ds,T.C,T.fs,T.nv⟩
variable{x qual:Str}{sd:Stmt}{fa:Addr}{fd:FuncData}{N ps:List Str}{k np:Nat}{T:Tbl}{CX:CXT}{eJ:Value}{A:Around}{outer:List PySem.Env}{s:Shared}{H:Hp}{E:XK}
theorem u5(hT:cC P w K mg base k T)(S:cp N ps (aw sd))(hr:bP k (A.deeper (envOfC qual (aw sd) s.heap.objs.size fa eJ))):aZ (T.gm N sd) (cJ CX P w K mg base N qual (aw sd) fa eJ A outer s H E).nox where
 N:=rfl
 nd:=S.nd
 vis:=λx hx=>by
  have hx:rdK ((aw sd).names.lookup x)=true:=hx
  match q:(aw sd).names.lookup x with
  |some .local=>exact .inl q
  |some .free=>exact .inr (.inr q)
  |some .cell=>exact .inr (.inl q)
  |none=>rw[q] at hx;cases hx
  |some .globalExplicit=>rw[q] at hx;cases hx
  |some .globalImplicit=>rw[q] at hx;cases hx
 loc:=λx hx=>by
  refine⟨?_,.inl rfl⟩;simp only[Tbl.gm,Bool.true_and,GaT,Gay] at hx;exact hx
 gl:=λx hx=>hx
 cf:=λx hx=>hx
 sw:=λ_ x=>by
  show(PySem.Env.blockKind _==ScopeKind.function&&_)=_;have:(PySem.Env.blockKind (envOfC qual (aw sd) s.heap.objs.size fa eJ)==ScopeKind.function)=true:=by
   unfold PySem.Env.blockKind;show((if(aw sd).kind.isAnnotationScope then _ else(aw sd).kind)==_)=true;rw[S.kind];rfl
  exact(congrArg (· &&_) this).trans (Bool.true_and _)
 calm:=rfl
 own:=rfl
 hu:=DF hr
 fns:=λx np sp h=>let⟨j,fa,fd,ps,a1,a2,a3⟩:=hT.fn x np sp h;⟨j,fa,fd,ps,a1,hr.mono a2,a3⟩
 no:=hT.bl
 cs:=λx d h=>hT.cs x d h
 ds:=hT.ds
 cl:=hT.cl
 na:=hT.na
variable{mv:List Nat}{nm:List Str}
theorem Bw(hT:cC P w K mg base k T)(hr:bP k (A.deeper (envOfC qual (aw sd) s.heap.objs.size fa eJ))){E' :XK}{xe:VSP}{lv:Nat}(h2:lv<=2)(hx:1<=lv->XL ((cJ CX P w K mg base N qual (aw sd) fa eJ A outer s H E).cm xe) E')(PH:2<=lv->XL (((cJ CX P w K mg base N qual (aw sd) fa eJ A outer s H E).cm xe).cm (lpx ((cJ CX P w K mg base N qual (aw sd) fa eJ A outer s H E).cm xe))) E'):
  mS ⟨T.fw,T.rd,T.mo,T.rz,nm,mv,lv⟩ ((cJ CX P w K mg base N qual (aw sd) fa eJ A outer s H E).cm xe) E' where
 fw:=λx np J sp h=>let⟨j,fa,fd,ps,a1,a2,a3⟩:=hT.fw x np J sp h;⟨j,fa,fd,ps,a1,hr.mono a2,a3⟩
 rd:=λx np sp h=>let⟨j,fa,fd,ps,a1,a2,a3⟩:=hT.rd x np sp h;⟨j,fa,fd,ps,a1,hr.mono a2,a3⟩
 mo:=λx C sp h=>let⟨j,fa,fd,ps,a0,a1,a2,a3⟩:=hT.mo x C sp h;⟨j,fa,fd,ps,a0,a1,hr.mono a2,a3⟩
 rz:=λx C n h=>let⟨⟨B,fI,j,fd,ps,a0,a1,a2,a3⟩,b⟩:=hT.rz x C n h;⟨⟨B,fI,j,fd,ps,a0,a1,hr.mono a2,a3⟩,b⟩
 lv:=h2
 xl:=hx
 xl2:=PH
 st:=⟨rfl,rfl⟩
theorem dn(hT:cC P w K mg base k T)(F:Fun K x qual sd fa fd)(S:cp N ps (aw sd))(xJ:ps.length=np){b:DS}(hc:(Bo 60 (T.gm N sd)).B (bI sd)=some b):bH P w K mg base CX0 (k+1) fa fd ps (spD K np (iF N.length np b)):=
 LR F S xJ λeJ A outer s H E hr=>(oJ 60 _ _ (u5 hT S hr)).B _ _ hc
theorem bJ(hT:cC P w K mg base k T)(F:Fun K x qual sd fa fd)(S:cp N ps (aw sd))(xJ:ps.length=np){J:List Nat}(hJ:∀j∈J,j<np){b:DW}(hc:(pZ 60 (T.gm N sd) 60 ⟨T.fw,T.rd,T.mo,T.rz,nm,[],0⟩).B (bI sd)=some b):bH P w K mg base CX0 (k+1) fa fd ps (spW K np J (cW N.length np J b)):=
 IL F S xJ hJ λeJ A outer s H E hr H0 Pn E' =>PSs.nox ((jL (H0:=H0) (E:=E') 60 60 _ (cJ CX0 P w K mg base N qual (aw sd) fa eJ A outer s H E).nox (u5 (CX:=CX0) (E:=E) hT S hr) (Bw (CX:=CX0) (E:=E) (xe:=λ_ _=>False) hT hr (by decide) (λz=>absurd z (by decide)) λz=>absurd z (by decide)) (λ_ z=>z) rfl).B _ _ hc Pn λi hi=>by cases hi)
theorem F5(hT:cC P w K mg base k T)(F:Fun K x qual sd fa fd)(S:cp N ps (aw sd))(xJ:ps.length=np){b:DW}(hc:(pZ 60 (T.gm N sd) 60 ⟨T.fw,T.rd,T.mo,T.rz,nm,mv,0⟩).B (bI sd)=some b):bH P w K mg base CX0 (k+1) fa fd ps (spD K np (B8 N.length np b)):=
 IW F S xJ λeJ A outer s H E hr=>PSs.nox ((jL (H0:=H) (E:=λ_ _ _=>False) 60 60 _ (cJ CX0 P w K mg base N qual (aw sd) fa eJ A outer s H E).nox (u5 (CX:=CX0) (E:=E) hT S hr) (Bw (CX:=CX0) (E:=E) (xe:=λ_ _=>False) hT hr (by decide) (λz=>absurd z (by decide)) λz=>absurd z (by decide)) (λ_ z=>z) rfl).B _ _ hc _ λi hi v z=>z)
theorem F6(hT:cC P w K mg base k T)(F:Fun K x qual sd fa fd)(S:cp N ps (aw sd))(xJ:ps.length=np){b:DW}(hc:(pZ 60 (T.gm N sd) 60 ⟨T.fw,T.rd,T.mo,T.rz,nm,mv,2⟩).B (bI sd)=some b):bH P w K mg base (CXE P w K) (k+1) fa fd ps (spR K np (B6 N.length np b)):=
 IU F S xJ λeJ A outer s H E hr hL=>(jL (H0:=H) (E:=E) 60 60 _ (cJ (CXE P w K) P w K mg base N qual (aw sd) fa eJ A outer s H E) (u5 (CX:=CXE P w K) (E:=E) hT S hr) (Bw (CX:=CXE P w K) (E:=E) (xe:=(cJ (CXE P w K) P w K mg base N qual (aw sd) fa eJ A outer s H E).xe) hT hr (by decide) (λ_=>hL) λ_=>F4) (λ_ z=>z) rfl).B _ _ hc _ λi hi v z=>z
end
section
variable{P:Program}{w:World}{K:au}{mg:Str->Option Value}{base:Heap}{k k' :Nat}{T:Tbl}{x:Str}{fa:Addr}{fd:FuncData}{ps:List Str}{np:Nat}
theorem Hv.mono{CX:CXT}{sp:Sp}(h:Hv P w K mg base CX k x sp)(le:k<=k'):Hv P w K mg base CX k' x sp:=let⟨j,fa,fd,ps,a,b,c⟩:=h;⟨j,fa,fd,ps,a,GaE b le,c⟩
theorem cC.mono(h:cC P w K mg base k T)(le:k<=k'):cC P w K mg base k' T where
 fn:=λx np sp e=>(h.fn x np sp e).mono le
 fw:=λx np J sp e=>(h.fw x np J sp e).mono le
 rd:=λx np sp e=>(h.rd x np sp e).mono le
 mo:=λx C sp e=>let⟨j,fa,fd,ps,a,b,c,d⟩:=h.mo x C sp e;⟨j,fa,fd,ps,a,b,GaE c le,d⟩
 rz:=λx C n e=>let⟨⟨B,fI,j,fd,ps,a,b,c,d⟩,q⟩:=h.rz x C n e;⟨⟨B,fI,j,fd,ps,a,b,GaE c le,d⟩,q⟩
 bl:=h.bl
 cs:=h.cs
 ds:=h.ds
 cl:=h.cl
 na:=h.na
noncomputable def upS{α:Type}(x:Str)(a:α)(f:Str->Option α):Str->Option α:=λy=>if y==x then some a else f y
theorem bB{α:Type}{a:α}{f:Str->Option α}{q:Str->α->Prop}(h1:q x a)(h2:∀y b,f y=some b->q y b):∀y b,upS x a f y=some b->q y b:=λy b h=>by
 unfold upS at h;split at h
 .rename_i z;cases h;rw[Gay.mp z];exact h1
 .exact h2 y b h
theorem cC.kj{sp:SpF}(h:cC P w K mg base k T)(F:bH P w K mg base CX0 (k+1) fa fd ps (spD K np sp))(hm:mg x=some (.ref fa))(hk:PySem.W.keepIn K (.ref fa)=true)(hb:Binds K fd ps []):cC P w K mg base (k+1) {T with fn:=upS x (np,sp) T.fn}:=
 {h.mono (Gbk k) with fn:=λy np sp e=>bB (q:=λy (a:Nat×(SpF))=>Hv P w K mg base CX0 (k+1) y (spD K a.1 a.2)) ⟨_,_,_,_,F,Gap _,hm,hk,hb⟩ (λy b e=>((h.fn y b.1 b.2 e).mono (Gbk k))) y (np,sp) e}
variable{sp:SpX}
theorem cC.addW{J:List Nat}(h:cC P w K mg base k T)(F:bH P w K mg base CX0 (k+1) fa fd ps (spW K np J sp))(hm:mg x=some (.ref fa))(hk:PySem.W.keepIn K (.ref fa)=true)(hb:Binds K fd ps []):cC P w K mg base (k+1) {T with fw:=upS x (np,J,sp) T.fw}:=
 {h.mono (Gbk k) with fw:=λy np J sp e=>bB (q:=λy (a:Nat×List Nat×(SpX))=>Hv P w K mg base CX0 (k+1) y (spW K a.1 a.2.1 a.2.2)) ⟨_,_,_,_,F,Gap _,hm,hk,hb⟩ (λy b e=>((h.fw y b.1 b.2.1 b.2.2 e).mono (Gbk k))) y (np,J,sp) e}
theorem cC.OB{sp:List D->Option RX}(h:cC P w K mg base k T)(F:bH P w K mg base (CXE P w K) (k+1) fa fd ps (spR K np sp))(hm:mg x=some (.ref fa))(hk:PySem.W.keepIn K (.ref fa)=true)(hb:Binds K fd ps []):cC P w K mg base (k+1) {T with rd:=upS x (np,sp) T.rd}:=
 {h.mono (Gbk k) with rd:=λy np sp e=>bB (q:=λy (a:Nat×(List D->Option RX))=>Hv P w K mg base (CXE P w K) (k+1) y (spR K a.1 a.2)) ⟨_,_,_,_,F,Gap _,hm,hk,hb⟩ (λy b e=>((h.rd y b.1 b.2 e).mono (Gbk k))) y (np,sp) e}
theorem cC.OC{C:Nat}(h:cC P w K mg base k T)(mk:Mk K C fa)(F:bH P w K mg base CX0 (k+1) fa fd ps (spW K 1 [0] sp))(hm:mg x=some (.ref C))(hb:Binds K fd ps []):cC P w K mg base (k+2) {T with mo:=upS x (C,sp) T.mo}:=
 {h.mono (Nat.le_add_right k 2) with mo:=λy C sp e=>bB (q:=λy (a:Nat×(SpX))=>∃j fa fd ps,Mk K a.1 fa/\bH P w K mg base CX0 j fa fd ps (spW K 1 [0] a.2)/\j+1<=k+2/\mg y=some (.ref a.1)/\Binds K fd ps []) ⟨_,_,_,_,mk,F,Gap _,hm,hb⟩ (λy b e=>(h.mono (Nat.le_add_right k 2)).mo y b.1 b.2 e) y (C,sp) e}
theorem Bx{a:Addr}{o:Obj}{es:Array DictEntry}{ep:Nat}{vs:List (Key×Value)}{tbl:List (Key×List Key)}(h0:(a==sysModules)=false)(hl:K.lookup a=some o)(he:o.ExactDict)(hd:o.data= .dict es ep)(hk:KeysOf (dO P w) es)(hp:Pairs (dO P w) es.toList vs)(nd:(vs.map (·.1)).Nodup)(pr:Paired (λ(p:Key×List Key) (q:Key×Value)=>p.1=q.1/\∃b,q.2= .ref b/\Kt K b p.2) tbl vs):KDk P w K a tbl:=
 ⟨h0,o,vs,hl,⟨es,ep,he,hd,hk,hp,nd⟩,pr⟩
end
section
variable{P:Program}{w:World}
def CsM(K:au)(mg:Str->Option Value)(x:Str):D->Prop
 | .int i=>∃t,mg x=some (.int i t)
 | .str y=>∃t,mg x=some (.str y t)
 | .kt ks=>∃a,mg x=some (.ref a)/\Kt K a ks
 |_=>False
def By(P:Params)(q:Str×Nat×Value):DictEntry:=⟨PyData.keyHash P q.1,.str q.1 q.2.1,q.2.2⟩
theorem q8(l:List (Str×Nat×Value)):KeysOf (dO P w) (l.map (By w.params)).toArray:=λe he=>by
 obtain⟨q,_,rfl⟩:=List.mem_map.mp (by simpa using he:e∈l.map (By w.params));exact⟨.inr q.1,gX P w q.1 q.2.1,rfl⟩
theorem oK:∀(l:List (Str×Nat×Value)),Pairs (dO P w) (l.map (By w.params)) (l.map λq=>(.inr q.1,q.2.2))
 |[]=> .nil
 |q::l=> .cons (gX P w q.1 q.2.1) rfl (oK l)
end
noncomputable def kvs:Nat->List Key->List Value
 |_,[]=>[]
 |t,.inl i::r=> .int i t::kvs (t+1) r
 |t,.inr x::r=> .str x t::kvs (t+1) r
def tuO(t:Nat)(ks:List Key):Obj:={cls:= .type "tuple",data:= .seq (kvs t ks).toArray}
theorem Bz:∀(t:Nat) (ks:List Key),Vals (ks.map kV) (kvs t ks)
 |_,[]=> .nil
 |t,.inl i::r=> .cons ⟨t,rfl⟩ (Bz (t+1) r)
 |t,.inr x::r=> .cons ⟨t,rfl⟩ (Bz (t+1) r)
theorem dM{K:au}{a:Addr}{ks:List Key}(t:Nat)(h:K.lookup a=some (tuO t ks))(hl:autoParam ((kvs t ks).toArray.size<=sizeLine) Za2._auto_1):Kt K a ks:=⟨_,_,_,h,rfl,rfl,hl,Bz t ks⟩
abbrev kI (i:Int):DE:=kE (.int i)
abbrev kS (x:Str):DE:=kE (.str x)
@[simp] def aL:List DE->DA
 |[]=>aD
 |f::fs=>a9 f (aL fs)
abbrev aG (i:Nat):DE:=bw cM (a9 (vE i) aD)
@[simp] def lsE(l:List DE):DE:=cy (aL l)
@[simp] def tpE(l:List DE):DE:=gW (aL l)
@[simp] def caE(s:SpF)(l:List DE):DE:=bO s (aL l)
@[simp] def blE(o:SpV)(l:List DE):DE:=bw o (aL l)
@[simp] def ssI(f:DE):DI:=orI (m8 f) (pP f)
@[simp] def oN(v:DW):DW:=orW (a8 aX) v
@[simp] def gp(i:Nat)(p:DE):DW:=orW (a8 (aH i p)) (dD i p)
@[simp] def JD(i:Nat)(p:DE):DW:=orW (a8 (cZ i p)) (pX i p)
@[simp] def gx(p:DE):DW:=orW (a8 (retS p)) (kZ p)
@[simp] def vQ(t:DT)(f g:DS)(v w:DW):DW:=orW (a8 (ifS t f g)) (ifW t v w)
@[simp] def oIf(t:DT)(f:DS)(v:DW):DW:=vQ t f az v (a8 az)
@[simp] def sIf(t:DT)(f:DS):DW:=oIf t f (a8 f)
@[simp] def aIf(t:DT)(i:Nat)(p:DE):DW:=oIf t (aH i p) (gp i p)
@[simp] def rIf(t:DT)(p:DE):DW:=oIf t (retS p) (gx p)
end DL
namespace Den
open DL PySem
noncomputable abbrev fi:List (DL.Key×List DL.Key):=[(.inr "",[.inr "guest",.inr "stuff",.inr "bar",.inr "order"]),(.inr "guest",[.inr "guest",.inr "stuff",.inr "bar",.inr "order"]),(.inr "stuff",[.inr "cap",.inr "young",.inr "stuff",.inr "bar",.inr "order"]),(.inr "cap",[.inr "cap",.inr "young",.inr "stuff",.inr "bar",.inr "order"]),(.inr "young",[.inr "stuff",.inr "bar",.inr "order"]),(.inr "bar",[.inr "bar",.inr "order"]),(.inr "order",[.inr "dose"]),(.inr "dose",[.inr "asked",.inr "due"]),(.inr "asked",[.inr "order"]),(.inr "due",[.inr "taper",.inr "order"]),(.inr "taper",[.inr "taper",.inr "order"])]
noncomputable abbrev dq:List (DL.Key×List DL.Key):=[(.inr "flat",[.inl 1,.inl 1]),(.inr "kilo",[.inl 1,.inl 1,.inl 1]),(.inr "ever",[.inl 1])]
def j4:DS:=aC (av 3 (kI 0)) (aC (ifS (af gtB (aG 0) (kI 0)) (av 3 (opE dP (ixE (vE 0) (opE dP (vE 1) (aG 0))) (kI 2147483647))) az) (retS (opE dP (opE dP (opE ai (opE k6 (vE 3) (kI 48271)) (opE k6 (opE k6 (opE ai (vE 1) (kI 1)) (opE ai (vE 1) (kI 5))) (kI 69621))) (kI 2147483629)) (vE 2))))
def ah:SpF:=iF 4 3 j4
def fN:DS:=aC (av 2 (lsE [kS "dose up 1 1 1",kS "dose up 1 1 4001",kS "dose up 1 1 2 2",kS "due 5 3 2 1 1",kS "asked 1",kS "order z ga sa"])) (aC (av 3 (lsE [kS "dose up 1 1 2",kS "taper 1 1 1",kS "due 1 3 2 2 0",kS "due 5 3 2 2 1",kS "order z ga sa",kS "young 3"])) (aC (av 4 (lsE [kS "dose up 1 1 2",kS "asked 4",kS "taper 9 1 2",kS "taper 0 1 1",kS "taper 1 3 2",kS "bar sa sa 4",kS "guest z 1"])) (aC (av 5 (opE ai (orE (ixE (lsE [vE 2,vE 3,vE 4]) (vE 1)) (tN [2,3,4] (vE 1))) (lsE [kS "stuff z 1",kS "cap ever 1",kS "young 1"]))) (retS (ixE (vE 5) (caE ah [vE 0,kI 33,aG 5]))))))
def fP:SpF:=iF 6 2 fN
def dH:DS:=aC (av 4 (caE ah [vE 0,kI 42,kI 3])) (aC (av 5 (cy aD)) (aC (av 2 (opE ai (opE ai (vE 2) (lsE [kS "due 5 4 8 1 2"])) (bC none 1 [] (aY (vE 3)) (gN 0) bD (opE ai (opE ai (kS "taper ") (blE gc [opE ai (vE 0) (kI 1)])) (kS " 1 2"))))) (aC (ifS (af eqB (vE 1) (kI 12)) (aC (aH 5 (opE ai (vE 4) (kI 1))) (E5 2 (opE ai (vE 4) (kI 1)) (caE fP [vE 0,vE 4]))) az) (aC (ifS (af eqB (vE 1) (kI 13)) (aC (av 2 (opE ai (slE (vE 2) noO (fG (kI 2))) (lsE [kS "asked 5",kS "taper 1 1 2"]))) (aH 5 (kI 3))) az) (aC (ifS (bc (af eqB (vE 1) (kI 14)) (af gtB (vE 3) (kI 0))) (aC (aH 5 (aG 2)) (aH 2 (ixE (lsE [opE ai (opE ai (kS "taper ") (blE gc [vE 3])) (kS " 1 2"),kS "taper 8 1 2",kS "taper 1 1 2"]) (caE ah [vE 0,kI 43,kI 3])))) az) (aC (ifS (bc (af eqB (vE 1) (kI 15)) (af eqB (vE 3) (kI 6))) (aC (aH 5 (aG 2)) (aH 2 (kS "taper 7 1 2"))) az) (l8 (retS (tpE [vE 2,vE 5])) (jG 2 5))))))))
def aS:SpF:=iF 6 4 dH
def jM:DS:=retS (blE qQ [bC (some 0) 1 [1] (ssI (vE 0)) (gN 0) bD (bE (af (orB jH ou) (vE 0) (vE 1)))])
def gy:SpF:=iF 2 2 jM
def nI:DS:=retS (bE (bc (k8 leB leB (kI 1) (aG 0) (kI 8)) (fX (caE gy [vE 0,kS "abcdefghijklmnopqrstuvwxyz"]))))
def bA:SpF:=iF 1 1 nI
def kO:DS:=aC (ifS (orT (k7 (k8 leB leB (kI 1) (aG 0) (kI 10))) (k7 (fX (caE gy [vE 0,kS "0123456789"])))) (retS (kE .non)) az) (aC (ifS (bc (af gtB (aG 0) (kI 1)) (af eqB (ixE (vE 0) (kI 0)) (kS "0"))) (retS (kE .non)) az) (aC (av 1 (blE (orS oq kL) [vE 0])) (aC (ifS (af gtB (vE 1) (kI 1000000000)) (retS (kE .non)) az) (retS (vE 1)))))
def kP:SpF:=iF 2 1 kO
def u6:DW:=ag (oN (orW (Em 0 100 "head" (kS "")) (Et 0 100 "head" (kS "")))) (ag (oN (rg 0 100 "guests")) (ag (oN (rg 0 100 "stuffs")) (ag (oN (rg 0 100 "bars")) (oN (rg 0 100 "orders")))))
def lB:SpX:=cW 1 1 [0] u6
def j5:DS:=aC (dY (some 0) (nB (vE 0)) (gT [2,3]) (ifS (af eqB (ixE (vE 3) (kI 0)) (vE 1)) (retS (vE 2)) az)) (retS (kE .non))
def cD:SpF:=iF 4 2 j5
def d4:DS:=retS (bE (bc (af gtB (aG 1) (kI 0)) (bc (fX (caE bA [ixE (vE 1) (kI 0)])) (af fF (caE cD [vE 0,ixE (vE 1) (kI 0)]) (kE .non)))))
def bz:SpF:=iF 2 2 d4
def jN:DS:=aC (ifS (af neB (aG 0) (aG 1)) (retS (kE .non)) az) (aC (av 2 (cy aD)) (aC (dY none (EM (vE 0) (vE 1)) (gT [3,4]) (aC (av 5 (caE kP [vE 3])) (aC (ifS (orT (af fF (vE 5) (kE .non)) (af ltB (vE 5) (vE 4))) (retS (kE .non)) az) (aH 2 (vE 5))))) (retS (vE 2))))
def aq:SpF:=iF 6 2 jN
def cF:DS:=retS (opE ai (opE ai (slE (vE 0) noO (fG (vE 1))) (tpE [vE 2])) (slE (vE 0) (fG (opE ai (vE 1) (kI 1))) noO))
def aM:SpF:=iF 3 3 cF
def jO:DW:=ag (a8 (av 2 (caE aq [slE (vE 1) (fG (kI 1)) noO,tpE [kI 0]]))) (ag (rIf (orT (af eqB (blE cM [cj 100 "guests" (vE 0)]) (kI 6)) (orT (k7 (fX (caE bz [cj 100 "guests" (vE 0),vE 1]))) (af fF (vE 2) (kE .non)))) (kE (.bl false))) (ag (oN (vn 0 100 "guests" (tpE [ixE (vE 1) (kI 0),ixE (vE 2) (kI 0)]))) (gx (kE (.bl true)))))
def gz:SpX:=cW 3 2 [0] jO
def kQ:DS:=aC (ifS (k7 (k8 leB leB (kI 1) (aG 0) (kI 8))) (retS (kE (.bl false))) az) (aC (av 1 (ixE (vE 0) (kI 0))) (aC (av 2 (blE qQ [bC none 2 [] (EM (vE 0) (slE (vE 0) (fG (kI 1)) noO)) (gT [0,1]) bD (bE (af ltB (vE 0) (vE 1)))])) (retS (bE (bc (fX (vE 2)) (bc (fX (blE qQ [bC (some 0) 1 [1] (ssI (vE 0)) (gN 0) bD (bE (af eqB (opE dP (vE 0) (vE 1)) (kI 0)))])) (af leB (ixE (vE 0) (unE iS (kI 1))) (opE k6 (kI 2000) (vE 1)))))))))
def fQ:SpF:=iF 3 1 kQ
def dQ:DW:=ag (a8 (av 2 (caE aq [slE (vE 1) (fG (kI 1)) noO,bC none 1 [] (ssI (slE (vE 1) (fG (kI 1)) noO)) (gN 0) bD (kI 1)]))) (ag (rIf (orT (af eqB (blE cM [cj 100 "stuffs" (vE 0)]) (kI 6)) (k7 (fX (caE bz [cj 100 "stuffs" (vE 0),vE 1])))) (kE (.bl false))) (ag (rIf (orT (af fF (vE 2) (kE .non)) (k7 (fX (caE fQ [vE 2])))) (kE (.bl false))) (ag (oN (vn 0 100 "stuffs" (tpE [ixE (vE 1) (kI 0),blE bF [vE 2],gW aD,kI 0]))) (gx (kE (.bl true))))))
def bU:SpX:=cW 3 2 [0] dQ
def gA:DW:=ag (a8 (av 2 (ixE (ixE (cj 100 "stuffs" (vE 0)) (unE iS (kI 1))) (kI 2)))) (ag (rIf (orT (af eqB (aG 2) (kI 4)) (orT (af eqB (aG 1) (kI 0)) (kdT true dq (ixE (vE 1) (kI 0))))) (kE (.bl false))) (ag (a8 (av 3 (caE aq [slE (vE 1) (fG (kI 1)) noO,kdE dq (ixE (vE 1) (kI 0))]))) (ag (rIf (af fF (vE 3) (kE .non)) (kE (.bl false))) (ag (a8 (av 4 (blE bF [opE ai (lsE [ixE (vE 1) (kI 0)]) (vE 3)]))) (ag (oN (kK 0 100 "stuffs" (caE aM [ixE (cj 100 "stuffs" (vE 0)) (unE iS (kI 1)),kI 2,opE ai (vE 2) (tpE [vE 4])]))) (gx (kE (.bl true))))))))
def cR:SpX:=cW 5 2 [0] gA
def gB:DW:=ag (a8 (av 2 (caE aq [vE 1,tpE [kI 1]]))) (ag (rIf (af fF (vE 2) (kE .non)) (kE (.bl false))) (ag (oN (kK 0 100 "stuffs" (caE aM [ixE (cj 100 "stuffs" (vE 0)) (unE iS (kI 1)),kI 3,ixE (vE 2) (kI 0)]))) (gx (kE (.bl true)))))
def d5:SpX:=cW 3 2 [0] gB
def gC:DW:=ag (a8 (av 2 (caE aq [slE (vE 1) (fG (kI 2)) noO,tpE [kI 1]]))) (ag (rIf (orT (af eqB (blE cM [cj 100 "bars" (vE 0)]) (kI 12)) (af fF (vE 2) (kE .non))) (kE (.bl false))) (ag (a8 (av 3 (caE cD [cj 100 "stuffs" (vE 0),ixE (vE 1) (kI 0)]))) (ag (a8 (av 4 (caE cD [cj 100 "stuffs" (vE 0),ixE (vE 1) (kI 1)]))) (ag (rIf (orT (af fF (vE 3) (kE .non)) (orT (af fF (vE 4) (kE .non)) (af gtB (vE 3) (vE 4)))) (kE (.bl false))) (ag (rIf (af (orB jH ou) (tpE [vE 3,vE 4]) (bC none 1 [] (ssI (cj 100 "bars" (vE 0))) (gN 0) bD (tpE [ixE (vE 0) (kI 0),ixE (vE 0) (kI 1)]))) (kE (.bl false))) (ag (oN (vn 0 100 "bars" (tpE [vE 3,vE 4,ixE (vE 2) (kI 0)]))) (gx (kE (.bl true)))))))))
def cS:SpX:=cW 5 2 [0] gC
def dR:DW:=ag (rIf (orT (af eqB (blE cM [cj 100 "orders" (vE 0)]) (kI 12)) (orT (k7 (fX (caE bz [cj 100 "orders" (vE 0),vE 1]))) (af neB (aG 1) (kI 3)))) (kE (.bl false))) (ag (a8 (av 2 (caE cD [cj 100 "guests" (vE 0),ixE (vE 1) (kI 1)]))) (ag (a8 (av 3 (caE cD [cj 100 "stuffs" (vE 0),ixE (vE 1) (kI 2)]))) (ag (rIf (orT (af fF (vE 2) (kE .non)) (af fF (vE 3) (kE .non))) (kE (.bl false))) (ag (oN (vn 0 100 "orders" (tpE [ixE (vE 1) (kI 0),vE 2,vE 3,gW aD,gW aD,gW aD]))) (gx (kE (.bl true)))))))
def bV:SpX:=cW 4 2 [0] dR
def fR:DW:=ag (a8 (av 2 (ixE (cj 100 "orders" (vE 0)) (unE iS (kI 1))))) (ag (a8 (av 3 (ixE (ixE (ixE (cj 100 "stuffs" (vE 0)) (ixE (vE 2) (kI 2))) (kI 1)) (kI 0)))) (ag (a8 (av 4 (caE aq [slE (vE 1) (fG (kI 1)) noO,tpE [kI 1,kI 0,vE 3]]))) (ag (rIf (orT (af fF (vE 4) (kE .non)) (orT (af (orB gO iK) (ixE (vE 1) (kI 0)) (kE (.kt [Sum.inr "down",Sum.inr "up",Sum.inr "near"]))) (af gtB (ixE (vE 4) (kI 2)) (opE k6 (kI 2000) (vE 3))))) (kE (.bl false))) (ag (oN (kK 0 100 "orders" (caE aM [vE 2,kI 3,blE bF [opE ai (lsE [ixE (vE 1) (kI 0)]) (vE 4)]]))) (gx (kE (.bl true)))))))
def cG:SpX:=cW 5 2 [0] fR
def gD:DW:=ag (a8 (av 2 (caE aq [vE 1,tpE [kI 0]]))) (ag (rIf (af fF (vE 2) (kE .non)) (kE (.bl false))) (ag (oN (kK 0 100 "orders" (caE aM [ixE (cj 100 "orders" (vE 0)) (unE iS (kI 1)),kI 4,tpE [kS "asked",ixE (vE 2) (kI 0)]]))) (gx (kE (.bl true)))))
def d6:SpX:=cW 3 2 [0] gD
def gF:DW:=ag (a8 (av 2 (caE aq [vE 1,tpE [kI 0,kI 1,kI 1,kI 0,kI 0]]))) (ag (rIf (af fF (vE 2) (kE .non)) (kE (.bl false))) (ag (a8 (av 3 (ixE (vE 2) (kI 3)))) (ag (a8 (av 4 (ixE (vE 2) (kI 4)))) (ag (rIf (orT (af gtB (ixE (vE 2) (kI 2)) (kI 60)) (orT (af geB (opE ai (vE 3) (vE 4)) (ixE (vE 2) (kI 1))) (af ltB (ixE (vE 2) (kI 0)) (vE 3)))) (kE (.bl false))) (ag (oN (kK 0 100 "orders" (caE aM [ixE (cj 100 "orders" (vE 0)) (unE iS (kI 1)),kI 4,blE bF [opE ai (lsE [kS "due"]) (vE 2)]]))) (gx (kE (.bl true))))))))
def cT:SpX:=cW 5 2 [0] gF
def dS:DW:=ag (a8 (av 2 (ixE (cj 100 "orders" (vE 0)) (unE iS (kI 1))))) (ag (a8 (av 3 (ixE (vE 2) (kI 5)))) (ag (a8 (av 4 (ifE (af gtB (aG 3) (kI 0)) (opE ai (ixE (ixE (vE 3) (unE iS (kI 1))) (kI 0)) (kI 1)) (kI 1)))) (ag (a8 (av 5 (caE aq [vE 1,tpE [vE 4,kI 1,kI 1]]))) (ag (rIf (orT (af eqB (aG 3) (kI 6)) (af fF (vE 5) (kE .non))) (kE (.bl false))) (ag (a8 (av 6 (ixE (ixE (vE 2) (kI 4)) (kI 3)))) (ag (rIf (orT (af geB (ixE (vE 5) (kI 0)) (vE 6)) (orT (af gtB (ixE (vE 5) (kI 1)) (ixE (vE 5) (kI 2))) (af gtB (ixE (vE 5) (kI 2)) (kI 1000)))) (kE (.bl false))) (ag (oN (kK 0 100 "orders" (caE aM [vE 2,kI 5,opE ai (vE 3) (tpE [blE bF [vE 5]])]))) (gx (kE (.bl true))))))))))
def bX:SpX:=cW 7 2 [0] dS
def dI:DW:=ag (oIf (af eqB (vE 1) (kS "order")) aX (oN (ip (bx bV [AW.lent 0,AW.name 2])))) (ag (oIf (af eqB (vE 1) (kS "dose")) aX (oN (ip (bx cG [AW.lent 0,AW.name 2])))) (ag (oIf (af eqB (vE 1) (kS "asked")) aX (oN (ip (bx d6 [AW.lent 0,AW.name 2])))) (ag (oIf (af eqB (vE 1) (kS "due")) aX (oN (ip (bx cT [AW.lent 0,AW.name 2])))) (oN (ip (bx bX [AW.lent 0,AW.name 2]))))))
def cO:SpX:=cW 3 3 [0] dI
def oM:DW:=ag (a8 (av 2 (opE kg (vE 1) (kS " ")))) (ag (a8 (av 3 (ixE (vE 2) (kI 0)))) (ag (rIf (af (orB gO iK) (vE 3) (kdE fi (cj 100 "head" (vE 0)))) (kE (.bl false))) (ag (oN (orW (Em 0 100 "head" (vE 3)) (Et 0 100 "head" (vE 3)))) (ag (a8 (av 4 (slE (vE 2) (fG (kI 1)) noO))) (ag (oIf (af eqB (vE 3) (kS "guest")) aX (oN (ip (bx gz [AW.lent 0,AW.name 4])))) (ag (oIf (af eqB (vE 3) (kS "stuff")) aX (oN (ip (bx bU [AW.lent 0,AW.name 4])))) (ag (oIf (af eqB (vE 3) (kS "cap")) aX (oN (ip (bx cR [AW.lent 0,AW.name 4])))) (ag (oIf (af eqB (vE 3) (kS "young")) aX (oN (ip (bx d5 [AW.lent 0,AW.name 4])))) (ag (oIf (af eqB (vE 3) (kS "bar")) aX (oN (ip (bx cS [AW.lent 0,AW.name 4])))) (oN (ip (bx cO [AW.lent 0,AW.val (vE 3),AW.name 4]))))))))))))
def fm:SpX:=cW 5 2 [0] oM
def rC:DW:=ag (oN (mkO 1 100 lB)) (ag (orW (a8 (dY (some 0) (nB (vE 0)) (gT [2,3]) aX)) (tF 2 3 0 (oN (ifC (B3 (vH (bx fm [AW.lent 1,AW.val (vE 3)]))) (oN (rzW 44 "place" (vE 2))) (a8 az))))) (ag (oIf (af (orB jH ou) (cj 100 "head" (vE 1)) (kE (.kt [Sum.inr "order",Sum.inr "dose"]))) aX (oN (rzW 44 "place" (aG 0)))) (gx (tpE [blE bF [cj 100 "guests" (vE 1)],blE bF [cj 100 "stuffs" (vE 1)],blE bF [cj 100 "bars" (vE 1)],blE bF [cj 100 "orders" (vE 1)]]))))
def fZ:List D->Option RX:=B6 4 1 rC
def j6:DS:=aC (ifS (orT (fX (bE (i6 "tuple" (vE 1)))) (fX (bE (i6 "list" (vE 1))))) (aC (ifS (orT (af neB (bE (i6 "tuple" (vE 0))) (bE (i6 "tuple" (vE 1)))) (af neB (bE (i6 "list" (vE 0))) (bE (i6 "list" (vE 1))))) (retS (kE (.bl false))) az) aX) az) (aC (ifS (orT (fX (bE (i6 "bool" (vE 1)))) (fX (bE (i6 "bool" (vE 0))))) (retS (bE (bc (i6 "bool" (vE 1)) (bc (i6 "bool" (vE 0)) (af eqB (vE 0) (vE 1)))))) az) (aC (ifS (fX (bE (i6 "int" (vE 1)))) (retS (bE (bc (i6 "int" (vE 0)) (af eqB (vE 0) (vE 1))))) az) (aC (ifS (af fF (vE 1) (kE .non)) (retS (bE (af fF (vE 0) (kE .non)))) az) (retS (bE (bc (i6 "str" (vE 0)) (af eqB (vE 0) (vE 1))))))))
def fu:SpF:=iF 2 2 j6
def j7:DS:=aC (ifS (af eqB (caE ah [vE 0,vE 1,kI 2]) (kI 0)) (retS (vE 2)) az) (retS (caE ah [vE 0,opE ai (vE 1) (kI 1),opE ai (vE 2) (kI 1)]))
def bg:SpF:=iF 3 3 j7
def j8:DW:=ag (a8 (av 4 (caE bg [vE 0,kI 10,kI 4]))) (ag (sIf (af eqB (vE 1) (kI 1)) (av 4 (kI 5))) (ag (orW (a8 (dY none (aY (vE 4)) (gN 5) (aC (ifS (af eqB (vE 5) (kI 4)) (aH 3 (aG 2)) az) (aH 2 (ixE (lsE [kS "cap flat 5 6",kS "cap kilo 7 8 9",kS "cap ever 7"]) (caE ah [vE 0,opE ai (kI 12) (vE 5),kI 3])))))) (dK 5 (vE 4) (ag (aIf (af eqB (vE 5) (kI 4)) 3 (aG 2)) (gp 2 (ixE (lsE [kS "cap flat 5 6",kS "cap kilo 7 8 9",kS "cap ever 7"]) (caE ah [vE 0,opE ai (kI 12) (vE 5),kI 3])))))) (ag (oIf (af eqB (vE 1) (kI 2)) (aC (aH 2 (kS "young 4")) (aC (aH 3 (aG 2)) (aH 2 (ixE (lsE [kS "cap ever 3",kS "young 5"]) (caE ah [vE 0,kI 20,kI 2]))))) (ag (gp 2 (kS "young 4")) (ag (gp 3 (aG 2)) (gp 2 (ixE (lsE [kS "cap ever 3",kS "young 5"]) (caE ah [vE 0,kI 20,kI 2])))))) (gx (vE 4)))))
def du:SpX:=cW 6 4 [2,3] j8
def gG:DW:=ag (a8 (av 4 (blE m6 [kI 1,caE bg [vE 0,kI 22,kI 6]]))) (ag (sIf (af eqB (vE 1) (kI 3)) (av 4 (kI 7))) (ag (a8 (av 5 (caE ah [vE 0,kI 24,blE gL [vE 4,kI 6]]))) (ag (a8 (av 6 (kI 0))) (ag (orW (a8 (dY none (aY (vE 4)) (gN 7) (aC (av 8 (opE ai (kS "s") (ixE (kS "abcdefg") (vE 7)))) (aC (ifS (orT (af eqB (vE 7) (kI 6)) (bc (af eqB (vE 1) (kI 4)) (bc (af eqB (vE 7) (opE gV (vE 4) (kI 1))) (af gtB (vE 7) (kI 0))))) (aH 3 (aG 2)) az) (aC (ifS (bc (af eqB (vE 1) (kI 4)) (bc (af eqB (vE 7) (opE gV (vE 4) (kI 1))) (af gtB (vE 7) (kI 0)))) (av 8 (opE ai (kS "s") (ixE (kS "abcdefg") (caE ah [vE 0,kI 25,vE 7])))) az) (aC (aH 2 (opE ai (opE ai (kS "stuff ") (vE 8)) (ixE (lsE [kS " 2 4",kS " 3 9"]) (opE dP (vE 7) (kI 2))))) (ifS (af eqB (vE 7) (vE 5)) aX az))))))) (dK 7 (vE 4) (ag (a8 (av 8 (opE ai (kS "s") (ixE (kS "abcdefg") (vE 7))))) (ag (aIf (orT (af eqB (vE 7) (kI 6)) (bc (af eqB (vE 1) (kI 4)) (bc (af eqB (vE 7) (opE gV (vE 4) (kI 1))) (af gtB (vE 7) (kI 0))))) 3 (aG 2)) (ag (sIf (bc (af eqB (vE 1) (kI 4)) (bc (af eqB (vE 7) (opE gV (vE 4) (kI 1))) (af gtB (vE 7) (kI 0)))) (av 8 (opE ai (kS "s") (ixE (kS "abcdefg") (caE ah [vE 0,kI 25,vE 7]))))) (ag (gp 2 (opE ai (opE ai (kS "stuff ") (vE 8)) (ixE (lsE [kS " 2 4",kS " 3 9"]) (opE dP (vE 7) (kI 2))))) (oIf (af eqB (vE 7) (vE 5)) aX (oN (setC 6 (bx du [AW.val (vE 0),AW.val (vE 1),AW.lent 2,AW.lent 3])))))))))) (ag (oIf (af eqB (vE 1) (kI 5)) (aC (aH 3 (aG 2)) (aH 2 (ixE (lsE [kS "guest z 1",kS "dose up 1 1 2",kS "asked 4",kS "taper 1 1 1"]) (caE ah [vE 0,kI 26,kI 4])))) (ag (gp 3 (aG 2)) (gp 2 (ixE (lsE [kS "guest z 1",kS "dose up 1 1 2",kS "asked 4",kS "taper 1 1 1"]) (caE ah [vE 0,kI 26,kI 4]))))) (orW (a8 (l8 (retS (tpE [vE 4,vE 6])) (jG 4 6))) (kZ (tpE [vE 4,vE 6]))))))))
def bY:SpX:=cW 9 4 [2,3] gG
def j9:DW:=ag (a8 (av 5 (cy aD))) (ag (orW (a8 (dY none (aY (vE 2)) (gN 6) (av 5 (opE ai (vE 5) (bC none 1 [6] (jw (vE 6) (vE 2)) (gN 0) bD (tpE [vE 1,vE 0])))))) (dK 6 (vE 2) (a8 (av 5 (opE ai (vE 5) (bC none 1 [6] (jw (vE 6) (vE 2)) (gN 0) bD (tpE [vE 1,vE 0]))))))) (ag (a8 (av 7 (blE gL [aG 5,caE bg [vE 0,kI 28,kI 12]]))) (ag (sIf (bc (af eqB (vE 1) (kI 6)) (af gtB (aG 5) (kI 12))) (av 7 (kI 13))) (ag (a8 (av 8 (bC none 1 [] (aY (vE 2)) (gN 0) bD (opE ai (kS "s") (ixE (kS "abcdefg") (vE 0)))))) (ag (orW (a8 (dY none (aY (vE 7)) (gN 9) (aC (ifS (af eqB (vE 9) (kI 12)) (aH 4 (aG 3)) az) (aC (uV (gT [6,11]) (ixE (vE 5) (vE 9))) (aH 3 (opE ai (opE ai (opE ai (opE ai (opE ai (kS "bar ") (ixE (vE 8) (vE 6))) (kS " ")) (ixE (vE 8) (vE 11))) (kS " ")) (blE gc [opE ai (kI 1) (vE 9)]))))))) (dK 9 (vE 7) (ag (aIf (af eqB (vE 9) (kI 12)) 4 (aG 3)) (ag (a8 (uV (gT [6,11]) (ixE (vE 5) (vE 9)))) (gp 3 (opE ai (opE ai (opE ai (opE ai (opE ai (kS "bar ") (ixE (vE 8) (vE 6))) (kS " ")) (ixE (vE 8) (vE 11))) (kS " ")) (blE gc [opE ai (kI 1) (vE 9)]))))))) (ag (oIf (bc (af eqB (vE 1) (kI 7)) (af ltB (vE 7) (kI 12))) (aC (av 10 (lsE [kS "bar sa z 1",kS "bar z sa 1",kS "bar sa sa 0"])) (aC (ifS (af gtB (vE 2) (kI 1)) (aH 10 (kS "bar sb sa 1")) az) (aC (ifS (af gtB (vE 7) (kI 0)) (av 10 (opE ai (vE 10) (lsE [kS "bar sa sa 99",kS "bar sa sa 1"]))) az) (aC (aH 4 (aG 3)) (aH 3 (ixE (vE 10) (caE ah [vE 0,kI 30,aG 10]))))))) (ag (a8 (av 10 (lsE [kS "bar sa z 1",kS "bar z sa 1",kS "bar sa sa 0"]))) (ag (aIf (af gtB (vE 2) (kI 1)) 10 (kS "bar sb sa 1")) (ag (sIf (af gtB (vE 7) (kI 0)) (av 10 (opE ai (vE 10) (lsE [kS "bar sa sa 99",kS "bar sa sa 1"])))) (ag (gp 4 (aG 3)) (gp 3 (ixE (vE 10) (caE ah [vE 0,kI 30,aG 10])))))))) (ag (oIf (bc (af eqB (vE 1) (kI 8)) (af gtB (vE 7) (kI 0))) (aC (aH 4 (aG 3)) (aH 3 (ixE (lsE [kS "guest z 1",kS "stuff z 1",kS "cap ever 1",kS "young 1"]) (caE ah [vE 0,kI 31,kI 4])))) (ag (gp 4 (aG 3)) (gp 3 (ixE (lsE [kS "guest z 1",kS "stuff z 1",kS "cap ever 1",kS "young 1"]) (caE ah [vE 0,kI 31,kI 4]))))) (gx (vE 7)))))))))
def cU:SpX:=cW 12 5 [3,4] j9
def gI:DW:=ag (a8 (av 5 (kI 0))) (ag (sIf (af gtB (vE 2) (kI 0)) (av 5 (caE bg [vE 0,kI 34,kI 12]))) (ag (sIf (bc (af eqB (vE 1) (kI 9)) (af gtB (vE 2) (kI 0))) (av 5 (kI 13))) (ag (a8 (av 6 (kI 0))) (ag (a8 (av 7 (caE ah [vE 0,kI 36,blE m6 [kI 1,blE gL [vE 5,kI 12]]]))) (ag (orW (a8 (dY none (aY (vE 5)) (gN 8) (aC (av 9 (opE ai (kS "o") (ixE (kS "abcdefghijklm") (vE 8)))) (aC (av 10 (opE ai (opE ai (kS "order ") (vE 9)) (kS " ga sa"))) (aC (ifS (orT (af eqB (vE 8) (kI 12)) (bc (af eqB (vE 1) (kI 10)) (bc (af eqB (vE 8) (opE gV (vE 5) (kI 1))) (af gtB (vE 8) (kI 0))))) (aH 4 (aG 3)) az) (aC (ifS (bc (af eqB (vE 1) (kI 10)) (bc (af eqB (vE 8) (opE gV (vE 5) (kI 1))) (af gtB (vE 8) (kI 0)))) (av 10 (opE ai (opE ai (kS "order o") (ixE (kS "abcdefghijklm") (caE ah [vE 0,kI 37,vE 8]))) (kS " ga sa"))) az) (aC (ifS (bc (af eqB (vE 1) (kI 11)) (af eqB (vE 8) (vE 7))) (aC (aH 4 (aG 3)) (av 10 (ixE (lsE [kS "order z sa ga",kS "order z z sa",kS "order z ga z",kS "order Z ga sa"]) (caE ah [vE 0,kI 38,kI 4])))) az) (aC (av 11 (lsE [vE 10,opE ai (kS "dose up 1 1 ") (blE gc [ixE (lsE [kI 2,kI 4000]) (opE dP (vE 8) (kI 2))])])) (aC (ifS (bc (af eqB (vE 8) (vE 7)) (af (orB gO iK) (vE 1) (tpE [kI 12,kI 13]))) (av 6 (caE bg [vE 0,kI 40,kI 6])) az) (ifS (af eqB (vE 8) (vE 7)) (aC (av 12 (caE aS [vE 0,vE 1,vE 11,vE 6])) (aC (cZ 4 (bC none 1 [3] (ssI (ixE (vE 12) (kI 1))) (gN 0) bD (opE ai (aG 1) (vE 0)))) (cZ 3 (ixE (vE 12) (kI 0))))) (cZ 3 (opE ai (vE 11) (lsE [ixE (lsE [kS "due 5 3 2 1 1",kS "asked 5"]) (opE dP (vE 8) (kI 2))]))))))))))))) (dK 8 (vE 5) (ag (a8 (av 9 (opE ai (kS "o") (ixE (kS "abcdefghijklm") (vE 8))))) (ag (a8 (av 10 (opE ai (opE ai (kS "order ") (vE 9)) (kS " ga sa")))) (ag (aIf (orT (af eqB (vE 8) (kI 12)) (bc (af eqB (vE 1) (kI 10)) (bc (af eqB (vE 8) (opE gV (vE 5) (kI 1))) (af gtB (vE 8) (kI 0))))) 4 (aG 3)) (ag (sIf (bc (af eqB (vE 1) (kI 10)) (bc (af eqB (vE 8) (opE gV (vE 5) (kI 1))) (af gtB (vE 8) (kI 0)))) (av 10 (opE ai (opE ai (kS "order o") (ixE (kS "abcdefghijklm") (caE ah [vE 0,kI 37,vE 8]))) (kS " ga sa")))) (ag (oIf (bc (af eqB (vE 1) (kI 11)) (af eqB (vE 8) (vE 7))) (aC (aH 4 (aG 3)) (av 10 (ixE (lsE [kS "order z sa ga",kS "order z z sa",kS "order z ga z",kS "order Z ga sa"]) (caE ah [vE 0,kI 38,kI 4])))) (ag (gp 4 (aG 3)) (a8 (av 10 (ixE (lsE [kS "order z sa ga",kS "order z z sa",kS "order z ga z",kS "order Z ga sa"]) (caE ah [vE 0,kI 38,kI 4])))))) (ag (a8 (av 11 (lsE [vE 10,opE ai (kS "dose up 1 1 ") (blE gc [ixE (lsE [kI 2,kI 4000]) (opE dP (vE 8) (kI 2))])]))) (ag (sIf (bc (af eqB (vE 8) (vE 7)) (af (orB gO iK) (vE 1) (tpE [kI 12,kI 13]))) (av 6 (caE bg [vE 0,kI 40,kI 6]))) (vQ (af eqB (vE 8) (vE 7)) (aC (av 12 (caE aS [vE 0,vE 1,vE 11,vE 6])) (aC (cZ 4 (bC none 1 [3] (ssI (ixE (vE 12) (kI 1))) (gN 0) bD (opE ai (aG 1) (vE 0)))) (cZ 3 (ixE (vE 12) (kI 0))))) (cZ 3 (opE ai (vE 11) (lsE [ixE (lsE [kS "due 5 3 2 1 1",kS "asked 5"]) (opE dP (vE 8) (kI 2))]))) (ag (a8 (av 12 (caE aS [vE 0,vE 1,vE 11,vE 6]))) (ag (JD 4 (bC none 1 [3] (ssI (ixE (vE 12) (kI 1))) (gN 0) bD (opE ai (aG 1) (vE 0)))) (JD 3 (ixE (vE 12) (kI 0))))) (JD 3 (opE ai (vE 11) (lsE [ixE (lsE [kS "due 5 3 2 1 1",kS "asked 5"]) (opE dP (vE 8) (kI 2))]))))))))))))) (orW (a8 (l8 (retS (tpE [vE 5,vE 6])) (jG 5 6))) (kZ (tpE [vE 5,vE 6]))))))))
def bK:SpX:=cW 13 5 [3,4] gI
def BA:DW:=ag (a8 (av 1 (opE dP (caE ah [vE 0,kI 0,kI 40]) (kI 26)))) (ag (a8 (av 2 (cy aD))) (ag (a8 (av 3 (cy aD))) (ag (a8 (av 4 (caE bg [vE 0,kI 2,kI 6]))) (ag (sIf (af eqB (vE 1) (kI 16)) (av 4 (kI 7))) (ag (orW (a8 (dY none (aY (vE 4)) (gN 5) (aC (av 12 (opE ai (kS "g") (ixE (kS "abcdefg") (vE 5)))) (aC (ifS (orT (af eqB (vE 5) (kI 6)) (bc (af eqB (vE 1) (kI 17)) (bc (af eqB (vE 5) (opE gV (vE 4) (kI 1))) (af gtB (vE 5) (kI 0))))) (aH 3 (aG 2)) az) (aC (ifS (bc (af eqB (vE 1) (kI 17)) (bc (af eqB (vE 5) (opE gV (vE 4) (kI 1))) (af gtB (vE 5) (kI 0)))) (av 12 (opE ai (kS "g") (ixE (kS "abcdefg") (caE ah [vE 0,kI 4,vE 5])))) az) (aH 2 (opE ai (opE ai (opE ai (kS "guest ") (vE 12)) (kS " ")) (blE gc [vE 5])))))))) (dK 5 (vE 4) (ag (a8 (av 12 (opE ai (kS "g") (ixE (kS "abcdefg") (vE 5))))) (ag (aIf (orT (af eqB (vE 5) (kI 6)) (bc (af eqB (vE 1) (kI 17)) (bc (af eqB (vE 5) (opE gV (vE 4) (kI 1))) (af gtB (vE 5) (kI 0))))) 3 (aG 2)) (ag (sIf (bc (af eqB (vE 1) (kI 17)) (bc (af eqB (vE 5) (opE gV (vE 4) (kI 1))) (af gtB (vE 5) (kI 0)))) (av 12 (opE ai (kS "g") (ixE (kS "abcdefg") (caE ah [vE 0,kI 4,vE 5]))))) (gp 2 (opE ai (opE ai (opE ai (kS "guest ") (vE 12)) (kS " ")) (blE gc [vE 5])))))))) (ag (oIf (af eqB (vE 1) (kI 18)) (aC (aH 3 (aG 2)) (aH 2 (ixE (lsE [kS "cap ever 4",kS "young 4",kS "bar sa sa 4",kS "order z ga sa"]) (caE ah [vE 0,kI 5,kI 4])))) (ag (gp 3 (aG 2)) (gp 2 (ixE (lsE [kS "cap ever 4",kS "young 4",kS "bar sa sa 4",kS "order z ga sa"]) (caE ah [vE 0,kI 5,kI 4]))))) (ag (oN (setC 6 (bx bY [AW.val (vE 0),AW.val (vE 1),AW.lent 2,AW.lent 3]))) (ag (oN (setC 7 (bx cU [AW.val (vE 0),AW.val (vE 1),AW.val (blE gL [kI 6,ixE (vE 6) (kI 0)]),AW.lent 2,AW.lent 3]))) (ag (oN (setC 8 (bx bK [AW.val (vE 0),AW.val (vE 1),AW.val (vE 4),AW.lent 2,AW.lent 3]))) (ag (a8 (av 9 (kE .non))) (ag (a8 (av 10 (kE .non))) (ag (oN (vL fZ (aL [blE listS [vE 2]]) 10 [44] 11 (av 9 (AR [44] "place" (vE 11))))) (ag (rIf (af gtB (aG 3) (kI 0)) (caE fu [vE 9,ixE (vE 3) (kI 0)])) (ag (rIf (orT (af m5 (vE 9) (kE .non)) (orT (k7 (fX (bE (i6 "tuple" (vE 10))))) (af neB (aG 10) (kI 4)))) (kE (.bl false))) (ag (rIf (af neB (blE mO [bC none 1 [] (ssI (ixE (vE 10) (kI 1))) (gN 0) bD (blE cM [ixE (vE 0) (kI 2)])]) (ixE (vE 6) (kI 1))) (kE (.bl false))) (ag (rIf (af neB (blE mO [bC none 1 [] (ssI (ixE (vE 10) (kI 3))) (gN 0) bD (blE cM [ixE (vE 0) (kI 5)])]) (opE k6 (ixE (vE 8) (kI 1)) (blE (orS oq kL) [bE (af gtB (ixE (vE 8) (kI 0)) (kI 0))]))) (kE (.bl false))) (gx (bE (af eqB (bC (some 10) 1 [] (ssI (vE 10)) (gN 0) bD (aG 0)) (lsE [vE 4,ixE (vE 6) (kI 0),vE 7,ixE (vE 8) (kI 0)]))))))))))))))))))))
def mD:SpF:=B8 13 1 BA
end Den
namespace Maths
open DL Den PySem
abbrev Os:=Option Slot
noncomputable abbrev sh (d:D):Os:=some (.sh d)
noncomputable abbrev oL (l:List D):Os:=some (.own (.lst l))
noncomputable abbrev lL (l:List D):Os:=some (.lok (.lst l))
noncomputable def dr(h:Str)(g s b o:List D):D:= .obj 100 ["head","guests","stuffs","bars","orders"] [.str h,.kid g,.kid s,.kid b,.kid o]
structure Fl(g s b o:List D):Prop where
 g:a7 g=true
 s:a7 s=true
 b:a7 b=true
 o:a7 o=true
def slF(x:Os):Bool:=match x with
 |some (.sh d)=>d.imm
 |some (.own d)=>d.aQ
 |some (.lok d)=>d.aQ
 |some (.bor d)=>d.aQ
 |none=>true
def flF(J:List Nat):Nat->DL.Env->Bool
 |_,[]=>true
 |k,x::e=>(J.contains k||slF x)&&flF J (k+1) e
theorem u7(J:List Nat):∀(e:DL.Env) (k:Nat),flF J k e=(List.range e.length).all λj=>J.contains (k+j)||slF (e[j]?.getD none)
 |[],k=>rfl
 |x::e,k=>by
  rw[flF,u7 J e (k+1),GaK,Gcg,Gbo,List.all_map];simp only[Nat.add_zero,GbC,Option.getD_some];congr 1;congr 1
  funext j
  simp[Nat.add_assoc,Nat.add_comm 1]
theorem BB(J:List Nat)(e:DL.Env):ig J e=flF J 0 e:=by
 rw[u7];unfold ig;congr 1
 funext j
 rw[GaP];congr 1;cases h:e[j]? with
 |none=>rfl
 |some x=>cases x with
  |none=>rfl
  |some x=>cases x<;>rfl
@[simp] theorem mF{h:Str}{g s b o:List D}:gM [.str h,.kid g,.kid s,.kid b,.kid o]=(a7 g&&(a7 s&&(a7 b&&a7 o))):=by simp[gM]
@[simp] theorem BC{h:Str}{g s b o:List D}:flK (dr h g s b o)=(a7 g&&(a7 s&&(a7 b&&a7 o))):=by simp[flK,dr]
variable{g o:List D}{h:Str}
theorem Fl.k{s b:List D}(F:Fl g s b o):flK (dr h g s b o)=true:=by simp[F.g,F.s,F.b,F.o]
@[simp] theorem fS(xs ys:List D):a7 (xs++ys)=(a7 xs&&a7 ys):=by
 induction xs with
 |nil=>rfl
 |cons x xs ih=>simp[ih,Bool.and_assoc]
section
variable{h h' :Str}{g s b o l:List D}{d:D}
@[simp] theorem OE:qV 100 "head" (dr h g s b o)=some ⟨.c,.str h⟩:=rfl
@[simp] theorem Mu:qV 100 "guests" (dr h g s b o)=some ⟨.c,.lst g⟩:=rfl
@[simp] theorem Mv:qV 100 "stuffs" (dr h g s b o)=some ⟨.c,.lst s⟩:=rfl
@[simp] theorem OF:qV 100 "bars" (dr h g s b o)=some ⟨.c,.lst b⟩:=rfl
@[simp] theorem Mw:qV 100 "orders" (dr h g s b o)=some ⟨.c,.lst o⟩:=rfl
theorem BD(F:Fl g s b o)(hd:d.imm=true)(hl:s.length<aj):fY 100 "stuffs" (l5 d) (dr h g s b o)=some (dr h g (s++[d]) b o):=by
 show(if(100:Nat)=100/\gM [.str h,.kid g,.kid s,.kid b,.kid o]=true then((l5 d s).bind λl' =>if a7 l' =true then some (D.obj 100 ["head","guests","stuffs","bars","orders"] [.str h,.kid g,.kid l',.kid b,.kid o]) else none) else none)=_;simp[F.g,F.s,F.b,F.o,l5,hl,hd,dr]
theorem JE(F:Fl g s b o)(hd:d.imm=true)(hl:b.length<aj):fY 100 "bars" (l5 d) (dr h g s b o)=some (dr h g s (b++[d]) o):=by
 show(if(100:Nat)=100/\gM [.str h,.kid g,.kid s,.kid b,.kid o]=true then((l5 d b).bind λl' =>if a7 l' =true then some (D.obj 100 ["head","guests","stuffs","bars","orders"] [.str h,.kid g,.kid s,.kid l',.kid o]) else none) else none)=_;simp[F.g,F.s,F.b,F.o,l5,hl,hd,dr]
theorem BE(F:Fl g s b o)(hd:d.imm=true)(hl:o.length<aj):fY 100 "orders" (l5 d) (dr h g s b o)=some (dr h g s b (o++[d])):=by
 show(if(100:Nat)=100/\gM [.str h,.kid g,.kid s,.kid b,.kid o]=true then((l5 d o).bind λl' =>if a7 l' =true then some (D.obj 100 ["head","guests","stuffs","bars","orders"] [.str h,.kid g,.kid s,.kid b,.kid l']) else none) else none)=_;simp[F.g,F.s,F.b,F.o,l5,hl,hd,dr]
variable{x:D}
theorem jP:fL d (l++[x])=some (l++[d]):=by
 unfold fL;simp
theorem q9(F:Fl g (s++[x]) b o)(hd:d.imm=true):fY 100 "stuffs" (fL d) (dr h g (s++[x]) b o)=some (dr h g (s++[d]) b o):=by
 have:=F.s;rw[fS,Gad] at this;show(if(100:Nat)=100/\gM [.str h,.kid g,.kid (s++[x]),.kid b,.kid o]=true then((fL d (s++[x])).bind λl' =>if a7 l' =true then some (D.obj 100 ["head","guests","stuffs","bars","orders"] [.str h,.kid g,.kid l',.kid b,.kid o]) else none) else none)=_;rw[jP,mF,F.g,F.s,F.b,F.o];simp[this.1,hd,dr]
theorem jQ(F:Fl g s b (o++[x]))(hd:d.imm=true):fY 100 "orders" (fL d) (dr h g s b (o++[x]))=some (dr h g s b (o++[d])):=by
 have:=F.o;rw[fS,Gad] at this;show(if(100:Nat)=100/\gM [.str h,.kid g,.kid s,.kid b,.kid (o++[x])]=true then((fL d (o++[x])).bind λl' =>if a7 l' =true then some (D.obj 100 ["head","guests","stuffs","bars","orders"] [.str h,.kid g,.kid s,.kid b,.kid l']) else none) else none)=_;rw[jP,mF,F.g,F.s,F.b,F.o];simp[this.1,hd,dr]
theorem JF(F:Fl g s b o):oy 100 "head" (.str h') (dr h g s b o)=some (dr h' g s b o):=by
 show(if(100:Nat)=100/\gM [.str h,.kid g,.kid s,.kid b,.kid o]=true/\(5:Nat)<1000/\false=false then some (D.obj 100 ["head","guests","stuffs","bars","orders"] [.str h',.kid g,.kid s,.kid b,.kid o]) else none)=_;rw[mF,F.g,F.s,F.b,F.o];simp[dr]
@[simp] theorem NF{α:Type}(xs:List α)(x:α):atD (xs++[x]) (-1)=some x:=by
 unfold atD;rw[Gam (by lia),Gak (by simp;lia),GaJ,Gcl,show(-1+((xs.length+1:Nat):Int)).toNat=xs.length by lia];simp
end
section
variable{f f' :DW}{e:DL.Env}{i:Nat}{d d' :D}{J:List Nat}{ws ls:List D}{n:Nat}{k k' :DI}{x y:D}{p q:D->D->Option Bool}{t t' :SpV}
@[simp] theorem bN:orW f f' e=match f e with
 |some r=>some r
 |none=>f' e:=rfl
@[simp] theorem oO:orI k k' e=match k e with
 |some r=>some r
 |none=>k' e:=rfl
@[simp] theorem OG:orB p q x y=match p x y with
 |some r=>some r
 |none=>q x y:=rfl
@[simp] theorem OH:orS t t' ls=match t ls with
 |some r=>some r
 |none=>t' ls:=rfl
@[simp] theorem P0:ie.of (.nx e)=some (.nx e):=rfl
@[simp] theorem OI:ie.of (.ret d)=none:=rfl
@[simp] theorem Pa{z:DL.Env}:dB 0 (some (.lok d)::z)=some d:=rfl
@[simp] theorem JG:ig J e=flF J 0 e:=BB J e
@[simp] theorem Pb{x:Os}{k:Nat}:flF J k (x::e)=((J.contains k||slF x)&&flF J (k+1) e):=rfl
@[simp] theorem Pc{k:Nat}:flF J k []=true:=rfl
@[simp] theorem OJ:slF (some (.sh d))=d.imm:=rfl
@[simp] theorem NG:slF (some (.own d))=d.aQ:=rfl
@[simp] theorem NH:slF (some (.lok d))=d.aQ:=rfl
@[simp] theorem NI:slF (some (.bor d))=d.aQ:=rfl
@[simp] theorem Mx:slF none=true:=rfl
@[simp] theorem NJ:kc J (.ret d e)=(iM e J).map λls=>(d,ls):=rfl
@[simp] theorem NK:iM e []=some []:=rfl
@[simp] theorem NL{j:Nat}:iM e (j::J)=(dB j e).bind λd=>if flK d then(iM e J).map λls=>d::ls else none:=rfl
@[simp] theorem OK{i j:Int}:ai (.int i) (.int j)=some ⟨.c,.int (i+j)⟩:=rfl
@[simp] theorem JH{x y:Str}:ai (.str x) (.str y)=o7 (.str x) (.str y):=rfl
@[simp] theorem OL{x y:List D}:ai (.lst x) (.lst y)=o7 (.lst x) (.lst y):=rfl
@[simp] theorem OM{x y:List D}:ai (.tup x) (.tup y)=if x.length=0\/x.length+y.length<=aj then some ⟨.c,.tup (x++y)⟩ else none:=by
 cases x with
 |nil=>rfl
 |cons a x=>simp[ai]
end
abbrev Nm:=Str×List D
noncomputable def ay(p:Nm):D:= .tup (.str p.1::p.2)
noncomputable def plD(ec:List Nm)(n:Str):D:=match ec.findIdx? λp=>p.1==n with
 |some k=> .int (k:Int)
 |none=> .non
theorem u9(n:Str)(q:D):∀(ec:List Nm) (k:Nat) (x y:Os),(∃x' y',forL (gT [2,3]) (ifS (af eqB (ixE (vE 3) (kI 0)) (vE 1)) (retS (vE 2)) az) (mj k (ec.map ay)) [sh q,sh (.str n),x,y]=some (match ec.findIdx? λp=>p.1==n with
  |some j=> .ret (.int ((k+j:Nat):Int))
  |none=> .nx [sh q,sh (.str n),x',y']))
 |[],k,x,y=> ⟨x,y,rfl⟩
 |p::ec,k,x,y=>by
  by_cases h:p.1=n
  .refine⟨x,y, ?_⟩;simp[ay,h,Gbw]
  .obtain⟨x',y',e⟩:=u9 n q ec (k+1) (sh (.int (k:Int))) (sh (ay p));refine⟨x',y', ?_⟩;have:(p.1==n)=false:=by simpa using h
   simp[ay,h,Gbw,this] at e⊢;rw[e];cases ec.findIdx? λp=>p.1==n with
   |none=>rfl
   |some j=>simp;lia
theorem BG(ec:List Nm)(n:Str):cD [.lst (ec.map ay),.str n]=some (plD ec n):=by
 obtain⟨x',y',e⟩:=u9 n (.lst (ec.map ay)) ec 0 none none;unfold cD j5;simp at e⊢;rw[e];unfold plD;cases ec.findIdx? λp=>p.1==n with
 |none=>rfl
 |some j=>simp
@[simp] theorem ON{d:D}:(jr d).d=d:=rfl
variable{ws:List D}
theorem qa{ec:List Nm}{n:Str}(h:bA [.str n]=some (.bl true)):bz [.lst (ec.map ay),.lst (.str n::ws)]=some (.bl (aP (plD ec n))):=by
 unfold bz d4;simp[h,BG]
theorem JI{ec:List Nm}{n:Str}(h:bA [.str n]=some (.bl false)):bz [.lst (ec.map ay),.lst (.str n::ws)]=some (.bl false):=by
 unfold bz d4;simp[h]
@[simp] theorem Pd{α:Type}(x:α)(xs:List α):cutD (x::xs) (some 1) none=xs:=by simp[cutD,sIx]
@[simp] theorem Pe{α:Type}(x y:α)(xs:List α):cutD (x::y::xs) (some 2) none=xs:=by simp[cutD,sIx]
@[simp] theorem NM{n:Nat}{d w:D}:bt [0] n [d,.lst [w]]=some (.lok d)::some (.bor (.lst [w]))::List.replicate (n -2) none:=rfl
section
variable{h h' :Str}{g s b o ws:List D}{ec:List Nm}{n u v:Str}{x y:Int}{d:D}{m:Nat}
theorem dN{f:DW}(hw:a7 ws=true):cW (m+2) 2 [0] f [d,.lst ws]=(f (some (.lok d)::some (.bor (.lst ws))::List.replicate m none)).bind (kc [0]):=by
 simp[cW,DL.argsOk,GaU,hw,bt,jF,D.top]
variable{e' :DL.Env}
theorem bj{v w:DW}{e:DL.Env}{f:ie->Option (D×List D)}{r:Option (D×List D)}(h:v e=some (.nx e'))(g:(w e').bind f=r):(ag v w e).bind f=r:=by simp only[ag,h,Option.bind_some,g]
variable{d' :D}
theorem bq{v w:DW}{e:DL.Env}{d:D}(h:v e=some (.ret d e'))(h0:e'[0]? =some (some (.lok d')))(hf:flK d' =true):(ag v w e).bind (kc [0])=some (d,[d']):=by
 simp only[ag,h,Option.bind_some];simp[dB,h0,hf]
theorem dT{v:DW}{e:DL.Env}{d:D}(h:v e=some (.ret d e'))(h0:e'[0]? =some (some (.lok d')))(hf:flK d' =true):(v e).bind (kc [0])=some (d,[d']):=by
 rw[h];simp[dB,h0,hf]
theorem BH(F:Fl g (ec.map ay) b o)(hn:bA [.str n]=some (.bl true))(hN:aq [.lst [.str u,.str v],.lst [.int 1,.int 1]]=some (.lst [.int x,.int y]))(hF:fQ [.lst [.int x,.int y]]=some (.bl true))(hl:ec.length<6)(hp:aP (plD ec n)=true):
  bU [dr h g (ec.map ay) b o,.lst [.str n,.str u,.str v]]=some (.bl true,[dr h g (ec.map ay++[ay (n,[.tup [.int x,.int y],.tup [],.int 0])]) b o]):=by
 have l6:¬(ec.length:Int)=6:=by lia
 have e:=BD (h:=h) (d:= .tup [.str n,.tup [.int x,.int y],.tup [],.int 0]) F rfl (by rw[Gax];unfold aj;lia);unfold bU dQ;rw[dN rfl]
 iterate 4 refine bj (by simp[JG,qa hn,hp,hN,hF,l6,F.g,F.s,F.b,F.o,e,ay,aj];rfl) ?_
 exact dT (by simp;rfl) rfl (by simp[F.g,F.s,F.b,F.o,ay])
theorem BI(F:Fl g (ec.map ay) b o)(hn:bA [.str n]=some (.bl true))(hN:aq [.lst [.str u,.str v],.lst [.int 1,.int 1]]=some (.lst [.int x,.int y]))(hl:ec.length=6\/aP (plD ec n)=false):
  bU [dr h g (ec.map ay) b o,.lst [.str n,.str u,.str v]]=some (.bl false,[dr h g (ec.map ay) b o]):=by
 unfold bU dQ;rw[dN rfl];by_cases l6:ec.length=6
 .refine bj (by simp[hN,aj];rfl) ?_;exact bq (by simp[l6];rfl) rfl F.k
 .have hp:=hl.resolve_left l6;have l6:¬(ec.length:Int)=6:=by lia
  refine bj (by simp[hN,aj];rfl) ?_;exact bq (by simp[qa hn,hp,l6];rfl) rfl F.k
end
theorem qb{g:DG}{t:DT}{f:DE}(C:DL.Env->Prop)(p:D->Bool)(r:D->D):∀(ds:List D) (e:DL.Env),C e->
  (∀d∈ds,∀e,C e->∃e',g d e=some e' /\C e' /\t e' =some (p d)/\(p d=true->∃k,f e' =some ⟨k,r d⟩/\RV.free ⟨k,r d⟩=true))->cV g t f ds e=some ((ds.filter p).map r)
 |[],e,_,_=>rfl
 |d::ds,e,h,st=>by
  obtain⟨e',h1,h2,h3,h4⟩:=st d GaA e h;have ih:=qb C p r ds e' h2 λd' hd=>st d' (Gat _ hd);cases q:p d with
  |false=>simp[cV,h1,h3,q,ih]
  |true=>
   obtain⟨k,h5,h6⟩:=h4 q;simp[cV,h1,h3,q,h5,h6,ih]
theorem nJ{α:Type}{g:DG}{t:DT}{f:DE}(emb:α->D)(C:DL.Env->Prop)(p:α->Bool)(r:α->D):∀(xs:List α) (e:DL.Env),C e->
  (∀x∈xs,∀e,C e->∃e',g (emb x) e=some e' /\C e' /\t e' =some (p x)/\(p x=true->∃k,f e' =some ⟨k,r x⟩/\RV.free ⟨k,r x⟩=true))->cV g t f (xs.map emb) e=some ((xs.filter p).map r)
 |[],e,_,_=>rfl
 |d::ds,e,h,st=>by
  obtain⟨e',h1,h2,h3,h4⟩:=st d GaA e h;have ih:=nJ emb C p r ds e' h2 λd' hd=>st d' (Gat _ hd);cases q:p d with
  |false=>simp[cV,h1,h3,q,ih]
  |true=>
   obtain⟨k,h5,h6⟩:=h4 q;simp[cV,h1,h3,q,h5,h6,ih]
theorem km{α:Type}{g:DG}{f:DE}(emb:α->D)(C:DL.Env->Prop)(r:α->D)(xs:List α)(e:DL.Env)(h:C e)
  (st:∀x∈xs,∀e,C e->∃e',g (emb x) e=some e' /\C e' /\∃k,f e' =some ⟨k,r x⟩/\RV.free ⟨k,r x⟩=true):cV g bD f (xs.map emb) e=some (xs.map r):=by
 have:=nJ (g:=g) (t:=bD) (f:=f) emb C (λ_=>true) r xs e h (λx hx e he=>by
  obtain⟨e',h1,h2,h3⟩:=st x hx e he;exact⟨e',h1,h2,rfl,λ_=>h3⟩)
 rw[List.filter_eq_self.mpr λ_ _=>rfl] at this;exact this
theorem vS(bs:List Bool):o8 (bs.map D.bl)=some bs:=by
 induction bs with
 |nil=>rfl
 |cons b bs ih=>simp[ih]
@[simp] theorem My(bs:List Bool):qQ [.lst (bs.map D.bl)]=some ⟨.c,.bl (bs.all id)⟩:=by
 simp[qQ,one,pv,vS]
variable{b c d:D}
theorem Mz{a x:D}(h:a7 [a,b,d,x]=true):aM [.tup [a,b,c,d],.int 2,x]=some (.tup [a,b,x,d]):=by
 simp at h;unfold aM cF;simp[cutD,sIx,aj,h]
theorem MA{a x:D}(h:a7 [a,b,c,x]=true):aM [.tup [a,b,c,d],.int 3,x]=some (.tup [a,b,c,x]):=by
 simp at h;unfold aM cF;simp[cutD,sIx,aj,h]
theorem MB{a e f x:D}(h:a7 [a,b,c,e,f,x]=true):aM [.tup [a,b,c,d,e,f],.int 3,x]=some (.tup [a,b,c,x,e,f]):=by
 simp at h;unfold aM cF;simp[cutD,sIx,aj,h]
theorem Gr{a e f x:D}(h:a7 [a,b,c,d,f,x]=true):aM [.tup [a,b,c,d,e,f],.int 4,x]=some (.tup [a,b,c,d,x,f]):=by
 simp at h;unfold aM cF;simp[cutD,sIx,aj,h]
theorem MC{a e f x:D}(h:a7 [a,b,c,d,e,x]=true):aM [.tup [a,b,c,d,e,f],.int 5,x]=some (.tup [a,b,c,d,e,x]):=by
 simp at h;unfold aM cF;simp[cutD,sIx,aj,h]
section
variable{h h' :Str}{g s b o ws c ns:List D}{ec:List Nm}{n u v k:Str}{x y a z:D}{m:Nat}{lows:List DL.Key}
theorem JJ(F:Fl g (s++[.tup [x,y,.tup c,a]]) b o)(hk:lkT dq (.inr k)=some lows)(hN:aq [.lst ws,.kt lows]=some (.lst ns))(hw:a7 ws=true)(y0:a7 ns=true)(nl:ns.length<100)(hl:c.length<4):
  cR [dr h g (s++[.tup [x,y,.tup c,a]]) b o,.lst (.str k::ws)]=some (.bl true,[dr h g (s++[.tup [x,y,.tup (c++[.tup (.str k::ns)]),a]]) b o]):=by
 have F' :=F.s;simp at F';have l6:¬(c.length:Int)=4:=by lia
 have e:=q9 (h:=h) (d:= .tup [x,y,.tup (c++[.tup (.str k::ns)]),a]) F (by simp[F',y0]);have w:=Mz (a:=x) (b:=y) (c:= .tup c) (d:=a) (x:= .tup (c++[.tup (.str k::ns)])) (by simp[F',y0]);have l1:1+ns.length<=16777216:=by lia
 have l2:c.length+1<=16777216:=by lia
 have l3:¬(ws.length:Int)+1=0:=by lia
 unfold cR gA;rw[dN (by simp[hw])]
 iterate 6 refine bj (by simp[hk,hN,l6,F.g,F.b,F.o,F',e,w,aj,l1,l2,l3,hw,y0];rfl) ?_
 exact dT (by simp;rfl) rfl (by simp[F.g,F.b,F.o,F',y0])
theorem JK(F:Fl g (s++[.tup [x,y,.tup c,a]]) b o)(hw:a7 ws=true)(hl:c.length=4):
  cR [dr h g (s++[.tup [x,y,.tup c,a]]) b o,.lst ws]=some (.bl false,[dr h g (s++[.tup [x,y,.tup c,a]]) b o]):=by
 have F' :=F.s;simp at F';unfold cR gA;rw[dN hw];refine bj (by simp;rfl) ?_;exact bq (by simp[hl];rfl) rfl F.k
theorem BJ(F:Fl g (s++[.tup [x,y,z,a]]) b o){i:Int}(hN:aq [.lst ws,.tup [.int 1]]=some (.lst [.int i]))(hw:a7 ws=true):
  d5 [dr h g (s++[.tup [x,y,z,a]]) b o,.lst ws]=some (.bl true,[dr h g (s++[.tup [x,y,z,.int i]]) b o]):=by
 have F' :=F.s;simp at F';have e:=q9 (h:=h) (d:= .tup [x,y,z,.int i]) F (by simp[F']);have w:=MA (a:=x) (b:=y) (c:=z) (d:=a) (x:= .int i) (by simp[F']);unfold d5 gB;rw[dN hw]
 iterate 3 refine bj (by simp[hN,F.g,F.b,F.o,F',e,w,aj,hw];rfl) ?_
 exact dT (by simp;rfl) rfl (by simp[F.g,F.b,F.o,F'])
end
abbrev Br:=Int×Int×Int
noncomputable def g5(p:Br):D:= .tup [.int p.1,.int p.2.1,.int p.2.2]
theorem ua(bl:List Br)(i j:Int):jH (.tup [.int i,.int j]) (.lst (bl.map λp=> .tup [.int p.1,.int p.2.1]))=some (bl.any λp=>p.1==i&&p.2.1==j):=by
 have h:(bl.map λp:Br=>D.tup [.int p.1,.int p.2.1]).all (aJ 10)=true:=by
  rw[List.all_map,Gau];intro p _
  rfl
 show(if(aJ 10 (.tup [.int i,.int j])&&_)=true then _ else none)=_;rw[h];simp[List.any_map];congr 1
 funext p
 simp
theorem mG(ec:List Nm)(n:Str):plD ec n= .non\/∃i,plD ec n= .int i:=by
 unfold plD;cases ec.findIdx? λp=>p.1==n with
 |none=>exact .inl rfl
 |some j=>exact .inr ⟨_,rfl⟩
theorem Gs(ec:List Nm)(n:Str):jr (plD ec n)=⟨.c,plD ec n⟩:=by
 rcases mG ec n with h| ⟨i,h⟩<;>rw[h]<;>rfl
theorem nK(bl:List Br)(e:DL.Env):cV (gN 0) bD (gW (a9 (ixE (vE 0) (kI 0)) (a9 (ixE (vE 0) (kI 1)) aD))) (bl.map g5) (none::e)=some (bl.map λp=> .tup [.int p.1,.int p.2.1]):=
 km (emb:=g5) (C:=λe=>∃x z,e=x::z) (λp=> .tup [.int p.1,.int p.2.1]) bl _ ⟨_,_,rfl⟩ λp _ e he=>by
  obtain⟨x,z,rfl⟩:=he;exact⟨sh (g5 p)::z,rfl,⟨_,_,rfl⟩,.c,by simp[g5,aj],rfl⟩
section
variable{h:Str}{g o:List D}{ec:List Nm}{bl:List Br}{u v w:Str}{i j k:Int}
theorem JL(F:Fl g (ec.map ay) (bl.map g5) o)(hN:aq [.lst [.str w],.tup [.int 1]]=some (.lst [.int k]))(hu:plD ec u= .int i)(hv:plD ec v= .int j)(RN:i<=j)(hl:bl.length<12)(hx:(bl.any λp=>p.1==i&&p.2.1==j)=false):
  cS [dr h g (ec.map ay) (bl.map g5) o,.lst [.str u,.str v,.str w]]=some (.bl true,[dr h g (ec.map ay) ((bl++[(i,j,k)]).map g5) o]):=by
 have l6:¬(bl.length:Int)=12:=by lia
 have l7:bl.length<=16777216:=by lia
 have e:=JE (h:=h) (d:=g5 (i,j,k)) F rfl (by rw[Gax];unfold aj;lia);have c:=nK bl;have q:=ua bl i j;rw[hx] at q;have Q2 :¬j<i:=by lia
 unfold cS gC;rw[dN rfl];have e:fY 100 "bars" (l5 (.tup [.int i,.int j,.int k])) (dr h g (ec.map ay) (bl.map g5) o)=some (dr h g (ec.map ay) (bl.map g5++[g5 (i,j,k)]) o):=e
 iterate 7 refine bj (by simp[hN,l6,BG,hu,hv,Q2,c,q,F.g,F.s,F.b,F.o,l7,aj,DL.compEnv,e];rfl) ?_
 rw[GaV];exact dT (by simp;rfl) rfl (by simp[F.g,F.s,F.b,F.o,g5])
theorem BK(F:Fl g (ec.map ay) (bl.map g5) o){N:D}(hN:aq [.lst [.str w],.tup [.int 1]]=some N)(hc:bl.length=12\/aP N=true\/aP (plD ec u)=true\/aP (plD ec v)=true\/∃i j,plD ec u= .int i/\plD ec v= .int j/\(j<i\/(bl.any λp=>p.1==i&&p.2.1==j)=true))(zV:N= .non\/∃k,N= .lst [.int k])(hl:bl.length<=12):
  cS [dr h g (ec.map ay) (bl.map g5) o,.lst [.str u,.str v,.str w]]=some (.bl false,[dr h g (ec.map ay) (bl.map g5) o]):=by
 have c:=nK bl;unfold cS gC;rw[dN rfl];by_cases l6:bl.length=12
 .rcases zV with rfl| ⟨k,rfl⟩<;>refine bj (by simp[hN,aj];rfl) ?_<;>exact bq (by simp[l6];rfl) rfl F.k
 .have hc:=hc.resolve_left l6;have l6:¬(bl.length:Int)=12:=by lia
  rcases zV with rfl| ⟨k,rfl⟩<;>refine bj (by simp[hN,aj];rfl) ?_
  .exact bq (by simp[l6];rfl) rfl F.k
  .iterate 3 refine bj (by simp[l6,BG,Gs];rfl) ?_
   rcases mG ec u with hu| ⟨i,hu⟩
   .exact bq (by simp[hu];rfl) rfl F.k
   .rcases mG ec v with hv| ⟨j,hv⟩<;>simp only[hu,hv] at hc⊢
    .exact bq (by simp;rfl) rfl F.k
    .have hc:j<i\/(bl.any λp=>p.1==i&&p.2.1==j)=true:=by simpa using hc
     by_cases hji:j<i
     .exact bq (by simp[hji];rfl) rfl F.k
     .have q:=ua bl i j;rw[hc.resolve_left hji] at q;have hl:bl.length<=16777216:=by lia
      refine bj (by simp[hji];rfl) ?_;exact bq (by simp[c,q,hl,aj,DL.compEnv];rfl) rfl F.k
end
section
variable{h:Str}{g s b o ws ns tp:List D}{gs ec os:List Nm}{n u v w:Str}{i j k:Int}{x y z a c r t N:D}
theorem BL(F:Fl (gs.map ay) (ec.map ay) b (os.map ay))(hn:bA [.str n]=some (.bl true))(hp:aP (plD os n)=true)(hl:os.length<12)(hu:plD gs u= .int i)(hv:plD ec v= .int j):
  bV [dr h (gs.map ay) (ec.map ay) b (os.map ay),.lst [.str n,.str u,.str v]]=some (.bl true,[dr h (gs.map ay) (ec.map ay) b (os.map ay++[.tup [.str n,.int i,.int j,.tup [],.tup [],.tup []]])]):=by
 have l6:¬(os.length:Int)=12:=by lia
 have e:=BE (h:=h) (d:= .tup [.str n,.int i,.int j,.tup [],.tup [],.tup []]) F rfl (by rw[Gax];unfold aj;lia);unfold bV dR;rw[dN rfl]
 iterate 5 refine bj (by simp[qa hn,hp,l6,BG,hu,hv,F.g,F.s,F.b,F.o,e,aj];rfl) ?_
 exact dT (by simp;rfl) rfl (by simp[F.g,F.s,F.b,F.o])
theorem BM(F:Fl (gs.map ay) (ec.map ay) b (os.map ay)){q:Bool}(hn:bA [.str n]=some (.bl q))(hc:os.length=12\/q=false\/aP (plD os n)=false\/aP (plD gs u)=true\/aP (plD ec v)=true):
  bV [dr h (gs.map ay) (ec.map ay) b (os.map ay),.lst [.str n,.str u,.str v]]=some (.bl false,[dr h (gs.map ay) (ec.map ay) b (os.map ay)]):=by
 unfold bV dR;rw[dN rfl];by_cases l6:os.length=12
 .exact bq (by simp[l6];rfl) rfl F.k
 .have hc:=hc.resolve_left l6;have l6:¬(os.length:Int)=12:=by lia
  cases q with
  |false=>exact bq (by simp[l6,JI hn];rfl) rfl F.k
  |true=>
   have hc:=hc.resolve_left (by simp);cases hp:aP (plD os n) with
   |false=>exact bq (by simp[l6,qa hn,hp];rfl) rfl F.k
   |true=>
    have hc:=hc.resolve_left (by simp[hp])
    iterate 3 refine bj (by simp[l6,qa hn,hp,BG,Gs];rfl) ?_
    rcases mG gs u with hu| ⟨i,hu⟩
    .exact bq (by simp[hu];rfl) rfl F.k
    .rcases mG ec v with hv| ⟨j,hv⟩
     .exact bq (by simp[hu,hv];rfl) rfl F.k
     .simp[hu,hv] at hc
theorem ub(F:Fl g (.tup (x:: .tup (.int 2::ns)::tp)::s) b (o++[.tup [y,z,.int 0,r,a,t]]))(hN:aq [.lst ws,.tup [.int 1,.int 0,.int 2]]=some (.lst [.int i,.int j,.int k]))(hw:a7 ws=true)(hk:k<=4000):
  cG [dr h g (.tup (x:: .tup (.int 2::ns)::tp)::s) b (o++[.tup [y,z,.int 0,r,a,t]]),.lst (.str "up"::ws)]=some (.bl true,[dr h g (.tup (x:: .tup (.int 2::ns)::tp)::s) b (o++[.tup [y,z,.int 0,.tup [.str "up",.int i,.int j,.int k],a,t]])]):=by
 have F' :=F.o;simp at F';have F2:=F.s;simp at F2;have e:=jQ (h:=h) (d:= .tup [y,z,.int 0,.tup [.str "up",.int i,.int j,.int k],a,t]) F (by simp[F']);have q:=MB (a:=y) (b:=z) (c:= .int 0) (d:=r) (e:=a) (f:=t) (x:= .tup [.str "up",.int i,.int j,.int k]) (by simp[F']);have l:¬4000<k:=by lia
 have m:g8 2000 2=true:=rfl;unfold cG fR;rw[dN (by simp[hw])]
 iterate 5 refine bj (by simp[hN,F.g,F.b,F',F2,e,q,l,m,hw,aj,gO,jH,kD];rfl) ?_
 exact dT (by simp;rfl) rfl (by simp[F.g,F.b,F',F2])
theorem F7(F:Fl g (.tup (x:: .tup (.int 2::ns)::tp)::s) b (o++[.tup [y,z,.int 0,r,a,t]]))(hN:aq [.lst ws,.tup [.int 1,.int 0,.int 2]]=some N)(hw:a7 ws=true)(hk:N= .non\/∃i j k,N= .lst [.int i,.int j,.int k]/\4000<k):
  cG [dr h g (.tup (x:: .tup (.int 2::ns)::tp)::s) b (o++[.tup [y,z,.int 0,r,a,t]]),.lst (.str "up"::ws)]=some (.bl false,[dr h g (.tup (x:: .tup (.int 2::ns)::tp)::s) b (o++[.tup [y,z,.int 0,r,a,t]])]):=by
 have F' :=F.o;simp at F';have F2:=F.s;simp at F2;have m:g8 2000 2=true:=rfl;unfold cG fR;rw[dN (by simp[hw])];rcases hk with rfl| ⟨i,j,k,rfl,l⟩
 all_goals iterate 3 refine bj (by simp[hN,aj];rfl) ?_
 .exact bq (by simp;rfl) rfl F.k
 .exact bq (by simp[l,m,gO,jH,kD];rfl) rfl F.k
theorem BN(F:Fl g s b (o++[.tup [x,y,z,r,a,t]]))(hN:aq [.lst ws,.tup [.int 0]]=some (.lst [.int i]))(hw:a7 ws=true):
  d6 [dr h g s b (o++[.tup [x,y,z,r,a,t]]),.lst ws]=some (.bl true,[dr h g s b (o++[.tup [x,y,z,r,.tup [.str "asked",.int i],t]])]):=by
 have F' :=F.o;simp at F';have e:=jQ (h:=h) (d:= .tup [x,y,z,r,.tup [.str "asked",.int i],t]) F (by simp[F']);have q:=Gr (a:=x) (b:=y) (c:=z) (d:=r) (e:=a) (f:=t) (x:= .tup [.str "asked",.int i]) (by simp[F']);unfold d6 gD;rw[dN hw]
 iterate 3 refine bj (by simp[hN,F.g,F.s,F.b,F',e,q,hw,aj];rfl) ?_
 exact dT (by simp;rfl) rfl (by simp[F.g,F.s,F.b,F'])
variable{i1 i2 i3 i4 i5:Int}
theorem BO(F:Fl g s b (o++[.tup [x,y,z,r,a,t]]))(hN:aq [.lst ws,.tup [.int 0,.int 1,.int 1,.int 0,.int 0]]=some (.lst [.int i1,.int i2,.int i3,.int i4,.int i5]))(hw:a7 ws=true)(hc:¬60<i3/\¬i2<=i4+i5/\¬i1<i4):
  cT [dr h g s b (o++[.tup [x,y,z,r,a,t]]),.lst ws]=some (.bl true,[dr h g s b (o++[.tup [x,y,z,r,.tup [.str "due",.int i1,.int i2,.int i3,.int i4,.int i5],t]])]):=by
 have F' :=F.o;simp at F';have e:=jQ (h:=h) (d:= .tup [x,y,z,r,.tup [.str "due",.int i1,.int i2,.int i3,.int i4,.int i5],t]) F (by simp[F']);have q:=Gr (a:=x) (b:=y) (c:=z) (d:=r) (e:=a) (f:=t) (x:= .tup [.str "due",.int i1,.int i2,.int i3,.int i4,.int i5]) (by simp[F']);unfold cT gF;rw[dN hw];simp only[Int.not_lt,Int.not_le] at hc;have c1:¬60<i3:=by lia
 have c2:¬i2<=i4+i5:=by lia
 have c3:¬i1<i4:=by lia
 iterate 6 refine bj (by simp[hN,F.g,F.s,F.b,F',e,q,hw,c1,c2,c3,aj];rfl) ?_
 exact dT (by simp;rfl) rfl (by simp[F.g,F.s,F.b,F'])
theorem JM(F:Fl g s b (o++[.tup [x,y,z,r,a,t]]))(hN:aq [.lst ws,.tup [.int 0,.int 1,.int 1,.int 0,.int 0]]=some (.lst [.int i1,.int i2,.int i3,.int i4,.int i5]))(hw:a7 ws=true)(c1:¬60<i3)(hc:i2<=i4+i5\/i1<i4):
  cT [dr h g s b (o++[.tup [x,y,z,r,a,t]]),.lst ws]=some (.bl false,[dr h g s b (o++[.tup [x,y,z,r,a,t]])]):=by
 have F' :=F.o;simp at F';unfold cT gF;rw[dN hw]
 iterate 4 refine bj (by simp[hN,aj];rfl) ?_
 by_cases c2:i2<=i4+i5
 .exact bq (by simp[c1,c2];rfl) rfl F.k
 .exact bq (by simp[c1,c2,hc.resolve_left c2];rfl) rfl F.k
end
noncomputable def cX(m:Nat):List D:=(List.range m).map λ(k:Nat)=> .tup [.int ((k:Int)+1),.int 1,.int 2]
theorem uc(m:Nat):cX (m+1)=cX m++[.tup [.int ((m:Int)+1),.int 1,.int 2]]:=by simp[cX,GaU]
theorem kR(m:Nat):(cX m).length=m:=by simp[cX]
theorem kT(m:Nat):a7 (cX m)=true:=by
 induction m with
 |zero=>rfl
 |succ m ih=>rw[uc,fS,ih];rfl
theorem MD(d:D):jr d=⟨.tn,d⟩\/jr d=⟨.c,d⟩:=by
 unfold jr;cases d.top<;>simp
section
variable{h:Str}{g s b o ws al:List D}{x y z r a1 a2 a3 N:D}{m:Nat}{i j k:Int}
theorem qe(m:Nat){x0 x1 x2:Os}{e:DL.Env}:ifE (af gtB (bw cM (a9 (vE 3) aD)) (kI 0)) (opE ai (ixE (ixE (vE 3) (unE iS (kI 1))) (kI 0)) (kI 1)) (kI 1) (x0::x1::x2::sh (.tup (cX m))::e)=some ⟨.c,.int ((m:Int)+1)⟩:=by
 cases m with
 |zero=>simp[cX]
 |succ m=>
  have:(0:Int)<(m:Int)+1:=by lia
  rw[uc];simp[kR,this]
theorem BP(F:Fl g s b (o++[.tup [x,y,z,r,.tup (a1::a2::a3:: .int 8::al),.tup (cX m)]]))(hN:aq [.lst ws,.tup [.int ((m:Int)+1),.int 1,.int 1]]=some (.lst [.int ((m:Int)+1),.int 1,.int 2]))(hw:a7 ws=true)(hm:m<6):
  bX [dr h g s b (o++[.tup [x,y,z,r,.tup (a1::a2::a3:: .int 8::al),.tup (cX m)]]),.lst ws]=some (.bl true,[dr h g s b (o++[.tup [x,y,z,r,.tup (a1::a2::a3:: .int 8::al),.tup (cX (m+1))]])]):=by
 have F' :=F.o;simp at F';have e:=jQ (h:=h) (d:= .tup [x,y,z,r,.tup (a1::a2::a3:: .int 8::al),.tup (cX (m+1))]) F (by simp[F',kT]);have q:=MC (a:=x) (b:=y) (c:=z) (d:=r) (e:= .tup (a1::a2::a3:: .int 8::al)) (f:= .tup (cX m)) (x:= .tup (cX (m+1))) (by simp[F',kT]);have c1:¬(m:Int)=6:=by lia
 have c2:¬8<=(m:Int)+1:=by lia
 have L:=qe m (x0:=some (.lok (dr h g s b (o++[.tup [x,y,z,r,.tup (a1::a2::a3:: .int 8::al),.tup (cX m)]])))) (x1:=some (.bor (.lst ws))) (x2:=sh (.tup [x,y,z,r,.tup (a1::a2::a3:: .int 8::al),.tup (cX m)])) (e:=[none,none,none]);have l2:m+1<=16777216:=by lia
 unfold bX dS;rw[dN hw];simp only[uc] at q e
 iterate 8 refine bj (by simp[L,kR,hN,F.g,F.s,F.b,F',e,q,hw,c1,c2,aj,kT,l2,-ifE];rfl) ?_
 rw[uc];exact dT (by simp;rfl) rfl (by simp[F.g,F.s,F.b,F',kT])
theorem BQ(F:Fl g s b (o++[.tup [x,y,z,r,.tup (a1::a2::a3:: .int 8::al),.tup (cX m)]]))(hN:aq [.lst ws,.tup [.int ((m:Int)+1),.int 1,.int 1]]=some N)(hw:a7 ws=true)(hm:m=6\/N= .non\/∃i j k,N= .lst [.int i,.int j,.int k]/\(8<=i\/k<j)):
  bX [dr h g s b (o++[.tup [x,y,z,r,.tup (a1::a2::a3:: .int 8::al),.tup (cX m)]]),.lst ws]=some (.bl false,[dr h g s b (o++[.tup [x,y,z,r,.tup (a1::a2::a3:: .int 8::al),.tup (cX m)]])]):=by
 have F' :=F.o;simp at F';have L:=qe m (x0:=some (.lok (dr h g s b (o++[.tup [x,y,z,r,.tup (a1::a2::a3:: .int 8::al),.tup (cX m)]])))) (x1:=some (.bor (.lst ws))) (x2:=sh (.tup [x,y,z,r,.tup (a1::a2::a3:: .int 8::al),.tup (cX m)])) (e:=[none,none,none]);unfold bX dS;rw[dN hw];by_cases c:m=6
 .have c1:(m:Int)=6:=by lia
  have hN:aq [.lst ws,.tup [.int 7,.int 1,.int 1]]=some N:=by rw[<-hN,c1];rfl
  rcases MD N with hr|hr<;>iterate 4 refine bj (by simp[L,kR,hN,hr,c1,aj,-ifE];rfl) ?_
  all_goals exact bq (by simp[kR,c1];rfl) rfl F.k
 .have c1:¬(m:Int)=6:=by lia
  rcases hm.resolve_left c with rfl| ⟨i,j,k,rfl,hk⟩<;>iterate 4 refine bj (by simp[L,kR,hN,aj,-ifE];rfl) ?_
  .exact bq (by simp[kR,c1];rfl) rfl F.k
  .iterate 2 refine bj (by simp[kR,c1];rfl) ?_
   by_cases c2:8<=i
   .exact bq (by simp[c2];rfl) rfl F.k
   .exact bq (by simp[c2,hk.resolve_left c2];rfl) rfl F.k
end
def nxt(h k:Str):Bool:=match lkT fi (.inr h) with
 |some ks=>(ks.map kD).any λy=>eqD y (.str k)
 |none=>false
def known(h:Str):Bool:=(lkT fi (.inr h)).isSome
section
variable{h k line:Str}{g s b o:List D}{ws:List Str}{d' :D}{q:Bool}
variable{d:D}{m:Nat}
theorem Gu{f:DW}:cW (m+2) 2 [0] f [d,.str line]=(f (some (.lok d)::sh (.str line)::List.replicate m none)).bind (kc [0]):=by
 simp[cW,DL.argsOk,GaU,bt,jF,D.top,D.aQ]
theorem dE(ws:List Str):a7 (ws.map D.str)=true:=by
 induction ws with
 |nil=>rfl
 |cons x ws ih=>simpa using ih
theorem BR{ks:List DL.Key}:gO (.str k) (.kt ks)=some (!((ks.map kD).any λy=>eqD y (.str k))):=rfl
theorem qf(hs:Txt.split line " "=k::ws)(hl:line.length<1000):kg (.str line) (.str " ")=some ⟨.tn,.lst (.str k::ws.map D.str)⟩:=by
 show(if _ then _ else none)=_;rw[Gak ⟨rfl,by unfold aj;lia⟩,hs]
 rfl
theorem fU(F:Fl g s b o)(hs:Txt.split line " "=k::ws)(hl:line.length<1000)(hk:known h=true)(hn:nxt h k=false):fm [dr h g s b o,.str line]=some (.bl false,[dr h g s b o]):=by
 unfold known at hk;unfold nxt at hn;cases q:lkT fi (.inr h) with
 |none=>rw[q] at hk;cases hk
 |some ks=>
  rw[q] at hn;have m:=BR (k:=k) (ks:=ks);simp only at hn;rw[hn] at m;unfold fm oM;rw[Gu];simp[qf hs hl,q,m,F.g,F.s,F.b,F.o]
def ME(k:Str):Option (SpX):=
 if k="guest" then some gz else if k="stuff" then some bU else if k="cap" then some cR else if k="young" then some d5 else if k="bar" then some cS else if k="order" then some bV else if k="dose" then some cG else if k="asked" then some d6 else if k="due" then some cT else if k="taper" then some bX else none
theorem MF{f:DW}:cW (m+3) 3 [0] f [d,.str k,.lst (ws.map D.str)]=(f (some (.lok d)::sh (.str k)::some (.bor (.lst (ws.map D.str)))::List.replicate m none)).bind (kc [0]):=by
 simp[cW,DL.argsOk,GaU,bt,jF,D.top,D.aQ,dE]
theorem ir{v w:DW}{e e' :DL.Env}(h:v e=some (.nx e')):ag v w e=w e' :=by simp[h]
variable{j:Nat}
theorem dU{c:Str}{m:DXW}{w:DW}{e:DL.Env}(h:e[j]? =some (sh (.str k))):ag (oIf (af eqB (vE j) (kS c)) aX (oN (ip m))) w e=if k=c then(m e).map λr=> .ret r.1 r.2 else w e:=by
 by_cases q:k=c
 .rw[Gak q];simp[h,q,ip];cases m e<;>rfl
 .rw[Gam q];simp[h,q]
variable{sp:SpX}
theorem Gv{e:DL.Env}(F:Fl g s b o)(h0:e[0]? =some (some (.lok (dr k g s b o))))(hj:iH j e=some (.lst (ws.map D.str)))(hn:j≠0)(hf:flF [0] 0 e=true)(hr:sp [dr k g s b o,.lst (ws.map D.str)]=some (.bl q,[d'])):bx sp [AW.lent 0,AW.name j] e=some (.bl q,e.set 0 (some (.lok d'))):=by
 have fk:=F.k (h:=k);simp[bx,bf,gf,ij,oz,dG,j3,Slot.put,dE,hf,h0,hj,hn,fk,hr,-BC]
theorem JN{e:DL.Env}(fd:flK d' =true)(h:0<e.length):(Option.map (λr:D×DL.Env=>ie.ret r.1 r.2) (some (d,e.set 0 (some (.lok d'))))).bind (kc [0])=some (d,[d']):=by
 simp[dB,fd,h]
theorem d7(F:Fl g s b o)(hs:Txt.split line " "=k::ws)(hl:line.length<1000)(hn:nxt h k=true)(hd:ME k=some sp)(hr:sp [dr k g s b o,.lst (ws.map D.str)]=some (.bl q,[d']))(fd:flK d' =true):fm [dr h g s b o,.str line]=some (.bl q,[d']):=by
 unfold nxt at hn;cases z:lkT fi (.inr h) with
 |none=>rw[z] at hn;cases hn
 |some ks=>
  rw[z] at hn;have m:=BR (k:=k) (ks:=ks);simp only at hn;rw[hn] at m;have w:=dE ws;have u:=qf hs hl;have fo:flF [0] 0 [some (.lok (dr k g s b o)),sh (.str line),oL (.str k::ws.map D.str),sh (.str k),oL (ws.map D.str)]=true:=by simp[w]
  have c4:=λ{sp} hr=>Gv (e:=[some (.lok (dr k g s b o)),sh (.str line),oL (.str k::ws.map D.str),sh (.str k),oL (ws.map D.str)]) (j:=4) (sp:=sp) (q:=q) (d' :=d') F rfl rfl (by decide) fo hr;have fp:flF [0] 0 [some (.lok (dr k g s b o)),sh (.str k),some (.bor (.lst (ws.map D.str)))]=true:=by simp[w]
  have c2:=λ{sp} hr=>Gv (e:=[some (.lok (dr k g s b o)),sh (.str k),some (.bor (.lst (ws.map D.str)))]) (j:=2) (sp:=sp) (q:=q) (d' :=d') F rfl rfl (by decide) fp hr;unfold fm oM;rw[Gu,ir (e' :=[some (.lok (dr h g s b o)),sh (.str line),oL (.str k::ws.map D.str),none,none]) (by simp[u]),ir (e' :=[some (.lok (dr h g s b o)),sh (.str line),oL (.str k::ws.map D.str),sh (.str k),none]) (by simp),ir (e' :=[some (.lok (dr h g s b o)),sh (.str line),oL (.str k::ws.map D.str),sh (.str k),none]) (by simp[z,m]),ir (e' :=[some (.lok (dr k g s b o)),sh (.str line),oL (.str k::ws.map D.str),sh (.str k),none]) (by simp[JF F,w]),ir (e' :=[some (.lok (dr k g s b o)),sh (.str line),oL (.str k::ws.map D.str),sh (.str k),oL (ws.map D.str)]) (by simp),dU rfl,dU rfl,dU rfl,dU rfl,dU rfl];unfold ME at hd
  iterate 5
   split at hd
   (rename_i e;cases hd;rw[Gak e,c4 hr];exact JN fd (by simp))
   rename_i e;rw[Gam e]
  have of:cO [dr k g s b o,.str k,.lst (ws.map D.str)]=some (.bl q,[d']):=by
   unfold cO dI;rw[MF,show some (Slot.lok (dr k g s b o))::sh (.str k)::some (.bor (.lst (ws.map D.str)))::List.replicate 0 none=[some (.lok (dr k g s b o)),sh (.str k),some (.bor (.lst (ws.map D.str)))] from rfl,dU rfl,dU rfl,dU rfl,dU rfl]
   iterate 4
    split at hd
    (rename_i e;cases hd;rw[Gak e,c2 hr];exact JN fd (by simp))
    rename_i e;rw[Gam e]
   split at hd
   .cases hd;simp only[oN,bN,ip,c2 hr];exact JN fd (by simp)
   .cases hd
  have fk:=F.k (h:=k);simp[ip,bx,bf,gf,ij,oz,dG,iH,j3,Slot.put,w,fk,of,fd,-BC]
end
def d0:D:=dr "" [] [] [] []
def Tk(d:D)(l:Str)(d' :D):Prop:=fm [d,.str l]=some (.bl true,[d'])/\flK d' =true
def Bd(d:D)(l:Str):Prop:=∃d',fm [d,.str l]=some (.bl false,[d'])/\flK d' =true
inductive Goes:D->List D->D->Prop
 |nil (d:D):Goes d [] d
 |cons {d d1 d2:D} {l:Str} {ls:List D}:Tk d l d1->Goes d1 ls d2->Goes d (.str l::ls) d2
variable{ls:List D}{l:Str}{d1 d2:D}
theorem Goes.sn(G:Goes d ls d1)(t:Tk d1 l d2):Goes d (ls++[.str l]) d2:=by
 induction G with
 |nil d=>exact .cons t (.nil _)
 |cons t' _ ih=>exact .cons t' (ih t)
def iP:DW:=orW (a8 aX) (ifC (B3 (vH (bx fm [AW.lent 1,AW.val (vE 3)]))) (orW (a8 aX) (rzW 44 "place" (vE 2))) (a8 az))
noncomputable def rE(ls:List D)(d:D)(x y:Os):DL.Env:=[some (.bor (.lst ls)),some (.lok d),x,y]
variable{q:Bool}
theorem BU{d' :D}{n:Nat}(hi:a7 ls=true)(fd:flK d=true)(ht:fm [d,.str l]=some (.bl q,[d'])):
  iP (rE ls d (sh (.int (n:Nat))) (sh (.str l)))=some (if q then .nx (rE ls d' (sh (.int (n:Nat))) (sh (.str l))) else .ex 44 "place" (.int (n:Nat))):=by
 unfold iP rE;cases q<;>simp[ifC,B3,vH,bx,bf,gf,ij,oz,dG,j3,Slot.put,hi,fd,ht,rzW]
variable{x y:Os}
theorem BV{all:List D}{m n:Nat}(g:all[n]? =some (.str l)):fM 2 3 0 iP (m+1) n (rE all d x y)=(iP (rE all d (sh (.int (n:Nat))) (sh (.str l)))).bind λo=>match o with
  | .nx e=>fM 2 3 0 iP m (n+1) e
  | .ct e=>fM 2 3 0 iP m (n+1) e
  | .bk e=>some (.nx e)
  |o=>some o:=by
 rw[fM,show rf 0 (rE all d x y)=some all from rfl,Option.bind_some,g]
 rfl
theorem BW{all:List D}(hi:a7 all=true)(G:Goes d ls d2):∀(pre rest:List D) (x y:Os),all=pre++(ls++rest)->flK d=true->flK d2=true/\∃x' y',fM 2 3 0 iP ((ls++rest).length+1) pre.length (rE all d x y)=fM 2 3 0 iP (rest.length+1) (pre++ls).length (rE all d2 x' y'):=by
 induction G with
 |nil d=>intro pre rest x y e fd;exact⟨fd,x,y,by simp⟩
 | @cons d d1 d2 l ls t G ih=>
  intro pre rest x y e fd;obtain⟨f2,x',y',h⟩:=ih (pre++[.str l]) rest (sh (.int (pre.length:Nat))) (sh (.str l)) (by simp[e]) t.2;refine⟨f2,x',y', ?_⟩;have g:all[pre.length]? =some (.str l):=by rw[e];simp
  rw[show(.str l::ls++rest).length+1=((ls++rest).length+1)+1 from rfl,BV g,BU hi fd t.1];simp only[Option.bind_some,Gck];rw[show pre.length+1=(pre++[D.str l]).length by simp,h];congr 1;simp
def BX:DW:=ag (orW (a8 (ifS (af (orB jH ou) (cj 100 "head" (vE 1)) (kE (.kt [Sum.inr "order",Sum.inr "dose"]))) aX az)) (ifW (af (orB jH ou) (cj 100 "head" (vE 1)) (kE (.kt [Sum.inr "order",Sum.inr "dose"]))) (orW (a8 aX) (rzW 44 "place" (bw cM (a9 (vE 0) aD)))) (a8 az))) (orW (a8 (retS (gW (a9 (bw bF (a9 (cj 100 "guests" (vE 1)) aD)) (a9 (bw bF (a9 (cj 100 "stuffs" (vE 1)) aD)) (a9 (bw bF (a9 (cj 100 "bars" (vE 1)) aD)) (a9 (bw bF (a9 (cj 100 "orders" (vE 1)) aD)) aD))))))) (kZ (gW (a9 (bw bF (a9 (cj 100 "guests" (vE 1)) aD)) (a9 (bw bF (a9 (cj 100 "stuffs" (vE 1)) aD)) (a9 (bw bF (a9 (cj 100 "bars" (vE 1)) aD)) (a9 (bw bF (a9 (cj 100 "orders" (vE 1)) aD)) aD)))))))
theorem nL(hi:a7 ls=true)(hl:ls≠[]):fZ [.lst ls]=(ag (λ_=>fM 2 3 0 iP (ls.length+1) 0 (rE ls d0 none none)) BX []).bind IT:=by
 have m:lB [.obj 100 [] []]=some (.non,[d0]):=by kernel_rfl
 have e:(a8 (dY (some 0) (nB (vE 0)) (gT [2,3]) aX)) (rE ls d0 none none)=none:=by
  cases ls with
  |nil=>exact absurd rfl hl
  |cons l ls=>simp[rE]
 unfold fZ B6;rw[Gak ⟨rfl,by simp[DL.argsOk,hi]⟩,show rC=ag (orW (a8 aX) (mkO 1 100 lB)) (ag (orW (a8 (dY (some 0) (nB (vE 0)) (gT [2,3]) aX)) (tF 2 3 0 iP)) BX) from rfl,show bt [] 4 [.lst ls]=[some (.bor (.lst ls)),none,none,none] from rfl,ag,bN,show a8 aX [some (.bor (.lst ls)),none,none,none]=none from rfl];simp only;rw[mkO,m];simp only[Option.bind_some];rw[show([some (.bor (.lst ls)),none,none,none]:DL.Env).set 1 (some (.lok d0))=rE ls d0 none none from rfl,ag,bN,e]
 rfl
theorem BY{pre rest:List D}(G:Goes d0 pre d)(hb:Bd d l)(hi:a7 (pre++ .str l::rest)=true):fZ [.lst (pre++ .str l::rest)]=some (.exc 44 "place" (.int (pre.length:Nat))):=by
 obtain⟨d',hb,RO⟩:=hb;obtain⟨fd,x',y',h⟩:=BW hi G [] (.str l::rest) none none (by simp) rfl;rw[nL hi (by simp)];simp only[List.nil_append,List.length_nil] at h;rw[ag,h,show(D.str l::rest).length+1=(rest.length+1)+1 from rfl,BV (l:=l) (by simp),BU hi fd hb]
 rfl
theorem F8{s b:List D}(G:Goes d0 ls (dr h g s b o))(hi:a7 ls=true)(hl:ls≠[])(hh:((([Sum.inr "order",Sum.inr "dose"]:List DL.Key).map kD).any λy=>eqD y (.str h))=false):fZ [.lst ls]=some (.ok (.tup [.tup g,.tup s,.tup b,.tup o])):=by
 obtain⟨fd,x',y',e⟩:=BW hi G [] [] none none (by simp) rfl;simp only[List.nil_append,List.length_nil,Gba] at e;have hh:jH (.str h) (.kt [Sum.inr "order",Sum.inr "dose"])=some false:=by rw[<-hh];rfl
 rw[nL hi hl,ag,e,fM,show rf 0 (rE ls (dr h g s b o) x' y')=some ls from rfl,Option.bind_some,GaS (by simp)];simp at fd;simp[rE,BX,hh,fd,aj,IT]
def BZ(ls bs:List D):Prop:=∃pre l rest d,ls=pre++ .str l::rest/\Goes d0 pre d/\Bd d l/\bs.head? =some (.int (pre.length:Nat))
structure Ok(n:Nat)(P:D->Prop)(ls bs:List D):Prop where
 il:a7 ls=true
 ib:a7 bs=true
 nl:ls.length<=n
 nb:bs.length<=n
 st:BZ ls bs\/(bs=[]/\∃d,P d/\Goes d0 ls d)
theorem BZ.ap{bs:List D}(h:BZ ls bs)(xs ys:List D):BZ (ls++xs) (bs++ys):=by
 obtain⟨pre,l,rest,d,rfl,G,B,e⟩:=h;exact⟨pre,l,rest++xs,d,by simp,G,B,by cases bs<;>simp_all⟩
def Rel(P Q:D->Prop)(ec ob:List D):Prop:=(ob=[]/\∀d,P d->∃d',Q d' /\Goes d ec d')\/∃pre l rest,ec=pre++ .str l::rest/\ob.head? =some (.int (pre.length:Nat))/\∀d,P d->∃d',Goes d pre d' /\Bd d' l
variable{xs:List D}
theorem Goes.ap{ys:List D}(G:Goes d xs d1)(G2:Goes d1 ys d2):Goes d (xs++ys) d2:=by
 induction G with
 |nil d=>exact G2
 |cons t _ ih=>exact .cons t (ih G2)
noncomputable def dJ(n:Nat):D->D
 | .int i=> .int ((n:Int)+i)
 |d=>d
section
variable{n m:Nat}{P Q R:D->Prop}{ls bs ec ob xs ys:List D}{l:Str}
theorem Ok.mn(O:Ok n P ls bs)(h:n<=m)(i:∀d,P d->Q d):Ok m Q ls bs:=⟨O.il,O.ib,GaE O.nl h,GaE O.nb h,O.st.imp_right λ⟨e,d,p,G⟩=> ⟨e,d,i d p,G⟩⟩
theorem Ok.ext(O:Ok n P ls bs)(r:Rel P Q ec ob)(i1:a7 ec=true)(i2:a7 (ob.map (dJ ls.length))=true)(h1:n+ec.length<=m)(h2:n+ob.length<=m):Ok m Q (ls++ec) (bs++ob.map (dJ ls.length)):=by
 have nl:=O.nl;have nb:=O.nb;refine⟨by simp[O.il,i1],by simp[O.ib,i2],by simp;lia,by simp;lia, ?_⟩;rcases O.st with h| ⟨rfl,d,p,G⟩
 .exact .inl (h.ap _ _)
 .rcases r with⟨rfl,h⟩| ⟨pre,l,rest,rfl,e,h⟩
  .obtain⟨d',q,G'⟩:=h d p;exact .inr ⟨rfl,d',q,G.ap G'⟩
  .obtain⟨d',G',B⟩:=h d p;refine .inl ⟨ls++pre,l,rest,d',by simp,G.ap G',B, ?_⟩;cases ob with
   |nil=>cases e
   |cons o ob=>simp at e;subst e;simp[dJ]
theorem Ok.good(O:Ok n P ls bs)(t:∀d,P d->∃d',Q d' /\Tk d l d'):Ok (n+1) Q (ls++[.str l]) bs:=by
 have:=O.ext (m:=n+1) (ec:=[.str l]) (ob:=[]) (Q:=Q) (.inl ⟨rfl,λd p=>(t d p).imp λd' z=> ⟨z.1,.cons z.2 (.nil _)⟩⟩) rfl rfl (by simp) (by simp)
 simpa using this
theorem Ok.JO(O:Ok n P ls bs)(t:∀d,P d->Bd d l)(i1:a7 xs=true)(i2:a7 ys=true)(h1:n+1+xs.length<=m)(h2:n+1+ys.length<=m):Ok m Q (ls++ .str l::xs) (bs++ .int (ls.length:Nat)::ys):=by
 have nl:=O.nl;have nb:=O.nb;refine⟨by simp[O.il,i1],by simp[O.ib,i2],by simp;lia,by simp;lia,.inl ?_⟩;rcases O.st with h| ⟨rfl,d,p,G⟩
 .exact h.ap _ _
 .exact⟨ls,l,xs,d,rfl,G,t d p,rfl⟩
theorem Ok.bad(O:Ok n P ls bs)(t:∀d,P d->Bd d l):Ok (n+1) Q (ls++[.str l]) (bs++[.int (ls.length:Nat)]):=O.JO t rfl rfl (by simp) (by simp)
end
noncomputable def ltr(k:Nat):Str:=⟨#[97+k]⟩
def Gw(j i:Nat):Str:=(("guest "++("g"++ltr j))++" ")++Str.ofString (toString (i:Int))
def gsN(i:Nat):List Nm:=(List.range i).map λ(k:Nat)=>("g"++ltr k,[.int (k:Int)])
def GS(i:Nat):D:=dr (if i=0 then "" else "guest") ((gsN i).map ay) [] [] []
theorem OO:∀i,i<6->Tk (GS i) (Gw i i) (GS (i+1))
 |0,_=> ⟨by kernel_rfl,rfl⟩
 |1,_=> ⟨by kernel_rfl,rfl⟩
 |2,_=> ⟨by kernel_rfl,rfl⟩
 |3,_=> ⟨by kernel_rfl,rfl⟩
 |4,_=> ⟨by kernel_rfl,rfl⟩
 |5,_=> ⟨by kernel_rfl,rfl⟩
def cell(ns:List Int)(k:Int):Int:=if ns.length=0 then 0 else ns[(k%ns.length).toNat]?.getD 0%2147483647
def drw(ns:List Int)(k m:Int):Int:=(cell ns k*48271+(k+1)*(k+5)*69621)%2147483629%m
theorem F9(ns:List Int)(k:Int):0<=cell ns k/\cell ns k<2147483647:=by
 unfold cell;split
 .lia
 .exact⟨Int.emod_nonneg _ (by lia),GcA _ (by lia)⟩
theorem bZ(ns:List Int)(k m:Int)(hm:0<m):0<=drw ns k m/\drw ns k m<m:=⟨Int.emod_nonneg _ (by lia),GcA _ hm⟩
theorem Fb{ns:List Int}{k:Int}(h:0<ns.length):atD ns (k%ns.length)=some (ns[(k%ns.length).toNat]?.getD 0):=by
 unfold atD;have h1:0<=k%(ns.length:Int):=Int.emod_nonneg _ (by lia);have h2:k%(ns.length:Int)<ns.length:=GcA _ (by lia);rw[Gak h1];have h3:(k%(ns.length:Int)).toNat<ns.length:=by lia
 simp[h3]
variable{j:Int}
theorem Fc{i:Int}(h: -18446744073709551616<i)(h2:i<18446744073709551616):g8 i j=true:=by
 unfold g8;rw[GaT];exact .inl (Gbt (by lia))
theorem oP{i:Int}(h: -18446744073709551616<j)(h2:j<18446744073709551616):g8 i j=true:=by
 unfold g8;rw[GaT];exact .inr (Gbt (by lia))
variable{m:Int}
theorem cc{ns:List Int}{k:Int}(hk:0<=k)(yW:k<1000000)(hm:0<m):ah [.scr ns,.int k,.int m]=some (.int (drw ns k m)):=by
 have c:=F9 ns k;have e1:∀j,g8 (k+1) j=true:=λj=>Fc (by lia) (by lia);have e2:∀i,g8 i 48271=true:=λi=>oP (by lia) (by lia);have e3:∀i,g8 i 69621=true:=λi=>oP (by lia) (by lia);unfold ah j4;by_cases h:0<ns.length
 .have hc:cell ns k=ns[(k%ns.length).toNat]?.getD 0%2147483647:=by unfold cell;rw[Gam (by lia)]
  have h' :(0:Int)<ns.length:=by lia
  simp[h,h',Fb h,e1,e2,e3,hm,<-hc,drw]
 .have hc:cell ns k=0:=by unfold cell;rw[Gak (by lia)]
  have h' :¬(0:Int)<ns.length:=by lia
  simp[h,h',e1,e2,e3,hm,drw,hc]
theorem dv{i:Int}(h1: -4611686018427387904<=i)(h2:i<4611686018427387904):cu i=true:=by
 unfold cu;rw[Gad];exact⟨Gbt h1,Gbt h2⟩
theorem ud{g:DG}{body:DS}(I:Nat->DL.Env->Prop):∀(ds:List D) (k:Nat) (env:DL.Env),I k env->(∀(i:Nat) d e,ds[i]? =some d->I (k+i) e->∃e1 e2,g d e=some e1/\body e1=some (.nx e2)/\I (k+i+1) e2)->∃e,forL g body ds env=some (.nx e)/\I (k+ds.length) e
 |[],k,env,h,_=> ⟨env,rfl,h⟩
 |d::ds,k,env,h,st=>by
  obtain⟨e1,e2,h1,h2,h3⟩:=st 0 d env rfl h;obtain⟨e,h4,h5⟩:=ud I ds (k+1) e2 h3 λi d' e' hd hI=>by
   have:=st (i+1) d' e' (by simpa using hd) (by rw[show k+(i+1)=k+1+i by lia];exact hI);rw[show k+(i+1)+1=k+1+i+1 by lia] at this;exact this
  refine⟨e,by simp[forL,h1,h2,h4], ?_⟩;rw[show k+(d::ds).length=k+1+ds.length by simp;lia];exact h5
variable{i:Nat}{lo:Int}
theorem fv{n:Nat}(h:(b0 lo n)[i]? =some d):i<n/\d= .int (lo+i):=by
 unfold b0 at h;rw[Gaw] at h;by_cases hi:i<n
 .rw[List.getElem?_range hi] at h;cases h;exact⟨hi,rfl⟩
 .rw[GaS (by simp;lia)] at h;cases h
theorem fB{n:Nat}:(b0 lo n).length=n:=by simp[b0]
def bdB(d:D)(l:Str):Bool:=match fm [d,.str l] with
 |some (.bl false,[d'])=>flK d'
 |_=>false
theorem rD(h:bdB d l=true):Bd d l:=by
 unfold bdB at h;split at h
 .rename_i d' e;exact⟨d',e,h⟩
 .cases h
theorem Gx:∀i<7,∀j<7,i=6\/j<i->bdB (GS i) (Gw j i)=true:=by decide+kernel
theorem OP:∀i<7,(bdB (GS i) "cap ever 4"&&(bdB (GS i) "young 4"&&(bdB (GS i) "bar sa sa 4"&&bdB (GS i) "order z ga sa")))=true:=by decide+kernel
theorem len_app(a b:Str):(a++b).length=a.length+b.length:=Str.length_append a b
@[simp] theorem NN{k:Nat}:(ltr k).length=1:=rfl
theorem Fd{x y:Str}(hx:x.length<=1000)(hy:y.length<=1000):ai (.str x) (.str y)=some ⟨.c,.str (x++y)⟩:=by
 rw[JH,wQ,Gak (by unfold aj;lia)]
noncomputable def Fe(x:Option D)(y:Str):Bool:=match x with
 |some (.str z)=>z==y
 |_=>false
theorem ue{x:Option D}{y:Str}(h:Fe x y=true):x=some (.str y):=by
 unfold Fe at h;split at h
 .rw[Gay.mp h]
 .cases h
theorem OQ:∀i:Nat,i<7->Fe (ixD (.str "abcdefg") (.int (i:Int))) (ltr i)=true:=by decide+kernel
theorem ix7(h:i<7):ixD (.str "abcdefg") (.int (i:Int))=some (.str (ltr i)):=ue (OQ i h)
theorem OR:∀i:Nat,i<13->Fe (ixD (.str "abcdefghijklm") (.int (i:Int))) (ltr i)=true:=by decide+kernel
theorem C0:∀i:Nat,i<20->(Str.ofString (toString (i:Int))).length<=2:=by decide+kernel
noncomputable def Ff(x:Option D):Bool:=match x with
 |some (.bl true)=>true
 |_=>false
theorem uf{x:Option D}(h:Ff x=true):x=some (.bl true):=by
 unfold Ff at h;split at h
 .rfl
 .cases h
def many(ns:List Int)(k m:Int):Int:=if drw ns k 2=0 then m else drw ns (k+1) (m+1)
theorem iD{ns:List Int}{k:Int}(hm:0<=m):0<=many ns k m/\many ns k m<=m:=by
 have:=bZ ns (k+1) (m+1) (by lia);unfold many;split<;>lia
theorem ja{ns:List Int}{k:Int}(hk:0<=k)(yW:k<100000)(hm:0<=m):bg [.scr ns,.int k,.int m]=some (.int (many ns k m)):=by
 unfold bg j7 many;by_cases h:drw ns k 2=0
 .simp[cc hk (by lia) (show(0:Int)<2 by lia),h]
 .simp[cc hk (by lia) (show(0:Int)<2 by lia),h,cc (ns:=ns) (show 0<=k+1 by lia) (by lia) (show 0<m+1 by lia)]
section
variable{f g:DS}{v w:DW}{t u:DT}{e e' :DL.Env}{a b:Bool}{o:Option Out}
theorem aO(h:f e=some (.nx e')):aC f g e=g e' :=by simp[h]
theorem ax(h:v e=some (.nx e')):ag v w e=w e' :=by simp[h]
theorem gQ(h1:t e=some a)(h2:u e=some b):bc t u e=some (a&&b):=by simp[h1,h2];cases a<;>simp
theorem C1(h1:t e=some a)(h2:u e=some b):orT t u e=some (a||b):=by simp[h1,h2];cases a<;>simp
theorem jb(h:t e=some b):ifS t f g e=if b then f e else g e:=by simp[h]
end
variable{p:DE}
theorem dF{q:DE}{e:DL.Env}{x y:Str}{k k' :Cls}(h1:p e=some ⟨k,.str x⟩)(h2:q e=some ⟨k',.str y⟩)(hx:x.length<=1000)(hy:y.length<=1000):opE ai p q e=some ⟨.c,.str (x++y)⟩:=by
 simp only[opE,h1,h2,Option.bind_some];exact Fd hx hy
theorem ug{e:DL.Env}{i:Int}{k:Cls}(h:p e=some ⟨k,.int i⟩)(hi:i.natAbs<100000):bw gc (a9 p aD) e=some ⟨.c,.str (Str.ofString (toString i))⟩:=by
 simp only[bw,a9,aD,h,Option.bind_some,Gbn,List.map_nil];rw[Ay,Gak (by lia)]
def t3(f k n:Nat)(c:Int):DT:=bc (af eqB (vE f) (kI c)) (bc (af eqB (vE k) (opE gV (vE n) (kI 1))) (af gtB (vE k) (kI 0)))
theorem qg{f k n:Nat}{c x y z:Int}{e:DL.Env}(h1:e[f]? =some (sh (.int x)))(h2:e[k]? =some (sh (.int y)))(h3:e[n]? =some (sh (.int z))):t3 f k n c e=some (x==c&&(y==z -1&&decide (0<y))):=
 gQ (by simp[h1]) (gQ (by simp[h2,h3]) (by simp[h2]))
def gN1:DE:=opE ai (kS "g") (ixE (kS "abcdefg") (vE 5))
def gN2:DE:=opE ai (kS "g") (ixE (kS "abcdefg") (bO ah (a9 (vE 0) (a9 (kI 4) (a9 (vE 5) aD)))))
def gLn:DE:=opE ai (opE ai (opE ai (kS "guest ") (vE 12)) (kS " ")) (bw gc (a9 (vE 5) aD))
def qh:DS:=aC (av 12 gN1) (aC (ifS (orT (af eqB (vE 5) (kI 6)) (t3 1 5 4 17)) (aH 3 (aG 2)) az) (aC (ifS (t3 1 5 4 17) (av 12 gN2) az) (aH 2 gLn)))
def gE(ns:List Int)(f:Int)(ls bs:List D)(n:Int)(x y:Os):DL.Env:=[sh (.scr ns),sh (.int f),oL ls,oL bs,sh (.int n),x,none,none,none,none,none,none,y]
variable{f:Int}
theorem JP{ns:List Int}{n k:Int}{bs:List D}{c e:Str}(hq:(f==17&&(k==n -1&&decide (0<k)))=q)(hk:ixD (.str "abcdefg") (.int k)=some (.str c))(hc:c.length=1)(hz:(Str.ofString (toString k)).length<=2)(yW:k.natAbs<1000)(hl:ls.length<10000)(hb:bs.length<10000)
  (hj:q=true->ah [.scr ns,.int 4,.int k]=some (.int j)/\ixD (.str "abcdefg") (.int j)=some (.str e))(he:e.length=1):
  qh (gE ns f ls bs n (sh (.int k)) y)=some (.nx (gE ns f (ls++[.str ((("guest "++("g"++(if q then e else c)))++" ")++Str.ofString (toString k))]) (if(k==6||q) then bs++[.int (ls.length:Nat)] else bs) n (sh (.int k)) (sh (.str ("g"++(if q then e else c)))))):=by
 have l1:ls.length<16777216:=by lia
 have l2:bs.length<16777216:=by lia
 have a1:∀z:Str,z.length=1->ai (.str "g") (.str z)=some ⟨.c,.str ("g"++z)⟩:=λz hz=>Fd (by decide) (by lia);unfold qh;refine(aO (e' :=gE ns f ls bs n (sh (.int k)) (sh (.str ("g"++c)))) (by simp only[av,gN1,opE,kE,ixE,gE,vE,Option.bind_some,GbB,GbC,hk,Gbf,a1 c hc];rfl)).trans ?_;have T:∀bs,t3 1 5 4 17 (gE ns f ls bs n (sh (.int k)) (sh (.str ("g"++c))))=some q:=λbs=>by rw[<-hq];exact qg rfl rfl rfl
 refine(aO (e' :=gE ns f ls (if(k==6||q) then bs++[.int (ls.length:Nat)] else bs) n (sh (.int k)) (sh (.str ("g"++c)))) ?_).trans ?_
 .rw[jb (C1 (by simp[gE];rfl) (T bs))];cases(k==6||q)<;>simp[gE,l2,aj]
 generalize (if(k==6||q) then bs++[.int (ls.length:Nat)] else bs)=bs';refine(aO (e' :=gE ns f ls bs' n (sh (.int k)) (sh (.str ("g"++(if q then e else c))))) ?_).trans ?_
 .rw[jb (T bs')];cases q with
  |false=>rfl
  |true=>
   obtain⟨d1,d2⟩:=hj rfl;simp[gE,gN2,d1,d2,a1 e he,-o9]
 have hx:("g"++(if q then e else c):Str).length=2:=by
  rw[len_app];cases q<;>simp[hc,he]<;>rfl
 generalize ("g"++(if q then e else c):Str)=nm at*;have E:=dF (dF (dF (p:=kS "guest ") (q:=vE 12) (e:=gE ns f ls bs' n (sh (.int k)) (sh (.str nm))) rfl rfl (by decide) (by lia)) (q:=kS " ") rfl (by rw[len_app,hx];decide) (by decide)) (ug (p:=vE 5) rfl (by lia)) (by rw[len_app,len_app,hx];decide) (by lia);rw[aH,gLn,E];simp[gE,l1,aj]
theorem JQ{ns:List Int}{n:Nat}(hn:n<=7):∃ls bs x y,(slF x=true/\slF y=true)/\forL (gN 5) qh (b0 0 n) (gE ns f [] [] n none none)=some (.nx (gE ns f ls bs n x y))/\Ok n (λd=>d=GS n/\n<=6) ls bs:=by
 obtain⟨e,h1,h2⟩:=ud (g:=gN 5) (body:=qh) (λi e=>∃ls bs x y,(slF x=true/\slF y=true)/\e=gE ns f ls bs n x y/\Ok i (λd=>d=GS i/\i<=6) ls bs) (b0 0 n) 0 (gE ns f [] [] n none none) ⟨[],[],none,none,⟨rfl,rfl⟩,rfl,rfl,rfl,by simp,by simp,.inr ⟨rfl,GS 0,⟨rfl,by lia⟩,.nil _⟩⟩ λi d e hd he=>by
  obtain⟨ls,bs,x,y,_,rfl,O⟩:=he;obtain⟨hi,rfl⟩:=fv hd;simp only[GaP,GbY] at O⊢;have nl:=O.nl;have nb:=O.nb;have hj:=λh:0<(i:Int)=>bZ ns 4 i h;generalize hq:(f==17&&((i:Int)==(n:Int)-1&&decide (0<(i:Int))))=q;have q0:q=true->0<(i:Int):=λh=>by rw[h] at hq;simp at hq;lia
  refine⟨gE ns f ls bs n (sh (.int i)) y,_,rfl,JP (j:=drw ns 4 i) (e:=ltr (drw ns 4 i).toNat) hq (ix7 (by lia)) rfl (C0 i (by lia)) (by lia) (by lia) (by lia) (λh=> ⟨cc (by lia) (by lia) (q0 h), ?_⟩) rfl,_,_,_,_,⟨rfl,rfl⟩,rfl, ?_⟩
  .have:=hj (q0 h);have:=ix7 (i:=(drw ns 4 i).toNat) (by lia)
   rwa[show(((drw ns 4 i).toNat:Nat):Int)=drw ns 4 i by lia] at this
  .cases q with
   |true=>
    have:=hj (q0 rfl);simp only[GcG,Gck];refine O.bad λd ⟨e,h6⟩=> ?_;subst e;exact rD (Gx i (by lia) (drw ns 4 i).toNat (by lia) (by lia))
   |false=>
    by_cases h6:i=6
    .subst h6;exact O.bad λd ⟨e,_⟩=>e▸rD (Gx 6 (by lia) 6 (by lia) (by lia))
    .have:((i:Int)==6)=false:=by simpa using(by lia:¬(i:Int)=6)
     rw[this];simp only[Bool.or_false,Bool.false_eq_true,if_false];exact O.good λd ⟨e,h⟩=> ⟨GS (i+1),⟨rfl,by lia⟩,e▸OO i (by lia)⟩
 obtain⟨ls,bs,x,y,sl,rfl,O⟩:=h2;rw[fB,GaP] at O;exact⟨ls,bs,x,y,sl,h1,O⟩
section
variable{f g:DS}{v w:DW}{t:DT}{e:DL.Env}{b:Bool}{i j:Nat}{p:DE}{k:Cls}{d:D}{xs ds:List D}
theorem d8(h:t e=some b):orW (a8 (ifS t f g)) (ifW t v w) e=if b then orW (a8 f) v e else orW (a8 g) w e:=by
 simp only[bN,a8,ifS,ifW,h,Option.bind_some];cases b<;>rfl
theorem Fg(h1:p e=some ⟨k,d⟩)(h2:e[i]? =some (lL xs))(h3:xs.length<10000)(h4:a7 xs=true)(h5:d.imm=true):dD i p e=some (.nx (e.set i (lL (xs++[d])))):=by
 simp only[dD,h1,Option.bind_some,my,dB,h2];rw[Gak ⟨by unfold aj;simp;lia,by simp[h4,h5]⟩]
theorem qi(h2:e[i]? =some (lL xs)):a8 (aH i p) e=none:=by
 simp[h2]
theorem gS(h1:p e=some ⟨k,d⟩)(h2:e[i]? =some (lL xs))(h3:xs.length<10000)(h4:a7 xs=true)(h5:d.imm=true):orW (a8 (aH i p)) (dD i p) e=some (.nx (e.set i (lL (xs++[d])))):=by
 rw[bN,qi h2];exact Fg h1 h2 h3 h4 h5
theorem oQ(h1:p e=some ⟨k,d⟩)(h2:e[i]? =some (lL xs))(h3:xs.length<10000)(h4:a7 xs=true)(h5:d.imm=true):orW (a8 (aH i p)) (orW (a8 (aH i p)) (dD i p)) e=some (.nx (e.set i (lL (xs++[d])))):=by
 rw[bN,qi h2];exact gS h1 h2 h3 h4 h5
theorem uh(hr:aY p e=some ds)(hf:∀d,ds.head? =some d->f (e.set j (sh d))=none):orW (a8 (dY none (aY p) (gN j) f)) (dK j p v) e=iq (gN j) v ds e:=by
 rw[bN,show dK j p v e=iq (gN j) v ds e by simp only[dK,hr,Option.bind_some]];cases ds with
 |nil=>simp only[a8,dY,aK,hr,Option.bind_some,jv,forL,Gbf];rfl
 |cons d ds=>
  have:a8 (dY none (aY p) (gN j) f) e=none:=by
   simp only[a8,dY,aK,hr,Option.bind_some,jv,forL,gN,hf d rfl,Option.bind_none,Option.map_none]
  rw[this]
theorem jR{g:DG}{body:DW}(I:Nat->DL.Env->Prop):∀(ds:List D) (k:Nat) (env:DL.Env),I k env->(∀(i:Nat) d e,ds[i]? =some d->I (k+i) e->∃e1 e2,g d e=some e1/\body e1=some (.nx e2)/\I (k+i+1) e2)->∃e,iq g body ds env=some (.nx e)/\I (k+ds.length) e
 |[],k,env,h,_=> ⟨env,rfl,h⟩
 |d::ds,k,env,h,st=>by
  obtain⟨e1,e2,h1,h2,h3⟩:=st 0 d env rfl h;obtain⟨e,h4,h5⟩:=jR I ds (k+1) e2 h3 λi d' e' hd hI=>by
   have:=st (i+1) d' e' (by simpa using hd) (by rw[show k+(i+1)=k+1+i by lia];exact hI);rw[show k+(i+1)+1=k+1+i+1 by lia] at this;exact this
  refine⟨e,by simp[iq,h1,h2,h4], ?_⟩;rw[show k+(d::ds).length=k+1+ds.length by simp;lia];exact h5
end
noncomputable def szD(k:Nat):List D:=if k%2=0 then[.int 2,.int 4] else[.int 3,.int 9]
def stN(cs:List (List D)):List Nm:=cs.mapIdx λk c=>("s"++ltr k,[.tup (szD k),.tup c,.int 0])
def SSt(g:List Nm)(h:Str)(cs:List (List D)):D:=dr h (g.map ay) ((stN cs).map ay) [] []
theorem mH(cs:List (List D))(c:List D):stN (cs++[c])=stN cs++[("s"++ltr cs.length,[.tup (szD cs.length),.tup c,.int 0])]:=by
 simp[stN,List.mapIdx_concat]
theorem ui(cs:List (List D)):(stN cs).length=cs.length:=by simp[stN]
theorem Gy(k:Nat):a7 (szD k)=true:=by
 unfold szD;split<;>rfl
def CI(cs:List (List D)):Prop:=∀c∈cs,a7 c=true
variable{cs:List (List D)}
theorem CI.sn{c:List D}(h:CI cs)(hc:a7 c=true):CI (cs++[c]):=λx hx=>by
 rcases Gcp.mp hx with q|q
 .exact h x q
 .rw[Gbv.mp q];exact hc
theorem C3(h:CI cs):a7 ((stN cs).map ay)=true:=by
 have:∀(n:Nat) (cs:List (List D)),cs.length=n->CI cs->a7 ((stN cs).map ay)=true:=by
  intro n;induction n with
  |zero=>intro cs hl _;rw[GaF hl];rfl
  |succ n ih=>
   intro cs hl h;rcases Gcm cs with rfl| ⟨zc,c,rfl⟩
   .cases hl
   .rw[Gcn] at h hl⊢;rw[mH,GaV,fS,ih zc (by simpa using hl) λx hx=>h x (Gcq _ hx)];simp[ay,Gy,h c (by simp)]
 exact this _ cs rfl h
theorem SF{g:List Nm}(hg:a7 (g.map ay)=true)(h:CI cs):Fl (g.map ay) ((stN cs).map ay) [] []:=⟨hg,C3 h,rfl,rfl⟩
theorem vT(g:List Nm)(h:Str)(cs:List (List D))(c:List D):SSt g h (cs++[c])=dr h (g.map ay) ((stN cs).map ay++[.tup [.str ("s"++ltr cs.length),.tup (szD cs.length),.tup c,.int 0]]) [] []:=by
 unfold SSt;rw[mH,GaV]
 rfl
section
variable{g:List Nm}{cs:List (List D)}{c:List D}{h:Str}
variable{ws:List Str}{line:Str}
theorem rF(hg:a7 (g.map ay)=true)(hc:CI cs)(hi:a7 c=true)(hl:c.length<4)(hh:h="stuff"\/h="cap"){k:Str}{lows:List DL.Key}{ns:List D}(hs:Txt.split line " "=(("cap":Str))::k::ws)(hz:line.length<1000)(hk:lkT dq (.inr k)=some lows)(hN:aq [.lst (ws.map D.str),.kt lows]=some (.lst ns))(y0:a7 ns=true)(nl:ns.length<100):Tk (SSt g h (cs++[c])) line (SSt g "cap" (cs++[c++[.tup (.str k::ns)]])):=by
 have F:=SF hg (hc.sn hi);have xP :a7 (c++[.tup (.str k::ns)])=true:=by simp[hi,y0]
 have F' :=(SF hg (hc.sn xP)).k (h:="cap");refine⟨?_,F'⟩;rw[vT,vT];rw[mH,GaV] at F;have F' :flK (dr "cap" (g.map ay) ((stN cs).map ay++[.tup [.str ("s"++ltr cs.length),.tup (szD cs.length),.tup (c++[.tup (.str k::ns)]),.int 0]]) [] [])=true:=by rw[<-vT];exact F'
 have e:=JJ (h:="cap") (ws:=ws.map D.str) F hk hN (dE ws) y0 nl hl;exact d7 F hs hz (by rcases hh with rfl|rfl<;>rfl) (k:="cap") rfl e F'
theorem rG(hg:a7 (g.map ay)=true)(hc:CI cs)(hi:a7 c=true)(hl:c.length=4)(hs:Txt.split line " "=(("cap":Str))::ws)(hz:line.length<1000):Bd (SSt g "cap" (cs++[c])) line:=by
 have F:=SF hg (hc.sn hi);have F' :=F.k (h:="cap");refine⟨SSt g "cap" (cs++[c]), ?_,F'⟩;rw[mH,GaV] at F F';rw[vT];exact d7 F hs hz (by rfl) (k:="cap") rfl (JK (h:="cap") (ws:=ws.map D.str) F (dE ws) hl) F'
end
theorem rH(k:Int)(h0:0<=k)(h3:k<3):∃l:Str,ixD (.lst [.str "cap flat 5 6",.str "cap kilo 7 8 9",.str "cap ever 7"]) (.int k)=some (.str l)/\(∀(g:List Nm) (cs:List (List D)) (c:List D),a7 (g.map ay)=true->CI cs->a7 c=true->(c.length<4->∀h:Str,h="stuff"\/h="cap"->∃x,a7 [x]=true/\Tk (SSt g h (cs++[c])) l (SSt g "cap" (cs++[c++[x]])))/\(c.length=4->Bd (SSt g "cap" (cs++[c])) l)):=by
 rcases(by lia:k=0\/k=1\/k=2) with rfl|rfl|rfl
 .exact⟨"cap flat 5 6",rfl,λg cs c hg hc hi=> ⟨λhl h hh=> ⟨.tup [.str "flat",.int 5,.int 6],rfl,rF hg hc hi hl hh (k:="flat") (ws:=["5","6"]) (lows:=[.inl 1,.inl 1]) (by kernel_rfl) (by decide) (by kernel_rfl) (by kernel_rfl) rfl (by decide)⟩,λhl=>rG hg hc hi hl (ws:=["flat","5","6"]) (by kernel_rfl) (by decide)⟩⟩
 .exact⟨"cap kilo 7 8 9",rfl,λg cs c hg hc hi=> ⟨λhl h hh=> ⟨.tup [.str "kilo",.int 7,.int 8,.int 9],rfl,rF hg hc hi hl hh (k:="kilo") (ws:=["7","8","9"]) (lows:=[.inl 1,.inl 1,.inl 1]) (by kernel_rfl) (by decide) (by kernel_rfl) (by kernel_rfl) rfl (by decide)⟩,λhl=>rG hg hc hi hl (ws:=["kilo","7","8","9"]) (by kernel_rfl) (by decide)⟩⟩
 .exact⟨"cap ever 7",rfl,λg cs c hg hc hi=> ⟨λhl h hh=> ⟨.tup [.str "ever",.int 7],rfl,rF hg hc hi hl hh (k:="ever") (ws:=["7"]) (lows:=[.inl 1]) (by kernel_rfl) (by decide) (by kernel_rfl) (by kernel_rfl) rfl (by decide)⟩,λhl=>rG hg hc hi hl (ws:=["ever","7"]) (by kernel_rfl) (by decide)⟩⟩
theorem C4{g:List Nm}{c:List D}(hg:a7 (g.map ay)=true)(hc:CI cs)(hi:a7 c=true)(hh:h="stuff"\/h="cap")(hl:l="cap ever 3"\/l="young 5"):∃d',Tk (SSt g h (cs++[c])) "young 4" d' /\Bd d' l:=by
 have F:=SF hg (hc.sn hi);rw[mH,GaV] at F;have F:Fl (g.map ay) ((stN cs).map ay++[.tup [.str ("s"++ltr cs.length),.tup (szD cs.length),.tup c,.int 0]]) [] []:=F;have fs:=F.s;simp only[fS,Gad] at fs;have F2:Fl (g.map ay) ((stN cs).map ay++[.tup [.str ("s"++ltr cs.length),.tup (szD cs.length),.tup c,.int 4]]) [] []:=⟨hg,by simp[fs.1,Gy,hi],rfl,rfl⟩
 rw[vT];have e:=BJ (h:="young") F (i:=4) (ws:=[.str "4"]) (by kernel_rfl) rfl;have t:=d7 (h:=h) F (line:="young 4") (ws:=["4"]) (by kernel_rfl) (by decide) (by rcases hh with rfl|rfl<;>rfl) (k:="young") rfl e F2.k;refine⟨_,⟨t,F2.k⟩, ?_⟩;rcases hl with rfl|rfl
 .exact⟨_,fU F2 (k:="cap") (ws:=["ever","3"]) (by kernel_rfl) (by decide) rfl rfl,F2.k⟩
 .exact⟨_,fU F2 (k:="young") (ws:=["5"]) (by kernel_rfl) (by decide) rfl rfl,F2.k⟩
def cE(ns:List Int)(f:Int)(ls bs:List D)(m:Int)(x:Os):DL.Env:=[sh (.scr ns),sh (.int f),lL ls,lL bs,sh (.int m),x]
def C5:DE:=ixE (cy (a9 (kS "cap flat 5 6") (a9 (kS "cap kilo 7 8 9") (a9 (kS "cap ever 7") aD)))) (bO ah (a9 (vE 0) (a9 (opE ai (kI 12) (vE 5)) (a9 (kI 3) aD))))
def C6:DW:=ag (orW (a8 (ifS (af eqB (vE 5) (kI 4)) (aH 3 (aG 2)) az)) (ifW (af eqB (vE 5) (kI 4)) (orW (a8 (aH 3 (aG 2))) (dD 3 (aG 2))) (a8 az))) (orW (a8 (aH 2 C5)) (dD 2 C5))
theorem JR{ns:List Int}{k:Int}{bs:List D}(hk:0<=k)(yW:k<100)(h1:ls.length<10000)(h2:bs.length<10000)(h3:a7 ls=true)(h4:a7 bs=true)(hl:ixD (.lst [.str "cap flat 5 6",.str "cap kilo 7 8 9",.str "cap ever 7"]) (.int (drw ns (12+k) 3))=some (.str l)):
  C6 (cE ns f ls bs m (sh (.int k)))=some (.nx (cE ns f (ls++[.str l]) (if k==4 then bs++[.int (ls.length:Nat)] else bs) m (sh (.int k)))):=by
 unfold C6;refine(ax (e' :=cE ns f ls (if k==4 then bs++[.int (ls.length:Nat)] else bs) m (sh (.int k))) ?_).trans ?_
 .rw[d8 (b:=k==4) (by simp[cE])];cases k==4 with
  |false=>rfl
  |true=>exact oQ (i:=3) (e:=cE ns f ls bs m (sh (.int k))) (p:=aG 2) (k:= .c) (d:= .int (ls.length:Nat)) (xs:=bs) rfl rfl h2 h4 rfl
 generalize (if k==4 then bs++[.int (ls.length:Nat)] else bs)=bs';refine gS (i:=2) (e:=cE ns f ls bs' m (sh (.int k))) (k:= .c) (d:= .str l) (xs:=ls) ?_ rfl h1 h3 rfl;simp only[jx] at hl;simp[C5,cE,cc (ns:=ns) (show 0<=12+k by lia) (by lia) (show(0:Int)<3 by lia),hl,aj]
theorem head_range{n:Nat}(h:(b0 0 n).head? =some d):d= .int 0:=by
 cases n with
 |zero=>cases h
 |succ n=>simp[b0,Gcg] at h;exact h.symm
theorem C7{ns:List Int}{bs:List D}(h3:a7 ls=true)(h4:a7 bs=true):(orW (a8 (retS (vE 4))) (kZ (vE 4)) (cE ns f ls bs m x)).bind (kc [2,3])=some (.int m,[.lst ls,.lst bs]):=by
 simp[cE,dB,flK,h3,h4]
theorem Fh{ns:List Int}{bs:List D}{n:Nat}{g:List Nm}{X:Prop}(hn:n<1000)(hg:a7 (g.map ay)=true)(hc:CI cs)(O:Ok n (λd=>d=SSt g "stuff" (cs++[[]])/\X) ls bs):
  ∃ls' bs' m,du [.scr ns,.int f,.lst ls,.lst bs]=some (.int m,[.lst ls',.lst bs'])/\Ok (n+8) (λd=>∃(h:Str) (c:List D),(h="stuff"\/h="cap")/\d=SSt g h (cs++[c])/\a7 c=true/\(c.length:Int)=m/\X) ls' bs' :=by
 obtain⟨m,M,hm,eM,em⟩:∃(m:Nat) (M:Int),m<=5/\M=(m:Int)/\M=if f==1 then 5 else many ns 10 4:=by
  have:=iD (ns:=ns) (k:=10) (m:=4) (by lia);cases f==1
  .exact⟨(many ns 10 4).toNat,many ns 10 4,by lia,by lia,rfl⟩
  .exact⟨5,5,by lia,rfl,rfl⟩
 have R:∀e,(aY (vE 4)) (cE ns f ls bs M e)=some (b0 0 m):=λe=>by
  have:cu M=true:=dv (by lia) (by lia);have t:M.toNat=m:=by lia
  simp[cE,this,t]
 obtain⟨e,h1,h2⟩:=jR (g:=gN 5) (body:=C6) (λi e=>∃ls bs x,e=cE ns f ls bs M x/\Ok (n+i) (λd=>∃c,d=SSt g (if i=0 then "stuff" else "cap") (cs++[c])/\c.length=i/\a7 c=true/\i<=4/\X) ls bs) (b0 0 m) 0 (cE ns f ls bs M none) ⟨ls,bs,none,rfl,O.mn (by lia) λd e=> ⟨[],e.1,rfl,rfl,by lia,e.2⟩⟩ λi d e hd he=>by
  obtain⟨ls,bs,x,rfl,O⟩:=he;obtain⟨hi,rfl⟩:=fv hd;simp only[GaP,GbY] at O⊢;have nl:=O.nl;have nb:=O.nb;have hj:=bZ ns (12+i) 3 (by lia);obtain⟨l,hl,hp⟩:=rH (drw ns (12+i) 3) hj.1 hj.2;refine⟨cE ns f ls bs M (sh (.int i)),_,rfl,JR (by lia) (by lia) (by lia) (by lia) O.il O.ib hl,_,_,_,rfl, ?_⟩;by_cases h4:i=4
  .subst h4;exact O.bad λd ⟨c,e,h5,h6,_⟩=>e▸(hp g cs c hg hc h6).2 h5
  .have:((i:Int)==4)=false:=by simpa using(by lia:¬(i:Int)=4)
   rw[this];refine O.good λd ⟨c,e,h5,h6,h7,h8⟩=> ?_;obtain⟨x,hx,t⟩:=(hp g cs c hg hc h6).1 (by lia) (if i=0 then "stuff" else "cap") (by split<;>simp);exact⟨_,⟨c++[x],rfl,by simp[h5],by simp at hx;simp[h6,hx],by lia,h8⟩,e▸t⟩
 obtain⟨eZ,xf,x,rfl,O1⟩:=h2;rw[fB,GaP] at O1;have O1:=O1.mn (m:=n+5) (by lia) (Q:=λd=>∃(h:Str) (c:List D),(h="stuff"\/h="cap")/\d=SSt g h (cs++[c])/\a7 c=true/\(c.length:Int)=M/\X) λd ⟨c,e,h5,h6,h7,h8⟩=> ⟨_,c,by split<;>simp,e,h6,by lia,h8⟩;unfold du cW;rw[Gak ⟨rfl,by simp[DL.argsOk,GaU,D.aQ]⟩,show bt [2,3] 6 [.scr ns,.int f,.lst ls,.lst bs]=[sh (.scr ns),sh (.int f),lL ls,lL bs,none,none] from rfl];unfold j8;simp only[rIf,oIf,vQ,gx,sIf,aIf,gp,oN,lsE,tpE,caE,blE,aL,kI,kS];rw[ax (e' :=cE ns f ls bs (many ns 10 4) none) (by simp[ja (ns:=ns) (show(0:Int)<=10 by lia) (by lia) (show(0:Int)<=4 by lia),cE])];rw[ax (e' :=cE ns f ls bs M none) (by
  rw[d8 (b:=f==1) (by simp[cE]),em];cases f==1<;>rfl)]
 rw[ax (e' :=cE ns f eZ xf M x) (by
  rw[<-h1];refine uh (R none) λd hd=> ?_;rw[head_range hd];simp[cE])]
 by_cases f2:f=2
 .subst f2;have hj:=bZ ns 20 2 (by lia);obtain⟨l,hl,yV⟩:∃l:Str,ixD (.lst [.str "cap ever 3",.str "young 5"]) (.int (drw ns 20 2))=some (.str l)/\(l="cap ever 3"\/l="young 5"):=by
   generalize drw ns 20 2=q at hj;rcases(by lia:q=0\/q=1) with rfl|rfl
   .exact⟨_,rfl,.inl rfl⟩
   .exact⟨_,rfl,.inr rfl⟩
  have O2:=O1.ext (m:=n+8) (Q:=λd=>∃(h:Str) (c:List D),(h="stuff"\/h="cap")/\d=SSt g h (cs++[c])/\a7 c=true/\(c.length:Int)=M/\X) (ec:=[.str "young 4",.str l]) (ob:=[.int 1]) (.inr ⟨[.str "young 4"],l,[],rfl,rfl,λd ⟨h,c,hh,e,hi,_⟩=>by
   obtain⟨d',t,b⟩:=C4 hg hc hi hh yV;exact⟨d',e▸.cons t (.nil _),b⟩⟩) rfl rfl (by simp) (by simp)
  refine⟨_,_,M, ?_,O2⟩;have nl:=O1.nl;have nb:=O1.nb;have z:a8 (aC (aH 2 (kS "young 4")) (aC (aH 3 (bw cM (a9 (vE 2) aD))) (aH 2 (ixE (cy (a9 (kS "cap ever 3") (a9 (kS "young 5") aD))) (bO ah (a9 (vE 0) (a9 (kI 20) (a9 (kI 2) aD)))))))) (cE ns 2 eZ xf M x)=none:=rfl;rw[ax (e' :=cE ns 2 (eZ++[.str "young 4",.str l]) (xf++[.int ((eZ.length:Nat)+1)]) M x) (by
   rw[d8 (b:=true) rfl,Gak rfl,bN,z];refine(ax (e' :=cE ns 2 (eZ++[.str "young 4"]) xf M x) (gS (i:=2) (e:=cE ns 2 eZ xf M x) (p:=kS "young 4") rfl rfl (by lia) O1.il rfl)).trans ?_;refine(ax (e' :=cE ns 2 (eZ++[.str "young 4"]) (xf++[.int ((eZ.length:Nat)+1)]) M x) (gS (i:=3) (e:=cE ns 2 (eZ++[.str "young 4"]) xf M x) (p:=aG 2) (k:= .c) (by simp[aG,cE]) rfl (by lia) O1.ib rfl)).trans ?_;rw[show eZ++[.str "young 4",.str l]=(eZ++[.str "young 4"])++[.str l] by simp];refine gS (i:=2) (e:=cE ns 2 (eZ++[.str "young 4"]) (xf++[.int ((eZ.length:Nat)+1)]) M x) (k:= .c) (d:= .str l) ?_ rfl (by simp;lia) (by simp[O1.il]) rfl;simp only[jx] at hl;simp[cE,cc (ns:=ns) (show(0:Int)<=20 by lia) (by lia) (show(0:Int)<2 by lia),hl,aj])]
  exact C7 O2.il (by have:=O2.ib;simpa[dJ] using this)
 .refine⟨eZ,xf,M, ?_,O1.mn (by lia) λd h=>h⟩;rw[ax (e' :=cE ns f eZ xf M x) (by
   rw[d8 (b:=false) (by simp[cE,f2])];rfl)]
  exact C7 O1.il O1.ib
noncomputable def plN(xs:List Str)(n:Str):D:=match xs.findIdx? λp=>p==n with
 |some k=> .int (k:Int)
 |none=> .non
theorem C8(ec:List Nm)(n:Str):plD ec n=plN (ec.map (·.1)) n:=by
 unfold plD plN;rw[List.findIdx?_map]
 rfl
def nmS(m:Nat):List Str:=(List.range m).map λk=>"s"++ltr k
theorem MG(cs:List (List D)):(stN cs).map (·.1)=nmS cs.length:=by
 have:∀(n:Nat) (cs:List (List D)),cs.length=n->(stN cs).map (·.1)=nmS n:=by
  intro n;induction n with
  |zero=>intro cs hl;rw[GaF hl];rfl
  |succ n ih=>
   intro cs hl;rcases Gcm cs with rfl| ⟨zc,c,rfl⟩
   .cases hl
   .rw[Gcn] at hl⊢;have hl:zc.length=n:=by simpa using hl
    rw[mH,GaV,ih zc hl,hl];simp[nmS,GaU]
 exact this _ cs rfl
theorem jS(cs:List (List D))(n:Str):plD (stN cs) n=plN (nmS cs.length) n:=by rw[C8,MG]
def oR(j i:Nat):Str:=("stuff "++("s"++ltr j))++(if i%2=0 then " 2 4" else " 3 9":Str)
theorem JS:∀i,i<7->aP (plN (nmS i) ("s"++ltr i))=true:=by decide+kernel
theorem JT:∀i,i<7->∀j,j<i->aP (plN (nmS i) ("s"++ltr j))=false:=by decide+kernel
theorem Fi:∀i<7,Ff (bA [.str ("s"++ltr i)])=true:=by decide+kernel
theorem uj(i:Nat)(h:i<7):bA [.str ("s"++ltr i)]=some (.bl true):=uf (Fi i h)
theorem qj:∀i<7,∀j<7,(Txt.split (oR j i) " "==[("stuff":Str),"s"++ltr j,(if i%2=0 then "2" else "3":Str),(if i%2=0 then "4" else "9":Str)]&&decide ((oR j i).length<1000))=true:=by decide+kernel
theorem szN(i:Nat):∃x y:Int,szD i=[.int x,.int y]/\aq [.lst [.str (if i%2=0 then "2" else "3":Str),.str (if i%2=0 then "4" else "9":Str)],.lst [.int 1,.int 1]]=some (.lst [.int x,.int y])/\fQ [.lst [.int x,.int y]]=some (.bl true):=by
 unfold szD;split
 .exact⟨2,4,rfl,by kernel_rfl,by kernel_rfl⟩
 .exact⟨3,9,rfl,by kernel_rfl,by kernel_rfl⟩
section
variable{g:List Nm}{cs:List (List D)}{h:Str}
theorem C9(hg:a7 (g.map ay)=true)(hc:CI cs)(hl:cs.length<6)(hh:nxt h "stuff"=true):Tk (SSt g h cs) (oR cs.length cs.length) (SSt g "stuff" (cs++[[]])):=by
 have F:=SF hg hc;have F' :=SF hg (hc.sn (c:=[]) rfl);obtain⟨x,y,e1,e2,e3⟩:=szN cs.length;have s:=qj cs.length (by lia) cs.length (by lia);rw[Gad,Gay,GaN] at s;have e:=BH (h:="stuff") F (uj cs.length (by lia)) e2 e3 (by rw[ui];exact hl) (by rw[jS];exact JS _ (by lia));have q:SSt g "stuff" (cs++[[]])=dr "stuff" (g.map ay) ((stN cs).map ay++[ay ("s"++ltr cs.length,[.tup [.int x,.int y],.tup [],.int 0])]) [] []:=by rw[vT,e1];rfl
 refine⟨?_,F'.k⟩;rw[q];refine d7 F s.1 s.2 hh (k:="stuff") rfl e ?_;rw[<-q];exact F'.k
theorem qk(hg:a7 (g.map ay)=true)(hc:CI cs){j:Nat}(hj:j<7)(hl:cs.length=6\/(cs.length<7/\j<cs.length))(hh:nxt h "stuff"=true):Bd (SSt g h cs) (oR j cs.length):=by
 have F:=SF hg hc;obtain⟨x,y,e1,e2,e3⟩:=szN cs.length;have s:=qj cs.length (by lia) j hj;rw[Gad,Gay,GaN] at s;have e:=BI (h:="stuff") F (uj j hj) e2 (by
  rw[ui,jS];exact hl.imp id λz=>JT _ (by lia) j z.2)
 exact⟨_,d7 F s.1 s.2 hh (k:="stuff") rfl e F.k,F.k⟩
end
def sE(ns:List Int)(f:Int)(ls bs:List D)(m a c:Int)(x y:Os):DL.Env:=[sh (.scr ns),sh (.int f),lL ls,lL bs,sh (.int m),sh (.int a),sh (.int c),x,y]
def Gz:DE:=opE ai (kS "s") (ixE (kS "abcdefg") (vE 7))
def rJ:DE:=opE ai (kS "s") (ixE (kS "abcdefg") (bO ah (a9 (vE 0) (a9 (kI 25) (a9 (vE 7) aD)))))
def sLn:DE:=opE ai (opE ai (kS "stuff ") (vE 8)) (ixE (cy (a9 (kS " 2 4") (a9 (kS " 3 9") aD))) (opE dP (vE 7) (kI 2)))
def sT:DT:=orT (af eqB (vE 7) (kI 6)) (t3 1 7 4 4)
def uk:DW:=orW (a8 (ifS (af eqB (vE 7) (vE 5)) aX az)) (ifW (af eqB (vE 7) (vE 5)) (orW (a8 aX) (setC 6 (bx du [AW.val (vE 0),AW.val (vE 1),AW.lent 2,AW.lent 3]))) (a8 az))
def um:DW:=ag (a8 (av 8 Gz)) (ag (orW (a8 (ifS sT (aH 3 (aG 2)) az)) (ifW sT (orW (a8 (aH 3 (aG 2))) (dD 3 (aG 2))) (a8 az))) (ag (orW (a8 (ifS (t3 1 7 4 4) (av 8 rJ) az)) (ifW (t3 1 7 4 4) (a8 (av 8 rJ)) (a8 az))) (ag (orW (a8 (aH 2 sLn)) (dD 2 sLn)) uk)))
section
variable{ns:List Int}{f m a ch k j:Int}{ls bs:List D}{y:Os}{c e:Str}{q:Bool}
theorem JU{z:Str}(hq:(f==4&&(k==m -1&&decide (0<k)))=q)(hk:ixD (.str "abcdefg") (.int k)=some (.str c))(hc:c.length=1)(h1:ls.length<10000)(h2:bs.length<10000)(h3:a7 ls=true)(h4:a7 bs=true)
  (hj:q=true->ah [.scr ns,.int 25,.int k]=some (.int j)/\ixD (.str "abcdefg") (.int j)=some (.str e))(he:e.length=1)(hz:ixD (.lst [.str " 2 4",.str " 3 9"]) (.int (k%2))=some (.str z))(RL:z.length=4):
  um (sE ns f ls bs m a ch (sh (.int k)) y)=uk (sE ns f (ls++[.str (("stuff "++("s"++(if q then e else c)))++z)]) (if(k==6||q) then bs++[.int (ls.length:Nat)] else bs) m a ch (sh (.int k)) (sh (.str ("s"++(if q then e else c))))):=by
 have a1:∀z:Str,z.length=1->ai (.str "s") (.str z)=some ⟨.c,.str ("s"++z)⟩:=λz hz=>Fd (by decide) (by lia);unfold um;refine(ax (e' :=sE ns f ls bs m a ch (sh (.int k)) (sh (.str ("s"++c)))) (by simp only[a8,av,Gz,opE,kE,ixE,sE,vE,Option.bind_some,GbB,GbC,hk,Gbf,a1 c hc];rfl)).trans ?_;have T:∀bs,t3 1 7 4 4 (sE ns f ls bs m a ch (sh (.int k)) (sh (.str ("s"++c))))=some q:=λbs=>by rw[<-hq];exact qg rfl rfl rfl
 refine(ax (e' :=sE ns f ls (if(k==6||q) then bs++[.int (ls.length:Nat)] else bs) m a ch (sh (.int k)) (sh (.str ("s"++c)))) ?_).trans ?_
 .rw[d8 (t:=sT) (b:=k==6||q) (C1 (a:=k==6) (by simp[sE]) (T bs))];cases(k==6||q) with
  |false=>rfl
  |true=>exact oQ (i:=3) (e:=sE ns f ls bs m a ch (sh (.int k)) (sh (.str ("s"++c)))) (p:=aG 2) (k:= .c) (d:= .int (ls.length:Nat)) (xs:=bs) rfl rfl h2 h4 rfl
 generalize (if(k==6||q) then bs++[.int (ls.length:Nat)] else bs)=bs';refine(ax (e' :=sE ns f ls bs' m a ch (sh (.int k)) (sh (.str ("s"++(if q then e else c))))) ?_).trans ?_
 .rw[d8 (T bs')];cases q with
  |false=>rfl
  |true=>
   obtain⟨d1,d2⟩:=hj rfl;simp[sE,rJ,d1,d2,a1 e he,-o9]
 have hx:("s"++(if q then e else c):Str).length=2:=by
  rw[len_app];cases q<;>simp[hc,he]<;>rfl
 generalize ("s"++(if q then e else c):Str)=nm at*;refine ax (gS (i:=2) (e:=sE ns f ls bs' m a ch (sh (.int k)) (sh (.str nm))) (p:=sLn) (k:= .c) (d:= .str (("stuff "++nm)++z)) (xs:=ls) ?_ rfl h1 h3 rfl);simp only[jx] at hz;exact dF (dF (p:=kS "stuff ") (q:=vE 8) rfl rfl (by decide) (by lia)) (k' := .c) (by simp[sE,hz,aj]) (by rw[len_app,hx];decide) (by lia)
theorem s_call{nm:Str}{ls' bs' :List D}{n:Int}(h3:a7 ls=true)(h4:a7 bs=true)(hr:k=a->du [.scr ns,.int f,.lst ls,.lst bs]=some (.int n,[.lst ls',.lst bs'])):
  uk (sE ns f ls bs m a ch (sh (.int k)) (sh (.str nm)))=some (.nx (if k=a then sE ns f ls' bs' m a n (sh (.int k)) (sh (.str nm)) else sE ns f ls bs m a ch (sh (.int k)) (sh (.str nm)))):=by
 unfold uk;rw[d8 (b:=k==a) (by simp[sE])];by_cases h:k=a
 .rw[Gak (by simpa using h),Gak h];simp[sE,setC,bx,bf,gf,ij,oz,dG,j3,Slot.put,h3,h4,hr h,flK]
 .rw[Gam (by simpa using h),Gam h]
  rfl
end
noncomputable def mT(cs:List (List D)):Int:=((cs.map List.length).sum:Nat)
theorem Ca(cs:List (List D))(c:List D):mT (cs++[c])=mT cs+c.length:=by simp[mT]
def hS(i:Nat)(h:Str):Prop:=(0<i->h="stuff"\/h="cap")/\(i=0->h=""\/h="guest")
theorem hS.n(H:hS i h):nxt h "stuff"=true:=by
 by_cases z:i=0
 .rcases H.2 z with rfl|rfl<;>rfl
 .rcases H.1 (by lia) with rfl|rfl<;>rfl
def PS(g:List Nm)(i:Nat)(ch:Int)(d:D):Prop:=∃x:Str×List (List D),(hS i x.1/\x.2.length=i/\CI x.2/\mT x.2=ch/\i<=6/\g.length<=6)/\d=SSt g x.1 x.2
theorem MH(i:Nat):∃z:Str,ixD (.lst [.str " 2 4",.str " 3 9"]) (.int ((i:Int)%2))=some (.str z)/\z.length=4/\z=(if i%2=0 then " 2 4" else " 3 9":Str):=by
 rcases Nat.mod_two_eq_zero_or_one i with h|h
 .exact⟨" 2 4",by rw[show(i:Int)%2=0 by lia];rfl,rfl,by rw[Gak h]⟩
 .exact⟨" 3 9",by rw[show(i:Int)%2=1 by lia];rfl,rfl,by rw[Gam (by lia)]⟩
variable{M a ch:Int}
theorem rK{ns:List Int}{m n:Nat}{bs:List D}{x:Os}{g:List Nm}(hg:a7 (g.map ay)=true)(hi:i<m)(hm:m<=7)(eM:M=m)(hn:n<500)(O:Ok n (PS g i ch) ls bs)(ha:(i:Int)<=a->ch=0):
  ∃ls' bs' zZ y',um (sE ns f ls bs M a ch (sh (.int (i:Int))) y)=some (.nx (sE ns f ls' bs' M a zZ (sh (.int (i:Int))) y'))/\Ok (n+10) (PS g (i+1) zZ) ls' bs' /\((i:Int)+1<=a->zZ =0):=by
 have nl:=O.nl;have nb:=O.nb;have hj:=λh:0<(i:Int)=>bZ ns 25 i h;obtain⟨z,z1,z2,z3⟩:=MH i;generalize hq:(f==4&&((i:Int)==M -1&&decide (0<(i:Int))))=q;have q0:q=true->0<(i:Int):=λh=>by rw[h] at hq;simp at hq;lia
 have t:=JU (ns:=ns) (f:=f) (m:=M) (a:=a) (ch:=ch) (k:=(i:Int)) (y:=y) (j:=drw ns 25 i) (e:=ltr (drw ns 25 i).toNat) hq (ix7 (by lia)) rfl (by lia) (by lia) O.il O.ib (λh=> ⟨cc (by lia) (by lia) (q0 h),by
  have:=hj (q0 h);have:=ix7 (i:=(drw ns 25 i).toNat) (by lia)
  rwa[show(((drw ns 25 i).toNat:Nat):Int)=drw ns 25 i by lia] at this⟩) rfl z1 z2
 rw[t];have O1:Ok (n+1) (λd=>∃cs:List (List D),(cs.length=i/\CI cs/\mT cs=ch/\i<6/\g.length<=6)/\d=SSt g "stuff" (cs++[[]])) (ls++[.str (("stuff "++("s"++(if q then ltr (drw ns 25 i).toNat else ltr i)))++z)]) (if((i:Int)==6||q) then bs++[.int (ls.length:Nat)] else bs):=by
  cases q with
  |true=>
   have:=hj (q0 rfl);simp only[GcG,Gck];refine O.bad λd ⟨x,⟨h1,h2,h3,h4,h5⟩,e⟩=> ?_;have:=qk (h:=x.1) hg h3 (j:=(drw ns 25 i).toNat) (by lia) (.inr ⟨by lia,by lia⟩) h1.n;rw[e,z3];rw[h2] at this;exact this
  |false=>
   by_cases h6:i=6
   .subst h6;refine O.bad λd ⟨x,⟨h1,h2,h3,h4,h5⟩,e⟩=> ?_;have:=qk (h:=x.1) hg h3 (j:=6) (by lia) (.inl h2) h1.n;rw[e,z3];rw[h2] at this;exact this
   .have:((i:Int)==6)=false:=by simpa using(by lia:¬(i:Int)=6)
    rw[this];refine O.good λd ⟨x,⟨h1,h2,h3,h4,h5⟩,e⟩=> ⟨_,⟨x.2,⟨h2,h3,h4,by lia⟩,rfl⟩, ?_⟩;have:=C9 (h:=x.1) hg h3 (by lia) h1.n;rw[e,z3];rw[h2] at this;exact this
 generalize (ls++[.str (("stuff "++("s"++(if q then ltr (drw ns 25 i).toNat else ltr i)))++z)])=eZ at*;generalize (if((i:Int)==6||q) then bs++[.int (ls.length:Nat)] else bs)=xf at*;by_cases hk:(i:Int)=a
 .have hz:=ha (by lia);obtain⟨cs,X,hc,hX,O2⟩:∃(cs:List (List D)) (X:Prop),CI cs/\(X->cs.length=i/\mT cs=ch/\i<6/\g.length<=6)/\Ok (n+1) (λd=>d=SSt g "stuff" (cs++[[]])/\X) eZ xf:=by
   rcases O1.st with h| ⟨e,d,⟨cs,⟨h1,h2,h3,h4⟩,e2⟩,G⟩
   .exact⟨[],False,(λ_ h=>by cases h),λh=>h.elim,O1.il,O1.ib,O1.nl,O1.nb,.inl h⟩
   .exact⟨cs,True,h2,λ_=> ⟨h1,h3,h4⟩,O1.il,O1.ib,O1.nl,O1.nb,.inr ⟨e,d,⟨e2,trivial⟩,G⟩⟩
  obtain⟨ls',bs',m',e,O3⟩:=Fh (ns:=ns) (f:=f) (by lia) hg hc O2;exact⟨ls',bs',m',_,by rw[s_call O1.il O1.ib λ_=>e,Gak hk],O3.mn (by lia) λd ⟨h,c,h1,h2,h3,h4,x⟩=> ⟨(h,cs++[c]),⟨⟨λ_=>h1,λh=>by lia⟩,by simp[(hX x).1],hc.sn h3,by rw[Ca,(hX x).2.1,h4,hz];simp,by have:=hX x;lia⟩,h2⟩,λh=>by lia⟩
 .exact⟨eZ,xf,ch,_,by rw[s_call (n:=0) (ls' :=[]) (bs' :=[]) O1.il O1.ib λh=>absurd h hk,Gam hk],O1.mn (by lia) λd ⟨cs,⟨h1,h2,h3,h4⟩,e⟩=> ⟨("stuff",cs++[[]]),⟨⟨λ_=> .inl rfl,λh=>by lia⟩,by simp[h1],h2.sn rfl,by rw[Ca,h3];simp,by lia⟩,e⟩,λh=>ha (by lia)⟩
variable{e' :DL.Env}
theorem GA{e:DL.Env}{j:Nat}{k:Cls}{bs:List D}(h1:e[i]? =some (lL ls))(h2:e[j]? =some (lL bs))(he:e.set j (lL (bs++[.int (ls.length:Nat)]))=e')(h3:p e' =some ⟨k,d⟩)(h4:e'[i]? =some (lL ls))(l1:ls.length<10000)(l2:bs.length<10000)(i1:a7 ls=true)(i2:a7 bs=true)(hd:d.imm=true):
  orW (a8 (aC (aH j (aG i)) (aH i p))) (ag (orW (a8 (aH j (aG i))) (dD j (aG i))) (orW (a8 (aH i p)) (dD i p))) e=some (.nx (e'.set i (lL (ls++[d])))):=by
 have z:a8 (aC (aH j (aG i)) (aH i p)) e=none:=by simp[h2]
 rw[bN,z];refine(ax (e' :=e') ?_).trans (gS h3 h4 l1 i1 hd);rw[<-he];exact gS (k:= .c) (d:= .int (ls.length:Nat)) (by simp[h1]) h2 l2 i2 rfl
theorem GB{g:List Nm}(hg:a7 (g.map ay)=true)(hc:CI cs)(hh:h="stuff"\/h="cap")(k:Int)(h0:0<=k)(h4:k<4):∃l:Str,ixD (.lst [.str "guest z 1",.str "dose up 1 1 2",.str "asked 4",.str "taper 1 1 1"]) (.int k)=some (.str l)/\Bd (SSt g h cs) l:=by
 have F:=SF hg hc;rcases(by lia:k=0\/k=1\/k=2\/k=3) with rfl|rfl|rfl|rfl
 .exact⟨"guest z 1",rfl,_,fU F (k:="guest") (ws:=["z","1"]) (by kernel_rfl) (by decide) (by rcases hh with rfl|rfl<;>rfl) (by rcases hh with rfl|rfl<;>rfl),F.k⟩
 .exact⟨"dose up 1 1 2",rfl,_,fU F (k:="dose") (ws:=["up","1","1","2"]) (by kernel_rfl) (by decide) (by rcases hh with rfl|rfl<;>rfl) (by rcases hh with rfl|rfl<;>rfl),F.k⟩
 .exact⟨"asked 4",rfl,_,fU F (k:="asked") (ws:=["4"]) (by kernel_rfl) (by decide) (by rcases hh with rfl|rfl<;>rfl) (by rcases hh with rfl|rfl<;>rfl),F.k⟩
 .exact⟨"taper 1 1 1",rfl,_,fU F (k:="taper") (ws:=["1","1","1"]) (by kernel_rfl) (by decide) (by rcases hh with rfl|rfl<;>rfl) (by rcases hh with rfl|rfl<;>rfl),F.k⟩
theorem Cb{ns:List Int}{bs:List D}(h3:a7 ls=true)(h4:a7 bs=true):(orW (a8 (l8 (retS (gW (a9 (vE 4) (a9 (vE 6) aD)))) (jG 4 6))) (kZ (gW (a9 (vE 4) (a9 (vE 6) aD)))) (sE ns f ls bs m a ch x y)).bind (kc [2,3])=some (.tup [.int m,.int ch],[.lst ls,.lst bs]):=by
 simp[sE,l8,dB,flK,h3,h4,aj]
theorem vU{ns:List Int}{bs:List D}{n:Nat}{g:List Nm}{h0:Str}(hn:n<100)(hg:a7 (g.map ay)=true)(hh:h0=""\/h0="guest")(O:Ok n (λd=>d=SSt g h0 []/\g.length<=6) ls bs):
  ∃ls' bs' ch,∃m:Nat,∃M:Int,M=m/\1<=m/\m<=7/\bY [.scr ns,.int f,.lst ls,.lst bs]=some (.tup [.int M,.int ch],[.lst ls',.lst bs'])/\Ok (n+71) (PS g m ch) ls' bs' :=by
 obtain⟨m,M,hm,QC,eM,em⟩:∃(m:Nat) (M:Int),m<=7/\1<=m/\M=(m:Int)/\M=if f==3 then 7 else(if many ns 22 6>1 then many ns 22 6 else 1):=by
  have:=iD (ns:=ns) (k:=22) (m:=6) (by lia);cases f==3
  .by_cases c:many ns 22 6>1
   .exact⟨(many ns 22 6).toNat,many ns 22 6,by lia,by lia,by lia,by rw[Gak c];rfl⟩
   .exact⟨1,1,by lia,by lia,rfl,by rw[Gam c];rfl⟩
  .exact⟨7,7,by lia,by lia,rfl,rfl⟩
 obtain⟨a,ha⟩:∃a,a=drw ns 24 (if 6<M then 6 else M):=⟨_,rfl⟩
 have R:∀x y,(aY (vE 4)) (sE ns f ls bs M a 0 x y)=some (b0 0 m):=λx y=>by
  have:cu M=true:=dv (by lia) (by lia);have t:M.toNat=m:=by lia
  simp[sE,this,t]
 obtain⟨e,h1,h2⟩:=jR (g:=gN 7) (body:=um) (λi e=>∃ls bs ch x y,e=sE ns f ls bs M a ch x y/\Ok (n+10*i) (PS g i ch) ls bs/\((i:Int)<=a->ch=0)) (b0 0 m) 0 (sE ns f ls bs M a 0 none none) ⟨ls,bs,0,none,none,rfl,O.mn (by lia) λd e=> ⟨(h0,[]),⟨⟨λh=>by lia,λ_=>hh⟩,rfl,(λ_ h=>by cases h),rfl,by lia,e.2⟩,e.1⟩,λ_=>rfl⟩ λi d e hd he=>by
  obtain⟨ls,bs,ch,x,y,rfl,O,hz⟩:=he;obtain⟨hi,rfl⟩:=fv hd;simp only[GaP,GbY] at O hz⊢;obtain⟨ls',bs',zZ,y',e1,O',PD⟩:=rK (ns:=ns) (f:=f) (a:=a) (x:=x) (y:=y) hg hi hm eM (by lia) O hz;exact⟨_,_,rfl,e1,_,_,_,_,_,rfl,O'.mn (by lia) λ_ h=>h,λh=>PD (by lia)⟩
 obtain⟨eZ,xf,ch,x,y,rfl,O1,_⟩:=h2;rw[fB,GaP] at O1;have O1:=O1.mn (m:=n+70) (by lia) λ_ h=>h;unfold bY cW;rw[Gak ⟨rfl,by simp[DL.argsOk,GaU,D.aQ]⟩,show bt [2,3] 9 [.scr ns,.int f,.lst ls,.lst bs]=[sh (.scr ns),sh (.int f),lL ls,lL bs,none,none,none,none,none] from rfl];unfold gG;simp only[rIf,oIf,vQ,gx,sIf,aIf,gp,oN,lsE,tpE,caE,blE,aL,kI,kS];rw[ax (e' :=[sh (.scr ns),sh (.int f),lL ls,lL bs,sh (.int (if many ns 22 6>1 then many ns 22 6 else 1)),none,none,none,none]) (by simp[ja (ns:=ns) (show(0:Int)<=22 by lia) (by lia) (show(0:Int)<=6 by lia)])];rw[ax (e' :=[sh (.scr ns),sh (.int f),lL ls,lL bs,sh (.int M),none,none,none,none]) (by
  rw[d8 (b:=f==3) (by simp),em];cases f==3<;>rfl)]
 rw[ax (e' :=[sh (.scr ns),sh (.int f),lL ls,lL bs,sh (.int M),sh (.int a),none,none,none]) (by
  have p:(0:Int)<if 6<M then 6 else M:=by split<;>lia
  simp[cc (ns:=ns) (show(0:Int)<=24 by lia) (by lia) p,<-ha])]
 rw[ax (e' :=sE ns f ls bs M a 0 none none) rfl];rw[ax (e' :=sE ns f eZ xf M a ch x y) (by
  rw[<-h1];refine uh (R none none) λd hd=> ?_;rw[head_range hd];have T:∀y,t3 1 7 4 4 (sE ns f ls bs M a 0 (sh (.int 0)) y)=some false:=λy=>by rw[qg (x:=f) (y:=0) (z:=M) rfl rfl rfl];simp
  refine(aO (e' :=sE ns f ls bs M a 0 (sh (.int 0)) (sh (.str ("s"++ltr 0)))) (by kernel_rfl)).trans ?_;refine(aO (e' :=sE ns f ls bs M a 0 (sh (.int 0)) (sh (.str ("s"++ltr 0)))) ((jb (C1 (a:=false) rfl (T _))).trans rfl)).trans ?_;refine(aO (e' :=sE ns f ls bs M a 0 (sh (.int 0)) (sh (.str ("s"++ltr 0)))) ((jb (T _)).trans rfl)).trans ?_
  kernel_rfl)]
 by_cases f5:f=5
 .subst f5;have hj:=bZ ns 26 4 (by lia);obtain⟨l,hl,hb⟩:∃l:Str,ixD (.lst [.str "guest z 1",.str "dose up 1 1 2",.str "asked 4",.str "taper 1 1 1"]) (.int (drw ns 26 4))=some (.str l)/\∀d,PS g m ch d->Bd d l:=by
   obtain⟨l,hl,_⟩:=GB (g:=g) (cs:=[]) (h:="cap") hg (λ_ h=>by cases h) (.inr rfl) _ hj.1 hj.2;refine⟨l,hl,λd ⟨x,⟨q1,q2,q3,q4,q5⟩,e⟩=> ?_⟩;obtain⟨l',xx,hb⟩:=GB (g:=g) (cs:=x.2) (h:=x.1) hg q3 (q1.1 (by lia)) _ hj.1 hj.2;rw[hl] at xx;cases xx;exact e▸hb
  refine⟨_,_,ch,m,M,eM,QC,hm, ?_,O1.bad hb⟩;have nl:=O1.nl;have nb:=O1.nb;rw[ax (e' :=sE ns 5 (eZ++[.str l]) (xf++[.int (eZ.length:Nat)]) M a ch x y) (by
   rw[d8 (b:=true) rfl,Gak rfl];refine GA (i:=2) (j:=3) (e:=sE ns 5 eZ xf M a ch x y) (e' :=sE ns 5 eZ (xf++[.int (eZ.length:Nat)]) M a ch x y) (k:= .c) (d:= .str l) rfl rfl rfl ?_ rfl (by lia) (by lia) O1.il O1.ib rfl;simp only[jx] at hl;simp[sE,cc (ns:=ns) (show(0:Int)<=26 by lia) (by lia) (show(0:Int)<4 by lia),hl,aj])]
  exact Cb (by simp[O1.il]) (by simp[O1.ib])
 .refine⟨eZ,xf,ch,m,M,eM,QC,hm, ?_,O1.mn (by lia) λd h=>h⟩;rw[ax (e' :=sE ns f eZ xf M a ch x y) (by
   rw[d8 (b:=false) (by simp[sE,f5])];rfl)]
  exact Cb O1.il O1.ib
noncomputable def prs(s:Nat):List (Nat×Nat):=(List.range s).flatMap λi=>(List.range (s -i)).map λj=>(i,i+j)
def cH(s:Nat):List D:=(prs s).map λp=> .tup [.int (p.1:Int),.int (p.2:Int)]
noncomputable def tsI(k:Nat):Str:=Str.ofString (toString (1+(k:Int)))
def oS(i j k:Nat):Str:=(((("bar "++("s"++ltr i))++" ")++("s"++ltr j))++" ")++tsI k
def brN(s k:Nat):List Br:=((prs s).take k).mapIdx λt p=>((p.1:Int),(p.2:Int),1+(t:Int))
noncomputable def isI(d:D)(i:Int):Bool:=match d with
 | .int z=>z==i
 |_=>false
theorem g7{i:Int}(h:isI d i=true):d= .int i:=by
 unfold isI at h;split at h
 .rw[Gay.mp h]
 .cases h
def uq(s k:Nat):Bool:=match(prs s)[k]? with
 |some (i,j)=>Txt.split (oS i j k) " "==[("bar":Str),"s"++ltr i,"s"++ltr j,tsI k]&&(decide ((oS i j k).length<1000)&&(decide (i<=j/\j<s)&&(isI (plN (nmS s) ("s"++ltr i)) i&&(isI (plN (nmS s) ("s"++ltr j)) j&&(!((brN s k).any λp=>p.1==(i:Int)&&p.2.1==(j:Int))&&(brN s (k+1)==brN s k++[((i:Int),(j:Int),1+(k:Int))]&&((brN s k).length==k)))))))
 |none=>false
theorem rL:∀s<7,∀k<13,k<(prs s).length->uq s k=true:=by decide+kernel
noncomputable def JV(x:Option D)(i:Int):Bool:=match x with
 |some (.lst [.int j])=>j==i
 |_=>false
theorem Fj{x:Option D}{i:Int}(h:JV x i=true):x=some (.lst [.int i]):=by
 unfold JV at h;split at h
 .rw[Gay.mp h]
 .cases h
theorem Fm:∀k<13,JV (aq [.lst [.str (tsI k)],.tup [.int 1]]) (1+(k:Int))=true:=by decide+kernel
theorem Cc(k:Nat)(h:k<13):aq [.lst [.str (tsI k)],.tup [.int 1]]=some (.lst [.int (1+(k:Int))]):=Fj (Fm k h)
def BS(g:List Nm)(h:Str)(cs:List (List D))(bl:List Br):D:=dr h (g.map ay) ((stN cs).map ay) (bl.map g5) []
theorem Cd(bl:List Br):a7 (bl.map g5)=true:=by
 induction bl with
 |nil=>rfl
 |cons p bl ih=>simpa[g5] using ih
theorem BF{g:List Nm}{bl:List Br}(hg:a7 (g.map ay)=true)(h:CI cs):Fl (g.map ay) ((stN cs).map ay) (bl.map g5) []:=⟨hg,C3 h,Cd bl,rfl⟩
section
variable{g:List Nm}{cs:List (List D)}{h:Str}{s k:Nat}{bl:List Br}
def hB(h:Str):Prop:=h="stuff"\/h="cap"\/h="bar"
theorem hB.n(H:hB h):nxt h "bar"=true:=by rcases H with rfl|rfl|rfl<;>rfl
variable{i j:Nat}
theorem JW(hg:a7 (g.map ay)=true)(hc:CI cs)(hl:cs.length=s)(hs:s<7)(hk:k<12)(hp:k<(prs s).length)(hh:hB h)(e:(prs s)[k]? =some (i,j)):Tk (BS g h cs (brN s k)) (oS i j k) (BS g "bar" cs (brN s (k+1))):=by
 have c:=rL s hs k (by lia) hp;unfold uq at c;rw[e] at c;simp only[Gad,Gay,GaN,GbI] at c;obtain⟨c1,c2,c3,c4,c5,c6,c7,c8⟩:=c;have t:=JL (h:="bar") (BF (bl:=brN s k) hg hc) (Cc k (by lia)) (by rw[jS,hl];exact g7 c4) (by rw[jS,hl];exact g7 c5) (by lia) (by rw[c8];exact hk) c6;rw[<-c7] at t;exact⟨d7 (BF hg hc) c1 c2 hh.n (k:="bar") rfl t (BF hg hc).k,(BF hg hc).k⟩
theorem JX(hg:a7 (g.map ay)=true)(hc:CI cs)(hl:cs.length=s)(hs:s<7)(hp:12<(prs s).length)(hh:hB h)(e:(prs s)[12]? =some (i,j)):Bd (BS g h cs (brN s 12)) (oS i j 12):=by
 have c:=rL s hs 12 (by lia) hp;unfold uq at c;rw[e] at c;simp only[Gad,Gay,GaN,GbI] at c;obtain⟨c1,c2,c3,c4,c5,c6,c7,c8⟩:=c;have t:=BK (h:="bar") (BF (bl:=brN s 12) hg hc) (u:="s"++ltr i) (v:="s"++ltr j) (Cc 12 (by lia)) (.inl c8) (.inr ⟨_,rfl⟩) (by lia);exact⟨_,d7 (BF hg hc) c1 c2 hh.n (k:="bar") rfl t (BF hg hc).k,(BF hg hc).k⟩
theorem ko(hg:a7 (g.map ay)=true)(hc:CI cs)(hh:hB h)(hb:bl.length<=12){l u v w:Str}{N:D}(e:Txt.split l " "=[("bar":Str),u,v,w])(hz:l.length<1000)(hN:aq [.lst [.str w],.tup [.int 1]]=some N)(zV:N= .non\/∃k,N= .lst [.int k])(hx:aP N=true\/aP (plN (nmS cs.length) u)=true\/aP (plN (nmS cs.length) v)=true\/∃i j,plN (nmS cs.length) u= .int i/\plN (nmS cs.length) v= .int j/\(j<i\/(bl.any λp=>p.1==i&&p.2.1==j)=true)):Bd (BS g h cs bl) l:=by
 rw[<-jS,<-jS] at hx;exact⟨_,d7 (BF hg hc) e hz hh.n (k:="bar") rfl (BK (h:="bar") (BF hg hc) hN (.inr hx) zV hb) (BF hg hc).k,(BF hg hc).k⟩
end
theorem vW:∀s<7,0<s->(isI (plN (nmS s) "sa") 0&&(aP (plN (nmS s) "z")&&(decide (s=1)||isI (plN (nmS s) "sb") 1)))=true:=by decide+kernel
theorem GC:∀s<7,0<s->∀k<13,0<k->((brN s k).any λp=>p.1==0&&p.2.1==0)=true:=by decide+kernel
def brE(ns:List Int)(f s:Int)(ls bs pr:List D)(v:Os)(m:Os)(nm:Os)(x y z:Os):DL.Env:=[sh (.scr ns),sh (.int f),sh (.int s),lL ls,lL bs,oL pr,v,m,nm,x,y,z]
def prS:DS:=av 5 (opE ai (vE 5) (bC none 1 [6] (jw (vE 6) (vE 2)) (gN 0) bD (gW (a9 (vE 1) (a9 (vE 0) aD)))))
theorem Ce(ns:List Int)(f:Int)(ls bs:List D):∀s:Nat,0<s->s<7->∀S:Int,S=s->∃v:Int,orW (a8 (dY none (aY (vE 2)) (gN 6) prS)) (dK 6 (vE 2) (a8 prS)) (brE ns f S ls bs [] none none none none none none)=some (.nx (brE ns f S ls bs (cH s) (sh (.int v)) none none none none none))
 |0,h,_,_,_=>absurd h (by lia)
 |1,_,_,_,rfl=> ⟨0,by kernel_rfl⟩
 |2,_,_,_,rfl=> ⟨1,by kernel_rfl⟩
 |3,_,_,_,rfl=> ⟨2,by kernel_rfl⟩
 |4,_,_,_,rfl=> ⟨3,by kernel_rfl⟩
 |5,_,_,_,rfl=> ⟨4,by kernel_rfl⟩
 |6,_,_,_,rfl=> ⟨5,by kernel_rfl⟩
 |n+7,_,h,_,_=>absurd h (by lia)
def MI:DE:=bC none 1 [] (aY (vE 2)) (gN 0) bD (opE ai (kS "s") (ixE (kS "abcdefg") (vE 0)))
theorem Cf(ns:List Int)(f:Int)(ls bs pr:List D)(v m:Os):∀s:Nat,0<s->s<7->∀S:Int,S=s->MI (brE ns f S ls bs pr v m none none none none)=some ⟨.tn,.lst ((nmS s).map .str)⟩
 |0,h,_,_,_=>absurd h (by lia)
 |1,_,_,_,rfl=>by kernel_rfl
 |2,_,_,_,rfl=>by kernel_rfl
 |3,_,_,_,rfl=>by kernel_rfl
 |4,_,_,_,rfl=>by kernel_rfl
 |5,_,_,_,rfl=>by kernel_rfl
 |6,_,_,_,rfl=>by kernel_rfl
 |n+7,_,h,_,_=>absurd h (by lia)
variable{s:Nat}
theorem GD(h:i<s):atD ((nmS s).map D.str) (i:Int)=some (.str ("s"++ltr i)):=by
 rw[sv,Gaw];simp[nmS,h]
theorem GF{k j:Nat}(h:(prs s)[k]? =some (i,j)):atD (cH s) (k:Int)=some (.tup [.int (i:Int),.int (j:Int)]):=by
 rw[sv,cH,Gaw,h]
 rfl
def Fo:DE:=opE ai (opE ai (opE ai (opE ai (opE ai (kS "bar ") (ixE (vE 8) (vE 6))) (kS " ")) (ixE (vE 8) (vE 11))) (kS " ")) (bw gc (a9 (opE ai (kI 1) (vE 9)) aD))
def ql:DW:=ag (orW (a8 (ifS (af eqB (vE 9) (kI 12)) (aH 4 (aG 3)) az)) (ifW (af eqB (vE 9) (kI 12)) (orW (a8 (aH 4 (aG 3))) (dD 4 (aG 3))) (a8 az))) (ag (a8 (uV (gT [6,11]) (ixE (vE 5) (vE 9)))) (orW (a8 (aH 3 Fo)) (dD 3 Fo)))
variable{v z:Os}{pr:List D}
theorem JY{ns:List Int}{s k i:Int}{bs nm:List D}{a b:Str}(h1:ls.length<10000)(h2:bs.length<10000)(h3:a7 ls=true)(h4:a7 bs=true)(hp:atD pr k=some (.tup [.int i,.int j]))(ha:atD nm i=some (.str a))(hb:atD nm j=some (.str b))(la:a.length=2)(lb:b.length=2)(hk:0<=k)(yW:k<100)(hz:(Str.ofString (toString (1+k))).length<=10):
  ql (brE ns f s ls bs pr v (sh (.int m)) (oL nm) (sh (.int k)) y z)=some (.nx (brE ns f s (ls++[.str ((((("bar "++a)++" ")++b)++" ")++Str.ofString (toString (1+k)))]) (if k==12 then bs++[.int (ls.length:Nat)] else bs) pr (sh (.int i)) (sh (.int m)) (oL nm) (sh (.int k)) y (sh (.int j)))):=by
 unfold ql;refine(ax (e' :=brE ns f s ls (if k==12 then bs++[.int (ls.length:Nat)] else bs) pr v (sh (.int m)) (oL nm) (sh (.int k)) y z) ?_).trans ?_
 .rw[d8 (b:=k==12) (by simp[brE])];cases k==12 with
  |false=>rfl
  |true=>exact oQ (i:=4) (e:=brE ns f s ls bs pr v (sh (.int m)) (oL nm) (sh (.int k)) y z) (p:=aG 3) (k:= .c) (d:= .int (ls.length:Nat)) (xs:=bs) rfl rfl h2 h4 rfl
 generalize (if k==12 then bs++[.int (ls.length:Nat)] else bs)=bs';refine(ax (e' :=brE ns f s ls bs' pr (sh (.int i)) (sh (.int m)) (oL nm) (sh (.int k)) y (sh (.int j))) (by simp[brE,hp])).trans ?_;refine gS (i:=3) (e:=brE ns f s ls bs' pr (sh (.int i)) (sh (.int m)) (oL nm) (sh (.int k)) y (sh (.int j))) (p:=Fo) (k:= .c) (xs:=ls) ?_ rfl h1 h3 rfl;exact dF (dF (dF (dF (dF (p:=kS "bar ") (q:=ixE (vE 8) (vE 6)) (k' := .c) rfl (by simp[brE,ha]) (by decide) (by lia)) (q:=kS " ") rfl (by rw[len_app,la];decide) (by decide)) (q:=ixE (vE 8) (vE 11)) (k' := .c) (by simp[brE,hb]) (by rw[len_app,len_app,la];decide) (by lia)) (q:=kS " ") rfl (by rw[len_app,len_app,len_app,la,lb];decide) (by decide)) (ug (i:=1+k) (k:= .c) (by simp[brE]) (by lia)) (by rw[len_app,len_app,len_app,len_app,la,lb];decide) (by lia)
theorem lift_seq{f g:DS}{e:DL.Env}(h:f e=some (.nx e')):a8 (aC f g) e=a8 g e' :=by simp only[a8,aC,h,Option.bind_some]
def PB(g:List Nm)(s:Nat)(ch:Int)(k:Nat)(d:D):Prop:=∃(h:Str) (cs:List (List D)),(hB h/\(0<k->h="bar")/\cs.length=s/\CI cs/\mT cs=ch/\k<=12/\s<=6/\g.length<=6)/\d=BS g h cs (brN s k)
noncomputable def rM(b1 b2:Bool):List D:=([.str "bar sa z 1",.str "bar z sa 1",.str "bar sa sa 0"]++if b1 then[.str "bar sb sa 1"] else[])++if b2 then[.str "bar sa sa 99",.str "bar sa sa 1"] else[]
theorem Fp{g:List Nm}{k:Nat}(hg:a7 (g.map ay)=true)(hs:0<s){l:D}(hl:l∈rM (decide (1<s)) (decide (0<k)))(yA:(brN s k).length<=12):∃x:Str,l= .str x/\∀d,PB g s ch k d->Bd d x:=by
 have n1:aq [.lst [.str "1"],.tup [.int 1]]=some (.lst [.int 1]):=by kernel_rfl
 simp only[rM,Gcp,Gan,Gaz,GaX] at hl;rcases hl with((rfl|rfl|rfl)|hl)|hl
 .exact⟨_,rfl,λd ⟨h,cs,⟨h1,h2,h3,h4,h5,h6,h7⟩,e⟩=>by
   have z:=vW s (by lia) hs;simp only[Gad] at z;exact e▸ko (bl:=brN s k) (u:="sa") (v:="z") (w:="1") hg h4 h1 yA (by kernel_rfl) (by decide) n1 (.inr ⟨_,rfl⟩) (.inr (.inr (.inl (by rw[h3];exact z.2.1))))⟩
 .exact⟨_,rfl,λd ⟨h,cs,⟨h1,h2,h3,h4,h5,h6,h7⟩,e⟩=>by
   have z:=vW s (by lia) hs;simp only[Gad] at z;exact e▸ko (bl:=brN s k) (u:="z") (v:="sa") (w:="1") hg h4 h1 yA (by kernel_rfl) (by decide) n1 (.inr ⟨_,rfl⟩) (.inr (.inl (by rw[h3];exact z.2.1)))⟩
 .exact⟨_,rfl,λd ⟨h,cs,⟨h1,h2,h3,h4,h5,h6,h7⟩,e⟩=>e▸ko (bl:=brN s k) (u:="sa") (v:="sa") (w:="0") (N:= .non) hg h4 h1 yA (by kernel_rfl) (by decide) (by kernel_rfl) (.inl rfl) (.inl rfl)⟩
 .by_cases q:1<s
  .simp[q] at hl;subst hl;exact⟨_,rfl,λd ⟨h,cs,⟨h1,h2,h3,h4,h5,h6,h7⟩,e⟩=>by
    have z:=vW s (by lia) hs;simp only[Gad,GaT,GaN] at z;exact e▸ko (bl:=brN s k) (u:="sb") (v:="sa") (w:="1") hg h4 h1 yA (by kernel_rfl) (by decide) n1 (.inr ⟨_,rfl⟩) (.inr (.inr (.inr ⟨1,0,by rw[h3];exact g7 (z.2.2.resolve_left (by lia)),by rw[h3];exact g7 z.1,.inl (by lia)⟩)))⟩
  .simp[q] at hl
 .by_cases q:0<k
  .simp[q] at hl;rcases hl with rfl|rfl
   .exact⟨_,rfl,λd ⟨h,cs,⟨h1,h2,h3,h4,h5,h6,h7⟩,e⟩=>by
     have z:=vW s (by lia) hs;simp only[Gad] at z;exact e▸ko (bl:=brN s k) (u:="sa") (v:="sa") (w:="99") hg h4 h1 yA (by kernel_rfl) (by decide) (N:= .lst [.int 99]) (by kernel_rfl) (.inr ⟨_,rfl⟩) (.inr (.inr (.inr ⟨0,0,by rw[h3];exact g7 z.1,by rw[h3];exact g7 z.1,.inr (GC s (by lia) hs k (by lia) q)⟩)))⟩
   .exact⟨_,rfl,λd ⟨h,cs,⟨h1,h2,h3,h4,h5,h6,h7⟩,e⟩=>by
     have z:=vW s (by lia) hs;simp only[Gad] at z;exact e▸ko (bl:=brN s k) (u:="sa") (v:="sa") (w:="1") hg h4 h1 yA (by kernel_rfl) (by decide) n1 (.inr ⟨_,rfl⟩) (.inr (.inr (.inr ⟨0,0,by rw[h3];exact g7 z.1,by rw[h3];exact g7 z.1,.inr (GC s (by lia) hs k (by lia) q)⟩)))⟩
  .simp[q] at hl
theorem ur{g:List Nm}{k:Nat}(hg:a7 (g.map ay)=true)(hk:0<k){w:Str}{ws:List Str}(hs:Txt.split l " "=w::ws)(hz:l.length<1000)(hn:nxt "bar" w=false)(d:D):PB g s ch k d->Bd d l:=λ⟨h,cs,⟨h1,h2,h3,h4,h5,h6,h7⟩,e⟩=>by
 rw[e,h2 hk];exact⟨_,fU (BF hg h4) hs hz rfl hn,(BF hg h4).k⟩
theorem MJ{g:List Nm}{k:Nat}(hg:a7 (g.map ay)=true)(hk:0<k)(q:Int)(h0:0<=q)(h4:q<4):∃l:Str,ixD (.lst [.str "guest z 1",.str "stuff z 1",.str "cap ever 1",.str "young 1"]) (.int q)=some (.str l)/\∀d,PB g s ch k d->Bd d l:=by
 rcases(by lia:q=0\/q=1\/q=2\/q=3) with rfl|rfl|rfl|rfl
 .exact⟨"guest z 1",rfl,ur hg hk (w:="guest") (ws:=["z","1"]) (by kernel_rfl) (by decide) rfl⟩
 .exact⟨"stuff z 1",rfl,ur hg hk (w:="stuff") (ws:=["z","1"]) (by kernel_rfl) (by decide) rfl⟩
 .exact⟨"cap ever 1",rfl,ur hg hk (w:="cap") (ws:=["ever","1"]) (by kernel_rfl) (by decide) rfl⟩
 .exact⟨"young 1",rfl,ur hg hk (w:="young") (ws:=["1"]) (by kernel_rfl) (by decide) rfl⟩
variable{S:Int}
theorem Cg{ns:List Int}{m k n:Nat}{bs:List D}{g:List Nm}(hg:a7 (g.map ay)=true)(hk:k<m)(hm:m<=13)(hp:m<=(prs s).length)(hs:s<7)(hn:n<500)(O:Ok n (PB g s ch k) ls bs):
  ∃ls' bs' v' z',ql (brE ns f S ls bs (cH s) v (sh (.int M)) (oL ((nmS s).map .str)) (sh (.int (k:Int))) y z)=some (.nx (brE ns f S ls' bs' (cH s) v' (sh (.int M)) (oL ((nmS s).map .str)) (sh (.int (k:Int))) y z'))/\Ok (n+1) (PB g s ch (k+1)) ls' bs' :=by
 have nl:=O.nl;have nb:=O.nb;obtain⟨⟨i,j⟩,e⟩:∃p,(prs s)[k]? =some p:=⟨(prs s)[k],Gal (by lia)⟩
 have c:=rL s hs k (by lia) (by lia);unfold uq at c;rw[e] at c;simp only[Gad,GaN] at c;have t:=JY (ns:=ns) (f:=f) (s:=S) (m:=M) (k:=(k:Int)) (v:=v) (y:=y) (z:=z) (by lia) (by lia) O.il O.ib (GF e) (GD (by lia:i<s)) (GD (by lia:j<s)) (by rw[len_app];rfl) (by rw[len_app];rfl) (by lia) (by lia) (by
  have:=C0 (1+k) (by lia);rw[show(((1+k:Nat):Int))=1+(k:Int) by lia] at this;lia)
 refine⟨_,_,_,_,t, ?_⟩;by_cases yA:k=12
 .subst yA;exact O.bad λd ⟨h,cs,⟨h1,h2,h3,h4,h5,h6,h7⟩,e2⟩=>e2▸JX hg h4 h3 hs (by lia) h1 e
 .have:((k:Int)==12)=false:=by simpa using(by lia:¬(k:Int)=12)
  rw[this];exact O.good λd ⟨h,cs,⟨h1,h2,h3,h4,h5,h6,h7⟩,e2⟩=> ⟨_,⟨"bar",cs,⟨.inr (.inr rfl),λ_=>rfl,h3,h4,h5,by lia,h7⟩,rfl⟩,e2▸JW hg h4 h3 hs (by lia) (by lia) h1 e⟩
variable{nm:Os}
theorem Ci{ns:List Int}{s:Int}{bs:List D}(h3:a7 ls=true)(h4:a7 bs=true):(orW (a8 (retS (vE 7))) (kZ (vE 7)) (brE ns f s ls bs pr v (sh (.int m)) nm x y z)).bind (kc [3,4])=some (.int m,[.lst ls,.lst bs]):=by
 simp[brE,dB,flK,h3,h4]
theorem Fq:∀s<7,(prs s).length=s*(s+1)/2:=by decide+kernel
theorem oT{k:Nat}(h:k<=(prs s).length):(brN s k).length=k:=by simp[brN];lia
def Cj:DW:=ag (orW (a8 (ifS (bc (af eqB (vE 1) (kI 8)) (af gtB (vE 7) (kI 0))) (aC (aH 4 (bw cM (a9 (vE 3) aD))) (aH 3 (ixE (cy (a9 (kS "guest z 1") (a9 (kS "stuff z 1") (a9 (kS "cap ever 1") (a9 (kS "young 1") aD))))) (bO ah (a9 (vE 0) (a9 (kI 31) (a9 (kI 4) aD))))))) az)) (ifW (bc (af eqB (vE 1) (kI 8)) (af gtB (vE 7) (kI 0))) (ag (orW (a8 (aH 4 (bw cM (a9 (vE 3) aD)))) (dD 4 (bw cM (a9 (vE 3) aD)))) (orW (a8 (aH 3 (ixE (cy (a9 (kS "guest z 1") (a9 (kS "stuff z 1") (a9 (kS "cap ever 1") (a9 (kS "young 1") aD))))) (bO ah (a9 (vE 0) (a9 (kI 31) (a9 (kI 4) aD))))))) (dD 3 (ixE (cy (a9 (kS "guest z 1") (a9 (kS "stuff z 1") (a9 (kS "cap ever 1") (a9 (kS "young 1") aD))))) (bO ah (a9 (vE 0) (a9 (kI 31) (a9 (kI 4) aD)))))))) (a8 az))) (orW (a8 (retS (vE 7))) (kZ (vE 7)))
theorem Ck{ns:List Int}{m n:Nat}{bs:List D}{g:List Nm}(hg:a7 (g.map ay)=true)(eM:M=m)(hn:n<500)(O:Ok n (PB g s ch m) ls bs):
  ∃ls' bs',(Cj (brE ns f S ls bs pr v (sh (.int M)) nm x y z)).bind (kc [3,4])=some (.int M,[.lst ls',.lst bs'])/\Ok (n+1) (PB g s ch m) ls' bs' :=by
 have nl:=O.nl;have nb:=O.nb;unfold Cj;by_cases c:f=8/\0<M
 .obtain⟨rfl,c⟩:=c;have hj:=bZ ns 31 4 (by lia);obtain⟨l,hl,hb⟩:=MJ (s:=s) (k:=m) (ch:=ch) hg (by lia) (drw ns 31 4) hj.1 hj.2;refine⟨_,_, ?_,O.bad hb⟩;rw[ax (e' :=brE ns 8 S (ls++[.str l]) (bs++[.int (ls.length:Nat)]) pr v (sh (.int M)) nm x y z) (by
   rw[d8 (b:=true) (by simp[brE,c]),Gak rfl];refine GA (i:=3) (j:=4) (e:=brE ns 8 S ls bs pr v (sh (.int M)) nm x y z) (e' :=brE ns 8 S ls (bs++[.int (ls.length:Nat)]) pr v (sh (.int M)) nm x y z) (k:= .c) (d:= .str l) rfl rfl rfl ?_ rfl (by lia) (by lia) O.il O.ib rfl;simp only[jx] at hl;simp[brE,cc (ns:=ns) (show(0:Int)<=31 by lia) (by lia) (show(0:Int)<4 by lia),hl,aj])]
  exact Ci (by simp[O.il]) (by simp[O.ib])
 .refine⟨ls,bs, ?_,O.mn (by lia) λd h=>h⟩;rw[ax (e' :=brE ns f S ls bs pr v (sh (.int M)) nm x y z) (by
   rw[d8 (b:=false) (by
    refine(gQ (a:=f==8) (b:=decide (0<M)) (by simp[brE]) (by simp[brE])).trans ?_;congr 1
    simpa using c)];rfl)]
  exact Ci O.il O.ib
def JZ:DS:=av 10 (cy (a9 (kS "bar sa z 1") (a9 (kS "bar z sa 1") (a9 (kS "bar sa sa 0") aD))))
def Fs:DS:=aH 10 (kS "bar sb sa 1")
def Ft:DS:=av 10 (opE ai (vE 10) (cy (a9 (kS "bar sa sa 99") (a9 (kS "bar sa sa 1") aD))))
def vX:DE:=ixE (vE 10) (bO ah (a9 (vE 0) (a9 (kI 30) (a9 (bw cM (a9 (vE 10) aD)) aD))))
def K0:DW:=orW (a8 (ifS (bc (af eqB (vE 1) (kI 7)) (af ltB (vE 7) (kI 12))) (aC JZ (aC (ifS (af gtB (vE 2) (kI 1)) Fs az) (aC (ifS (af gtB (vE 7) (kI 0)) Ft az) (aC (aH 4 (aG 3)) (aH 3 vX))))) az)) (ifW (bc (af eqB (vE 1) (kI 7)) (af ltB (vE 7) (kI 12))) (ag (a8 JZ) (ag (orW (a8 (ifS (af gtB (vE 2) (kI 1)) Fs az)) (ifW (af gtB (vE 2) (kI 1)) (orW (a8 Fs) (dD 10 (kS "bar sb sa 1"))) (a8 az))) (ag (orW (a8 (ifS (af gtB (vE 7) (kI 0)) Ft az)) (ifW (af gtB (vE 7) (kI 0)) (a8 Ft) (a8 az))) (ag (orW (a8 (aH 4 (aG 3))) (dD 4 (aG 3))) (orW (a8 (aH 3 vX)) (dD 3 vX)))))) (a8 az))
theorem Fu{ns:List Int}{m n:Nat}{bs:List D}{g:List Nm}(hg:a7 (g.map ay)=true)(eM:M=m)(eS:S=s)(hs:0<s)(hm:m<=13)(hp:m<=(prs s).length)(hn:n<500)(O:Ok n (PB g s ch m) ls bs):
  ∃ls' bs' y,K0 (brE ns f S ls bs pr v (sh (.int M)) nm x none z)=some (.nx (brE ns f S ls' bs' pr v (sh (.int M)) nm x y z))/\Ok (n+1) (PB g s ch m) ls' bs' :=by
 have nl:=O.nl;have nb:=O.nb;unfold K0;by_cases c:f=7/\M<12
 .obtain⟨rfl,c⟩:=c;obtain⟨L,eL⟩:∃L,L=rM (decide (1<s)) (decide (0<m)):=⟨_,rfl⟩
  have hL:3<=L.length/\L.length<=6:=by
   rw[eL,rM];cases decide (1<s)<;>cases decide (0<m)<;>simp
  have hj:=bZ ns 30 L.length (by lia);obtain⟨l,hl,hm⟩:∃l,atD L (drw ns 30 L.length)=some l/\l∈L:=by
   rw[sx hj.1];have:(drw ns 30 L.length).toNat<L.length:=by lia
   exact⟨L[(drw ns 30 L.length).toNat],Gal this,GbO this⟩
  obtain⟨t,rfl,hb⟩:=Fp (ch:=ch) hg hs (eL▸hm) (by rw[oT hp];lia);have b1:(af gtB (vE 2) (kI 1))=(af gtB (vE 2) (kI 1)):=rfl;have T1:∀y,af gtB (vE 2) (kI 1) (brE ns 7 S ls bs pr v (sh (.int M)) nm x y z)=some (decide (1<s)):=λy=>by
   simp[brE];lia
  have T2:∀y,af gtB (vE 7) (kI 0) (brE ns 7 S ls bs pr v (sh (.int M)) nm x y z)=some (decide (0<m)):=λy=>by
   simp[brE];lia
  have e1:∀y,JZ (brE ns 7 S ls bs pr v (sh (.int M)) nm x y z)=some (.nx (brE ns 7 S ls bs pr v (sh (.int M)) nm x (oL [.str "bar sa z 1",.str "bar z sa 1",.str "bar sa sa 0"]) z)):=λy=>rfl;have e2:(ifS (af gtB (vE 2) (kI 1)) Fs az) (brE ns 7 S ls bs pr v (sh (.int M)) nm x (oL [.str "bar sa z 1",.str "bar z sa 1",.str "bar sa sa 0"]) z)=some (.nx (brE ns 7 S ls bs pr v (sh (.int M)) nm x (oL (rM (decide (1<s)) false)) z)):=by
   rw[jb (T1 _)];cases decide (1<s)<;>rfl
  have e3:(ifS (af gtB (vE 7) (kI 0)) Ft az) (brE ns 7 S ls bs pr v (sh (.int M)) nm x (oL (rM (decide (1<s)) false)) z)=some (.nx (brE ns 7 S ls bs pr v (sh (.int M)) nm x (oL L) z)):=by
   rw[jb (T2 _),eL];cases decide (1<s)<;>cases decide (0<m)<;>rfl
  refine⟨_,_,oL L, ?_,O.bad hb⟩;rw[d8 (b:=true) (by simp[brE,c]),Gak rfl,bN,lift_seq (e1 none),lift_seq e2,lift_seq e3,show a8 (aC (aH 4 (aG 3)) (aH 3 vX)) (brE ns 7 S ls bs pr v (sh (.int M)) nm x (oL L) z)=none from rfl];refine(ax (by rw[a8,e1];rfl)).trans ?_;refine(ax (e' :=brE ns 7 S ls bs pr v (sh (.int M)) nm x (oL (rM (decide (1<s)) false)) z) (by rw[bN,a8,e2];rfl)).trans ?_;refine(ax (e' :=brE ns 7 S ls bs pr v (sh (.int M)) nm x (oL L) z) (by rw[bN,a8,e3];rfl)).trans ?_;refine(ax (e' :=brE ns 7 S ls (bs++[.int (ls.length:Nat)]) pr v (sh (.int M)) nm x (oL L) z) (gS (i:=4) (e:=brE ns 7 S ls bs pr v (sh (.int M)) nm x (oL L) z) (p:=aG 3) (k:= .c) rfl rfl (by lia) O.ib rfl)).trans ?_;refine gS (i:=3) (e:=brE ns 7 S ls (bs++[.int (ls.length:Nat)]) pr v (sh (.int M)) nm x (oL L) z) (p:=vX) (k:= .c) (d:= .str t) ?_ rfl (by lia) O.il rfl;have dd:=cc (ns:=ns) (show(0:Int)<=30 by lia) (by lia) (show(0:Int)<(L.length:Int) by lia);simp[vX,brE,dd,hl]
 .refine⟨ls,bs,none, ?_,O.mn (by lia) λd h=>h⟩;rw[d8 (b:=false) (by
   refine(gQ (a:=f==7) (b:=decide (M<12)) (by simp[brE]) (by simp[brE])).trans ?_;congr 1
   simpa using c)]
  rfl
def bTM:DT:=bc (af eqB (vE 1) (kI 6)) (af gtB (aG 5) (kI 12))
def bM:DE:=bw gL (a9 (aG 5) (a9 (bO bg (a9 (vE 0) (a9 (kI 28) (a9 (kI 12) aD)))) aD))
theorem mU:j9=ag (a8 (av 5 (cy aD))) (ag (orW (a8 (dY none (aY (vE 2)) (gN 6) prS)) (dK 6 (vE 2) (a8 prS))) (ag (a8 (av 7 bM)) (ag (orW (a8 (ifS bTM (av 7 (kI 13)) az)) (ifW bTM (a8 (av 7 (kI 13))) (a8 az))) (ag (a8 (av 8 MI)) (ag (orW (a8 (dY none (aY (vE 7)) (gN 9) (aC (ifS (af eqB (vE 9) (kI 12)) (aH 4 (aG 3)) az) (aC (uV (gT [6,11]) (ixE (vE 5) (vE 9))) (aH 3 Fo))))) (dK 9 (vE 7) ql)) (ag K0 Cj)))))):=by kernel_rfl
theorem Fv{ns:List Int}{bs:List D}{n:Nat}{g:List Nm}(hn:n<200)(hg:a7 (g.map ay)=true)(hs:0<s)(zQ:s<7)(eS:S=s)(O:Ok n (PB g s ch 0) ls bs):
  ∃ls' bs',∃m:Nat,∃M:Int,M=m/\m<=13/\m<=(prs s).length/\cU [.scr ns,.int f,.int S,.lst ls,.lst bs]=some (.int M,[.lst ls',.lst bs'])/\Ok (n+15) (PB g s ch m) ls' bs' :=by
 have hp0:0<(prs s).length:=by rw[Fq s zQ];have:1*2<=s*(s+1):=Nat.mul_le_mul hs (by lia);lia
 have hR:(cH s).length=(prs s).length:=by simp[cH]
 obtain⟨p,Qz⟩:∃p:Nat,p=(prs s).length:=⟨_,rfl⟩
 have hml:=iD (ns:=ns) (k:=28) (m:=12) (by lia);obtain⟨q,eq⟩:∃q:Int,q=if many ns 28 12<(p:Int) then many ns 28 12 else(p:Int):=⟨_,rfl⟩
 obtain⟨m,M,eM,hm,hp,em⟩:∃(m:Nat) (M:Int),M=(m:Int)/\m<=13/\m<=p/\M=if(f==6&&decide (12<(p:Int))) then 13 else q:=by
  by_cases c:f=6/\12<(p:Int)
  .exact⟨13,13,rfl,by lia,by lia,by simp[c]⟩
  .refine⟨q.toNat,q, ?_, ?_, ?_, ?_⟩
   .rw[eq];split<;>lia
   .rw[eq];split<;>lia
   .rw[eq];split<;>lia
   .rw[Gam (by simpa using c)]
 obtain⟨v,hv⟩:=Ce ns f ls bs s hs zQ S eS;have hnm:=Cf ns f ls bs (cH s) (sh (.int v)) (sh (.int M)) s hs zQ S eS;have R:∀x y z,(aY (vE 7)) (brE ns f S ls bs (cH s) (sh (.int v)) (sh (.int M)) (oL ((nmS s).map .str)) x y z)=some (b0 0 m):=λx y z=>by
  have:cu M=true:=dv (by lia) (by lia);have t:M.toNat=m:=by lia
  simp[brE,this,t]
 obtain⟨e,h1,h2⟩:=jR (g:=gN 9) (body:=ql) (λi e=>∃ls bs v x z,e=brE ns f S ls bs (cH s) v (sh (.int M)) (oL ((nmS s).map .str)) x none z/\Ok (n+i) (PB g s ch i) ls bs) (b0 0 m) 0 (brE ns f S ls bs (cH s) (sh (.int v)) (sh (.int M)) (oL ((nmS s).map .str)) none none none) ⟨ls,bs,sh (.int v),none,none,rfl,O⟩ λi d e hd he=>by
  obtain⟨ls,bs,v,x,z,rfl,O⟩:=he;obtain⟨hi,rfl⟩:=fv hd;simp only[GaP,GbY] at O⊢;obtain⟨ls',bs',v',z',e1,O'⟩:=Cg (ns:=ns) (f:=f) (S:=S) (M:=M) (v:=v) (y:=none) (z:=z) hg hi hm (by lia) zQ (by lia) O;exact⟨_,_,rfl,e1,_,_,_,_,_,rfl,O'⟩
 obtain⟨eZ,xf,v1,x,z,rfl,O1⟩:=h2;rw[fB,GaP] at O1;obtain⟨Qq,Pf,y,h3,O2⟩:=Fu (ns:=ns) (f:=f) (S:=S) (pr:=cH s) (v:=v1) (nm:=oL ((nmS s).map .str)) (x:=x) (z:=z) hg eM eS hs hm (by lia) (by lia) O1;obtain⟨Pw,Qf,h4,O3⟩:=Ck (ns:=ns) (f:=f) (S:=S) (pr:=cH s) (v:=v1) (nm:=oL ((nmS s).map .str)) (x:=x) (y:=y) (z:=z) hg eM (by lia) O2;refine⟨Pw,Qf,m,M,eM,hm,by lia, ?_,O3.mn (by lia) λd h=>h⟩;unfold cU cW;rw[Gak ⟨rfl,by simp[DL.argsOk,GaU,D.aQ]⟩,show bt [3,4] 12 [.scr ns,.int f,.int S,.lst ls,.lst bs]=[sh (.scr ns),sh (.int f),sh (.int S),lL ls,lL bs,none,none,none,none,none,none,none] from rfl,mU];rw[ax (e' :=brE ns f S ls bs [] none none none none none none) rfl,ax hv];rw[ax (e' :=brE ns f S ls bs (cH s) (sh (.int v)) (sh (.int q)) none none none none) (by
  simp[bM,brE,ja (ns:=ns) (show(0:Int)<=28 by lia) (by lia) (show(0:Int)<=12 by lia),hR,<-Qz,<-eq])]
 rw[ax (e' :=brE ns f S ls bs (cH s) (sh (.int v)) (sh (.int M)) none none none none) (by
  rw[d8 (t:=bTM) (b:=(f==6&&decide (12<(p:Int)))) (gQ (by simp[brE]) (by simp[brE,hR,<-Qz])),em];cases(f==6&&decide (12<(p:Int)))<;>rfl)]
 rw[ax (e' :=brE ns f S ls bs (cH s) (sh (.int v)) (sh (.int M)) (oL ((nmS s).map .str)) none none none) (by rw[a8,av,hnm];rfl)];rw[ax (e' :=brE ns f S eZ xf (cH s) v1 (sh (.int M)) (oL ((nmS s).map .str)) x none z) (by
  rw[<-h1];refine uh (R none none none) λd hd=> ?_;rw[head_range hd];obtain⟨⟨i,j⟩,e⟩:∃p,(prs s)[0]? =some p:=⟨(prs s)[0],Gal (by lia)⟩
  have:=GF e;simp only[Int.ofNat_zero,LL,Int.natCast_zero] at this;simp[brE,this])]
 rw[ax h3];exact h4
def cI(j:Nat):Str:=("order "++("o"++ltr j))++" ga sa"
def rN(j:Nat):Str:=("order o"++ltr j)++" ga sa"
noncomputable def dsV(k:Nat):Int:=if k%2=0 then 2 else 4000
def bh(k:Nat):Str:="dose up 1 1 "++Str.ofString (toString (dsV k))
noncomputable def mI(k:Nat):Str:=("taper "++Str.ofString (toString ((k:Int)+1)))++" 1 2"
def nmO(m:Nat):List Str:=(List.range m).map λk=>"o"++ltr k
theorem uu:∀j<13,(Txt.split (cI j) " "==[("order":Str),"o"++ltr j,"ga","sa"]&&(decide ((cI j).length<1000)&&(Txt.split (rN j) " "==[("order":Str),"o"++ltr j,"ga","sa"]&&(decide ((rN j).length<1000)))))=true:=by decide+kernel
theorem MK:∀i<13,aP (plN (nmO i) ("o"++ltr i))=true:=by decide+kernel
theorem ML:∀i<13,∀j<i,aP (plN (nmO i) ("o"++ltr j))=false:=by decide+kernel
theorem K1:∀i<13,Ff (bA [.str ("o"++ltr i)])=true:=by decide+kernel
theorem rO(i:Nat)(h:i<13):bA [.str ("o"++ltr i)]=some (.bl true):=uf (K1 i h)
theorem K2:∀m,m<6->Txt.split (mI m) " "=[("taper":Str),Str.ofString (toString ((m:Int)+1)),"1","2"]/\(mI m).length<1000/\aq [.lst [.str (Str.ofString (toString ((m:Int)+1))),.str "1",.str "2"],.tup [.int ((m:Int)+1),.int 1,.int 1]]=some (.lst [.int ((m:Int)+1),.int 1,.int 2])
 |0,_=> ⟨by kernel_rfl,by decide+kernel,by kernel_rfl⟩
 |1,_=> ⟨by kernel_rfl,by decide+kernel,by kernel_rfl⟩
 |2,_=> ⟨by kernel_rfl,by decide+kernel,by kernel_rfl⟩
 |3,_=> ⟨by kernel_rfl,by decide+kernel,by kernel_rfl⟩
 |4,_=> ⟨by kernel_rfl,by decide+kernel,by kernel_rfl⟩
 |5,_=> ⟨by kernel_rfl,by decide+kernel,by kernel_rfl⟩
structure Bs(gs ec:List Nm)(b:List D):Prop where
 g:a7 (gs.map ay)=true
 s:a7 (ec.map ay)=true
 b:a7 b=true
 ga:plD gs "ga"= .int 0
 sa:plD ec "sa"= .int 0
 sz:∃x tp s,ec.map ay= .tup (x:: .tup [.int 2,.int 4]::tp)::s
 gn:aP (plD gs "sa")=true/\aP (plD gs "z")=true
 sn:aP (plD ec "ga")=true/\aP (plD ec "z")=true
section
variable{gs ec os:List Nm}{b o:List D}{h n:Str}{r a t:D}{k m:Nat}
def OD(gs ec:List Nm)(b o:List D)(h n:Str)(r a t:D):D:=dr h (gs.map ay) (ec.map ay) b (o++[.tup [.str n,.int 0,.int 0,r,a,t]])
theorem Bs.F(B:Bs gs ec b)(ho:a7 o=true)(hr:r.imm=true)(ha:a.imm=true)(ht:t.imm=true):Fl (gs.map ay) (ec.map ay) b (o++[.tup [.str n,.int 0,.int 0,r,a,t]]):=⟨B.g,B.s,B.b,by simp[ho,hr,ha,ht]⟩
theorem Cm(B:Bs gs ec b)(ho:a7 (os.map ay)=true)(hk:os.length=k)(yW:k<12)(hn:os.map (·.1)=nmO k)(hh:nxt h "order"=true):Tk (dr h (gs.map ay) (ec.map ay) b (os.map ay)) (cI k) (OD gs ec b (os.map ay) "order" ("o"++ltr k) (.tup []) (.tup []) (.tup [])):=by
 have s:=uu k (by lia);simp only[Gad,Gay,GaN] at s;have F:Fl (gs.map ay) (ec.map ay) b (os.map ay):=⟨B.g,B.s,B.b,ho⟩
 have F' :=B.F (n:="o"++ltr k) (r:= .tup []) (a:= .tup []) (t:= .tup []) ho rfl rfl rfl;exact⟨d7 F s.1 s.2.1 hh (k:="order") rfl (BL (h:="order") F (rO k (by lia)) (by rw[C8,hn];exact MK k (by lia)) (by lia) B.ga B.sa) F'.k,F'.k⟩
variable{l:Str}
theorem gq(B:Bs gs ec b)(ho:a7 (os.map ay)=true){u v:Str}{q:Bool}(hs:Txt.split l " "=[("order":Str),n,u,v])(hz:l.length<1000)(hn:bA [.str n]=some (.bl q))(hc:os.length=12\/q=false\/aP (plD os n)=false\/aP (plD gs u)=true\/aP (plD ec v)=true)(hh:nxt h "order"=true):Bd (dr h (gs.map ay) (ec.map ay) b (os.map ay)) l:=by
 have F:Fl (gs.map ay) (ec.map ay) b (os.map ay):=⟨B.g,B.s,B.b,ho⟩
 exact⟨_,d7 F hs hz hh (k:="order") rfl (BM (h:="order") F hn hc) F.k,F.k⟩
theorem Fw(B:Bs gs ec b)(ho:a7 o=true)(ha:a.imm=true)(hr:r.imm=true)(ht:t.imm=true):Tk (OD gs ec b o "order" n r a t) (bh k) (OD gs ec b o "dose" n (.tup [.str "up",.int 1,.int 1,.int (dsV k)]) a t):=by
 obtain⟨x,tp,s,e⟩:=B.sz;have F:=B.F (n:=n) ho hr ha ht;have F' :=B.F (n:=n) (r:= .tup [.str "up",.int 1,.int 1,.int (dsV k)]) ho rfl ha ht;refine⟨?_,F'.k⟩;unfold OD;have F2:=F'.k (h:="dose");rw[e] at F F2⊢;unfold bh;rcases(by unfold dsV;split<;>simp:dsV k=2\/dsV k=4000) with e2|e2<;>rw[e2] at F2⊢
 .exact d7 F (ws:=["up","1","1","2"]) (by kernel_rfl) (by decide+kernel) (by rfl) (k:="dose") rfl (ub (h:="dose") F (ws:=[.str "1",.str "1",.str "2"]) (i:=1) (j:=1) (k:=2) (by kernel_rfl) rfl (by lia)) F2
 .exact d7 F (ws:=["up","1","1","4000"]) (by kernel_rfl) (by decide+kernel) (by rfl) (k:="dose") rfl (ub (h:="dose") F (ws:=[.str "1",.str "1",.str "4000"]) (i:=1) (j:=1) (k:=4000) (by kernel_rfl) rfl (by lia)) F2
theorem qm(B:Bs gs ec b)(ho:a7 o=true)(hr:r.imm=true)(ha:a.imm=true)(ht:t.imm=true):Tk (OD gs ec b o "dose" n r a t) "asked 5" (OD gs ec b o "asked" n r (.tup [.str "asked",.int 5]) t):=by
 have F:=B.F (n:=n) ho hr ha ht;have F' :=B.F (n:=n) (a:= .tup [.str "asked",.int 5]) ho hr rfl ht;exact⟨d7 F (ws:=["5"]) (by kernel_rfl) (by decide) (by rfl) (k:="asked") rfl (BN (h:="asked") F (ws:=[.str "5"]) (i:=5) (by kernel_rfl) rfl) F'.k,F'.k⟩
theorem K3(B:Bs gs ec b)(ho:a7 o=true)(hr:r.imm=true)(ha:a.imm=true)(ht:t.imm=true):Tk (OD gs ec b o "dose" n r a t) "due 5 3 2 1 1" (OD gs ec b o "due" n r (.tup [.str "due",.int 5,.int 3,.int 2,.int 1,.int 1]) t):=by
 have F:=B.F (n:=n) ho hr ha ht;have F' :=B.F (n:=n) (a:= .tup [.str "due",.int 5,.int 3,.int 2,.int 1,.int 1]) ho hr rfl ht;exact⟨d7 F (ws:=["5","3","2","1","1"]) (by kernel_rfl) (by decide) (by rfl) (k:="due") rfl (BO (h:="due") F (ws:=[.str "5",.str "3",.str "2",.str "1",.str "1"]) (i1:=5) (i2:=3) (i3:=2) (i4:=1) (i5:=1) (by kernel_rfl) rfl (by lia)) F'.k,F'.k⟩
noncomputable def kq:D:= .tup [.str "due",.int 5,.int 4,.int 8,.int 1,.int 2]
theorem Fx(B:Bs gs ec b)(ho:a7 o=true)(hr:r.imm=true)(ha:a.imm=true)(ht:t.imm=true):Tk (OD gs ec b o "dose" n r a t) "due 5 4 8 1 2" (OD gs ec b o "due" n r kq t):=by
 have F:=B.F (n:=n) ho hr ha ht;have F' :=B.F (n:=n) (a:=kq) ho hr rfl ht;exact⟨d7 F (ws:=["5","4","8","1","2"]) (by kernel_rfl) (by decide) (by rfl) (k:="due") rfl (BO (h:="due") F (ws:=[.str "5",.str "4",.str "8",.str "1",.str "2"]) (i1:=5) (i2:=4) (i3:=8) (i4:=1) (i5:=2) (by kernel_rfl) rfl (by lia)) F'.k,F'.k⟩
theorem Co(B:Bs gs ec b)(ho:a7 o=true)(hr:r.imm=true)(hh:h="due"\/h="taper")(hm:m<6):Tk (OD gs ec b o h n r kq (.tup (cX m))) (mI m) (OD gs ec b o "taper" n r kq (.tup (cX (m+1)))):=by
 have F:=B.F (n:=n) (a:=kq) (t:= .tup (cX m)) ho hr rfl (kT m);have F' :=B.F (n:=n) (a:=kq) (t:= .tup (cX (m+1))) ho hr rfl (kT (m+1));obtain⟨s1,s2,s3⟩:=K2 m hm;exact⟨d7 F s1 s2 (by rcases hh with rfl|rfl<;>rfl) (k:="taper") rfl (BP (h:="taper") F s3 rfl hm) F'.k,F'.k⟩
theorem Fy(B:Bs gs ec b)(ho:a7 o=true)(hr:r.imm=true)(ha:a.imm=true)(ht:t.imm=true){w:Str}{ws:List Str}(hs:Txt.split l " "=w::ws)(hz:l.length<1000)(hk:known h=true)(hn:nxt h w=false):Bd (OD gs ec b o h n r a t) l:=by
 have F:=B.F (n:=n) ho hr ha ht;exact⟨_,fU F hs hz hk hn,F.k⟩
end
noncomputable def uL:Nat->List Str
 |0=>["dose up 1 1 1","dose up 1 1 4001","dose up 1 1 2 2","due 5 3 2 1 1","asked 1","order z ga sa","stuff z 1","cap ever 1","young 1"]
 |1=>["dose up 1 1 2","taper 1 1 1","due 1 3 2 2 0","due 5 3 2 2 1","order z ga sa","young 3","stuff z 1","cap ever 1","young 1"]
 |_=>["dose up 1 1 2","asked 4","taper 9 1 2","taper 0 1 1","taper 1 3 2","bar sa sa 4","guest z 1","stuff z 1","cap ever 1","young 1"]
def Cp(h l:Str):Bool:=match Txt.split l " " with
 |w::_=> !nxt h w&&decide (l.length<1000)
 |[]=>false
section
variable{gs ec:List Nm}{b o:List D}{h n:Str}{r a t:D}{m:Nat}
variable{l:Str}
theorem oU(B:Bs gs ec b)(ho:a7 o=true)(hr:r.imm=true)(ha:a.imm=true)(ht:t.imm=true)(hk:known h=true)(hb:Cp h l=true):Bd (OD gs ec b o h n r a t) l:=by
 unfold Cp at hb;cases e:Txt.split l " " with
 |nil=>rw[e] at hb;cases hb
 |cons w ws=>
  rw[e] at hb;simp only[Gad,GbI,GaN] at hb;exact Fy B ho hr ha ht e hb.2 hk hb.1
variable{N:D}{ws:List Str}
theorem oV(B:Bs gs ec b)(ho:a7 o=true)(ha:a.imm=true)(hr:r.imm=true)(ht:t.imm=true)(hs:Txt.split l " "=("dose":Str)::"up"::ws)(hz:l.length<1000)(hN:aq [.lst (ws.map D.str),.tup [.int 1,.int 0,.int 2]]=some N)(hk:N= .non\/∃i j k,N= .lst [.int i,.int j,.int k]/\4000<k):Bd (OD gs ec b o "order" n r a t) l:=by
 obtain⟨x,tp,s,e⟩:=B.sz;have F:=B.F (n:=n) ho hr ha ht;have F2:=F.k (h:="dose");refine⟨OD gs ec b o "dose" n r a t, ?_,F2⟩;unfold OD;rw[e] at F F2⊢;exact d7 F hs hz (by rfl) (k:="dose") rfl (F7 (h:="dose") F hN (dE ws) hk) F2
theorem Cq(B:Bs gs ec b)(ho:a7 o=true)(ha:a.imm=true)(hr:r.imm=true)(ht:t.imm=true)(hs:Txt.split l " "=("due":Str)::ws)(hz:l.length<1000){i1 i2 i3 i4 i5:Int}(hN:aq [.lst (ws.map D.str),.tup [.int 0,.int 1,.int 1,.int 0,.int 0]]=some (.lst [.int i1,.int i2,.int i3,.int i4,.int i5]))(c1:¬60<i3)(hc:i2<=i4+i5\/i1<i4):Bd (OD gs ec b o "dose" n r a t) l:=by
 have F:=B.F (n:=n) ho hr ha ht;exact⟨_,d7 F hs hz (by rfl) (k:="due") rfl (JM (h:="due") F hN (dE ws) c1 hc) F.k,F.k⟩
theorem iu(B:Bs gs ec b)(ho:a7 o=true)(hr:r.imm=true)(hh:h="due"\/h="taper")(hs:Txt.split l " "=("taper":Str)::ws)(hz:l.length<1000)(hN:aq [.lst (ws.map D.str),.tup [.int ((m:Int)+1),.int 1,.int 1]]=some N)(hm:m=6\/N= .non\/∃i j k,N= .lst [.int i,.int j,.int k]/\(8<=i\/k<j)):Bd (OD gs ec b o h n r kq (.tup (cX m))) l:=by
 have F:=B.F (n:=n) (a:=kq) (t:= .tup (cX m)) ho hr rfl (kT m);exact⟨_,d7 F hs hz (by rcases hh with rfl|rfl<;>rfl) (k:="taper") rfl (BQ (h:="taper") F hN (dE ws) hm) F.k,F.k⟩
theorem un0(B:Bs gs ec b)(ho:a7 o=true):∀l∈uL 0,Bd (OD gs ec b o "order" n (.tup []) (.tup []) (.tup [])) l:=by
 intro l hl;have q:Cp "order" l=true->Bd (OD gs ec b o "order" n (.tup []) (.tup []) (.tup [])) l:=oU B ho rfl rfl rfl rfl;simp only[uL,Gan,Gaz,GaX] at hl;rcases hl with rfl|rfl|rfl|rfl|rfl|rfl|rfl|rfl|rfl
 .exact oV B ho rfl rfl rfl (ws:=["1","1","1"]) (N:= .non) (by kernel_rfl) (by decide) (by kernel_rfl) (.inl rfl)
 .exact oV B ho rfl rfl rfl (ws:=["1","1","4001"]) (N:= .lst [.int 1,.int 1,.int 4001]) (by kernel_rfl) (by decide) (by kernel_rfl) (.inr ⟨1,1,4001,rfl,by lia⟩)
 .exact oV B ho rfl rfl rfl (ws:=["1","1","2","2"]) (N:= .non) (by kernel_rfl) (by decide) (by kernel_rfl) (.inl rfl)
 all_goals exact q (by decide+kernel)
theorem un1(B:Bs gs ec b)(ho:a7 o=true)(hr:r.imm=true):∀l∈uL 1,Bd (OD gs ec b o "dose" n r (.tup []) (.tup [])) l:=by
 intro l hl;have q:Cp "dose" l=true->Bd (OD gs ec b o "dose" n r (.tup []) (.tup [])) l:=oU B ho hr rfl rfl rfl;simp only[uL,Gan,Gaz,GaX] at hl;rcases hl with rfl|rfl|rfl|rfl|rfl|rfl|rfl|rfl|rfl
 .exact q (by decide+kernel)
 .exact q (by decide+kernel)
 .exact Cq B ho rfl hr rfl (ws:=["1","3","2","2","0"]) (by kernel_rfl) (by decide) (i1:=1) (i2:=3) (i3:=2) (i4:=2) (i5:=0) (by kernel_rfl) (by lia) (by lia)
 .exact Cq B ho rfl hr rfl (ws:=["5","3","2","2","1"]) (by kernel_rfl) (by decide) (i1:=5) (i2:=3) (i3:=2) (i4:=2) (i5:=1) (by kernel_rfl) (by lia) (by lia)
 all_goals exact q (by decide+kernel)
theorem un2(B:Bs gs ec b)(ho:a7 o=true)(hr:r.imm=true):∀l∈uL 2,Bd (OD gs ec b o "due" n r kq (.tup [])) l:=by
 intro l hl;have q:Cp "due" l=true->Bd (OD gs ec b o "due" n r kq (.tup [])) l:=oU B ho hr rfl rfl rfl;simp only[uL,Gan,Gaz,GaX] at hl;rcases hl with rfl|rfl|rfl|rfl|rfl|rfl|rfl|rfl|rfl|rfl
 .exact q (by decide+kernel)
 .exact q (by decide+kernel)
 .exact iu (m:=0) B ho hr (.inl rfl) (ws:=["9","1","2"]) (N:= .lst [.int 9,.int 1,.int 2]) (by kernel_rfl) (by decide) (by kernel_rfl) (.inr (.inr ⟨_,_,_,rfl,by lia⟩))
 .exact iu (m:=0) B ho hr (.inl rfl) (ws:=["0","1","1"]) (N:= .non) (by kernel_rfl) (by decide) (by kernel_rfl) (.inr (.inl rfl))
 .exact iu (m:=0) B ho hr (.inl rfl) (ws:=["1","3","2"]) (N:= .lst [.int 1,.int 3,.int 2]) (by kernel_rfl) (by decide) (by kernel_rfl) (.inr (.inr ⟨_,_,_,rfl,by lia⟩))
 all_goals exact q (by decide+kernel)
end
theorem Cr{ns:List Int}{p:Nat}(hp:p<3):∃l∈uL p,fP [.scr ns,.int (p:Int)]=some (.str l):=by
 obtain⟨L,eL⟩:∃L,L=(uL p).map D.str:=⟨_,rfl⟩
 have hL:0<L.length:=by
  rw[eL];rcases(by lia:p=0\/p=1\/p=2) with rfl|rfl|rfl<;>decide
 have hj:=bZ ns 33 L.length (by lia);obtain⟨l,hm,hl⟩:∃l∈uL p,atD L (drw ns 33 L.length)=some (.str l):=by
  rw[sx hj.1];have h:(drw ns 33 L.length).toNat<L.length:=by lia
  rw[Gal h];subst eL;refine⟨(uL p)[(drw ns 33 ((uL p).map D.str).length).toNat]'(by simpa using h),GbO _,by simp⟩
 refine⟨l,hm, ?_⟩;have dd:=cc (ns:=ns) (show(0:Int)<=33 by lia) (by lia) (show(0:Int)<(L.length:Int) by lia);have e:fN [sh (.scr ns),sh (.int (p:Int)),none,none,none,none]=retS (ixE (vE 5) (bO ah (a9 (vE 0) (a9 (kI 33) (a9 (bw cM (a9 (vE 5) aD)) aD))))) [sh (.scr ns),sh (.int (p:Int)),oL (((uL 0).take 6).map D.str),oL (((uL 1).take 6).map D.str),oL (((uL 2).take 7).map D.str),oL L]:=by
  subst eL;rcases(by lia:p=0\/p=1\/p=2) with rfl|rfl|rfl<;>kernel_rfl
 show Option.bind (fN [sh (.scr ns),sh (.int (p:Int)),none,none,none,none]) _=_;rw[e];simp[dd,hl]
def tpL(t:Nat):List D:=(List.range t).map λk=> .str (mI k)
theorem GG(t:Nat):tpL (t+1)=tpL t++[.str (mI t)]:=by simp[tpL,GaU]
theorem Cs(t:Nat):(tpL t).length=t:=by simp[tpL]
theorem Ct(t:Nat):a7 (tpL t)=true:=by
 induction t with
 |zero=>rfl
 |succ t ih=>rw[GG,fS,ih];rfl
structure Cx(hl:Str)(A:D)(gs ec:List Nm)(b o:List D)(n:Str):Prop where
 B:Bs gs ec b
 oi:a7 o=true
 t:Tk A hl (OD gs ec b o "order" n (.tup []) (.tup []) (.tup []))
def ruD(k:Nat):D:= .tup [.str "up",.int 1,.int 1,.int (dsV k)]
noncomputable def hT(t:Nat):Str:=if t=0 then "due" else "taper"
theorem qo(t:Nat):hT t="due"\/hT t="taper":=by unfold hT;split<;>simp
section
variable{hl n:Str}{A:D}{gs ec:List Nm}{b o:List D}{k t:Nat}
theorem Cx.g2(C:Cx hl A gs ec b o n):Goes A [.str hl,.str (bh k)] (OD gs ec b o "dose" n (ruD k) (.tup []) (.tup [])):= .cons C.t (.cons (Fw C.B C.oi rfl rfl rfl) (.nil _))
theorem Cx.g3(C:Cx hl A gs ec b o n):∀t,t<=6->Goes A ([.str hl,.str (bh k),.str "due 5 4 8 1 2"]++tpL t) (OD gs ec b o (hT t) n (ruD k) kq (.tup (cX t)))
 |0,_=>C.g2.sn (Fx C.B C.oi rfl rfl rfl)
 |t+1,h=>by
  rw[GG,<-GcB];have:=(C.g3 t (by lia)).sn (Co C.B C.oi rfl (qo t) (by lia));exact this
end
def K4(hl:Str)(k t:Nat)(rws ob:List D):Prop:=(ob=[]/\∀A gs ec b o n,Cx hl A gs ec b o n->Goes A rws (OD gs ec b o (hT t) n (ruD k) kq (.tup (cX t))))\/∃pre l rest,rws=pre++ .str l::rest/\ob=[.int (pre.length:Nat)]/\∀A gs ec b o n,Cx hl A gs ec b o n->∃d',Goes A pre d' /\Bd d' l
def oE(ns:List Int)(f:Int)(r:List D)(T p:Int)(ob:List D):DL.Env:=[sh (.scr ns),sh (.int f),oL r,sh (.int T),sh (.int p),oL ob]
def Cu:DE:=opE ai (opE ai (vE 2) (cy (a9 (kS "due 5 4 8 1 2") aD))) (bC none 1 [] (aY (vE 3)) (gN 0) bD (opE ai (opE ai (kS "taper ") (bw gc (a9 (opE ai (vE 0) (kI 1)) aD))) (kS " 1 2")))
theorem Fz(ns:List Int)(f p:Int)(h d:Str):∀t:Nat,t<=6->∀T:Int,T=t->Cu [sh (.scr ns),sh (.int f),sh (.lst [.str h,.str d]),sh (.int T),sh (.int p),oL []]=some ⟨.tn,.lst ([.str h,.str d,.str "due 5 4 8 1 2"]++tpL t)⟩
 |0,_,_,rfl=>by kernel_rfl
 |1,_,_,rfl=>by kernel_rfl
 |2,_,_,rfl=>by kernel_rfl
 |3,_,_,rfl=>by kernel_rfl
 |4,_,_,rfl=>by kernel_rfl
 |5,_,_,rfl=>by kernel_rfl
 |6,_,_,rfl=>by kernel_rfl
 |n+7,h,_,_=>absurd h (by lia)
def o12:DS:=ifS (af eqB (vE 1) (kI 12)) (aC (aH 5 (opE ai (vE 4) (kI 1))) (E5 2 (opE ai (vE 4) (kI 1)) (bO fP (a9 (vE 0) (a9 (vE 4) aD))))) az
def o13:DS:=ifS (af eqB (vE 1) (kI 13)) (aC (av 2 (opE ai (slE (vE 2) noO (fG (kI 2))) (cy (a9 (kS "asked 5") (a9 (kS "taper 1 1 2") aD))))) (aH 5 (kI 3))) az
def o14:DS:=ifS (bc (af eqB (vE 1) (kI 14)) (af gtB (vE 3) (kI 0))) (aC (aH 5 (aG 2)) (aH 2 (ixE (cy (a9 (opE ai (opE ai (kS "taper ") (bw gc (a9 (vE 3) aD))) (kS " 1 2")) (a9 (kS "taper 8 1 2") (a9 (kS "taper 1 1 2") aD)))) (bO ah (a9 (vE 0) (a9 (kI 43) (a9 (kI 3) aD))))))) az
def o15:DS:=ifS (bc (af eqB (vE 1) (kI 15)) (af eqB (vE 3) (kI 6))) (aC (aH 5 (aG 2)) (aH 2 (kS "taper 7 1 2"))) az
def Cv:DS:=l8 (retS (gW (a9 (vE 2) (a9 (vE 5) aD)))) (jG 2 5)
theorem Cw:dH=aC (av 4 (bO ah (a9 (vE 0) (a9 (kI 42) (a9 (kI 3) aD))))) (aC (av 5 (cy aD)) (aC (av 2 Cu) (aC o12 (aC o13 (aC o14 (aC o15 Cv)))))):=by kernel_rfl
variable{ob:List D}{T:Int}
theorem mJ{ns:List Int}{p:Int}{r:List D}(h1:a7 r=true)(h2:a7 ob=true):Cv (oE ns f r T p ob)=some (.ret (.tup [.lst r,.lst ob])):=by
 simp[Cv,l8,oE,jG,RV.free,h1,h2]
variable{t:DT}
theorem lC{f:DS}{e:DL.Env}(h:t e=some false):ifS t f az e=some (.nx e):=by simp[h]
section
variable{ns:List Int}{f T p:Int}{r ob:List D}
theorem n12(h:f≠12):o12 (oE ns f r T p ob)=some (.nx (oE ns f r T p ob)):=lC (by simp[oE,h])
theorem n13(h:f≠13):o13 (oE ns f r T p ob)=some (.nx (oE ns f r T p ob)):=lC (by simp[oE,h])
theorem n14(h:¬(f=14/\0<T)):o14 (oE ns f r T p ob)=some (.nx (oE ns f r T p ob)):=lC ((gQ (a:=f==14) (b:=decide (0<T)) (by simp[oE]) (by simp[oE])).trans (by congr 1;simpa using h))
theorem n15(h:¬(f=15/\T=6)):o15 (oE ns f r T p ob)=some (.nx (oE ns f r T p ob)):=lC ((gQ (a:=f==15) (b:=T==6) (by simp[oE]) (by simp[oE])).trans (by congr 1;simpa using h))
end
def tpB(t:Nat)(l:Str):Bool:=match Txt.split l " " with
 |a::ws=>a=="taper"&&(decide (l.length<1000)&&match aq [.lst (ws.map D.str),.tup [.int ((t:Int)+1),.int 1,.int 1]] with
  |some .non=>true
  |some (.lst [.int i,.int j,.int k])=>decide (t=6\/8<=i\/k<j)
  |_=>false)
 |_=>false
variable{hl:Str}
theorem K5{n:Str}{A:D}{gs ec:List Nm}{b:List D}{k t:Nat}(hb:tpB t l=true)(ht:t<=6)(C:Cx hl A gs ec b o n):∃d',Goes A ([.str hl,.str (bh k),.str "due 5 4 8 1 2"]++tpL t) d' /\Bd d' l:=by
 refine⟨_,C.g3 t ht, ?_⟩;unfold tpB at hb;split at hb
 .rename_i a ws e;simp only[Gad,Gay,GaN] at hb;obtain⟨rfl,h2,h3⟩:=hb;split at h3
  .rename_i e2;exact iu C.B C.oi rfl (qo t) e h2 e2 (.inr (.inl rfl))
  .rename_i i j k e2;exact iu C.B C.oi rfl (qo t) e h2 e2 (by
    have h3:=GaB h3;exact h3.imp id λh=> .inr ⟨i,j,k,rfl,h⟩)
  .cases h3
 .cases hb
noncomputable def tpA(t:Nat):Str:=("taper "++Str.ofString (toString (t:Int)))++" 1 2"
theorem uw:∀t<7,0<t->(tpB t (tpA t)&&(tpB t "taper 8 1 2"&&(tpB t "taper 1 1 2"&&(decide (t<6)||tpB t "taper 7 1 2"))))=true:=by decide+kernel
theorem K6{ns:List Int}{k t:Nat}(ht:t<=6)(eT:T=t)(h0:f=12\/f=13->t=0):∃rws ob,aS [.scr ns,.int f,.lst [.str hl,.str (bh k)],.int T]=some (.tup [.lst (.str hl::rws),.lst ob])/\rws.length<=12/\ob.length<=1/\a7 rws=true/\(∀d∈ob,∃i:Int,d= .int i)/\K4 hl k t (.str hl::rws) ob:=by
 have hp:=bZ ns 42 3 (by lia);have dd:=cc (ns:=ns) (show(0:Int)<=42 by lia) (by lia) (show(0:Int)<3 by lia);obtain⟨p,ep⟩:∃p,p=drw ns 42 3:=⟨_,rfl⟩
 rw[<-ep] at hp dd;obtain⟨R0,eR⟩:∃R0,R0=[.str hl,.str (bh k),.str "due 5 4 8 1 2"]++tpL t:=⟨_,rfl⟩
 have iR:a7 R0=true:=by rw[eR,fS,Ct];rfl
 have lR:R0.length=3+t:=by rw[eR,GaJ,Cs];rfl
 have start:∀g,(aC (av 4 (bO ah (a9 (vE 0) (a9 (kI 42) (a9 (kI 3) aD))))) (aC (av 5 (cy aD)) (aC (av 2 Cu) g))) [sh (.scr ns),sh (.int f),sh (.lst [.str hl,.str (bh k)]),sh (.int T),none,none]=g (oE ns f R0 T p []):=λg=>by
  rw[aO (e' :=[sh (.scr ns),sh (.int f),sh (.lst [.str hl,.str (bh k)]),sh (.int T),sh (.int p),none]) (by simp[dd]),aO (e' :=[sh (.scr ns),sh (.int f),sh (.lst [.str hl,.str (bh k)]),sh (.int T),sh (.int p),oL []]) rfl];rw[aO (e' :=oE ns f R0 T p []) (by rw[av,Fz ns f p hl (bh k) t ht T eT,eR];rfl)]
 have call:∀r ob,aC o12 (aC o13 (aC o14 (aC o15 Cv))) (oE ns f R0 T p [])=some (.ret (.tup [.lst r,.lst ob]))->aS [.scr ns,.int f,.lst [.str hl,.str (bh k)],.int T]=some (.tup [.lst r,.lst ob]):=λr ob h=>by
  unfold aS;rw[Cw];show Option.bind (aC _ _ [sh (.scr ns),sh (.int f),sh (.lst [.str hl,.str (bh k)]),sh (.int T),none,none]) _=_;rw[start,h]
  rfl
 by_cases f12:f=12
 .obtain rfl:=h0 (.inl f12);obtain⟨q,hq,eq⟩:∃q:Nat,q<3/\p=q:=⟨p.toNat,by lia,by lia⟩
  obtain⟨u,hu,un⟩:=Cr (ns:=ns) hq;rw[<-eq] at un;have QP:cu (p+1)=true:=dv (by lia) (by lia);have e:=call (g9 R0 (p+1) (.str u)) [.int (p+1)] (by
   rw[aO (e' :=oE ns f (g9 R0 (p+1) (.str u)) T p [.int (p+1)]) (by
    subst f12;rw[o12,jb (b:=true) rfl,Gak rfl,aO (e' :=oE ns 12 R0 T p [.int (p+1)]) (by simp[oE,aj])];simp[oE,un,QP,lR,aj]),aO (n13 (by lia)),aO (n14 (by lia)),aO (n15 (by lia))]
   refine mJ ?_ rfl;rw[eR,eq];rcases(by lia:q=0\/q=1\/q=2) with rfl|rfl|rfl<;>rfl)
  rw[e,eR,eq];rcases(by lia:q=0\/q=1\/q=2) with rfl|rfl|rfl
  .exact⟨[.str u,.str (bh k),.str "due 5 4 8 1 2"],[.int 1],rfl,by simp,by simp,rfl,(λd hd=> ⟨1,by simpa using hd⟩),.inr ⟨[.str hl],u,_,rfl,rfl,λA gs ec b o n C=> ⟨_,.cons C.t (.nil _),un0 C.B C.oi u hu⟩⟩⟩
  .exact⟨[.str (bh k),.str u,.str "due 5 4 8 1 2"],[.int 2],rfl,by simp,by simp,rfl,(λd hd=> ⟨2,by simpa using hd⟩),.inr ⟨[.str hl,.str (bh k)],u,_,rfl,rfl,λA gs ec b o n C=> ⟨_,C.g2,un1 C.B C.oi rfl u hu⟩⟩⟩
  .exact⟨[.str (bh k),.str "due 5 4 8 1 2",.str u],[.int 3],rfl,by simp,by simp,rfl,(λd hd=> ⟨3,by simpa using hd⟩),.inr ⟨[.str hl,.str (bh k),.str "due 5 4 8 1 2"],u,[],rfl,rfl,λA gs ec b o n C=> ⟨_,C.g3 0 (by lia),un2 C.B C.oi rfl u hu⟩⟩⟩
 by_cases f13:f=13
 .obtain rfl:=h0 (.inr f13);have e:=call [.str hl,.str (bh k),.str "asked 5",.str "taper 1 1 2"] [.int 3] (by
   rw[aO (n12 f12),aO (e' :=oE ns f [.str hl,.str (bh k),.str "asked 5",.str "taper 1 1 2"] T p [.int 3]) (by subst f13;rw[eR];rfl),aO (n14 (by lia)),aO (n15 (by lia))];exact mJ rfl rfl)
  exact⟨_,_,e,by simp,by simp,rfl,(λd hd=> ⟨3,by simpa using hd⟩),.inr ⟨[.str hl,.str (bh k),.str "asked 5"],"taper 1 1 2",[],rfl,rfl,λA gs ec b o n C=> ⟨_,C.g2.sn (qm C.B C.oi rfl rfl rfl),oU C.B C.oi rfl rfl rfl rfl (by decide+kernel)⟩⟩⟩
 have last:∀l:Str,tpB t l=true->aC o12 (aC o13 (aC o14 (aC o15 Cv))) (oE ns f R0 T p [])=some (.ret (.tup [.lst (R0++[.str l]),.lst [.int (R0.length:Nat)]]))->∃rws ob,aS [.scr ns,.int f,.lst [.str hl,.str (bh k)],.int T]=some (.tup [.lst (.str hl::rws),.lst ob])/\rws.length<=12/\ob.length<=1/\a7 rws=true/\(∀d∈ob,∃i:Int,d= .int i)/\K4 hl k t (.str hl::rws) ob:=λl hb e=>by
  refine⟨[.str (bh k),.str "due 5 4 8 1 2"]++tpL t++[.str l],[.int (R0.length:Nat)],(call _ _ e).trans (by rw[eR];rfl),by simp[Cs];lia,by simp,by simp[Ct],(λd hd=> ⟨_,by simpa using hd⟩),.inr ⟨R0,l,[],by rw[eR];rfl,rfl,λA gs ec b o n C=> ?_⟩⟩;rw[eR];exact K5 hb ht C
 by_cases zA:f=14/\0<T
 .obtain⟨zA,hT⟩:=zA;have hj:=bZ ns 43 3 (by lia);have dj:=cc (ns:=ns) (show(0:Int)<=43 by lia) (by lia) (show(0:Int)<3 by lia);have tp:=uw t (by lia) (by lia);simp only[Gad] at tp;obtain⟨l,hl,hb⟩:∃l:Str,atD ([.str (tpA t),.str "taper 8 1 2",.str "taper 1 1 2"]:List D) (drw ns 43 3)=some (D.str l)/\tpB t l=true:=by
   generalize drw ns 43 3=q at hj;rcases(by lia:q=0\/q=1\/q=2) with rfl|rfl|rfl
   .exact⟨_,rfl,tp.1⟩
   .exact⟨_,rfl,tp.2.1⟩
   .exact⟨_,rfl,tp.2.2.1⟩
  refine last l hb ?_;have E:opE ai (opE ai (kS "taper ") (bw gc (a9 (vE 3) aD))) (kS " 1 2") (oE ns f R0 T p [.int (R0.length:Nat)])=some ⟨.c,.str (tpA t)⟩:=by
   have sl:=C0 t (by lia);rw[<-eT] at sl;have:=dF (dF (p:=kS "taper ") rfl (ug (p:=vE 3) (e:=oE ns f R0 T p [.int (R0.length:Nat)]) (i:=T) (k:= .c) rfl (by lia)) (by decide) (by lia)) (q:=kS " 1 2") rfl (by rw[len_app];have:(Str.ofString "taper ").length=6:=rfl;lia) (by decide);rw[this,tpA,eT]
  rw[aO (n12 f12),aO (n13 f13),aO (e' :=oE ns f (R0++[.str l]) T p [.int (R0.length:Nat)]) (by
   rw[o14,jb (b:=true) (by simp[oE,zA,hT]),Gak rfl,aO (e' :=oE ns f R0 T p [.int (R0.length:Nat)]) rfl,aH,ixE,cy,a9,E];simp[oE,dj,hl,aj,lR];lia),aO (n15 (by lia))]
  exact mJ (by simp[iR]) rfl
 by_cases f15:f=15/\T=6
 .have tp:=uw t (by lia) (by lia);simp only[Gad,GaT,GaN] at tp;refine last "taper 7 1 2" (tp.2.2.2.resolve_left (by lia)) ?_;rw[aO (n12 f12),aO (n13 f13),aO (n14 zA),aO (e' :=oE ns f (R0++[.str "taper 7 1 2"]) T p [.int (R0.length:Nat)]) (by
   rw[o15,jb (b:=true) (by simp[oE,f15]),Gak rfl,aO (e' :=oE ns f R0 T p [.int (R0.length:Nat)]) rfl];simp[oE,aj,lR];lia)]
  exact mJ (by simp[iR]) rfl
 .refine⟨_,[],call R0 [] ?_|>.trans (by rw[eR];rfl), ?_,by simp, ?_,(λ_ h=>by cases h),.inl ⟨rfl,λA gs ec b o n C=>C.g3 t ht⟩⟩
  .rw[aO (n12 f12),aO (n13 f13),aO (n14 zA),aO (n15 f15)];exact mJ iR rfl
  .simp[Cs];lia
  .show a7 ([_,_]++tpL t)=true;rw[fS,Ct];rfl
abbrev OXr:=Str×D×D×List D
noncomputable def oxN(x:OXr):Nm:=(x.1,[.int 0,.int 0,x.2.1,x.2.2.1,.tup x.2.2.2])
noncomputable def rP(xs:List OXr):Int:=((xs.map λx=>x.2.2.2.length).sum:Nat)
theorem K7(xs:List OXr)(x:OXr):rP (xs++[x])=rP xs+x.2.2.2.length:=by simp[rP]
def FA(h:Str):Bool:=((([Sum.inr "order",Sum.inr "dose"]:List DL.Key).map kD).any λy=>eqD y (.str h))
structure POr(gs:List Nm)(s:Nat)(ch:Int)(m k:Nat)(tp:Int)(h:Str)(cs:List (List D))(bl:List D)(xs:List OXr):Prop where
 nx:nxt h "order"=true
 en:FA h=false
 bs:Bs gs (stN cs) bl
 cl:cs.length=s
 cn:mT cs=ch
 bn:bl.length=m
 xn:xs.length=k
 xm:xs.map (·.1)=nmO k
 xi:a7 ((xs.map oxN).map ay)=true
 st:rP xs=tp
 k12:k<=12
 g6:gs.length<=6
def PO(gs:List Nm)(s:Nat)(ch:Int)(m k:Nat)(tp:Int)(d:D):Prop:=∃h cs bl xs,POr gs s ch m k tp h cs bl xs/\d=dr h (gs.map ay) ((stN cs).map ay) bl ((xs.map oxN).map ay)
theorem MM(k:Nat):nmO (k+1)=nmO k++["o"++ltr k]:=by simp[nmO,GaU]
section
variable{gs:List Nm}{s m k n:Nat}{ch tp:Int}{h:Str}{cs:List (List D)}{bl ls bs:List D}{xs:List OXr}
theorem POr.mre(P:POr gs s ch m k tp h cs bl xs)(hk:k<12){h' :Str}(h1:nxt h' "order"=true)(h2:FA h' =false){r a:D}{t:List D}(hr:r.imm=true)(ha:a.imm=true)(ht:a7 t=true):PO gs s ch m (k+1) (tp+t.length) (OD gs (stN cs) bl ((xs.map oxN).map ay) h' ("o"++ltr k) r a (.tup t)):=
 ⟨h',cs,bl,xs++[("o"++ltr k,r,a,t)],⟨h1,h2,P.bs,P.cl,P.cn,P.bn,by simp[P.xn],by rw[GaV,P.xm,MM];rfl,by simp[oxN,ay,hr,ha,ht];have:=P.xi;simpa using this,by rw[K7,P.st],by lia,P.g6⟩,by simp[OD,oxN,ay]⟩
theorem POr.cx(P:POr gs s ch m k tp h cs bl xs)(hk:k<12):Cx (cI k) (dr h (gs.map ay) ((stN cs).map ay) bl ((xs.map oxN).map ay)) gs (stN cs) bl ((xs.map oxN).map ay) ("o"++ltr k):=
 ⟨P.bs,P.xi,Cm P.bs P.xi (by rw[Gax,P.xn]) hk (by rw[GcH];exact P.xm) P.nx⟩
variable{l:Str}
theorem vY(hk:k<12)(hl:l=if k%2=0 then("due 5 3 2 1 1":Str) else "asked 5"):Rel (PO gs s ch m k tp) (PO gs s ch m (k+1) tp) [.str (cI k),.str (bh k),.str l] []:=by
 refine .inl ⟨rfl,λd ⟨h,cs,bl,xs,P,e⟩=> ?_⟩;have C:=P.cx hk;rw[e,hl];have z:tp+(([]:List D).length:Int)=tp:=by simp
 split
 .have q:=P.mre hk (h' :="due") rfl (by decide+kernel) (r:=ruD k) (a:= .tup [.str "due",.int 5,.int 3,.int 2,.int 1,.int 1]) (t:=[]) rfl rfl rfl;rw[z] at q;exact⟨_,q,C.g2.sn (K3 C.B C.oi rfl rfl rfl)⟩
 .have q:=P.mre hk (h' :="asked") rfl (by decide+kernel) (r:=ruD k) (a:= .tup [.str "asked",.int 5]) (t:=[]) rfl rfl rfl;rw[z] at q;exact⟨_,q,C.g2.sn (qm C.B C.oi rfl rfl rfl)⟩
theorem FC(hk:k<12){t:Nat}(ht:t<=6){rws ob:List D}(R:K4 (cI k) k t rws ob):Rel (PO gs s ch m k 0) (PO gs s ch m (k+1) t) rws ob:=by
 rcases R with⟨rfl,h⟩| ⟨pre,l,rest,e1,e2,h⟩
 .refine .inl ⟨rfl,λd ⟨h',cs,bl,xs,P,e⟩=> ?_⟩;have q:=P.mre hk (h' :=hT t) (by rcases qo t with e|e<;>rw[e]<;>rfl) (by rcases qo t with e|e<;>rw[e]<;>decide+kernel) (r:=ruD k) (a:=kq) (t:=cX t) rfl rfl (kT t);rw[kR,GbY] at q;exact⟨_,q,e▸h _ _ _ _ _ _ (P.cx hk)⟩
 .refine .inr ⟨pre,l,rest,e1,by rw[e2];rfl,λd ⟨h',cs,bl,xs,P,e⟩=>e▸h _ _ _ _ _ _ (P.cx hk)⟩
theorem ux{j:Nat}(hj:j<13)(hk:k=12\/j<k)(yW:k<=12)(hl:l=cI j\/l=rN j)(d:D):PO gs s ch m k tp d->Bd d l:=λ⟨h,cs,bl,xs,P,e⟩=>by
 have z:=uu j hj;simp only[Gad,Gay,GaN] at z;have c:(xs.map oxN).length=12\/true=false\/aP (plD (xs.map oxN) ("o"++ltr j))=false\/aP (plD gs "ga")=true\/aP (plD (stN cs) "sa")=true:=by
  rcases hk with rfl|hk
  .exact .inl (by rw[Gax,P.xn])
  .refine .inr (.inr (.inl ?_));rw[C8,GcH];show aP (plN (xs.map (·.1)) _)=false;rw[P.xm];exact ML k (by lia) j hk
 rw[e];rcases hl with rfl|rfl
 .exact gq P.bs P.xi z.1 z.2.1 (rO j hj) c P.nx
 .exact gq P.bs P.xi z.2.2.1 z.2.2.2 (rO j hj) c P.nx
theorem FE(q:Int)(q0:0<=q)(q4:q<4):∃l:Str,atD ([.str "order z sa ga",.str "order z z sa",.str "order z ga z",.str "order Z ga sa"]:List D) q=some (.str l)/\l.length<1000/\∀d,PO gs s ch m k tp d->Bd d l:=by
 have nz:bA [.str "z"]=some (.bl true):=by kernel_rfl
 rcases(by lia:q=0\/q=1\/q=2\/q=3) with rfl|rfl|rfl|rfl
 .exact⟨"order z sa ga",rfl,by decide,λd ⟨h,cs,bl,xs,P,e⟩=>e▸gq P.bs P.xi (n:="z") (u:="sa") (v:="ga") (by kernel_rfl) (by decide) nz (.inr (.inr (.inr (.inl P.bs.gn.1)))) P.nx⟩
 .exact⟨"order z z sa",rfl,by decide,λd ⟨h,cs,bl,xs,P,e⟩=>e▸gq P.bs P.xi (n:="z") (u:="z") (v:="sa") (by kernel_rfl) (by decide) nz (.inr (.inr (.inr (.inl P.bs.gn.2)))) P.nx⟩
 .exact⟨"order z ga z",rfl,by decide,λd ⟨h,cs,bl,xs,P,e⟩=>e▸gq P.bs P.xi (n:="z") (u:="ga") (v:="z") (by kernel_rfl) (by decide) nz (.inr (.inr (.inr (.inr P.bs.sn.2)))) P.nx⟩
 .exact⟨"order Z ga sa",rfl,by decide,λd ⟨h,cs,bl,xs,P,e⟩=>e▸gq P.bs P.xi (n:="Z") (u:="ga") (v:="sa") (q:=false) (by kernel_rfl) (by decide) (by kernel_rfl) (.inr (.inl rfl)) P.nx⟩
end
def uE(ns:List Int)(f G:Int)(ls bs:List D)(m tp a:Int)(k x9 hU xg x12:Os):DL.Env:=[sh (.scr ns),sh (.int f),sh (.int G),lL ls,lL bs,sh (.int m),sh (.int tp),sh (.int a),k,x9,hU,xg,x12]
def uNm:DE:=opE ai (kS "o") (ixE (kS "abcdefghijklm") (vE 8))
def uHd:DE:=opE ai (opE ai (kS "order ") (vE 9)) (kS " ga sa")
def Cy:DE:=opE ai (opE ai (kS "order o") (ixE (kS "abcdefghijklm") (bO ah (a9 (vE 0) (a9 (kI 37) (a9 (vE 8) aD)))))) (kS " ga sa")
def Cz:DE:=ixE (cy (a9 (kS "order z sa ga") (a9 (kS "order z z sa") (a9 (kS "order z ga z") (a9 (kS "order Z ga sa") aD))))) (bO ah (a9 (vE 0) (a9 (kI 38) (a9 (kI 4) aD))))
def uRw:DE:=cy (a9 (vE 10) (a9 (opE ai (kS "dose up 1 1 ") (bw gc (a9 (ixE (cy (a9 (kI 2) (a9 (kI 4000) aD))) (opE dP (vE 8) (kI 2))) aD))) aD))
def uT1:DT:=orT (af eqB (vE 8) (kI 12)) (t3 1 8 5 10)
def uT2:DT:=bc (af eqB (vE 1) (kI 11)) (af eqB (vE 8) (vE 7))
def uT3:DT:=bc (af eqB (vE 8) (vE 7)) (af (orB gO iK) (vE 1) (gW (a9 (kI 12) (a9 (kI 13) aD))))
def nM:DE:=bO bg (a9 (vE 0) (a9 (kI 40) (a9 (kI 6) aD)))
def rQ:DE:=bO aS (a9 (vE 0) (a9 (vE 1) (a9 (vE 11) (a9 (vE 6) aD))))
def uSh:DE:=bC none 1 [3] (orI (m8 (ixE (vE 12) (kI 1))) (pP (ixE (vE 12) (kI 1)))) (gN 0) bD (opE ai (bw cM (a9 (vE 1) aD)) (vE 0))
def uPl:DE:=opE ai (vE 11) (cy (a9 (ixE (cy (a9 (kS "due 5 3 2 1 1") (a9 (kS "asked 5") aD))) (opE dP (vE 8) (kI 2))) aD))
def uKa:DT:=af eqB (vE 8) (vE 7)
def vZ:DW:=orW (a8 (ifS uKa (aC (av 12 rQ) (aC (cZ 4 uSh) (cZ 3 (ixE (vE 12) (kI 0))))) (cZ 3 uPl))) (ifW uKa (ag (a8 (av 12 rQ)) (ag (orW (a8 (cZ 4 uSh)) (pX 4 uSh)) (orW (a8 (cZ 3 (ixE (vE 12) (kI 0)))) (pX 3 (ixE (vE 12) (kI 0)))))) (orW (a8 (cZ 3 uPl)) (pX 3 uPl)))
def nO:DW:=ag (a8 (av 9 uNm)) (ag (a8 (av 10 uHd)) (ag (orW (a8 (ifS uT1 (aH 4 (aG 3)) az)) (ifW uT1 (orW (a8 (aH 4 (aG 3))) (dD 4 (aG 3))) (a8 az))) (ag (orW (a8 (ifS (t3 1 8 5 10) (av 10 Cy) az)) (ifW (t3 1 8 5 10) (a8 (av 10 Cy)) (a8 az))) (ag (orW (a8 (ifS uT2 (aC (aH 4 (aG 3)) (av 10 Cz)) az)) (ifW uT2 (ag (orW (a8 (aH 4 (aG 3))) (dD 4 (aG 3))) (a8 (av 10 Cz))) (a8 az))) (ag (a8 (av 11 uRw)) (ag (orW (a8 (ifS uT3 (av 6 nM) az)) (ifW uT3 (a8 (av 6 nM)) (a8 az))) vZ))))))
def rR:DS:=aC (av 9 uNm) (aC (av 10 uHd) (aC (ifS uT1 (aH 4 (aG 3)) az) (aC (ifS (t3 1 8 5 10) (av 10 Cy) az) (aC (ifS uT2 (aC (aH 4 (aG 3)) (av 10 Cz)) az) (aC (av 11 uRw) (aC (ifS uT3 (av 6 nM) az) (ifS uKa (aC (av 12 rQ) (aC (cZ 4 uSh) (cZ 3 (ixE (vE 12) (kI 0))))) (cZ 3 uPl))))))))
section
variable{e:DL.Env}{i:Nat}{p:DE}{k:Cls}{xs ys:List D}
theorem CA(h1:p e=some ⟨k,.lst ys⟩)(h2:e[i]? =some (lL xs))(h3:xs.length+ys.length<10000)(h4:a7 xs=true)(h5:a7 ys=true):orW (a8 (cZ i p)) (pX i p) e=some (.nx (e.set i (lL (xs++ys)))):=by
 rw[bN,show a8 (cZ i p) e=none by simp[h2]];simp only[pX,h1,Option.bind_some,my,dB,h2];rw[Gak ⟨by unfold aj;simp;lia,by simp[h4,h5]⟩]
end
theorem GH(h:i<13):ixD (.str "abcdefghijklm") (.int (i:Int))=some (.str (ltr i)):=ue (OR i h)
theorem CB{e:DL.Env}{k:Int}(h:e[8]? =some (sh (.int k))):opE ai (kS "dose up 1 1 ") (bw gc (a9 (ixE (cy (a9 (kI 2) (a9 (kI 4000) aD))) (opE dP (vE 8) (kI 2))) aD)) e=some ⟨.c,.str ("dose up 1 1 "++Str.ofString (toString (if k%2=0 then 2 else 4000:Int)))⟩:=by
 have z:ixE (cy (a9 (kI 2) (a9 (kI 4000) aD))) (opE dP (vE 8) (kI 2)) e=some ⟨.c,.int (if k%2=0 then 2 else 4000)⟩:=by
  rcases(by lia:k%2=0\/k%2=1) with q|q<;>simp[h,q,aj]
 refine dF (k:= .c) rfl (ug z (by split<;>decide)) (by decide) ?_;split<;>decide+kernel
theorem qp{e:DL.Env}(h:e[1]? =some (sh (.int f))):af (orB gO iK) (vE 1) (gW (a9 (kI 12) (a9 (kI 13) aD))) e=some (!(f==12||f==13)):=by
 have z:gO (.int f) (.tup [.int 12,.int 13])=some (!(f==12||f==13)):=by
  show some (!((12==f)||((13==f)||false)))=_;rw[Bool.or_false,BEq.comm (a:=(12:Int)),BEq.comm (a:=(13:Int))]
 simp[h,z,aj]
variable{x9 hU xg x12:Os}{G tp:Int}
theorem K8{ns:List Int}{k v:Int}{bs:List D}{c e l3:Str}{q2:Bool}(q:Bool)(hq:(f==10&&(k==m -1&&decide (0<k)))=q)(xZ:(f==11&&k==a)=q2)(hx:q2=true->(k==12||q)=false)(hk:ixD (.str "abcdefghijklm") (.int k)=some (.str c))(hc:c.length=1)(h1:ls.length<9000)(h2:bs.length<9000)(h3:a7 ls=true)(h4:a7 bs=true)
  (hj:q=true->ah [.scr ns,.int 37,.int k]=some (.int j)/\ixD (.str "abcdefghijklm") (.int j)=some (.str e))(he:e.length=1)(hl:q2=true->atD ([.str "order z sa ga",.str "order z z sa",.str "order z ga z",.str "order Z ga sa"]:List D) (drw ns 38 4)=some (.str l3)):
  nO (uE ns f G ls bs m tp a (sh (.int k)) x9 hU xg x12)=vZ (uE ns f G ls (if(k==12||(q||q2)) then bs++[.int (ls.length:Nat)] else bs) m (if(k==a&& !(f==12||f==13)) then many ns 40 6 else tp) a (sh (.int k)) (sh (.str ("o"++c))) (sh (.str (if q2 then l3 else if q then("order o"++e)++" ga sa" else("order "++("o"++c))++" ga sa"))) (oL [.str (if q2 then l3 else if q then("order o"++e)++" ga sa" else("order "++("o"++c))++" ga sa"),.str ("dose up 1 1 "++Str.ofString (toString (if k%2=0 then 2 else 4000:Int)))]) x12):=by
 have a1:ai (.str "o") (.str c)=some ⟨.c,.str ("o"++c)⟩:=Fd (by decide) (by lia);have lo:("o"++c:Str).length=2:=by rw[len_app,hc];rfl
 unfold nO;refine(ax (e' :=uE ns f G ls bs m tp a (sh (.int k)) (sh (.str ("o"++c))) hU xg x12) (by simp only[a8,av,uNm,opE,kE,ixE,uE,vE,Option.bind_some,GbB,GbC,hk,Gbf,a1];rfl)).trans ?_;refine(ax (e' :=uE ns f G ls bs m tp a (sh (.int k)) (sh (.str ("o"++c))) (sh (.str (("order "++("o"++c))++" ga sa"))) xg x12) (by
  rw[a8,av,uHd,dF (dF (p:=kS "order ") (q:=vE 9) (x:="order ") (y:="o"++c) (k:= .c) (k' := .c) rfl rfl (by decide) (by lia)) (q:=kS " ga sa") (y:=" ga sa") (k' := .c) rfl (by rw[len_app,lo];decide) (by decide)]
  rfl)).trans ?_
 generalize ("o"++c:Str)=nm at*;have T:∀bs x,t3 1 8 5 10 (uE ns f G ls bs m tp a (sh (.int k)) (sh (.str nm)) x xg x12)=some q:=λbs x=>by rw[<-hq];exact qg rfl rfl rfl
 generalize hh:(("order "++nm)++" ga sa":Str)=yM;refine(ax (e' :=uE ns f G ls (if(k==12||q) then bs++[.int (ls.length:Nat)] else bs) m tp a (sh (.int k)) (sh (.str nm)) (sh (.str yM)) xg x12) ?_).trans ?_
 .rw[d8 (t:=uT1) (b:=k==12||q) (C1 (a:=k==12) (by simp[uE]) (T bs _))];cases(k==12||q) with
  |false=>rfl
  |true=>exact oQ (i:=4) (e:=uE ns f G ls bs m tp a (sh (.int k)) (sh (.str nm)) (sh (.str yM)) xg x12) (p:=aG 3) (k:= .c) (d:= .int (ls.length:Nat)) (xs:=bs) rfl rfl (by lia) h4 rfl
 have hb:(if(k==12||(q||q2)) then bs++[.int (ls.length:Nat)] else bs)=if q2 then(if(k==12||q) then bs++[.int (ls.length:Nat)] else bs)++[.int (ls.length:Nat)] else(if(k==12||q) then bs++[D.int (ls.length:Nat)] else bs):=by
  cases q2 with
  |false=>simp
  |true=>rw[hx rfl];simp
 rw[hb];have h4' :a7 (if(k==12||q) then bs++[.int (ls.length:Nat)] else bs)=true:=by split<;>simp[h4]
 have z9 :(if(k==12||q) then bs++[.int (ls.length:Nat)] else bs).length<10000:=by
  split
  .simp;lia
  .lia
 generalize (if(k==12||q) then bs++[.int (ls.length:Nat)] else bs)=bs' at*;refine(ax (e' :=uE ns f G ls bs' m tp a (sh (.int k)) (sh (.str nm)) (sh (.str (if q then("order o"++e)++" ga sa" else yM))) xg x12) ?_).trans ?_
 .rw[d8 (T bs' _)];cases q with
  |false=>rfl
  |true=>
   obtain⟨d1,d2⟩:=hj rfl;have E:=dF (dF (p:=kS "order o") (q:=ixE (kS "abcdefghijklm") (bO ah (a9 (vE 0) (a9 (kI 37) (a9 (vE 8) aD))))) (e:=uE ns f G ls bs' m tp a (sh (.int k)) (sh (.str nm)) (sh (.str yM)) xg x12) (x:="order o") (y:=e) (k:= .c) (k' := .c) rfl (by simp[uE,d1,d2,-o9]) (by decide) (by lia)) (q:=kS " ga sa") (y:=" ga sa") (k' := .c) rfl (by rw[len_app,he];decide) (by decide);show(match(a8 (av 10 Cy)) _ with
    |some r=>some r
    |none=>_)=_
   rw[a8,av,Cy,E]
   rfl
 generalize (if q then("order o"++e)++" ga sa" else yM:Str)=hd1;refine(ax (e' :=uE ns f G ls (if q2 then bs' ++[.int (ls.length:Nat)] else bs') m tp a (sh (.int k)) (sh (.str nm)) (sh (.str (if q2 then l3 else hd1))) xg x12) ?_).trans ?_
 .rw[d8 (t:=uT2) (b:=q2) (by rw[<-xZ];exact gQ (by simp[uE]) (by simp[uE]))];cases q2 with
  |false=>rfl
  |true=>
   rw[Gak rfl,bN,show a8 (aC (aH 4 (aG 3)) (av 10 Cz)) (uE ns f G ls bs' m tp a (sh (.int k)) (sh (.str nm)) (sh (.str hd1)) xg x12)=none from rfl];refine(ax (e' :=uE ns f G ls (bs' ++[.int (ls.length:Nat)]) m tp a (sh (.int k)) (sh (.str nm)) (sh (.str hd1)) xg x12) (gS (i:=4) (e:=uE ns f G ls bs' m tp a (sh (.int k)) (sh (.str nm)) (sh (.str hd1)) xg x12) (p:=aG 3) (k:= .c) (d:= .int (ls.length:Nat)) (xs:=bs') rfl rfl z9 h4' rfl)).trans ?_;simp[Cz,uE,cc (ns:=ns) (show(0:Int)<=38 by lia) (by lia) (show(0:Int)<4 by lia),hl rfl,aj]
 generalize (if q2 then bs' ++[.int (ls.length:Nat)] else bs')=Pf;generalize (if q2 then l3 else hd1)=hd2;refine(ax (e' :=uE ns f G ls Pf m tp a (sh (.int k)) (sh (.str nm)) (sh (.str hd2)) (oL [.str hd2,.str ("dose up 1 1 "++Str.ofString (toString (if k%2=0 then 2 else 4000:Int)))]) x12) (by
  rw[a8,av,uRw,cy,a9,a9,CB (k:=k) rfl]
  rfl)).trans ?_
 generalize ("dose up 1 1 "++Str.ofString (toString (if k%2=0 then 2 else 4000:Int)):Str)=ds;refine ax ?_;rw[d8 (t:=uT3) (b:=k==a&& !(f==12||f==13)) (gQ (by simp[uE]) (qp rfl))];cases(k==a&& !(f==12||f==13)) with
 |false=>rfl
 |true=>simp[uE,nM,ja (ns:=ns) (show(0:Int)<=40 by lia) (by lia) (show(0:Int)<=6 by lia)]
section
variable{ns:List Int}{f G m tp a k:Int}{ls bs:List D}{h ds:Str}{x9 hU x12:Os}
theorem nP(hk:k≠a)(h1:ls.length<9000)(h3:a7 ls=true):vZ (uE ns f G ls bs m tp a (sh (.int k)) x9 hU (oL [.str h,.str ds]) x12)=some (.nx (uE ns f G (ls++[.str h,.str ds,.str (if k%2=0 then "due 5 3 2 1 1" else "asked 5":Str)]) bs m tp a (sh (.int k)) x9 hU (oL [.str h,.str ds]) x12)):=by
 unfold vZ;rw[d8 (t:=uKa) (b:=false) (by simp[uKa,uE,hk]),Gam (by simp)];have e:uPl (uE ns f G ls bs m tp a (sh (.int k)) x9 hU (oL [.str h,.str ds]) x12)=some ⟨.tn,.lst [.str h,.str ds,.str (if k%2=0 then "due 5 3 2 1 1" else "asked 5":Str)]⟩:=by
  rcases(by lia:k%2=0\/k%2=1) with q|q<;>simp[uPl,uE,q,aj]
 have z:a8 (cZ 3 uPl) (uE ns f G ls bs m tp a (sh (.int k)) x9 hU (oL [.str h,.str ds]) x12)=none:=by
  rw[a8,cZ,e]
  rfl
 rw[bN,z];exact CA (i:=3) (e:=uE ns f G ls bs m tp a (sh (.int k)) x9 hU (oL [.str h,.str ds]) x12) e rfl (by simp;lia) h3 rfl
theorem uy{rws:List D}{is:List Int}(hk:k=a)(h1:ls.length<9000)(h2:bs.length<9000)(h3:a7 ls=true)(h4:a7 bs=true)(h5:a7 rws=true)(l1:rws.length<100)(l2:is.length<100)(ho:aS [.scr ns,.int f,.lst [.str h,.str ds],.int tp]=some (.tup [.lst rws,.lst (is.map D.int)])):∃y,vZ (uE ns f G ls bs m tp a (sh (.int k)) x9 hU (oL [.str h,.str ds]) x12)=some (.nx (uE ns f G (ls++rws) (bs++(is.map D.int).map (dJ ls.length)) m tp a (sh (.int k)) x9 hU (oL [.str h,.str ds]) y)):=by
 refine⟨sh (.tup [.lst rws,.lst (is.map D.int)]), ?_⟩;unfold vZ;rw[d8 (t:=uKa) (b:=true) (by simp[uKa,uE,hk]),Gak rfl];have e1:av 12 rQ (uE ns f G ls bs m tp a (sh (.int k)) x9 hU (oL [.str h,.str ds]) x12)=some (.nx (uE ns f G ls bs m tp a (sh (.int k)) x9 hU (oL [.str h,.str ds]) (sh (.tup [.lst rws,.lst (is.map D.int)])))):=by
  simp[rQ,uE,ho]
 have c:cV (gN 0) bD (opE ai (bw cM (a9 (vE 1) aD)) (vE 0)) (is.map D.int) [none,some (.bor (.lst ls))]=some (is.map λi=> .int ((ls.length:Int)+i)):=
  km (emb:=D.int) (C:=λe=>∃x,e=[x,some (.bor (.lst ls))]) (λi=> .int ((ls.length:Int)+i)) is _ ⟨_,rfl⟩ λi _ e he=>by
   obtain⟨x,rfl⟩:=he;exact⟨[sh (.int i),some (.bor (.lst ls))],rfl,⟨_,rfl⟩,.c,by simp,rfl⟩
 have shq:(is.map D.int).map (dJ ls.length)=is.map λi=> .int ((ls.length:Int)+i):=by
  rw[GcH]
  rfl
 have l3:is.length<=16777216:=by lia
 have e2:uSh (uE ns f G ls bs m tp a (sh (.int k)) x9 hU (oL [.str h,.str ds]) (sh (.tup [.lst rws,.lst (is.map D.int)])))=some ⟨.tn,.lst ((is.map D.int).map (dJ ls.length))⟩:=by
  rw[shq];simp only[uSh,bC,oO,uE,aK];simp[DL.compEnv,lq,aj,l3];exact c
 have z:a8 (aC (av 12 rQ) (aC (cZ 4 uSh) (cZ 3 (ixE (vE 12) (kI 0))))) (uE ns f G ls bs m tp a (sh (.int k)) x9 hU (oL [.str h,.str ds]) x12)=none:=by
  rw[lift_seq e1,a8,aC,cZ,e2]
  rfl
 have ii:a7 ((is.map D.int).map (dJ ls.length))=true:=by
  rw[shq];clear c shq l3 l2 ho e1 e2 z;induction is with
  |nil=>rfl
  |cons i is ih=>simpa using ih
 rw[bN,z];refine(ax (by rw[a8,e1];rfl)).trans ?_;refine(ax (e' :=uE ns f G ls (bs++(is.map D.int).map (dJ ls.length)) m tp a (sh (.int k)) x9 hU (oL [.str h,.str ds]) (sh (.tup [.lst rws,.lst (is.map D.int)]))) (CA (i:=4) (e:=uE ns f G ls bs m tp a (sh (.int k)) x9 hU (oL [.str h,.str ds]) (sh (.tup [.lst rws,.lst (is.map D.int)]))) e2 rfl (by simp;lia) h4 ii)).trans ?_;exact CA (i:=3) (e:=uE ns f G ls (bs++(is.map D.int).map (dJ ls.length)) m tp a (sh (.int k)) x9 hU (oL [.str h,.str ds]) (sh (.tup [.lst rws,.lst (is.map D.int)]))) (p:=ixE (vE 12) (kI 0)) (k:= .c) (ys:=rws) rfl rfl (by lia) h3 h5
end
theorem intsOf(h:∀d∈ob,∃i:Int,d= .int i):∃is:List Int,ob=is.map D.int:=by
 induction ob with
 |nil=>exact⟨[],rfl⟩
 |cons d ob ih=>
  obtain⟨i,rfl⟩:=h d GaA;obtain⟨is,rfl⟩:=ih λd hd=>h d (Gat _ hd);exact⟨i::is,rfl⟩
theorem CC(is:List Int)(n:Nat):a7 ((is.map D.int).map (dJ n))=true:=by
 induction is with
 |nil=>rfl
 |cons i is ih=>simpa[dJ] using ih
theorem rS{ns:List Int}{mN n m0:Nat}{bs:List D}{gs:List Nm}(hi:i<mN)(hm:mN<=13)(eM:M=mN)(ha:0<=a/\a<12)(hn:n<2000)(hz:(i:Int)<=a->tp=0)(O:Ok n (PO gs s ch m0 i tp) ls bs):
  ∃ls' bs' zH y9 Qi Qh Qg,nO (uE ns f G ls bs M tp a (sh (.int (i:Int))) x9 hU xg x12)=some (.nx (uE ns f G ls' bs' M zH a (sh (.int (i:Int))) y9 Qi Qh Qg))/\Ok (n+20) (PO gs s ch m0 (i+1) zH) ls' bs' /\((i:Int)+1<=a->zH =0):=by
 have nl:=O.nl;have nb:=O.nb;have hj:=λh:0<(i:Int)=>bZ ns 37 i h;have hj3:=bZ ns 38 4 (by lia);obtain⟨l3,e3,z3,b3⟩:=FE (gs:=gs) (s:=s) (ch:=ch) (m:=m0) (k:=i) (tp:=tp) (drw ns 38 4) hj3.1 hj3.2;generalize hq:(f==10&&((i:Int)==M -1&&decide (0<(i:Int))))=q;generalize xZ:(f==11&&(i:Int)==a)=q2;have q0:q=true->f=10/\0<(i:Int):=λh=>by rw[h] at hq;simp at hq;lia
 have q20:q2=true->f=11/\(i:Int)=a:=λh=>by rw[h] at xZ;simp at xZ;lia
 have t:=K8 (ns:=ns) (f:=f) (G:=G) (m:=M) (tp:=tp) (a:=a) (k:=(i:Int)) (x9:=x9) (hU:=hU) (xg:=xg) (x12:=x12) (j:=drw ns 37 i) (v:=0) (e:=ltr (drw ns 37 i).toNat) (l3:=l3) q hq xZ (λh=>by
  have:=q20 h;cases q with
  |false=>simp;lia
  |true=>have:=q0 rfl;lia) (GH (by lia)) rfl (by lia) (by lia) O.il O.ib (λh=> ⟨cc (by lia) (by lia) (q0 h).2,by
  have:=hj (q0 h).2;have:=GH (i:=(drw ns 37 i).toNat) (by lia)
  rwa[show(((drw ns 37 i).toNat:Nat):Int)=drw ns 37 i by lia] at this⟩) rfl (λ_=>e3)
 rw[t];have ds:("dose up 1 1 "++Str.ofString (toString (if(i:Int)%2=0 then 2 else 4000:Int)):Str)=bh i:=by
  unfold bh dsV;by_cases h:i%2=0
  .rw[Gak h,Gak (by lia)]
  .rw[Gam h,Gam (by lia)]
 rw[ds];clear t ds;obtain⟨hd,zB⟩:∃hd:Str,hd=if q2 then l3 else if q then("order o"++ltr (drw ns 37 i).toNat)++" ga sa" else("order "++("o"++ltr i))++" ga sa":=⟨_,rfl⟩
 rw[<-zB];generalize hbad:((i:Int)==12||(q||q2))=bad;have hB:bad=true->∀d,PO gs s ch m0 i tp d->Bd d hd:=λh d p=>by
  rw[h] at hbad;have k12:i<=12:=by lia
  cases q2 with
  |true=>rw[zB];exact b3 d p
  |false=>
   cases q with
   |true=>
    have:=hj (q0 rfl).2;rw[zB];exact ux (j:=(drw ns 37 i).toNat) (by lia) (.inr (by lia)) k12 (.inr rfl) d p
   |false=>
    have:i=12:=by simp at hbad;lia
    rw[zB];exact ux (j:=i) (by lia) (.inl this) k12 (.inl rfl) d p
 have hG:bad=false->hd=cI i/\i<12:=λh=>by
  rw[h] at hbad;simp at hbad;rw[zB,hbad.2.1,hbad.2.2];exact⟨rfl,by lia⟩
 by_cases hk:(i:Int)=a
 .have z0:=hz (by lia);have ml:=iD (ns:=ns) (k:=40) (m:=6) (by lia);obtain⟨t,T,eT,ht,Qd,h0⟩:∃(t:Nat) (T:Int),T=t/\t<=6/\(if((i:Int)==a&& !(f==12||f==13)) then many ns 40 6 else tp)=T/\(f=12\/f=13->t=0):=by
   by_cases c:f=12\/f=13
   .exact⟨0,0,rfl,by lia,by rw[z0];rcases c with rfl|rfl<;>simp,λ_=>rfl⟩
   .exact⟨(many ns 40 6).toNat,many ns 40 6,by lia,by lia,by rw[Gak];simp[hk];lia,λh=>absurd h c⟩
  rw[Qd];obtain⟨rws,ob,o1,o2,o3,o4,o5,o6⟩:=K6 (ns:=ns) (f:=f) (T:=T) (k:=i) (hl:=hd) ht eT h0;obtain⟨is,rfl⟩:=intsOf o5;rw[Gax] at o3;cases bad with
  |true=>
   obtain⟨y,e⟩:=uy (ns:=ns) (f:=f) (G:=G) (m:=M) (tp:=T) (ls:=ls) (bs:=bs++[.int (ls.length:Nat)]) (h:=hd) (ds:=bh i) (x9:=sh (.str ("o"++ltr i))) (hU:=sh (.str hd)) (x12:=x12) (rws:= .str hd::rws) (is:=is) hk (by lia) (by simp;lia) O.il (by simp[O.ib]) (by simpa using o4) (by simp;lia) (by lia) o1;refine⟨_,_,_,_,_,_,_,e, ?_,λh=>by lia⟩;rw[GcB];exact O.JO (hB rfl) o4 (CC _ _) (by lia) (by simp;lia)
  |false=>
   obtain⟨y,e⟩:=uy (ns:=ns) (f:=f) (G:=G) (m:=M) (tp:=T) (ls:=ls) (bs:=bs) (h:=hd) (ds:=bh i) (x9:=sh (.str ("o"++ltr i))) (hU:=sh (.str hd)) (x12:=x12) (rws:= .str hd::rws) (is:=is) hk (by lia) (by lia) O.il O.ib (by simpa using o4) (by simp;lia) (by lia) o1;refine⟨_,_,_,_,_,_,_,e, ?_,λh=>by lia⟩;obtain⟨g1,g2⟩:=hG rfl;rw[g1] at o6⊢;rw[z0] at O;rw[eT];exact O.ext (FC g2 ht o6) (by simpa using o4) (CC _ _) (by simp;lia) (by simp;lia)
 .have Qd:(if((i:Int)==a&& !(f==12||f==13)) then many ns 40 6 else tp)=tp:=by
   rw[Gam];simp[hk]
  rw[Qd];have l0:(if(i:Int)%2=0 then "due 5 3 2 1 1" else "asked 5":Str)=if i%2=0 then("due 5 3 2 1 1":Str) else "asked 5":=by
   by_cases h:i%2=0
   .rw[Gak h,Gak (by lia)]
   .rw[Gam h,Gam (by lia)]
  cases bad with
  |true=>
   refine⟨_,_,_,_,_,_,_,nP hk (by lia) O.il, ?_,λh=>hz (by lia)⟩;exact O.JO (ys:=[]) (hB rfl) rfl rfl (by simp) (by simp)
  |false=>
   refine⟨_,_,_,_,_,_,_,nP hk (by lia) O.il, ?_,λh=>hz (by lia)⟩;obtain⟨g1,g2⟩:=hG rfl;have:=O.ext (m:=n+20) (vY g2 l0) rfl rfl (by simp) (by simp);rw[g1]
   simpa using this
def uG:DT:=af gtB (vE 2) (kI 0)
def K9:DE:=bO bg (a9 (vE 0) (a9 (kI 34) (a9 (kI 12) aD)))
def uT9:DT:=bc (af eqB (vE 1) (kI 9)) (af gtB (vE 2) (kI 0))
def uAt:DE:=bO ah (a9 (vE 0) (a9 (kI 36) (a9 (bw m6 (a9 (kI 1) (a9 (bw gL (a9 (vE 5) (a9 (kI 12) aD))) aD))) aD)))
def Ka:DW:=orW (a8 (l8 (retS (gW (a9 (vE 5) (a9 (vE 6) aD)))) (jG 5 6))) (kZ (gW (a9 (vE 5) (a9 (vE 6) aD))))
theorem qr:gI=ag (a8 (av 5 (kI 0))) (ag (orW (a8 (ifS uG (av 5 K9) az)) (ifW uG (a8 (av 5 K9)) (a8 az))) (ag (orW (a8 (ifS uT9 (av 5 (kI 13)) az)) (ifW uT9 (a8 (av 5 (kI 13))) (a8 az))) (ag (a8 (av 6 (kI 0))) (ag (a8 (av 7 uAt)) (ag (orW (a8 (dY none (aY (vE 5)) (gN 8) rR)) (dK 8 (vE 5) nO)) Ka))))):=by kernel_rfl
theorem CD{e:DL.Env}(h:e[i]? =some (lL xs)):cZ i p e=none:=by
 simp[h]
theorem FF{g:DS}{e:DL.Env}{j:Nat}(h:∀s,g (e.set j (some s))=none):aC (av j p) g e=none:=by
 simp only[aC,av];cases p e with
 |none=>rfl
 |some r=>
  obtain⟨k,d⟩:=r;cases k with
  |c=>simp only[Option.bind_some,wR,Gbf];exact h _
  |tn=>simp only[Option.bind_some,uW,Gbf];exact h _
  |_=>rfl
theorem Kb{ns:List Int}{bs:List D}:rR (uE ns f G ls bs M 0 a (sh (.int 0)) none none none none)=none:=by
 have T:∀x9 hU xg x12,t3 1 8 5 10 (uE ns f G ls bs M 0 a (sh (.int 0)) x9 hU xg x12)=some false:=λ_ _ _ _=>by rw[qg (x:=f) (y:=0) (z:=M) rfl rfl rfl];simp
 unfold rR;refine(aO (e' :=uE ns f G ls bs M 0 a (sh (.int 0)) (sh (.str ("o"++ltr 0))) none none none) (by kernel_rfl)).trans ?_;refine(aO (e' :=uE ns f G ls bs M 0 a (sh (.int 0)) (sh (.str ("o"++ltr 0))) (sh (.str (cI 0))) none none) (by kernel_rfl)).trans ?_;refine(aO (e' :=uE ns f G ls bs M 0 a (sh (.int 0)) (sh (.str ("o"++ltr 0))) (sh (.str (cI 0))) none none) ((jb (t:=uT1) (C1 (a:=false) rfl (T _ _ _ _))).trans rfl)).trans ?_;refine(aO (e' :=uE ns f G ls bs M 0 a (sh (.int 0)) (sh (.str ("o"++ltr 0))) (sh (.str (cI 0))) none none) ((jb (T _ _ _ _)).trans rfl)).trans ?_;have U:uT2 (uE ns f G ls bs M 0 a (sh (.int 0)) (sh (.str ("o"++ltr 0))) (sh (.str (cI 0))) none none)=some (f==11&&(0:Int)==a):=gQ (by simp[uE]) (by simp[uE]);cases hq:(f==11&&(0:Int)==a) with
 |true=>
  rw[hq] at U;rw[aC,jb U]
  rfl
 |false=>
  rw[hq] at U;refine(aO (e' :=uE ns f G ls bs M 0 a (sh (.int 0)) (sh (.str ("o"++ltr 0))) (sh (.str (cI 0))) none none) ((jb U).trans rfl)).trans ?_;refine(aO (e' :=uE ns f G ls bs M 0 a (sh (.int 0)) (sh (.str ("o"++ltr 0))) (sh (.str (cI 0))) (oL [.str (cI 0),.str ("dose up 1 1 "++Str.ofString (toString (2:Int)))]) none) (by
   rw[av,uRw,cy,a9,a9,CB (k:=0) rfl]
   rfl)).trans ?_
  have V:=gQ (t:=af eqB (vE 8) (vE 7)) (a:=(0:Int)==a) (by simp[uE]) (qp (e:=uE ns f G ls bs M 0 a (sh (.int 0)) (sh (.str ("o"++ltr 0))) (sh (.str (cI 0))) (oL [.str (cI 0),.str ("dose up 1 1 "++Str.ofString (toString (2:Int)))]) none) (f:=f) rfl);have W:∀tp,ifS uKa (aC (av 12 rQ) (aC (cZ 4 uSh) (cZ 3 (ixE (vE 12) (kI 0))))) (cZ 3 uPl) (uE ns f G ls bs M tp a (sh (.int 0)) (sh (.str ("o"++ltr 0))) (sh (.str (cI 0))) (oL [.str (cI 0),.str ("dose up 1 1 "++Str.ofString (toString (2:Int)))]) none)=none:=λtp=>by
   rw[jb (t:=uKa) (b:=(0:Int)==a) (by simp[uKa,uE])];cases(0:Int)==a with
   |false=>kernel_rfl
   |true=>
    rw[Gak rfl];refine FF λs=> ?_;rw[aC,CD (i:=4) (xs:=bs) rfl]
    rfl
  rw[aC,jb (t:=uT3) V];cases((0:Int)==a&& !(f==12||f==13)) with
  |false=>exact W 0
  |true=>
   have:av 6 nM (uE ns f G ls bs M 0 a (sh (.int 0)) (sh (.str ("o"++ltr 0))) (sh (.str (cI 0))) (oL [.str (cI 0),.str ("dose up 1 1 "++Str.ofString (toString (2:Int)))]) none)=some (.nx (uE ns f G ls bs M (many ns 40 6) a (sh (.int 0)) (sh (.str ("o"++ltr 0))) (sh (.str (cI 0))) (oL [.str (cI 0),.str ("dose up 1 1 "++Str.ofString (toString (2:Int)))]) none)):=by
    simp[uE,nM,ja (ns:=ns) (show(0:Int)<=40 by lia) (by lia) (show(0:Int)<=6 by lia)]
   rw[Gak rfl,this];exact W _
theorem Kc{ns:List Int}{bs:List D}{x8:Os}(h3:a7 ls=true)(h4:a7 bs=true):(Ka (uE ns f G ls bs m tp a x8 x9 hU xg x12)).bind (kc [3,4])=some (.tup [.int m,.int tp],[.lst ls,.lst bs]):=by
 simp[Ka,uE,l8,dB,flK,h3,h4,aj]
theorem w6{ns:List Int}{bs:List D}{n m0:Nat}{gs:List Nm}(hn:n<500)(hG:0<=G)(Q:D->Prop)(O:Ok n (λd=>Q d/\(0<G->PO gs s ch m0 0 0 d)) ls bs):
  ∃ls' bs',∃m:Nat,∃M tp:Int,M=m/\m<=13/\bK [.scr ns,.int f,.int G,.lst ls,.lst bs]=some (.tup [.int M,.int tp],[.lst ls',.lst bs'])/\(G=0->m=0/\ls' =ls/\bs' =bs)/\(0<G->Ok (n+260) (PO gs s ch m0 m tp) ls' bs'):=by
 have hml:=iD (ns:=ns) (k:=34) (m:=12) (by lia);obtain⟨m,M,eM,hm,em,RG⟩:∃(m:Nat) (M:Int),M=(m:Int)/\m<=13/\M=(if(f==9&&decide (0<G)) then 13 else if 0<G then many ns 34 12 else 0)/\(G=0->m=0):=by
  by_cases c:0<G
  .by_cases c9:f=9
   .exact⟨13,13,rfl,by lia,by simp[c9,c],by lia⟩
   .exact⟨(many ns 34 12).toNat,many ns 34 12,by lia,by lia,by simp[c9,c],by lia⟩
  .exact⟨0,0,rfl,by lia,by simp[c],by lia⟩
 obtain⟨w,ew⟩:∃w:Int,w=(if(if 12<M then 12 else M)>1 then(if 12<M then 12 else M) else 1):=⟨_,rfl⟩
 have hw:0<w/\w<=12:=by
  rw[ew];split<;>(try split)<;>lia
 obtain⟨a,ea⟩:∃a,a=drw ns 36 w:=⟨_,rfl⟩
 have ha:=bZ ns 36 w hw.1;rw[<-ea] at ha;have R:∀x,(aY (vE 5)) (uE ns f G ls bs M 0 a x none none none none)=some (b0 0 m):=λx=>by
  have:cu M=true:=dv (by lia) (by lia);have t:M.toNat=m:=by lia
  simp[uE,this,t]
 have call:∀eZ xf tp x8 x9 hU xg x12,a7 eZ=true->a7 xf=true->iq (gN 8) nO (b0 0 m) (uE ns f G ls bs M 0 a none none none none none)=some (.nx (uE ns f G eZ xf M tp a x8 x9 hU xg x12))->bK [.scr ns,.int f,.int G,.lst ls,.lst bs]=some (.tup [.int M,.int tp],[.lst eZ,.lst xf]):=λeZ xf tp x8 x9 hU xg x12 i1 i2 h=>by
  unfold bK cW;rw[Gak ⟨rfl,by simp[DL.argsOk,GaU,D.aQ]⟩,show bt [3,4] 13 [.scr ns,.int f,.int G,.lst ls,.lst bs]=[sh (.scr ns),sh (.int f),sh (.int G),lL ls,lL bs,none,none,none,none,none,none,none,none] from rfl,qr];rw[ax (e' :=[sh (.scr ns),sh (.int f),sh (.int G),lL ls,lL bs,sh (.int 0),none,none,none,none,none,none,none]) rfl];rw[ax (e' :=[sh (.scr ns),sh (.int f),sh (.int G),lL ls,lL bs,sh (.int (if 0<G then many ns 34 12 else 0)),none,none,none,none,none,none,none]) (by
   rw[d8 (t:=uG) (b:=decide (0<G)) (by simp[uG])];by_cases c:0<G
   .simp[c,K9,ja (ns:=ns) (show(0:Int)<=34 by lia) (by lia) (show(0:Int)<=12 by lia)]
   .simp[c])]
  rw[ax (e' :=[sh (.scr ns),sh (.int f),sh (.int G),lL ls,lL bs,sh (.int M),none,none,none,none,none,none,none]) (by
   rw[d8 (t:=uT9) (b:=f==9&&decide (0<G)) (gQ (by simp) (by simp)),em];cases(f==9&&decide (0<G))<;>rfl)]
  rw[ax (e' :=[sh (.scr ns),sh (.int f),sh (.int G),lL ls,lL bs,sh (.int M),sh (.int 0),none,none,none,none,none,none]) rfl];rw[ax (e' :=uE ns f G ls bs M 0 a none none none none none) (by
   simp[uAt,<-ew,cc (ns:=ns) (show(0:Int)<=36 by lia) (by lia) hw.1,<-ea,uE])]
  rw[ax (e' :=uE ns f G eZ xf M tp a x8 x9 hU xg x12) (by
   rw[<-h];refine uh (R none) λd hd=> ?_;rw[head_range hd];exact Kb)]
  exact Kc i1 i2
 by_cases hG0:G=0
 .obtain rfl:=RG hG0;exact⟨ls,bs,0,M,0,eM,by lia,call ls bs 0 none none none none none O.il O.ib rfl,λ_=> ⟨rfl,rfl,rfl⟩,λh=>by lia⟩
 have hG1:0<G:=by lia
 obtain⟨e,h1,h2⟩:=jR (g:=gN 8) (body:=nO) (λi e=>∃ls bs tp x8 x9 hU xg x12,e=uE ns f G ls bs M tp a x8 x9 hU xg x12/\Ok (n+20*i) (PO gs s ch m0 i tp) ls bs/\((i:Int)<=a->tp=0)) (b0 0 m) 0 (uE ns f G ls bs M 0 a none none none none none) ⟨ls,bs,0,none,none,none,none,none,rfl,O.mn (by lia) λd h=>h.2 hG1,λ_=>rfl⟩ λi d e hd he=>by
  obtain⟨ls,bs,tp,x8,x9,hU,xg,x12,rfl,O,hz⟩:=he;obtain⟨hi,rfl⟩:=fv hd;simp only[GaP,GbY] at O hz⊢;obtain⟨ls',bs',zH,y9,Qi,Qh,Qg,e1,O',PD⟩:=rS (ns:=ns) (f:=f) (G:=G) (x9:=x9) (hU:=hU) (xg:=xg) (x12:=x12) hi hm eM ⟨ha.1,by lia⟩ (by lia) hz O;exact⟨_,_,rfl,e1,_,_,_,_,_,_,_,_,rfl,O'.mn (by lia) λ_ h=>h,λh=>PD (by lia)⟩
 obtain⟨eZ,xf,tp,x8,x9,hU,xg,x12,rfl,O1,_⟩:=h2;rw[fB,GaP] at O1;exact⟨eZ,xf,m,M,tp,eM,hm,call eZ xf tp x8 x9 hU xg x12 O1.il O1.ib h1,λh=>absurd h hG0,λ_=>O1.mn (by lia) λ_ h=>h⟩
structure PF(n s:Nat)(ch:Int)(mb m:Nat)(tp:Int)(h:Str)(gs:List Nm)(cs:List (List D))(bl:List D)(xs:List OXr):Prop where
 en:FA h=false
 gl:gs.length=n
 cl:cs.length=s
 cn:mT cs=ch
 bn:bl.length=mb
 xn:xs.length=m
 st:0<m->rP xs=tp
def FD(h:Str)(gs:List Nm)(cs:List (List D))(bl:List D)(xs:List OXr):D:=dr h (gs.map ay) ((stN cs).map ay) bl ((xs.map oxN).map ay)
def FG(d:D):D:=(((ixD d (.int 2)).bind λx=>cM [x]).map (·.d)).getD .non
theorem CF(cs:List (List D)):((stN cs).map ay).map FG=cs.map λc=> .int c.length:=by
 have:∀(n:Nat) (cs:List (List D)),cs.length=n->((stN cs).map ay).map FG=cs.map λc=> .int c.length:=by
  intro n;induction n with
  |zero=>intro cs hl;rw[GaF hl];rfl
  |succ n ih=>
   intro cs hl;rcases Gcm cs with rfl| ⟨zc,c,rfl⟩
   .cases hl
   .rw[Gcn] at hl⊢;rw[mH,GaV,GaV,ih zc (by simpa using hl),GaV]
    rfl
 exact this _ cs rfl
theorem FH(h:d∈(stN cs).map ay):∃x y c z,d= .tup [x,y,.tup c,z]:=by
 obtain⟨p,hp,rfl⟩:=List.mem_map.mp h;obtain⟨k,hk,rfl⟩:=List.mem_mapIdx.mp hp;exact⟨_,_,_,_,rfl⟩
theorem MN(cs:List (List D))(e:DL.Env):cV (gN 0) bD (bw cM (a9 (ixE (vE 0) (kI 2)) aD)) ((stN cs).map ay) (none::e)=some (cs.map λc=> .int c.length):=by
 have:=qb (g:=gN 0) (t:=bD) (f:=bw cM (a9 (ixE (vE 0) (kI 2)) aD)) (C:=λe=>∃x z,e=x::z) (λ_=>true) FG ((stN cs).map ay) (none::e) ⟨_,_,rfl⟩ λd hd e he=>by
  obtain⟨x,y,c,z,rfl⟩:=FH hd;obtain⟨w,r,rfl⟩:=he;exact⟨_,rfl,⟨_,_,rfl⟩,rfl,λ_=> ⟨.c,by simp[FG],rfl⟩⟩
 rw[this,List.filter_eq_self.mpr λ_ _=>rfl,CF]
theorem MO(xs:List OXr)(e:DL.Env):cV (gN 0) bD (bw cM (a9 (ixE (vE 0) (kI 5)) aD)) ((xs.map oxN).map ay) (none::e)=some (xs.map λx=> .int x.2.2.2.length):=by
 rw[GcH];exact km (emb:=ay∘oxN) (C:=λe=>∃x z,e=x::z) (λx=> .int x.2.2.2.length) xs _ ⟨_,_,rfl⟩ λx _ e he=>by
  obtain⟨w,r,rfl⟩:=he;exact⟨_,rfl,⟨_,_,rfl⟩,.c,by simp[oxN,ay],rfl⟩
theorem FI{α:Type}(f:α->Nat)(xs:List α):pq (xs.map λx=> .int (f x))=some (xs.map λx=>(f x:Int)):=by
 induction xs with
 |nil=>rfl
 |cons x xs ih=>simp[ih]
theorem CG{α:Type}(f:α->Nat)(xs:List α):(xs.map λx=>(f x:Int)).sum=((xs.map f).sum:Nat):=by
 induction xs with
 |nil=>rfl
 |cons x xs ih=>simp[ih]
theorem qt{α:Type}(f:α->Nat)(xs:List α):mO [.lst (xs.map λx=> .int (f x))]=some ⟨.c,.int ((xs.map f).sum:Nat)⟩:=by
 show(pq (xs.map λx=> .int (f x))).map _=_;rw[FI];simp[CG]
theorem same_int(p:Int):fu [.int p,.int p]=some (.bl true):=by
 unfold fu j6;simp
def lE(ns:List Int)(f:Int)(ls bs:List D)(N:Int)(x a b c p fd e y:Os):DL.Env:=[sh (.scr ns),sh (.int f),oL ls,oL bs,sh (.int N),x,a,b,c,p,fd,e,y]
def CH:DW:=vL fZ (a9 (bw listS (a9 (vE 2) aD)) aD) 10 [44] 11 (av 9 (AR [44] "place" (vE 11)))
variable{N:Int}
theorem FJ{ns:List Int}{bs:List D}{a b c:Os}{p:Nat}(hi:a7 ls=true)(hr:fZ [.lst ls]=some (.exc 44 "place" (.int (p:Nat)))):CH (lE ns f ls bs N x a b c (sh .non) (sh .non) none y)=some (.nx (lE ns f ls bs N x a b c (sh (.int (p:Nat))) (sh .non) none y)):=by
 generalize (p:Int)=P at*;simp[CH,vL,lE,kf,hi,hr,AR,M5]
theorem Ke{ns:List Int}{bs:List D}{a b c:Os}(hi:a7 ls=true)(hr:fZ [.lst ls]=some (.ok d)):CH (lE ns f ls bs N x a b c (sh .non) (sh .non) none y)=some (.nx (lE ns f ls bs N x a b c (sh .non) (sh d) none y)):=by
 simp[CH,vL,lE,kf,hi,hr]
theorem uz{e:DL.Env}(h:t e=some false):rIf t p e=some (.nx e):=by
 simp only[rIf,oIf,vQ,gx];rw[d8 h]
 rfl
theorem MP{e:DL.Env}{k:Cls}(h:t e=some true)(hp:p e=some ⟨k,d⟩)(hk:pw ⟨k,d⟩=true)(hd:d.imm=true):rIf t p e=some (.ret d e):=by
 simp only[rIf,oIf,vQ,gx];rw[d8 h,Gak rfl,bN,bN];simp[hp,hk,hd]
def T1:DT:=af gtB (aG 3) (kI 0)
def S1:DE:=bO fu (a9 (vE 9) (a9 (ixE (vE 3) (kI 0)) aD))
def T2:DT:=orT (af m5 (vE 9) (kE .non)) (orT (k7 (fX (bE (i6 "tuple" (vE 10))))) (af neB (aG 10) (kI 4)))
def T3:DT:=af neB (bw mO (a9 (bC none 1 [] (orI (m8 (ixE (vE 10) (kI 1))) (pP (ixE (vE 10) (kI 1)))) (gN 0) bD (bw cM (a9 (ixE (vE 0) (kI 2)) aD))) aD)) (ixE (vE 6) (kI 1))
def T4:DT:=af neB (bw mO (a9 (bC none 1 [] (orI (m8 (ixE (vE 10) (kI 3))) (pP (ixE (vE 10) (kI 3)))) (gN 0) bD (bw cM (a9 (ixE (vE 0) (kI 5)) aD))) aD)) (opE k6 (ixE (vE 8) (kI 1)) (bw (orS oq kL) (a9 (bE (af gtB (ixE (vE 8) (kI 0)) (kI 0))) aD)))
def S5:DE:=bE (af eqB (bC (some 10) 1 [] (orI (m8 (vE 10)) (pP (vE 10))) (gN 0) bD (bw cM (a9 (vE 0) aD))) (cy (a9 (vE 4) (a9 (ixE (vE 6) (kI 0)) (a9 (vE 7) (a9 (ixE (vE 8) (kI 0)) aD))))))
def qu:DW:=ag (rIf T1 S1) (ag (rIf T2 (kE (.bl false))) (ag (rIf T3 (kE (.bl false))) (ag (rIf T4 (kE (.bl false))) (orW (a8 (retS S5)) (kZ S5)))))
theorem CJ{ns:List Int}{bs:List D}{a b c fd:Os}{p:Nat}(hh:bs.head? =some (.int (p:Nat))):(qu (lE ns f ls bs N x a b c (sh (.int (p:Nat))) fd none y)).bind ED=some (.bl true):=by
 cases bs with
 |nil=>cases hh
 |cons d bs=>
  have:d= .int (p:Int):=by simpa using hh
  subst this;generalize (p:Int)=P;unfold qu;rw[ag,MP (d:= .bl true) (k:= .c) (by simp[T1,lE]) (by simp[S1,lE,same_int]) rfl rfl]
  rfl
variable{bl:List D}{Mb:Int}
theorem CK{ns:List Int}{Mo:Int}{n mb m:Nat}{gs:List Nm}{xs:List OXr}(P:PF n s ch mb m tp h gs cs bl xs)(eN:N=n)(eM:M=s)(eb:Mb=mb)(eo:Mo=m)(l1:n<1000)(l2:s<1000)(l3:m<1000):
  (qu (lE ns f ls [] N x (sh (.tup [.int M,.int ch])) (sh (.int Mb)) (sh (.tup [.int Mo,.int tp])) (sh .non) (sh (.tup [.tup (gs.map ay),.tup ((stN cs).map ay),.tup bl,.tup ((xs.map oxN).map ay)])) none y)).bind ED=some (.bl true):=by
 have s2:mO [.lst (cs.map λc=> .int c.length)]=some ⟨.c,.int ch⟩:=by
  rw[qt];have:=P.cn;unfold mT at this;rw[this]
 have z5:Mo<=0->rP xs=0:=λh=>by
  have:=P.xn;rw[show xs=[] from GaF (by lia)]
  rfl
 obtain⟨t,et⟩:∃t,t=rP xs:=⟨_,rfl⟩
 have s5:mO [.lst (xs.map λx=> .int x.2.2.2.length)]=some ⟨.c,.int t⟩:=by
  rw[qt (λx:OXr=>x.2.2.2.length),et]
  rfl
 have lc:cs.length<=16777216:=by have:=P.cl;lia
 have lx:xs.length<=16777216:=by have:=P.xn;lia
 have a1:(gs.length:Int)=N:=by have:=P.gl;lia
 have a2:(cs.length:Int)=M:=by have:=P.cl;lia
 have a3:(bl.length:Int)=Mb:=by have:=P.bn;lia
 have a4:(xs.length:Int)=Mo:=by have:=P.xn;lia
 have c2:=MN cs [];have c5:=MO xs [];have lS:((stN cs).map ay).length=cs.length:=by rw[Gax,ui]
 have lX:((xs.map oxN).map ay).length=xs.length:=by simp
 generalize (stN cs).map ay=S at*;generalize (xs.map oxN).map ay=X at*;unfold qu;have q4:∃z:Int,z=tp*(if 0<Mo then 1 else 0)/\g8 tp (if 0<Mo then 1 else 0)=true/\t=z:=by
  refine⟨_,rfl,oP (by split<;>lia) (by split<;>lia), ?_⟩;by_cases c:0<Mo
  .rw[Gak c,et,P.st (by lia),Int.mul_one]
  .rw[Gam c,et,z5 (by lia),Int.mul_zero]
 obtain⟨z,z1,z2,z3⟩:=q4;rw[ax (uz (by simp[T1,lE])),ax (uz (by simp[T2,lE])),ax (uz (by
  simp only[T3,af,bw,a9,bC,oO,lE,aK];simp[DL.compEnv,aj,lS,lc,-cV];rw[c2];simp[s2])),ax (uz (by
  have e1:bw mO (a9 (bC none 1 [] (orI (m8 (ixE (vE 10) (kI 3))) (pP (ixE (vE 10) (kI 3)))) (gN 0) bD (bw cM (a9 (ixE (vE 0) (kI 5)) aD))) aD) (lE ns f ls [] N x (sh (.tup [.int M,.int ch])) (sh (.int Mb)) (sh (.tup [.int Mo,.int tp])) (sh .non) (sh (.tup [.tup (gs.map ay),.tup S,.tup bl,.tup X])) none y)=some ⟨.c,.int t⟩:=by
   simp only[bw,a9,bC,oO,lE,aK];simp[DL.compEnv,aj,lX,lx,-cV];rw[c5];simp[s5]
  have e2:opE k6 (ixE (vE 8) (kI 1)) (bw (orS oq kL) (a9 (bE (af gtB (ixE (vE 8) (kI 0)) (kI 0))) aD)) (lE ns f ls [] N x (sh (.tup [.int M,.int ch])) (sh (.int Mb)) (sh (.tup [.int Mo,.int tp])) (sh .non) (sh (.tup [.tup (gs.map ay),.tup S,.tup bl,.tup X])) none y)=some ⟨.c,.int z⟩:=by
   by_cases c:0<Mo
   .rw[Gak c] at z1 z2;simp[lE,c,z2,z1]
   .rw[Gam c] at z1 z2;simp[lE,c,z2,z1]
  rw[T4,af,e1,e2];simp[z3]))]
 rw[bN];have e5:S5 (lE ns f ls [] N x (sh (.tup [.int M,.int ch])) (sh (.int Mb)) (sh (.tup [.int Mo,.int tp])) (sh .non) (sh (.tup [.tup (gs.map ay),.tup S,.tup bl,.tup X])) none y)=some ⟨.c,.bl true⟩:=by
  simp only[S5,bE,af,bC,oO,lE,aK];simp[DL.compEnv,aj,lS,lX,a1,a2,a3,a4,eqB]
 simp[e5,ED]
def l18:DE:=ixE (cy (a9 (kS "cap ever 4") (a9 (kS "young 4") (a9 (kS "bar sa sa 4") (a9 (kS "order z ga sa") aD))))) (bO ah (a9 (vE 0) (a9 (kI 5) (a9 (kI 4) aD))))
def lG:DW:=orW (a8 (dY none (aY (vE 4)) (gN 5) qh)) (dK 5 (vE 4) (ag (a8 (av 12 gN1)) (ag (aIf (orT (af eqB (vE 5) (kI 6)) (t3 1 5 4 17)) 3 (aG 2)) (ag (sIf (t3 1 5 4 17) (av 12 gN2)) (gp 2 gLn)))))
def f16:DT:=af eqB (vE 1) (kI 16)
def f18:DT:=af eqB (vE 1) (kI 18)
theorem CL:BA=ag (a8 (av 1 (opE dP (bO ah (a9 (vE 0) (a9 (kI 0) (a9 (kI 40) aD)))) (kI 26)))) (ag (a8 (av 2 (cy aD))) (ag (a8 (av 3 (cy aD))) (ag (a8 (av 4 (bO bg (a9 (vE 0) (a9 (kI 2) (a9 (kI 6) aD)))))) (ag (orW (a8 (ifS f16 (av 4 (kI 7)) az)) (ifW f16 (a8 (av 4 (kI 7))) (a8 az))) (ag lG (ag (orW (a8 (ifS f18 (aC (aH 3 (aG 2)) (aH 2 l18)) az)) (ifW f18 (ag (orW (a8 (aH 3 (aG 2))) (dD 3 (aG 2))) (orW (a8 (aH 2 l18)) (dD 2 l18))) (a8 az))) (ag (orW (a8 aX) (setC 6 (bx bY [AW.val (vE 0),AW.val (vE 1),AW.lent 2,AW.lent 3]))) (ag (orW (a8 aX) (setC 7 (bx cU [AW.val (vE 0),AW.val (vE 1),AW.val (bw gL (a9 (kI 6) (a9 (ixE (vE 6) (kI 0)) aD))),AW.lent 2,AW.lent 3]))) (ag (orW (a8 aX) (setC 8 (bx bK [AW.val (vE 0),AW.val (vE 1),AW.val (vE 4),AW.lent 2,AW.lent 3]))) (ag (a8 (av 9 (kE .non))) (ag (a8 (av 10 (kE .non))) (ag (orW (a8 aX) CH) qu)))))))))))):=by kernel_rfl
theorem rT:∀n<8,a7 ((gsN n).map ay)=true:=by decide+kernel
theorem MQ:∀n<7,0<n->(isI (plD (gsN n) "ga") 0&&(aP (plD (gsN n) "sa")&&aP (plD (gsN n) "z")))=true:=by decide+kernel
theorem MR:∀s<7,0<s->(aP (plN (nmS s) "ga")&&aP (plN (nmS s) "z"))=true:=by decide+kernel
theorem MS(n:Nat):GS n=SSt (gsN n) (if n=0 then "" else "guest") []:=rfl
theorem MT{n k:Nat}(hn:0<n)(RM:n<=6)(hs:0<s)(hk:k<=(prs s).length)(h:PB (gsN n) s ch k d):PO (gsN n) s ch k 0 0 d:=by
 obtain⟨h,cs,⟨h1,h2,h3,h4,h5,h6,h7⟩,e⟩:=h;have g:=MQ n (by lia) hn;have z:=vW s (by lia) hs;have y:=MR s (by lia) hs;simp only[Gad] at g z y;refine⟨h,cs,(brN s k).map g5,[],⟨?_, ?_,⟨rT n (by lia),C3 h4,Cd _,g7 g.1,by rw[jS,h3];exact g7 z.1, ?_,⟨g.2.1,g.2.2⟩,by rw[jS,jS,h3];exact y⟩,h3,h5, ?_,rfl,rfl,rfl,rfl,by lia,h7.2⟩,e⟩
 .rcases h1 with rfl|rfl|rfl<;>rfl
 .rcases h1 with rfl|rfl|rfl<;>decide+kernel
 .cases cs with
  |nil=>simp at h3;lia
  |cons c cs=>exact⟨.str ("s"++ltr 0),[.tup c,.int 0],_,by simp only[stN,List.mapIdx_cons,Gbn];rfl⟩
 .rw[Gax];exact oT hk
theorem jT{v w:DW}{e:DL.Env}(h:v e=some (.nx e')):ag (orW (a8 aX) v) w e=w e' :=by simp[h]
variable{ls' bs' :List D}
theorem FK{ns:List Int}{bs:List D}(hx:slF x=true/\slF y=true)(h3:a7 ls=true)(h4:a7 bs=true)(hd:d.imm=true)(hr:bY [.scr ns,.int f,.lst ls,.lst bs]=some (d,[.lst ls',.lst bs'])):setC 6 (bx bY [AW.val (vE 0),AW.val (vE 1),AW.lent 2,AW.lent 3]) (lE ns f ls bs N x none none none none none none y)=some (.nx (lE ns f ls' bs' N x (sh d) none none none none none y)):=by
 simp[lE,setC,bx,bf,gf,ij,oz,dG,j3,Slot.put,h3,h4,hr,hd,hx.1,hx.2]
theorem FL{ns:List Int}{bs:List D}(hx:slF x=true/\slF y=true)(h3:a7 ls=true)(h4:a7 bs=true)(hr:cU [.scr ns,.int f,.int (if M<6 then M else 6),.lst ls,.lst bs]=some (.int Mb,[.lst ls',.lst bs'])):setC 7 (bx cU [AW.val (vE 0),AW.val (vE 1),AW.val (bw gL (a9 (kI 6) (a9 (ixE (vE 6) (kI 0)) aD))),AW.lent 2,AW.lent 3]) (lE ns f ls bs N x (sh (.tup [.int M,.int ch])) none none none none none y)=some (.nx (lE ns f ls' bs' N x (sh (.tup [.int M,.int ch])) (sh (.int Mb)) none none none none y)):=by
 simp[lE,setC,bx,bf,gf,ij,oz,dG,j3,Slot.put,h3,h4,hr,hx.1,hx.2]
theorem FN{ns:List Int}{bs:List D}(hx:slF x=true/\slF y=true)(h3:a7 ls=true)(h4:a7 bs=true)(hd:d.imm=true)(hr:bK [.scr ns,.int f,.int N,.lst ls,.lst bs]=some (d,[.lst ls',.lst bs'])):setC 8 (bx bK [AW.val (vE 0),AW.val (vE 1),AW.val (vE 4),AW.lent 2,AW.lent 3]) (lE ns f ls bs N x (sh (.tup [.int M,.int ch])) (sh (.int Mb)) none none none none y)=some (.nx (lE ns f ls' bs' N x (sh (.tup [.int M,.int ch])) (sh (.int Mb)) (sh d) none none none y)):=by
 simp[lE,setC,bx,bf,gf,ij,oz,dG,j3,Slot.put,h3,h4,hr,hd,hx.1,hx.2]
theorem Kf{ns:List Int}{n:Nat}{bs:List D}(hn:n<=7)(O:Ok n (λd=>d=GS n/\n<=6) ls bs):∃ls' bs',orW (a8 (ifS f18 (aC (aH 3 (aG 2)) (aH 2 l18)) az)) (ifW f18 (ag (orW (a8 (aH 3 (aG 2))) (dD 3 (aG 2))) (orW (a8 (aH 2 l18)) (dD 2 l18))) (a8 az)) (lE ns f ls bs N x none none none none none none y)=some (.nx (lE ns f ls' bs' N x none none none none none none y))/\Ok (n+1) (λd=>d=GS n/\n<=6) ls' bs' :=by
 have nl:=O.nl;have nb:=O.nb;have l1:ls.length<16777216:=by lia
 have l2:bs.length<16777216:=by lia
 by_cases c:f=18
 .subst c;have hj:=bZ ns 5 4 (by lia);obtain⟨l,hl,hb⟩:∃l:Str,atD ([.str "cap ever 4",.str "young 4",.str "bar sa sa 4",.str "order z ga sa"]:List D) (drw ns 5 4)=some (D.str l)/\(n<=6->bdB (GS n) l=true):=by
   have g:n<=6->_:=λh=>OP n (by lia);simp only[Gad] at g;generalize drw ns 5 4=q at hj;rcases(by lia:q=0\/q=1\/q=2\/q=3) with rfl|rfl|rfl|rfl
   .exact⟨_,rfl,λh=>(g h).1⟩
   .exact⟨_,rfl,λh=>(g h).2.1⟩
   .exact⟨_,rfl,λh=>(g h).2.2.1⟩
   .exact⟨_,rfl,λh=>(g h).2.2.2⟩
  refine⟨_,_, ?_,O.bad λd ⟨e,h⟩=>e▸rD (hb h)⟩;have E:(aC (aH 3 (aG 2)) (aH 2 l18)) (lE ns 18 ls bs N x none none none none none none y)=some (.nx (lE ns 18 (ls++[.str l]) (bs++[.int (ls.length:Nat)]) N x none none none none none none y)):=by
   refine(aO (e' :=lE ns 18 ls (bs++[.int (ls.length:Nat)]) N x none none none none none none y) (by simp[lE,l2,aj])).trans ?_;simp[l18,lE,cc (ns:=ns) (show(0:Int)<=5 by lia) (by lia) (show(0:Int)<4 by lia),hl,aj,l1]
  rw[d8 (t:=f18) (b:=true) rfl,Gak rfl,bN,a8,E]
  rfl
 .refine⟨ls,bs, ?_,O.mn (by lia) λ_ h=>h⟩;rw[d8 (t:=f18) (b:=false) (by simp[f18,lE,c])]
  rfl
theorem CM{gs:List Nm}{xs:List OXr}(hi:a7 ls=true)(hs:0<cs.length)(he:FA h=false)(G:Goes d0 ls (FD h gs cs bl xs)):fZ [.lst ls]=some (.ok (.tup [.tup (gs.map ay),.tup ((stN cs).map ay),.tup bl,.tup ((xs.map oxN).map ay)])):=by
 refine F8 G hi ?_ he;rintro rfl;generalize e:FD h gs cs bl xs=d at G;cases G;unfold FD d0 dr at e;injection e with _ _ e
 simp only[List.cons.injEq,D.kid.injEq] at e;have:=congrArg List.length e.2.2.1;rw[Gax,ui] at this;simp at this;rw[this] at hs;cases hs
theorem CN:∀ns:List Int,ns.length<=63->mD [.scr ns]=some (.bl true):=by
 intro ns _;have mg:=iD (ns:=ns) (k:=2) (m:=6) (by lia);obtain⟨f,ef⟩:∃f,f=drw ns 0 40%26:=⟨_,rfl⟩
 obtain⟨n,N,eN,hn,em⟩:∃(n:Nat) (N:Int),N=(n:Int)/\n<=7/\N=if f==16 then 7 else many ns 2 6:=by
  cases f==16
  .exact⟨(many ns 2 6).toNat,many ns 2 6,by lia,by lia,rfl⟩
  .exact⟨7,7,rfl,by lia,rfl⟩
 obtain⟨ls,bs,x,y,sl,h1,O⟩:=JQ (ns:=ns) (f:=f) hn;rw[<-eN] at h1;obtain⟨eZ,xf,h2,O1⟩:=Kf (ns:=ns) (f:=f) (N:=N) (x:=x) (y:=y) hn O;have hg:=rT n (by lia);obtain⟨Qq,Pf,ch,m,M,eM,m1,m7,h3,O2⟩:=vU (ns:=ns) (f:=f) (n:=n+1) (g:=gsN n) (h0:=if n=0 then "" else "guest") (by lia) hg (by split<;>simp) (O1.mn (Gap _) λd h=> ⟨by rw[h.1,MS],by simp[gsN];exact h.2⟩);obtain⟨s,es⟩:∃s:Nat,s=if m<6 then m else 6:=⟨_,rfl⟩
 have hs:0<s/\s<7:=by rw[es];split<;>lia
 obtain⟨gg,g1,g2,Rn⟩:∃gg:List Nm,(m<=6->gg=gsN n)/\(gg.length<=6->m<=6)/\a7 (gg.map ay)=true:=by
  by_cases c:m<=6
  .exact⟨gsN n,λ_=>rfl,λ_=>c,hg⟩
  .exact⟨gsN 7,λh=>absurd h c,λh=>absurd h (by decide),rT 7 (by lia)⟩
 obtain⟨Pw,Qf,mb,Mb,eb,RU,bp,h4,O3⟩:=Fv (ns:=ns) (f:=f) (S:=if M<6 then M else 6) (n:=n+72) (s:=s) (ch:=ch) (g:=gg) (by lia) Rn hs.1 hs.2 (by rw[es];split<;>split<;>lia) (O2.mn (by lia) λd ⟨z,⟨q1,q2,q3,q4,q5,q6⟩,e⟩=>by
  rw[g1 q5];exact⟨z.1,z.2,⟨(q1.1 (by lia)).imp id .inl,λh=>absurd h (by lia),by rw[es];split<;>lia,q3,q4,by lia,by lia,q6⟩,e⟩)
 have pb6:∀d,PB gg s ch mb d->gg.length<=6:=λd ⟨_,_,⟨_,_,_,_,_,_,h7⟩,_⟩=>h7.2;have nn:m<=6->gg.length=n:=λh=>by rw[g1 h];simp[gsN]
 have em6:m<=6->m=s:=λh=>by rw[es];split<;>lia
 obtain⟨yS,zd,mo,Mo,tp,eo,o13,h5,z0,z1⟩:=w6 (ns:=ns) (f:=f) (G:=N) (n:=n+87) (s:=s) (ch:=ch) (m0:=mb) (gs:=gg) (by lia) (by lia) (λd=>PB gg s ch mb d) (O3.mn (by lia) λd h=> ⟨h,λhN=>by
  have l:=pb6 d h;have l2:=nn (g2 l);rw[g1 (g2 l)] at h⊢;exact MT (by lia) (by lia) hs.1 bp h⟩)
 have fin:BZ yS zd\/(zd=[]/\∃h gs cs bl xs,PF n s ch mb mo tp h gs cs bl xs/\Goes d0 yS (FD h gs cs bl xs)/\m=s):=by
  by_cases c:N=0
  .obtain⟨e0,rfl,rfl⟩:=z0 c;refine O3.st.imp id λ⟨e,d,p,G⟩=> ⟨e, ?_⟩;have l:=pb6 d p;obtain⟨h,cs,⟨q1,q2,q3,q4,q5,q6,q7⟩,e2⟩:=p;exact⟨h,gg,cs,(brN s mb).map g5,[],⟨by rcases q1 with rfl|rfl|rfl<;>decide+kernel,nn (g2 l),q3,q5,by rw[Gax];exact oT bp,e0.symm,λh=>absurd h (by lia)⟩,by rw[e2] at G;exact G,em6 (g2 l)⟩
  .refine(z1 (by lia)).st.imp id λ⟨e,d,⟨h,cs,bl,xs,P,e2⟩,G⟩=> ⟨e, ?_⟩;exact⟨h,gg,cs,bl,xs,⟨P.en,nn (g2 P.g6),P.cl,P.cn,P.bn,P.xn,λ_=>P.st⟩,by rw[e2] at G;exact G,em6 (g2 P.g6)⟩
 have i4:a7 yS=true/\a7 zd=true:=by
  by_cases c:N=0
  .obtain⟨_,rfl,rfl⟩:=z0 c;exact⟨O3.il,O3.ib⟩
  .have:=z1 (by lia);exact⟨this.il,this.ib⟩
 unfold mD B8;rw[Gak ⟨rfl,rfl⟩,show bt [] 13 [.scr ns]=[sh (.scr ns),none,none,none,none,none,none,none,none,none,none,none,none] from rfl,CL];rw[ax (e' :=[sh (.scr ns),sh (.int f),none,none,none,none,none,none,none,none,none,none,none]) (by simp[cc (ns:=ns) (show(0:Int)<=0 by lia) (by lia) (show(0:Int)<40 by lia),<-ef])];rw[ax (e' :=[sh (.scr ns),sh (.int f),oL [],none,none,none,none,none,none,none,none,none,none]) rfl,ax (e' :=[sh (.scr ns),sh (.int f),oL [],oL [],none,none,none,none,none,none,none,none,none]) rfl];rw[ax (e' :=gE ns f [] [] (many ns 2 6) none none) (by simp[ja (ns:=ns) (show(0:Int)<=2 by lia) (by lia) (show(0:Int)<=6 by lia),gE])];rw[ax (e' :=gE ns f [] [] N none none) (by
  rw[d8 (t:=f16) (b:=f==16) (by simp[f16,gE]),em];cases f==16<;>rfl)]
 have R:(aY (vE 4)) (gE ns f [] [] N none none)=some (b0 0 n):=by
  have:cu N=true:=dv (by lia) (by lia);have t:N.toNat=n:=by lia
  simp[gE,this,t]
 rw[ax (e' :=gE ns f ls bs N x y) (by
  rw[lG,bN,a8,dY,aK,R,Option.bind_some,h1]
  rfl)]
 rw[show gE ns f ls bs N x y=lE ns f ls bs N x none none none none none none y from rfl,ax h2];rw[jT (e' :=lE ns f Qq Pf N x (sh (.tup [.int M,.int ch])) none none none none none y) (FK sl O1.il O1.ib rfl h3)];rw[jT (e' :=lE ns f Pw Qf N x (sh (.tup [.int M,.int ch])) (sh (.int Mb)) none none none none y) (FL sl O2.il O2.ib h4)];rw[jT (e' :=lE ns f yS zd N x (sh (.tup [.int M,.int ch])) (sh (.int Mb)) (sh (.tup [.int Mo,.int tp])) none none none y) (FN sl O3.il O3.ib rfl h5)];rw[ax (e' :=lE ns f yS zd N x (sh (.tup [.int M,.int ch])) (sh (.int Mb)) (sh (.tup [.int Mo,.int tp])) (sh .non) none none y) rfl,ax (e' :=lE ns f yS zd N x (sh (.tup [.int M,.int ch])) (sh (.int Mb)) (sh (.tup [.int Mo,.int tp])) (sh .non) (sh .non) none y) rfl];rcases fin with⟨pre,l,rest,d,e,G,B,hh⟩| ⟨rfl,h,gs,cs,bl,xs,P,G,ms⟩
 .rw[jT (FJ i4.1 (by rw[e];exact BY G B (by rw[<-e];exact i4.1)))];exact CJ hh
 .rw[jT (Ke i4.1 (CM i4.1 (by have:=P.cl;lia) P.en G))];exact CK P eN (by lia) eb eo (by lia) (by lia) (by lia)
end Maths
namespace Der
open PySem PySem.Spec PyProof.Rows L2 DL
section
variable{Pm:Params}{mg:Str->Option Value}
def Txt(Pm:Params)(mg:Str->Option Value):Prop:=∃h:Heap,(Hd.K Pm).In h/\h.Ns mainGlobals mg
theorem Txt.at{n:Str}{v:Value}(T:Txt Pm mg)(e:PySem.W.nsIn (Hd.K Pm) mainGlobals n=some (some v):=by kernel_rfl):mg n=some v:=let⟨_,X,G⟩:=T;PySem.W.mg_of X G e
theorem Txt.no{n:Str}(T:Txt Pm mg)(e:PySem.W.nsIn (Hd.K Pm) mainGlobals n=some none:=by kernel_rfl):mg n=none:=let⟨_,X,G⟩:=T;PySem.W.mg_none_of X G e
theorem mkI{x q:Str}{st:Stmt}{f:Addr}{pm cd:Value}(l:(Hd.K Pm).lookup f=some (Hd.fo (PySem.W.fnOf x q (gv st) (bI st) (aw st) .none .none .none pm none cd .none)):=by kernel_rfl)(c:PySem.W.codeIn (Hd.K Pm) cd q=true:=by kernel_rfl)(k:PySem.W.keepIn (Hd.K Pm) (.ref f)=true:=by kernel_rfl):Fun (Hd.K Pm) x q st f (PySem.W.fnOf x q (gv st) (bI st) (aw st) .none .none .none pm none cd .none):=Hu l c k
theorem fC{us:List Value}{n:Nat}(h:us.length=n+1):∃a t,us=a::t/\t.length=n:=by
 cases us with
 |nil=>cases h
 |cons a t=>exact⟨a,t,rfl,Nat.succ.inj h⟩
theorem all1{K:PySem.W.Frag}{fd:FuncData}{p0:Str}(h:∀v0:Value,bindArgs fd ⟨[v0],[]⟩=pure ([p0].zip [v0])):Binds K fd [p0] []:= .all λus hl=>by
 obtain⟨v0,t0,rfl,hZ⟩:=fC hl;cases Gbr.mp hZ;exact h v0
variable{p1:Str}
theorem all2{K:PySem.W.Frag}{fd:FuncData}{p0:Str}(h:∀v0 v1:Value,bindArgs fd ⟨[v0,v1],[]⟩=pure ([p0,p1].zip [v0,v1])):Binds K fd [p0,p1] []:= .all λus hl=>by
 obtain⟨v0,t0,rfl,h0⟩:=fC hl;obtain⟨v1,t1,rfl,hZ⟩:=fC h0;cases Gbr.mp hZ;exact h v0 v1
variable{p2:Str}
theorem FP{K:PySem.W.Frag}{fd:FuncData}{p0:Str}(h:∀v0 v1 v2:Value,bindArgs fd ⟨[v0,v1,v2],[]⟩=pure ([p0,p1,p2].zip [v0,v1,v2])):Binds K fd [p0,p1,p2] []:= .all λus hl=>by
 obtain⟨v0,t0,rfl,h0⟩:=fC hl;obtain⟨v1,t1,rfl,h1⟩:=fC h0;obtain⟨v2,t2,rfl,hZ⟩:=fC h1;cases Gbr.mp hZ;exact h v0 v1 v2
variable{p3:Str}
theorem Kg{K:PySem.W.Frag}{fd:FuncData}{p0:Str}(h:∀v0 v1 v2 v3:Value,bindArgs fd ⟨[v0,v1,v2,v3],[]⟩=pure ([p0,p1,p2,p3].zip [v0,v1,v2,v3])):Binds K fd [p0,p1,p2,p3] []:= .all λus hl=>by
 obtain⟨v0,t0,rfl,h0⟩:=fC hl;obtain⟨v1,t1,rfl,h1⟩:=fC h0;obtain⟨v2,t2,rfl,h2⟩:=fC h1;obtain⟨v3,t3,rfl,hZ⟩:=fC h2;cases Gbr.mp hZ;exact h v0 v1 v2 v3
theorem MU{K:PySem.W.Frag}{fd:FuncData}{p0 p4:Str}(h:∀v0 v1 v2 v3 v4:Value,bindArgs fd ⟨[v0,v1,v2,v3,v4],[]⟩=pure ([p0,p1,p2,p3,p4].zip [v0,v1,v2,v3,v4])):Binds K fd [p0,p1,p2,p3,p4] []:= .all λus hl=>by
 obtain⟨v0,t0,rfl,h0⟩:=fC hl;obtain⟨v1,t1,rfl,h1⟩:=fC h0;obtain⟨v2,t2,rfl,h2⟩:=fC h1;obtain⟨v3,t3,rfl,h3⟩:=fC h2;obtain⟨v4,t4,rfl,hZ⟩:=fC h3;cases Gbr.mp hZ;exact h v0 v1 v2 v3 v4
theorem XB:XBs (Hd.K Pm) 24:=⟨by kernel_rfl,by kernel_rfl,by kernel_rfl⟩
theorem qv:XCl (Hd.K Pm) 24 44 41 "place":=J4 (by kernel_rfl:(Hd.K Pm).lookup 44=some Hd.pk) (by kernel_rfl) (by kernel_rfl) (by kernel_rfl) (by kernel_rfl:(Hd.K Pm).lookup 41=some (Hd.fo Hd.iB)) rfl (by kernel_rfl) (by kernel_rfl) (by kernel_rfl) (by kernel_rfl) (by kernel_rfl)
theorem w8:Binds (Hd.K Pm) Hd.iB ["self","place"] []:=all2 λ_ _=>rfl
variable{w:World}{P:Program}
theorem qw{base:Heap}(T:Txt Pm mg):bH P w (Hd.K Pm) mg base CX0 1 41 Hd.iB ["self","place"] (iL (Hd.K Pm) 24 44 "place"):=ET (sd:=Hd.inn 2 0) mkI cK XB qv rfl T.at rfl rfl rfl (by decide) (by decide) (by decide) (λenv=> ⟨_,rfl⟩) (λ_=>rfl) (λ_=>rfl)
theorem MV:L2.Cls (Hd.K Pm) 100:=⟨by kernel_rfl,by kernel_rfl,by kernel_rfl,by kernel_rfl⟩
theorem OS:Mk (Hd.K Pm) 100 97:=⟨by kernel_rfl,by kernel_rfl,by kernel_rfl,by kernel_rfl⟩
noncomputable abbrev fs:List Str:=["head","guests","stuffs","bars","orders"]
theorem OT:∀n∈fs,bL (Hd.K Pm) 100 n:=by
 simp only[List.forall_mem_cons];exact⟨by unfold bL;kernel_rfl,by unfold bL;kernel_rfl,by unfold bL;kernel_rfl,by unfold bL;kernel_rfl,by unfold bL;kernel_rfl,λ_ h=>nomatch h⟩
theorem MW:Kt (Hd.K Pm) 67 [.inr "guest",.inr "stuff",.inr "bar",.inr "order"]:=dM 268 (by kernel_rfl)
theorem MX:Kt (Hd.K Pm) 68 [.inr "guest",.inr "stuff",.inr "bar",.inr "order"]:=dM 273 (by kernel_rfl)
theorem MY:Kt (Hd.K Pm) 69 [.inr "cap",.inr "young",.inr "stuff",.inr "bar",.inr "order"]:=dM 278 (by kernel_rfl)
theorem MZ:Kt (Hd.K Pm) 70 [.inr "cap",.inr "young",.inr "stuff",.inr "bar",.inr "order"]:=dM 284 (by kernel_rfl)
theorem N0:Kt (Hd.K Pm) 71 [.inr "stuff",.inr "bar",.inr "order"]:=dM 290 (by kernel_rfl)
theorem N1:Kt (Hd.K Pm) 72 [.inr "bar",.inr "order"]:=dM 294 (by kernel_rfl)
theorem N2:Kt (Hd.K Pm) 73 [.inr "dose"]:=dM 297 (by kernel_rfl)
theorem N3:Kt (Hd.K Pm) 74 [.inr "asked",.inr "due"]:=dM 299 (by kernel_rfl)
theorem N4:Kt (Hd.K Pm) 75 [.inr "order"]:=dM 302 (by kernel_rfl)
theorem N5:Kt (Hd.K Pm) 76 [.inr "taper",.inr "order"]:=dM 304 (by kernel_rfl)
theorem N6:Kt (Hd.K Pm) 77 [.inr "taper",.inr "order"]:=dM 307 (by kernel_rfl)
theorem N7:Kt (Hd.K Pm) 78 [.inr "order",.inr "dose"]:=dM 321 (by kernel_rfl)
theorem N8:Kt (Hd.K Pm) 80 [.inl 1,.inl 1]:=dM 325 (by kernel_rfl)
theorem N9:Kt (Hd.K Pm) 81 [.inl 1,.inl 1,.inl 1]:=dM 328 (by kernel_rfl)
theorem Na:Kt (Hd.K Pm) 82 [.inl 1]:=dM 332 (by kernel_rfl)
theorem Nb:Kt (Hd.K Pm) 83 [.inr "down",.inr "up",.inr "near"]:=dM 337 (by kernel_rfl)
noncomputable abbrev mK:List (Str×Nat×Value):=[("",267,.ref 67),("guest",272,.ref 68),("stuff",277,.ref 69),("cap",283,.ref 70),("young",289,.ref 71),("bar",293,.ref 72),("order",296,.ref 73),("dose",298,.ref 74),("asked",301,.ref 75),("due",303,.ref 76),("taper",306,.ref 77)]
theorem w9:KDk P w (Hd.K w.params) 66 Den.fi:=Bx (o:={cls:= .type "dict",data:= .dict (mK.map (By w.params)).toArray 11}) rfl (by kernel_rfl) ⟨rfl,rfl,rfl⟩ rfl (q8 mK) (oK mK) (by decide) (.cons ⟨rfl,67,rfl,MW⟩ (.cons ⟨rfl,68,rfl,MX⟩ (.cons ⟨rfl,69,rfl,MY⟩ (.cons ⟨rfl,70,rfl,MZ⟩ (.cons ⟨rfl,71,rfl,N0⟩ (.cons ⟨rfl,72,rfl,N1⟩ (.cons ⟨rfl,73,rfl,N2⟩ (.cons ⟨rfl,74,rfl,N3⟩ (.cons ⟨rfl,75,rfl,N4⟩ (.cons ⟨rfl,76,rfl,N5⟩ (.cons ⟨rfl,77,rfl,N6⟩ .nil)))))))))))
noncomputable abbrev jc:List (Str×Nat×Value):=[("flat",324,.ref 80),("kilo",327,.ref 81),("ever",331,.ref 82)]
theorem qx:KDk P w (Hd.K w.params) 79 Den.dq:=Bx (o:={cls:= .type "dict",data:= .dict (jc.map (By w.params)).toArray 3}) rfl (by kernel_rfl) ⟨rfl,rfl,rfl⟩ rfl (q8 jc) (oK jc) (by decide) (.cons ⟨rfl,80,rfl,N8⟩ (.cons ⟨rfl,81,rfl,N9⟩ (.cons ⟨rfl,82,rfl,Na⟩ .nil)))
def csT:Str->Option D:=upS "LETTERS" (.str "abcdefghijklmnopqrstuvwxyz") (upS "FIGURES" (.str "0123456789") (upS "LONGEST_NAME" (.int 8) (upS "GREATEST" (.int 1000000000) (upS "MOST_FIGURES" (.int 10) (upS "MOST_GUESTS" (.int 6) (upS "MOST_STUFFS" (.int 6) (upS "MOST_BARS" (.int 12) (upS "MOST_ORDERS" (.int 12) (upS "MOST_SIZES" (.int 8) (upS "MOST_CAPS" (.int 4) (upS "MOST_TAPERS" (.int 6) (upS "MOST_DUES" (.int 60) (upS "MOST_DEN" (.int 1000) (upS "MOST_PARTS" (.int 2000) (upS "UNENDED" (.kt [.inr "order",.inr "dose"]) (upS "WAYS" (.kt [.inr "down",.inr "up",.inr "near"]) (λ_=>none)))))))))))))))))
def dsT:Str->Option (List (DL.Key×List DL.Key)):=upS "CAP_LOWS" Den.dq (upS "BEHIND" Den.fi (λ_=>none))
def rzT:Str->Option (Nat×Str):=upS "NoText" (44,("place":Str)) (λ_=>none)
noncomputable abbrev bls:List Str:=["all","len","int","enumerate","zip","tuple","isinstance","list","bool","str","max","min","range","sum"]
def T0:Tbl:=⟨λ_=>none,λ_=>none,λ_=>none,λ_=>none,rzT,bls,csT,dsT,100,fs,true⟩
variable{P:Program}{w:World}{base:Heap}
noncomputable abbrev cq(w:World)(mg:Str->Option Value):=CsM (Hd.K w.params) mg
theorem Nc(T:Txt w.params mg):∀x d,csT x=some d->CsM (Hd.K w.params) mg x d:=bB (q:=cq w mg) ⟨234,T.at⟩ (bB (q:=cq w mg) ⟨236,T.at⟩ (bB (q:=cq w mg) ⟨238,T.at⟩ (bB (q:=cq w mg) ⟨240,T.at⟩ (bB (q:=cq w mg) ⟨242,T.at⟩ (bB (q:=cq w mg) ⟨341,T.at⟩ (bB (q:=cq w mg) ⟨343,T.at⟩ (bB (q:=cq w mg) ⟨345,T.at⟩ (bB (q:=cq w mg) ⟨347,T.at⟩ (bB (q:=cq w mg) ⟨349,T.at⟩ (bB (q:=cq w mg) ⟨351,T.at⟩ (bB (q:=cq w mg) ⟨353,T.at⟩ (bB (q:=cq w mg) ⟨355,T.at⟩ (bB (q:=cq w mg) ⟨357,T.at⟩ (bB (q:=cq w mg) ⟨359,T.at⟩ (bB (q:=cq w mg) ⟨78,T.at,N7⟩ (bB (q:=cq w mg) ⟨83,T.at,Nb⟩ (λ_ _ h=>nomatch h)))))))))))))))))
theorem Nd(T:Txt w.params mg):∀x t,dsT x=some t->∃a,mg x=some (Value.ref a)/\KDk P w (Hd.K w.params) a t:=bB (q:=λx t=>∃a,mg x=some (Value.ref a)/\KDk P w (Hd.K w.params) a t) ⟨79,T.at,qx⟩ (bB (q:=λx t=>∃a,mg x=some (Value.ref a)/\KDk P w (Hd.K w.params) a t) ⟨66,T.at,w9⟩ (λ_ _ h=>nomatch h))
theorem Nf(T:Txt w.params mg):∀x q,rzT x=some q->(∃B fI j fd ps,XCl (Hd.K w.params) B q.1 fI q.2/\bH P w (Hd.K w.params) mg base CX0 j fI fd ps (iL (Hd.K w.params) B q.1 q.2)/\j+1<=2/\Binds (Hd.K w.params) fd ps [])/\mg x=some (.ref q.1)/\PySem.W.exmOne (Hd.K w.params) (.ref q.1) (.ref q.1)=some true:=bB (q:=λx (q:Nat×Str)=>(∃B fI j fd ps,XCl (Hd.K w.params) B q.1 fI q.2/\bH P w (Hd.K w.params) mg base CX0 j fI fd ps (iL (Hd.K w.params) B q.1 q.2)/\j+1<=2/\Binds (Hd.K w.params) fd ps [])/\mg x=some (.ref q.1)/\PySem.W.exmOne (Hd.K w.params) (.ref q.1) (.ref q.1)=some true) ⟨⟨_,_,1,_,_,qv,qw T,by decide,w8⟩,T.at,by kernel_rfl⟩ (λ_ _ h=>nomatch h)
theorem noB(T:Txt Pm mg):∀x∈bls,mg x=none:=by
 simp only[List.forall_mem_cons];exact⟨T.no,T.no,T.no,T.no,T.no,T.no,T.no,T.no,T.no,T.no,T.no,T.no,T.no,T.no,λ_ h=>nomatch h⟩
abbrev TK(P:Program)(w:World)(mg:Str->Option Value)(base:Heap)(n:Nat)(X:Tbl):Prop:=cC P w (Hd.K w.params) mg base n X
section
variable(T:Txt w.params mg)
include T
theorem t0:cC P w (Hd.K w.params) mg base 2 T0 where
 fn:=λ_ _ _ h=>nomatch h
 fw:=λ_ _ _ _ h=>nomatch h
 rd:=λ_ _ _ h=>nomatch h
 mo:=λ_ _ _ h=>nomatch h
 rz:=λx C n h=>Nf T x (C,n) h
 bl:=noB T
 cs:=Nc T
 ds:=Nd T
 cl:=λ_=>MV
 na:=OT
def T1:Tbl:={T0 with fn:=upS "_law_draw" (3,Den.ah) T0.fn}
theorem t1:TK P w mg base 3 T1:=(t0 T).kj (dn (N:=["_law_script","_law_k","_law_many_here","_law_cell"]) (t0 T) (sd:=(Hd.top 47)) (fd:=Hd.lV) (fa:=231) mkI cK rfl (show _=some Den.j4 by kernel_rfl)) T.at (by kernel_rfl) (FP λ_ _ _=>rfl)
def T2:Tbl:={T1 with fn:=upS "_law_unfit" (2,Den.fP) T1.fn}
theorem t2:TK P w mg base 4 T2:=(t1 T).kj (dn (N:=["_law_script","_law_place","_law_early","_law_amid","_law_behind","_law_some"]) (t1 T) (sd:=(Hd.top 53)) (fd:=Hd.kG) (fa:=269) mkI cK rfl (show _=some Den.fN by kernel_rfl)) T.at (by kernel_rfl) (all2 λ_ _=>rfl)
def T3:Tbl:={T2 with fn:=upS "_law_odd_order" (4,Den.aS) T2.fn}
theorem t3:TK P w mg base 5 T3:=(t2 T).kj (dn (N:=["_law_script","_law_fault","_law_rows","_law_tapers","_law_place","_law_bads"]) (t2 T) (sd:=(Hd.top 55)) (fd:=Hd.gK) (fa:=279) mkI cK rfl (show _=some Den.dH by kernel_rfl)) T.at (by kernel_rfl) (Kg λ_ _ _ _=>rfl)
def T4:Tbl:={T3 with fn:=upS "is_made_of" (2,Den.gy) T3.fn}
theorem t4:TK P w mg base 6 T4:=(t3 T).kj (dn (N:=["text","signs"]) (t3 T) (sd:=(Hd.top 9)) (fd:=Hd.jg) (fa:=51) mkI cK rfl (show _=some Den.jM by kernel_rfl)) T.at (by kernel_rfl) (all2 λ_ _=>rfl)
def T5:Tbl:={T4 with fn:=upS "is_name" (1,Den.bA) T4.fn}
theorem t5:TK P w mg base 7 T5:=(t4 T).kj (dn (N:=["text"]) (t4 T) (sd:=(Hd.top 10)) (fd:=Hd.n6) (fa:=58) mkI cK rfl (show _=some Den.nI by kernel_rfl)) T.at (by kernel_rfl) (all1 λ_=>rfl)
def T6:Tbl:={T5 with fn:=upS "number_of" (1,Den.kP) T5.fn}
theorem t6:TK P w mg base 8 T6:=(t5 T).kj (dn (N:=["text","number"]) (t5 T) (sd:=(Hd.top 11)) (fd:=Hd.kA) (fa:=65) mkI cK rfl (show _=some Den.kO by kernel_rfl)) T.at (by kernel_rfl) (all1 λ_=>rfl)
def T7:Tbl:={T6 with mo:=upS "Draft" (100,Den.lB) T6.mo}
theorem t7:TK P w mg base 10 T7:=(t6 T).OC OS (bJ (N:=["self"]) (nm:=[]) (t6 T) (sd:=(Hd.inn 27 0)) (fd:=Hd.pj) (fa:=97) mkI cK rfl (by decide) (show _=some Den.u6 by kernel_rfl)) T.at (all1 λ_=>rfl)
def T8:Tbl:={T7 with fn:=upS "place_of" (2,Den.cD) T7.fn}
theorem t8:TK P w mg base 11 T8:=(t7 T).kj (dn (N:=["rows","name","k","row"]) (t7 T) (sd:=(Hd.top 28)) (fd:=Hd.lP) (fa:=111) mkI cK rfl (show _=some Den.j5 by kernel_rfl)) T.at (by kernel_rfl) (all2 λ_ _=>rfl)
def T9:Tbl:={T8 with fn:=upS "has_new_name" (2,Den.bz) T8.fn}
theorem t9:TK P w mg base 12 T9:=(t8 T).kj (dn (N:=["rows","words"]) (t8 T) (sd:=(Hd.top 29)) (fd:=Hd.i0) (fa:=118) mkI cK rfl (show _=some Den.d4 by kernel_rfl)) T.at (by kernel_rfl) (all2 λ_ _=>rfl)
def T10:Tbl:={T9 with fn:=upS "numbers_of" (2,Den.aq) T9.fn}
theorem t10:TK P w mg base 13 T10:=(t9 T).kj (dn (N:=["words","lows","found","word","low","number"]) (t9 T) (sd:=(Hd.top 30)) (fd:=Hd.jh) (fa:=125) mkI cK rfl (show _=some Den.jN by kernel_rfl)) T.at (by kernel_rfl) (all2 λ_ _=>rfl)
def T11:Tbl:={T10 with fn:=upS "with_part" (3,Den.aM) T10.fn}
theorem t11:TK P w mg base 14 T11:=(t10 T).kj (dn (N:=["row","k","part"]) (t10 T) (sd:=(Hd.top 31)) (fd:=Hd.kB) (fa:=132) mkI cK rfl (show _=some Den.cF by kernel_rfl)) T.at (by kernel_rfl) (FP λ_ _ _=>rfl)
def T12:Tbl:={T11 with fw:=upS "take_guest" (2,[0],Den.gz) T11.fw}
theorem t12:TK P w mg base 15 T12:=(t11 T).addW (bJ (N:=["draft","words","born"]) (nm:=["words","rest"]) (J:=[0]) (t11 T) (sd:=(Hd.top 32)) (fd:=Hd.ji) (fa:=139) mkI cK rfl (by decide) (show _=some Den.jO by kernel_rfl)) T.at (by kernel_rfl) (all2 λ_ _=>rfl)
def T13:Tbl:={T12 with fn:=upS "sizes_fit" (1,Den.fQ) T12.fn}
theorem t13:TK P w mg base 16 T13:=(t12 T).kj (dn (N:=["sizes","part","rises"]) (t12 T) (sd:=(Hd.top 33)) (fd:=Hd.kC) (fa:=144) mkI cK rfl (show _=some Den.kQ by kernel_rfl)) T.at (by kernel_rfl) (all1 λ_=>rfl)
def T14:Tbl:={T13 with fw:=upS "take_stuff" (2,[0],Den.bU) T13.fw}
theorem t14:TK P w mg base 17 T14:=(t13 T).addW (bJ (N:=["draft","words","sizes"]) (nm:=["words","rest"]) (J:=[0]) (t13 T) (sd:=(Hd.top 34)) (fd:=Hd.jj) (fa:=149) mkI cK rfl (by decide) (show _=some Den.dQ by kernel_rfl)) T.at (by kernel_rfl) (all2 λ_ _=>rfl)
def T15:Tbl:={T14 with fw:=upS "take_cap" (2,[0],Den.cR) T14.fw}
theorem t15:TK P w mg base 18 T15:=(t14 T).addW (bJ (N:=["draft","words","caps","numbers","cap"]) (nm:=["words","rest"]) (J:=[0]) (t14 T) (sd:=(Hd.top 35)) (fd:=Hd.lQ) (fa:=156) mkI cK rfl (by decide) (show _=some Den.gA by kernel_rfl)) T.at (by kernel_rfl) (all2 λ_ _=>rfl)
def T16:Tbl:={T15 with fw:=upS "take_young" (2,[0],Den.d5) T15.fw}
theorem t16:TK P w mg base 19 T16:=(t15 T).addW (bJ (N:=["draft","words","age"]) (nm:=["words","rest"]) (J:=[0]) (t15 T) (sd:=(Hd.top 36)) (fd:=Hd.jk) (fa:=163) mkI cK rfl (by decide) (show _=some Den.gB by kernel_rfl)) T.at (by kernel_rfl) (all2 λ_ _=>rfl)
def T17:Tbl:={T16 with fw:=upS "take_bar" (2,[0],Den.cS) T16.fw}
theorem t17:TK P w mg base 20 T17:=(t16 T).addW (bJ (N:=["draft","words","gap","stuff","other"]) (nm:=["words","rest"]) (J:=[0]) (t16 T) (sd:=(Hd.top 37)) (fd:=Hd.lT) (fa:=168) mkI cK rfl (by decide) (show _=some Den.gC by kernel_rfl)) T.at (by kernel_rfl) (all2 λ_ _=>rfl)
def T18:Tbl:={T17 with fw:=upS "take_order" (2,[0],Den.bV) T17.fw}
theorem t18:TK P w mg base 21 T18:=(t17 T).addW (bJ (N:=["draft","words","guest","stuff"]) (nm:=["words","rest"]) (J:=[0]) (t17 T) (sd:=(Hd.top 38)) (fd:=Hd.jl) (fa:=175) mkI cK rfl (by decide) (show _=some Den.dR by kernel_rfl)) T.at (by kernel_rfl) (all2 λ_ _=>rfl)
def T19:Tbl:={T18 with fw:=upS "take_dose" (2,[0],Den.cG) T18.fw}
theorem t19:TK P w mg base 22 T19:=(t18 T).addW (bJ (N:=["draft","words","order","part","numbers"]) (nm:=["words","rest"]) (J:=[0]) (t18 T) (sd:=(Hd.top 39)) (fd:=Hd.kF) (fa:=182) mkI cK rfl (by decide) (show _=some Den.fR by kernel_rfl)) T.at (by kernel_rfl) (all2 λ_ _=>rfl)
def T20:Tbl:={T19 with fw:=upS "take_asked" (2,[0],Den.d6) T19.fw}
theorem t20:TK P w mg base 23 T20:=(t19 T).addW (bJ (N:=["draft","words","begin"]) (nm:=["words","rest"]) (J:=[0]) (t19 T) (sd:=(Hd.top 40)) (fd:=Hd.jm) (fa:=189) mkI cK rfl (by decide) (show _=some Den.gD by kernel_rfl)) T.at (by kernel_rfl) (all2 λ_ _=>rfl)
def T21:Tbl:={T20 with fw:=upS "take_due" (2,[0],Den.cT) T20.fw}
theorem t21:TK P w mg base 24 T21:=(t20 T).addW (bJ (N:=["draft","words","numbers","early","late"]) (nm:=["words","rest"]) (J:=[0]) (t20 T) (sd:=(Hd.top 41)) (fd:=Hd.lU) (fa:=196) mkI cK rfl (by decide) (show _=some Den.gF by kernel_rfl)) T.at (by kernel_rfl) (all2 λ_ _=>rfl)
def T22:Tbl:={T21 with fw:=upS "take_taper" (2,[0],Den.bX) T21.fw}
theorem t22:TK P w mg base 25 T22:=(t21 T).addW (bJ (N:=["draft","words","order","tapers","least","numbers","many"]) (nm:=["words","rest"]) (J:=[0]) (t21 T) (sd:=(Hd.top 42)) (fd:=Hd.jn) (fa:=203) mkI cK rfl (by decide) (show _=some Den.dS by kernel_rfl)) T.at (by kernel_rfl) (all2 λ_ _=>rfl)
def T23:Tbl:={T22 with fw:=upS "take_of_order" (3,[0],Den.cO) T22.fw}
theorem t23:TK P w mg base 26 T23:=(t22 T).addW (bJ (N:=["draft","head","words"]) (nm:=["words","rest"]) (J:=[0]) (t22 T) (sd:=(Hd.top 43)) (fd:=Hd.gJ) (fa:=210) mkI cK rfl (by decide) (show _=some Den.dI by kernel_rfl)) T.at (by kernel_rfl) (FP λ_ _ _=>rfl)
def T24:Tbl:={T23 with fw:=upS "take" (2,[0],Den.fm) T23.fw}
theorem t24:TK P w mg base 27 T24:=(t23 T).addW (bJ (N:=["draft","line","words","head","rest"]) (nm:=["words","rest"]) (J:=[0]) (t23 T) (sd:=(Hd.top 44)) (fd:=Hd.wM) (fa:=217) mkI cK rfl (by decide) (show _=some Den.oM by kernel_rfl)) T.at (by kernel_rfl) (all2 λ_ _=>rfl)
def T25:Tbl:={T24 with rd:=upS "read" (1,Den.fZ) T24.rd}
theorem t25:TK P w mg base 28 T25:=(t24 T).OB (F6 (N:=["lines","draft","place","line"]) (nm:=[]) (mv:=[1]) (t24 T) (sd:=(Hd.top 45)) (fd:=Hd.wN) (fa:=224) mkI cK rfl (show _=some Den.rC by kernel_rfl)) T.at (by kernel_rfl) (all1 λ_=>rfl)
def T26:Tbl:={T25 with fn:=upS "_law_same" (2,Den.fu) T25.fn}
theorem t26:TK P w mg base 29 T26:=(t25 T).kj (dn (N:=["_law_found","_law_due"]) (t25 T) (sd:=(Hd.top 48)) (fd:=Hd.lW) (fa:=236) mkI cK rfl (show _=some Den.j6 by kernel_rfl)) T.at (by kernel_rfl) (all2 λ_ _=>rfl)
def T27:Tbl:={T26 with fn:=upS "_law_many" (3,Den.bg) T26.fn}
theorem t27:TK P w mg base 30 T27:=(t26 T).kj (dn (N:=["_law_script","_law_k","_law_most"]) (t26 T) (sd:=(Hd.top 49)) (fd:=Hd.lY) (fa:=243) mkI cK rfl (show _=some Den.j7 by kernel_rfl)) T.at (by kernel_rfl) (FP λ_ _ _=>rfl)
def T28:Tbl:={T27 with fw:=upS "_law_caps" (4,[2,3],Den.du) T27.fw}
theorem t28:TK P w mg base 31 T28:=(t27 T).addW (bJ (N:=["_law_script","_law_fault","_law_lines","_law_bads","_law_many_here","_law_k"]) (nm:=["words","rest"]) (J:=[2,3]) (t27 T) (sd:=(Hd.top 50)) (fd:=Hd.lZ) (fa:=250) mkI cK rfl (by decide) (show _=some Den.j8 by kernel_rfl)) T.at (by kernel_rfl) (Kg λ_ _ _ _=>rfl)
def T29:Tbl:={T28 with fw:=upS "_law_stuffs" (4,[2,3],Den.bY) T28.fw}
theorem t29:TK P w mg base 32 T29:=(t28 T).addW (bJ (N:=["_law_script","_law_fault","_law_lines","_law_bads","_law_many_here","_law_at","_law_caps_here","_law_k","_law_name"]) (nm:=["words","rest"]) (J:=[2,3]) (t28 T) (sd:=(Hd.top 51)) (fd:=Hd.jo) (fa:=257) mkI cK rfl (by decide) (show _=some Den.gG by kernel_rfl)) T.at (by kernel_rfl) (Kg λ_ _ _ _=>rfl)
def T30:Tbl:={T29 with fw:=upS "_law_bars" (5,[3,4],Den.cU) T29.fw}
theorem t30:TK P w mg base 33 T30:=(t29 T).addW (bJ (N:=["_law_script","_law_fault","_law_stuffs_here","_law_lines","_law_bads","_law_pairs","_law_one","_law_many_here","_law_names","_law_k","_law_odd","_law_other"]) (nm:=["words","rest"]) (J:=[3,4]) (t29 T) (sd:=(Hd.top 52)) (fd:=Hd.m4) (fa:=262) mkI cK rfl (by decide) (show _=some Den.j9 by kernel_rfl)) T.at (by kernel_rfl) (MU λ_ _ _ _ _=>rfl)
def T31:Tbl:={T30 with fw:=upS "_law_orders" (5,[3,4],Den.bK) T30.fw}
theorem t31:TK P w mg base 34 T31:=(t30 T).addW (bJ (N:=["_law_script","_law_fault","_law_guests","_law_lines","_law_bads","_law_many_here","_law_tapers","_law_at","_law_k","_law_name","_law_head","_law_rows","_law_made"]) (nm:=["words","rest"]) (J:=[3,4]) (t30 T) (sd:=(Hd.top 54)) (fd:=Hd.jq) (fa:=274) mkI cK rfl (by decide) (show _=some Den.gI by kernel_rfl)) T.at (by kernel_rfl) (MU λ_ _ _ _ _=>rfl)
end
theorem Kh(T:Txt w.params mg):bH P w (Hd.K w.params) mg base CX0 35 284 Hd.wO ["_law_script"] (spD (Hd.K w.params) 1 Den.mD):=F5 (N:=["_law_script","_law_fault","_law_lines","_law_bads","_law_guests","_law_k","_law_stuffs_here","_law_bars_here","_law_orders_here","_law_place","_law_found","e","_law_name"]) (nm:=[]) (mv:=[]) (t31 T) (sd:=(Hd.top 56)) (fd:=Hd.wO) (fa:=284) mkI cK rfl (show _=some Den.BA by kernel_rfl)
end
theorem all_mk{l:PySem.W.OpenLaw}{w:World}{h:Heap}{mg:Str->Option Value}{fa:Addr}(X:(Hd.K w.params).In h)(G:h.Ns mainGlobals mg)(Rp:mg "law"=some (.ref fa)):
  ∃fd:FuncData,(∀(s:Shared) (v:Value),BindsTo s fd ⟨[v],[]⟩ [("_law_script",v)])/\∀base:Heap,(Hd.K w.params).In base->base.Ns mainGlobals mg->bH l.prog w (Hd.K w.params) mg base CX0 35 fa fd ["_law_script"] (spD (Hd.K w.params) 1 Den.mD):=by
 have T:Txt w.params mg:=⟨h,X,G⟩
 have e:=Rp.symm.trans (T.at:mg "law"=some (.ref 284));cases e;exact⟨_,λs v=> .of_eq rfl,λbase _ _=>Kh T⟩
theorem walk{l:PySem.W.OpenLaw}{q:Program}{loose:List Str}{XP:(Str->Option Value)->Heap->Prop}{YP:World->Heap->Prop}{d:DefRec}{K:Params->PySem.W.Frag}(hn:l.most=some 63)(yL:d.params.defaults=[])
  (hY:∀(w:World) (h:Heap),YP w h->(K w.params).In h)(ze:∀ns:List Int,ns.length<=63->Den.mD [.scr ns]=some (.bl true))
  (F:∀(w:World) (mg:Str->Option Value) (fa:Addr) (h:Heap),(K w.params).In h->h.Ns mainGlobals mg->mg d.name=some (.ref fa)->
   ∃fd:FuncData,(∀(s:Shared) (u:Value),BindsTo s fd ⟨[u],[]⟩ [("_law_script",u)])/\∀base:Heap,(K w.params).In base->base.Ns mainGlobals mg->bH l.prog w (K w.params) mg base CX0 35 fa fd ["_law_script"] (spD (K w.params) 1 Den.mD)):
  PySem.W.WalkO q loose XP YP l.row.toRowW d [] (λf vs=>PySem.call f vs):=
 L2.Dj (n:=63) (k:=35) (x:="_law_script") (CX:=λ_=>CX0) (sp:=λw=>spD (K w.params) 1 Den.mD) hn (by decide) yL ⟨rfl,by decide,by decide⟩ hY F (λ_ _ a ns hl hO hS=>Ic hO hS (ze ns hl)) λ_ _ _ _ _ z=>z
end Der
open PySem PySem.W PyProof.Rows
set_option maxRecDepth 100000 in
set_option maxHeartbeats 0 in
theorem PySem.Challenge.cw_dosehouse_k09_lines_by_what_stands_above_holds : PySem.Challenge.rw_dosehouse_k09_lines_by_what_stands_above.Holds := by
 refine holds_law (by kernel_rfl) λPk=> ?_;refine holds_open (q:=Hd.view) (loose:=["BEHIND","CAP_LOWS"]) (Xt:=Hd.xt) (XP:=XL Hd.view []) (Yf:=Hook.obs Hd.hook) (Ya:=Hook.val Hd.hook) (YP:=Hook.says Hd.hook) (N:=4278) Hd.left (Hook.of Hd.hook) (Hook.keeps Hd.hook) (λs e=>xl_of s (Bool.and_eq_true_iff.mp e).1) XL.keeps (by rfl) (by rfl) (by rfl) (λs e=>recFacts_of (Bool.and_eq_true_iff.mp e).2) (by rfl) Pk (by decide+kernel) ⟨rfl,rfl,rfl,rfl,rfl,by decide+kernel⟩ ?hw ?hc
 case hw=>w_witness2
 case hc=>exact Der.walk (l:=PySem.Challenge.rw_dosehouse_k09_lines_by_what_stands_above) (K:=Hd.K) rfl rfl (λw h Y=>PySem.W.kIn_of Y) Maths.CN λw mg fa h KX G yJ=>Der.all_mk KX G yJ
