import PyProof.Rows.All
import Wide.All
import OpenK.AllK
import PySem.Challenge.RW_dosehouse_k08_lines_that_never_stand
set_option Elab.async false
set_option linter.all false
set_option maxRecDepth 100000
set_option maxHeartbeats 0
open Option renaming some→U,none→J
open Bool renaming true→O,false→M
open PySem renaming Addr→Xo,Expr→Xp,Value→Xq,Shared→Xr,Heap→Xs,Stmt→Xu,World→Xv,Obj→Xw,Around→Xx,Scope→Xy,Program→Xz,FuncData→XA,Params→XC,NameKind→XD,CmpOp→XE
noncomputable section
set_option genSizeOf false
set_option compiler.extract_closed false
set_option genInjectivity false
abbrev ZzL:=PySem.Challenge.rw_dosehouse_k08_lines_that_never_stand
theorem Zza:ZzL.row.wellSaid=true:=by kernel_rfl
theorem Zzb:ZzL.wellSaid=true:=by unfold PySem.W.OpenLaw.wellSaid;rw[Zza];kernel_rfl
def Za1(h:True:=by rfl):True:=h
def Za2(h:True:=by decide):True:=h
def Za3(h:True:=by first|exact .inl rfl|exact .inr rfl|assumption):True:=h
def Gaa:=@Option.map_eq_some_iff
def Gab:=@PySem.wpAny_bind
def Gac:=@List.getElem?_eq_some_iff
def Gad:=@List.getElem?_set_ne
def Gae:=@List.mem_cons
def Gaf:=@PySem.Heap.get?_push_of_some
def Gag:=@List.getElem?_eq_getElem
def Gah:=@Nat.lt_of_lt_of_le
def Gai:=@Bool.and_eq_true
def Gaj:=@if_pos
def Gak:=@PySem.Heap.lt_size
def Gal:=@PySem.wpAny_pure
def Gam:=@List.getElem?_map
def Gan:=@List.all_eq_true
def Gao:=@List.not_mem_nil
def Gap:=@Nat.le_refl
def Gaq:=@Bool.false_ne_true
def Gar:=@of_decide_eq_true
def Gas:=@Nat.ne_of_lt
def Gat:=@PySem.Heap.get?_push_size
def Gau:=@if_neg
def Gav:=@List.length_map
def Gaw:=@List.mem_cons_of_mem
def Gax:=@List.length_append
def Gay:=@List.mem_map
def Gaz:=@List.map_map
def GaA:=@List.size_toArray
def GaB:=@List.map_append
def GaC:=@List.mem_of_getElem?
def GaD:=@List.getElem?_set_self
def GaE:=@List.lookup_cons
def GaF:=@List.length_cons
def GaG:=@Ne.symm
def GaH:=@Nat.le_trans
def GaI:=@List.map_cons
def GaJ:=@List.mem_append_right
def GaK:=@List.getElem?_append_right
def GaL:=@List.mem_append
def GaM:=@List.getElem?_append_left
def GaN:=@List.getElem_mem
def GaO:=@List.mem_cons_self
def GaP:=@List.append_nil
def GaQ:=@or_false
def GaR:=@Nat.zero_add
def GaS:=@List.length_take
def GaT:=@List.append_assoc
def GaU:=@beq_iff_eq
def GaV:=@List.getElem?_of_mem
def GaW:=@Bool.or_eq_true
def GaX:=@List.nodup_cons
def GaY:=@Nat.lt_irrefl
def GaZ:=@List.mem_range
def Gba:=@PySem.wpAny_mono
def Gbb:=@List.mem_singleton
def Gbc:=@PySem.wpAny_truthy_bool
def Gbd:=@Nat.ne_of_gt
def Gbe:=@Prod.mk.injEq
def Gbf:=@PySem.Txt.slice_le
def Gbg:=@beq_eq_false_iff_ne
def Gbh:=@PySem.F.called_set
def Gbi:=@Nat.le_succ
def Gbj:=@PySem.Heap.size_push
def Gbk:=@PySem.wpAny_ite_true
def Gbl:=@Option.bind_eq_some_iff
def Gbm:=@Int.eq_ofNat_of_zero_le
def Gbn:=@Int.toNat_natCast
def Gbo:=@decide_eq_false
def Gbp:=@PyProof.Rows.callWith_type1
def Gbq:=@PySem.Heap.get?_update_other
def Gbr:=@Array.getElem?_eq_some_iff
def Gbs:=@List.getElem?_eq_none
def Gbt:=@List.zip_cons_cons
def Gbu:=@PySem.W.kia_one
def Gbv:=@PySem.wpAny_ite_false
def Gbw:=@List.mem_of_mem_drop
def Gbx:=@List.mem_of_mem_take
def Gby:=@PySem.wpAny_newObj_type
def Gbz:=@PySem.wpAny_holding
def GbA:=@List.all_cons
def GbB:=@List.eq_nil_of_length_eq_zero
def GbC:=@List.getElem?_replicate
def GbD:=@PySem.wpAny_callSpecial?_slot
def GbE:=@decide_eq_true
def GbF:=@List.take_of_length_le
def GbG:=@PySem.wpAny_Call_Name_kw
def GbH:=@List.findIdx?_cons
def GbI:=@PySem.Heap.get?_update_self
def GbJ:=@Nat.min_eq_left
def GbK:=@List.map_take
def GbL:=@Nat.lt_succ_of_lt
def GbM:=@decide_eq_true_eq
def GbN:=@PySem.wpAny_call
def GbO:=@PySem.codeAny_call_builtin
def GbP:=@Array.getElem?_setIfInBounds_self
def GbQ:=@PySem.wpAny_seqItems
def GbR:=@Nat.lt_succ_self
def GbS:=@not_or
def GbT:=@List.mem_map_of_mem
def GbU:=@PyProof.Rows.slot_tuple_getitem
def GbV:=@PySem.wpAny_getItem_str_slice
def GbW:=@List.length_eq_zero_iff
def GbX:=@List.mem_filter
def GbY:=@PySem.wpAny_execs_nil
def GbZ:=@PySem.wpAny_pyIter_tuple
def Gca:=@Bool.eq_iff_iff
def Gcb:=@List.length_nil
def Gcc:=@PySem.wpAny_setField_rec
def Gce:=@PySem.wpAny_loadPart_at
def Gcf:=@List.nodup_append
def Gcg:=@PySem.codeAny_mono
def Gch:=@List.length_singleton
def Gci:=@List.contains_iff_mem
def Gcj:=@PySem.Str.cps_append
def Gck:=@List.length_drop
def Gcl:=@PySem.wpAny_call_entry
def Gcm:=@List.cons_append
def Gcn:=@PySem.F.excBase_ValueError
def Gco:=@PySem.sizeLine_eq
def Gcp:=@PySem.wpAny_passesOwn
def Gcq:=@Option.map_some
def Gcr:=@List.getElem?_zip_eq_some
def Gcs:=@PySem.F.args_tuple_add_2
def Gct:=@PyProof.Rows.F.entry_set_update_loop
def Gcu:=@PySem.W.looks_findIn
def Gcv:=@PySem.typeIs_str
def Gcw:=@PySem.F.entry_tuple_add
def Gcx:=@PySem.F.plainAttrs_list
def Gcy:=@List.getElem?_cons_succ
def Gcz:=@PySem.wpAny_pyIter_list
def GcA:=@PySem.wpAny_pyIter_enum
def GcB:=@List.flatMap_cons
def GcC:=@PySem.F.slot_tuple_add
def GcD:=@PySem.Str.ofString_eq_toList
def GcE:=@PySem.F.plainAttrs_str
def GcF:=@List.findIdx?_eq_some_iff_getElem
def GcG:=@List.drop_of_length_le
def GcH:=@PySem.wpAny_onRaise
def GcI:=@List.any_eq_true
def GcJ:=@Nat.le_add_right
def GcK:=@List.length_replicate
def GcL:=@List.eq_nil_or_concat
def GcM:=@List.concat_eq_append
def GcN:=@PySem.Heap.get?_none_of_le
def GcO:=@List.mem_append_left
def GcP:=@PyProof.Rows.callWith_builtin1
def GcQ:=@PySem.call_meets
def GcR:=@List.forIn_cons
def GcS:=@PySem.codeAny_builtin
def GcT:=@PySem.wpAny_updateSeq_pair
def GcU:=@PySem.F.slot_zip_next
def GcV:=@PySem.post_val_or_str
def GcW:=@Bool.or_eq_false_iff
def GcX:=@List.all_append
def GcY:=@List.range_succ
def GcZ:=@List.filterMap_cons
def Gda:=@Array.length_toList
def Gdb:=@Array.toList_append
def Gdc:=@Bool.and_false
def Gdd:=@PySem.W.callWith_K
def Gde:=@Int.emod_lt_of_pos
def Gdf:=@List.map_drop
def Gdg:=@Option.some.injEq
def Gdh:=@List.ext_getElem?
def Gdi:=@not_false_eq_true
def Gdj:=@Nat.le_of_lt
def Gdk:=@Nat.le_of_eq
def Gdl:=@List.map_nil
abbrev VSP:=PySem.Value->PySem.Shared->Prop
abbrev LAO:=List (PySem.Addr×PySem.Obj)
set_option autoImplicit true
set_option relaxedAutoImplicit true
set_option hygiene false
local macro_rules|`(?B)=>`(by lia)|`(?E)=>`(by simp)|`(?H)=>`(by simp_all)|`(?L)=>`(Z (.scr ns))
namespace L2
open PySem PySem.Spec PyProof.Rows
abbrev Key:=Sum Int Str
def pM:Key->Xq->Bool
 | .inl k,v=>Value.isInt k v
 | .inr x,v=>Value.isStrOf x v
noncomputable def Rj(w:Xv):Key->Int
 | .inl k=>hashInt k
 | .inr x=>hashStr w x
theorem cw:∀{k v},pM k v=O->(∃i t,k=Sum.inl i/\v=Value.int i t)\/(∃x t,k=Sum.inr x/\v=Value.str x t)
 | .inl i,v,h=>by
  obtain⟨t,e⟩:=Value.isInt_shape h;exact .inl ⟨i,t,rfl,e⟩
 | .inr x,v,h=>by
  obtain⟨t,e⟩:=Value.isStrOf_shape h;exact .inr ⟨x,t,rfl,e⟩
def As(i:Int)(t:Tok):pM (.inl i) (.int i t)=O:=by simp[pM,Value.isInt]
def Au(x:Str)(t:Tok):pM (.inr x) (.str x t)=O:=by simp[pM,Value.isStrOf]
def JY(a b:Int):decide ((Sum.inl a:Key)=Sum.inl b)=(a==b):=by
 by_cases e:a=b
 .subst e;simp
 .simp_all
def JZ(a b:Str):decide ((Sum.inr a:Key)=Sum.inr b)=decide (a=b):=by
 simp_all
def K0(a:Int)(b:Str):decide ((Sum.inl a:Key)=Sum.inr b)=M:=Gbo (λq=>nomatch q)
def K2(a:Str)(b:Int):decide ((Sum.inr a:Key)=Sum.inl b)=M:=Gbo (λq=>nomatch q)
def gw(prog:Xz)(w:Xv):PySem.KeyKind prog w Key where
 is:=pM
 hash:=Rj w
 inj:=λv a b ha hb=>by
  rcases cw ha with⟨i,t,rfl,rfl⟩| ⟨x,t,rfl,rfl⟩
  .rcases cw hb with⟨j,u,rfl,e⟩| ⟨y,u,rfl,e⟩
   .injection e with e1 _;rw[e1]
   .exact nomatch e
  .rcases cw hb with⟨j,u,rfl,e⟩| ⟨y,u,rfl,e⟩
   .exact nomatch e
   .injection e with e1 _;rw[e1]
 byValue:=λk v h=>by
  rcases cw h with⟨i,t,rfl,rfl⟩| ⟨x,t,rfl,rfl⟩<;>rfl
 pyHash:=λhv h=>by
  rcases cw hv with⟨i,t,rfl,rfl⟩| ⟨x,t,rfl,rfl⟩
  .exact wpAny_pyHash_int h
  .exact wpAny_pyHash_str h
 eqBool:=λhu hv h=>by
  rcases cw hu with⟨i,t,rfl,rfl⟩| ⟨x,t,rfl,rfl⟩
  .rcases cw hv with⟨j,u,rfl,rfl⟩| ⟨y,u,rfl,rfl⟩
   .rw[JY] at h;exact wpAny_eqBool_int h
   .rw[K0] at h;exact SeqAt.EqAt.int_str i t y u _ _ _ _ h
  .rcases cw hv with⟨j,u,rfl,rfl⟩| ⟨y,u,rfl,rfl⟩
   .rw[K2] at h;exact SeqAt.EqAt.str_int x t j u _ _ _ _ h
   .rw[JZ] at h;exact wpAny_eqBool_str h
 «strs» :=λk x t v h=>by
  rcases cw h with⟨i,u,rfl,e⟩| ⟨y,u,rfl,e⟩
  .exact nomatch e
  .injection e with e1 _
   subst e1;cases v<;>rfl
def so(prog:Xz)(w:Xv)(i:Int)(t:Tok):(gw prog w).is (.inl i) (.int i t)=O:=As i t
def ji(prog:Xz)(w:Xv)(x:Str)(t:Tok):(gw prog w).is (.inr x) (.str x t)=O:=Au x t
set_option genInjectivity true in
inductive V where
 |non|bl (b:Bool)|int (i:Int)|str (x:Str)|ref (a:Xo)|ty (n:String)
 deriving DecidableEq
def Xg:V->Xq->Prop
 | .non,u=>u=Value.none
 | .bl b,u=>u=Value.bool b
 | .int i,u=>∃t,u=Value.int i t
 | .str x,u=>∃t,u=Value.str x t
 | .ref a,u=>u=Value.ref a
 | .ty n,u=>u=Value.type n
abbrev Xh:List V->List Xq->Prop:=Paired Xg
theorem Xh.length{xs:List V}{us:List Xq}(r:Xh xs us):xs.length=us.length:=Paired.length r
theorem Xh.get:∀{xs:List V} {us:List Xq} {i:Nat} {x:V},Xh xs us->xs[i]? =U x->∃u,us[i]? =U u/\Xg x u
 |_,_,_,_,.nil,e=>by simp at e
 |_,_,0,_,.cons r _,e=>by simp at e;subst e;exact⟨_,rfl,r⟩
 |_,_,i+1,x,.cons _ t,e=>by
  obtain⟨u,h1,h2⟩:=Xh.get t (by simpa using e);exact⟨u,by simpa using h1,h2⟩
theorem Xh.set(r:Xg x u):∀{xs us} i,Xh xs us->Xh (xs.set i x) (us.set i u)
 |_,_,_,.nil=> .nil
 |_,_,0,.cons _ t=> .cons r t
 |_,_,i+1,.cons q t=> .cons q (Xh.set r i t)
def Xh.append(p:Xh xs us)(s:Xh ys ws):Xh (xs++ys) (us++ws):=by
 induction p with
 |nil=>exact s
 |cons r t ih=>exact .cons r ih
theorem Xh.take:∀{xs us} n,Xh xs us->Xh (xs.take n) (us.take n)
 |_,_,0,_=> .nil
 |_,_,_+1,.nil=> .nil
 |_,_,n+1,.cons r t=> .cons r (Xh.take n t)
theorem Xh.drop:∀{xs us} n,Xh xs us->Xh (xs.drop n) (us.drop n)
 |_,_,0,r=>r
 |_,_,_+1,.nil=> .nil
 |_,_,n+1,.cons _ t=>Xh.drop n t
def Av:Option V->Option Xq->Prop
 |some v,U u=>Xg v u
 |none,J=>True
 |_,_=>False
noncomputable def kV:Key->V
 | .inl i=> .int i
 | .inr x=> .str x
set_option genInjectivity true in
inductive HO where
 |lst (xs:List V)
 |tup (xs:List V)
 |ins (C dx:Xo) (fs:List (Str×V))
 |own (x:Xo)
 |xd (fs:List (Str×V))
 |rng (lo hi:Int)
 |frz (o:Xw) (u:HO)
 |tbl (ps:Array Xq)
 |ext (φ:Xs->Prop)
abbrev Hp:=Xo->Option HO
noncomputable def upd(H:Hp)(a:Xo)(o:HO):Hp:=λb=>if b=a then U o else H b
def aB:upd H a o a=U o:=by unfold upd;rw[Gaj rfl]
def aq(h:b≠a):upd H a o b=H b:=by unfold upd;rw[Gau h]
def Ga:upd (upd H a o) a u=upd H a u:=by
 funext b;unfold upd;split<;>rfl
def BX{H:Hp}(h:H a=U o)(h' :H b=U u)(d:o≠u):a≠b:=by
 rintro rfl;rw[h] at h';simp_all
def aX{H:Hp}(h:H a=U o)(h' :H b=J):a≠b:=by
 lia
section
variable(P:Xz)(w:Xv)
def bS(P:Xz)(w:Xv)(H:Hp)(h:Xs)(a:Xo):HO->Prop
 | .lst xs=>xs.length<=sizeLine/\∃(eh:List Xq) (n:Nat),Xh xs eh/\h.get? a=U {cls:= .type "list",data:= .seq eh.toArray n}
 | .tup xs=>xs.length<=sizeLine/\∃eh:List Xq,Xh xs eh/\IsTup h a eh.toArray
 | .ins C dx fs=>H dx=U (.own a)/\fs.length<=1000/\dx≠a/\h.get? a=U (PySem.W.instObj C dx)/\
   ∃mA,h.Ns1 dx mA/\(∀f,Av (fs.lookup f) (mA f))/\PySem.Within mA (fs.map (·.1))
 | .own _=>∃o,h.get? a=U o
 | .xd fs=>∃mA,h.Ns1 a mA/\∀f,Av (fs.lookup f) (mA f)
 | .rng lo hi=>∃t u v,h.get? a=U {cls:= .type "range",data:= .fields #[.int lo t,.int hi u,.int 1 v]}
 | .frz o u=>h.get? a=U o/\bS P w H h a u
 | .tbl ps=>h.get? a=U {cls:= .none,data:= .fields ps}
 | .ext φ=>φ h/\(∃o,h.get? a=U o)/\∀h1 h2:Xs,φ h1->(∀o,h1.get? a=U o->h2.get? a=U o)->φ h2
def HOk(H:Hp)(h:Xs):Prop:=∀a o,H a=U o->bS P w H h a o
end
section
theorem bS.lt{h:Xs}(x:bS P w H h a o):a<h.objs.size:=by
 cases o with
 |lst xs=>obtain⟨_,_,_,_,e⟩:=x;exact Gak e
 |tup xs=>obtain⟨_,_,_,p⟩:=x;exact p.lt
 |ins C dx fs=>obtain⟨_,_,_,e,_⟩:=x;exact Gak e
 |own y=>obtain⟨_,e⟩:=x;exact Gak e
 |xd fs=>obtain⟨_,⟨_,_,_,e,_⟩,_⟩:=x;exact Gak e
 |rng lo hi=>obtain⟨_,_,_,e⟩:=x;exact Gak e
 |frz ob u=>obtain⟨e,_⟩:=x;exact Gak e
 |tbl ps=>exact Gak (show h.get? a=U _ from x)
 |ext φ=>obtain⟨_,⟨_,e⟩,_⟩:=x;exact Gak e
def Paired.Rk{α β:Type}{F G:α->β->Prop}{l₁:List α}{l₂:List β}(p:Paired F l₁ l₂)(f:∀a b,F a b->G a b):Paired G l₁ l₂:=by
 induction p with
 |nil=>exact .nil
 |cons r t ih=>exact .cons (f _ _ r) ih
variable{h h' :Xs}
def bS.iD(x:bS P w H h a o)(k:∀b u,(b=a\/H b=U (.own a))->h.get? b=U u->h'.get? b=U u)
  (ho:∀b,H b=U (.own a)->H' b=U (.own a))(ht:∀b xs,H b=U (.tup xs)->H' b=U (.tup xs)):bS P w H' h' a o:=by
 induction o with
 |lst xs=>obtain⟨z,eh,n,r,e⟩:=x;exact⟨z,eh,n,r,k _ _ (.inl rfl) e⟩
 |tup xs=>obtain⟨z,eh,r,ob,e,c⟩:=x;exact⟨z,eh,r,ob,k _ _ (.inl rfl) e,c⟩
 |ins C dx fs=>
  obtain⟨d,z,ne,e,mA,⟨od,es,ep,e2,c⟩,r⟩:=x;exact⟨ho _ d,z,ne,k _ _ (.inl rfl) e,mA,⟨od,es,ep,k _ _ (.inr d) e2,c⟩,r⟩
 |own y=>obtain⟨ob,e⟩:=x;exact⟨ob,k _ _ (.inl rfl) e⟩
 |xd fs=>obtain⟨mA,⟨od,es,ep,e,c⟩,r⟩:=x;exact⟨mA,⟨od,es,ep,k _ _ (.inl rfl) e,c⟩,r⟩
 |rng lo hi=>obtain⟨t,u,v,e⟩:=x;exact⟨t,u,v,k _ _ (.inl rfl) e⟩
 |frz ob u ih=>obtain⟨e,q⟩:=x;exact⟨k _ _ (.inl rfl) e,ih q⟩
 |tbl ps=>
  have e:h.get? a=U {cls:= .none,data:= .fields ps}:=x;exact k a _ (.inl rfl) e
 |ext φ=>obtain⟨p,⟨o,e⟩,st⟩:=x;exact⟨st _ _ p λo q=>k _ _ (.inl rfl) q,⟨o,k _ _ (.inl rfl) e⟩,st⟩
theorem HOk.lt{h:Xs}(x:HOk P w H h)(e:H a=U o):a<h.objs.size:=(x a o e).lt
def HOk.fresh{a:Xo}(x:HOk P w H h)(e:h.objs.size<=a):H a=J:=by
 cases q:H a with
 |none=>rfl
 |some u=>exact absurd (Gah (x.lt q) e) (GaY _)
def HOk.kept(x:HOk P w H h)(k:∀b u,h.get? b=U u->h'.get? b=U u):HOk P w H h' :=λa o e=>
 (x a o e).iD (λb u _ q=>k b u q) (λ_ q=>q) λ_ _ q=>q
def HOk.laid{a:Xo}(x:HOk P w H h)(k:∀b u,h.get? b=U u->h'.get? b=U u)(hp:h.objs.size<=a)(new:bS P w (upd H a o) h' a o):HOk P w (upd H a o) h' :=λb u e=>by
 have hn:=x.fresh hp;by_cases hb:b=a
 .subst hb;rw[aB] at e;cases e;exact new
 .rw[aq hb] at e;exact(x b u e).iD (λc v _ q=>k c v q) (λc q=>by rw[aq (aX q hn)];exact q) λc xs q=>by rw[aq (aX q hn)];exact q
end
def Rd(H:Hp)(a:Xo)(u:HO):Prop:=H a=U u\/∃o,H a=U (.frz o u)
def Rd.ok(r:Rd H a u)(x:HOk P w H h):bS P w H h a u:=by
 rcases r with r| ⟨o,r⟩
 .exact x a u r
 .obtain⟨_,q⟩:=x a _ r;exact q
def Mut:Option HO->Prop
 |some (.lst _)=>True
 |some (.ins _ _ _)=>True
 |some (.ext _)=>True
 |_=>False
def HOk.write{h h' :Xs}(ok:HOk P w H h)(mu:Mut (H x))(he:e=x\/H e=U (.own x))(k:∀b u,b≠e->h.get? b=U u->h'.get? b=U u)(zg:∃u,h'.get? e=U u)
  (new:bS P w (upd H x o') h' x o'):HOk P w (upd H x o') h' :=λb u q=>by
 have nown:∀c y,H c=U (.own y)->c≠x:=λc y r z=>by subst z;rw[r] at mu;exact mu
 by_cases hb:b=x
 .subst hb;rw[aB] at q;cases q;exact new
 .rw[aq hb] at q;by_cases hbe:b=e
  .have q' :H b=U (.own x):=by
    rcases he with z|z
    .simp_all
    .rwa[hbe]
   rw[q] at q';cases q';obtain⟨v,hv⟩:=zg;exact⟨v,by rw[hbe];exact hv⟩
  .refine(ok b u q).iD (λc v hc r=>k c v ?_ r) (λc r=>by rw[aq (nown c b r)];exact r) λc xs r=>by rw[aq ((λc xs r z=>by subst z;rw[r] at mu;exact mu) c xs r)];exact r
   grind
structure Un(fs ex:List Xo)(H H' :Hp)(h h' :Xs):Prop where
 keep:∀b o,h.get? b=U o->H b=J->b∉fs->b∉ex->h'.get? b=U o
 slot:∀b o,h.get? b=U o->H b=J->b∈fs->b∉ex->∃sl,h'.get? b=U {o with slots:=sl}
 free:∀b o,h.get? b=U o->H b=J->b∉ex->H' b=J
 there:∀b o,h.get? b=U o->b∉ex->∃o',h'.get? b=U o'
 k7:∀b xs,H b=U (.tup xs)->H' b=U (.tup xs)
 jM:∀b o u,H b=U (.frz o u)->H' b=U (.frz o u)
 me:∀b ps,H b=U (.tbl ps)->∃more,H' b=U (.tbl (ps++more))
section
def Un.any{h h1:Xs}(u:Un fs ex H H1 h h1)(q:h.get? b=U ob)(n:H b=J)(hx:b∉ex):∃sl,h1.get? b=U {ob with slots:=sl}:=by
 by_cases hb:b∈fs
 .exact u.slot b ob q n hb hx
 .exact⟨_,u.keep b ob q n hb hx⟩
variable{h' :Xs}
def Un.kept{h:Xs}(k:∀b u,h.get? b=U u->h'.get? b=U u):Un fs ex H H h h' :=
 ⟨λb ob q _ _ _=>k b ob q,λb ob q _ _ _=> ⟨_,k b ob q⟩,λ_ _ _ n _=>n,λb ob q _=> ⟨ob,k b ob q⟩,λ_ _ q=>q,λ_ _ _ q=>q,λ_ ps q=> ⟨#[],by rw[q];simp⟩⟩
def Un.refl:Un fs ex H H h h:=Un.kept λ_ _ q=>q
theorem Un.laid{h:Xs}{a:Xo}(k:∀b u,h.get? b=U u->h'.get? b=U u)(hp:h.objs.size<=a)(hn:H a=J):Un fs ex H (upd H a o) h h' where
 keep:=λb u q _ _ _=>k b u q
 slot:=λb u q _ _ _=> ⟨_,k b u q⟩
 free:=λb u q n _=>by rw[aq (Gas (Gah (Gak q) hp))];exact n
 there:=λb u q _=> ⟨u,k b u q⟩
 k7:=λb xs q=>by rw[aq (aX q hn)];exact q
 jM:=λb u xs q=>by rw[aq (aX q hn)];exact q
 me:=λb ps q=> ⟨#[],by rw[aq (aX q hn),q];simp⟩
def Un.write{h:Xs}(mu:Mut (H x))(he:e=x\/H e=U (.own x))(k:∀b u,b≠e->h.get? b=U u->h'.get? b=U u)(zg:∃u,h'.get? e=U u):Un fs ex H (upd H x o) h h' :=by
 have hx:∀b,H b=J->b≠x:=λb n z=>by subst z;rw[n] at mu;exact mu
 have hb:∀b,H b=J->b≠e:=λb n z=>by
  simp_all
 have hm:∀b u,H b=U u->¬Mut (U u)->b≠x:=λb u q nm z=>by subst z;rw[q] at mu;exact nm mu
 refine⟨λb u q n _ _=>k b u (hb b n) q,λb u q n _ _=> ⟨_,k b u (hb b n) q⟩,λb u q n _=>by rw[aq (hx b n)];exact n,λb u q _=> ?_,
  λb xs q=>by rw[aq (hm b _ q λz=>z)];exact q,λb u xs q=>by rw[aq (hm b _ q λz=>z)];exact q,λb ps q=> ⟨#[],by rw[aq (hm b _ q λz=>z),q];simp⟩⟩
 by_cases hbe:b=e
 .subst hbe;exact zg
 .exact⟨u,k b u hbe q⟩
end
noncomputable def trk(h:Xs)(H:Hp):List Xo:=(List.range h.objs.size).filter λa=>(H a).isSome
def Aw(h:Xs)(H:Hp):Xs:=PySem.W.hideAll h (trk h H)
def Ax(h:Xs)(H:Hp):(Aw h H).objs.size=h.objs.size:=PySem.W.hideAll_size _ _
def BY{h:Xs}(e:h.get? b=U o)(n:H b=J):(Aw h H).get? b=U o:=
 PySem.W.hideAll_get _ e λhm=>by
  have q:=(GbX.mp hm).2;rw[n] at q;simp at q
def Gb{h:Xs}(e:(Aw h H).get? b=U o):h.get? b=U o/\H b=J:=by
 have e' :=PySem.W.of_hideAll _ e;refine⟨e', ?_⟩;cases q:H b with
 |none=>rfl
 |some x=>
  have z:(Aw h H).get? b=J:=PySem.W.hideAll_none _ (GbX.mpr ⟨GaZ.mpr (Gak e'),by simp[q]⟩);rw[z] at e;cases e
def Gd(g h:Xs)(L:Xo):LAO:=(List.range h.objs.size).filterMap λa=>if a=L\/(g.get? a).isSome=O then J else(h.get? a).map λo=>(a,o)
def rest(g h:Xs)(L d:Xo):LAO:=(Gd g h L).filter λp=>decide (p.1≠d)
structure Mod(K:PySem.W.Frag)(mg:Str->Option Xq)(base:Xs):Prop where
 kin:K.In base
 glob:base.Ns mainGlobals mg
 blt:∃mb,base.Ns builtinsNs mb/\∀x:Str,x≠"__name__"->mb x=bootBuiltins x
 nolimit:base.NoLimit
structure Cx where
 prog:Xz
 w:Xv
 K:PySem.W.Frag
 mg:Str->Option Xq
 base:Xs
 A:Xx
 N:List Str
 s₀:Xr
 H0:Hp
 env:Env
 outer:List Env
 stack:List Env
 ex:List Xo
 fn:Str->Bool
 calm:Bool
 pn:LAO
 xe:VSP
noncomputable def frs(l:List Env):List Xo:=l.filterMap (·.frame)
abbrev Cx.fs (X:Cx):List Xo:=frs X.outer
def Vis(sc:Xy)(x:Str):Prop:=sc.names.lookup x=U .local\/sc.names.lookup x=U .cell\/sc.names.lookup x=U .free
def Loc(sc:Xy)(x:Str):Prop:=sc.names.lookup x=U .local\/sc.names.lookup x=U .cell
def Look(env:Env)(h:Xs)(m:Str->Option Xq)(x:Str)(u:Xq):Prop:=
 (env.kindOf x=U .local/\m x=U u)\/((env.kindOf x=U .cell\/env.kindOf x=U .free)/\∃c,env.cells.lookup x=U c/\h.IsCell c (U u))
structure Cx.Ok(X:Cx):Prop where
 mod:Mod X.K X.mg X.base
 kind:X.env.scope.kind= .function
 glob:X.env.globals=mainGlobals
 blt:X.env.builtins=builtinsNs
 above:X.s₀.heap.objs.size<=X.env.locals
 inj:∀x y c,X.env.cells.lookup x=U c->X.env.cells.lookup y=U c->x=y
 has:∀x,(X.env.kindOf x=U .cell\/X.env.kindOf x=U .free)->∃c,X.env.cells.lookup x=U c
 cab:∀x c,X.fn x=O->X.env.cells.lookup x=U c->X.s₀.heap.objs.size<=c
 hd:X.calm=O->X.A.handled=J
 frames:X.A.frames=U X.stack
 stk:X.stack=X.outer\/(X.stack=X.env::X.outer/\X.env.frame=U X.env.locals)
 exf:∀b∈X.ex,b≠X.env.locals/\∀x c,X.env.cells.lookup x=U c->c≠b
 bs:∀b o,X.base.get? b=U o->X.s₀.heap.get? b=U o/\X.H0 b=J
 bsz:X.base.objs.size<=X.s₀.heap.objs.size
 vS:∀b o,X.base.get? b=U o->b∉X.ex
 vT:∀b∈X.ex,b∉X.fs
 kU:X.s₀.heap.FunFrames X.base X.outer
 frf:∀b∈X.fs,X.H0 b=J
structure Inv(X:Cx)(ef:LAO)(Z:List (Option V))(H:Hp)(s:Xr):Prop where
 ok:X.Ok
 os:s.os=X.s₀.os
 bare:AllBare s.gens
 base:Un X.fs X.ex X.H0 H X.s₀.heap s.heap
 loc:∃m,s.heap.Ns X.env.locals m/\∀(i:Nat) (x:Str) (v:V),X.N[i]? =U x->Z[i]? =U (U v)->Vis X.env.scope x->∃u,Xg v u/\Look X.env s.heap m x u
 cell:∀x c,X.env.cells.lookup x=U c->∃v,s.heap.IsCell c v
 free:H X.env.locals=J
 iC:∀x c,X.env.cells.lookup x=U c->H c=J
 pin:∀p∈X.pn++ef,s.heap.get? p.1=U p.2/\H p.1=J/\p.1≠X.env.locals/\p.1∉X.fs/\∀v,p.2.data≠ .cell v
 hok:HOk X.prog X.w H s.heap
 len:Z.length=X.N.length
def Cx.Ok.Rl{X:Cx}(ok:X.Ok)(e:X.base.get? b=U o):b∉X.fs:=λhb=>by
 have:=(ok.kU.mem hb).1;lia
theorem Inv.bs{X:Cx}{s:Xr}(I:Inv X ef Z H s):∀b o,X.base.get? b=U o->s.heap.get? b=U o/\H b=J:=λb o e=>
 ⟨I.base.keep b o (I.ok.bs b o e).1 (I.ok.bs b o e).2 (I.ok.Rl e) (I.ok.vS b o e),I.base.free b o (I.ok.bs b o e).1 (I.ok.bs b o e).2 (I.ok.vS b o e)⟩
def Inv.bk{X:Cx}{s:Xr}(I:Inv X ef Z H s):∀b o,X.base.get? b=U o->s.heap.get? b=U o:=λb o e=>(I.bs b o e).1
theorem Inv.mod{X:Cx}(I:Inv X ef Z H s):Mod X.K X.mg X.base:=I.ok.mod
def Inv.kIn{X:Cx}{s:Xr}(I:Inv X ef Z H s):X.K.In s.heap:=I.ok.mod.kin.keeps I.bk
theorem Inv.lt{X:Cx}{s:Xr}(I:Inv X ef Z H s):X.env.locals<s.heap.objs.size:=let⟨_,hn,_⟩:=I.loc;hn.lt
def Inv.sz{X:Cx}{s:Xr}(I:Inv X ef Z H s):X.s₀.heap.objs.size<=s.heap.objs.size:=GaH I.ok.above (Gdj I.lt)
def Inv.Rm{X:Cx}{s:Xr}{a:Xo}(I:Inv X ef Z H s)(h:s.heap.objs.size<=a):a∉X.fs:=λhb=>by
 obtain⟨_,o,ho,_⟩:=I.ok.kU.mem hb;exact absurd (Gah (Gak ho) (GaH I.sz h)) (GaY _)
def Inv.cne{X:Cx}(I:Inv X ef Z H s):∀x c,X.env.cells.lookup x=U c->c≠X.env.locals:=λx c e z=>by
 obtain⟨v,o,ho,hd⟩:=I.cell x c e;obtain⟨m,⟨o',es,ep,xJ,xp,_⟩,_⟩:=I.loc;lia
theorem Inv.kU{X:Cx}{s:Xr}(I:Inv X ef Z H s):s.heap.FunFrames X.base X.outer:=by
 have all:∀(l),(∀b∈frs l,b∈X.fs)->X.s₀.heap.FunFrames X.base l->s.heap.FunFrames X.base l:=by
  intro l;induction l with
  |nil=>intro _ _;trivial
  |cons env r ih=>
   intro hs hl;obtain⟨hk,⟨L,o,hf,hn,ho,hd⟩,hr⟩:=hl;have hL:=hs L (by unfold frs;rw[GcZ,hf];exact GaO);obtain⟨sl,e⟩:=I.base.slot L o ho (I.ok.frf L hL) hL λz=>I.ok.vT L z hL;exact⟨hk,⟨L,_,hf,hn,e,hd⟩,ih (λb hb=>hs b (by unfold frs;rw[GcZ,hf];exact Gaw _ hb)) hr⟩
 exact all _ (λ_ hb=>hb) I.ok.kU
theorem Inv.stack{X:Cx}{s:Xr}(I:Inv X ef Z H s):s.heap.FunFrames X.base X.stack:=by
 rcases I.ok.stk with e| ⟨e,hf⟩
 .rw[e];exact I.kU
 .rw[e];obtain⟨m,hn,_⟩:=I.loc;exact .cons (by rw[I.ok.kind];decide) hf hn (GcN (GaH I.ok.bsz I.ok.above)) I.kU
def Inv.nX{X:Cx}(I:Inv X ef Z H s):∀b∈frs X.stack,b∈X.env.locals::X.fs:=λb hb=>by
 rcases I.ok.stk with e| ⟨e,hf⟩
 .rw[e] at hb;simp_all
 .rw[e] at hb;unfold frs at hb
  rwa[GcZ,hf] at hb
def Inv.kW{X:Cx}(I:Inv X ef Z H s):∀b∈frs X.stack,H b=J:=λb hb=>by
 rcases Gae.mp (I.nX b hb) with e|hb
 .rw[e];exact I.free
 .obtain⟨_,o,ho,_⟩:=I.ok.kU.mem hb;exact I.base.free b o ho (I.ok.frf b hb) λz=>I.ok.vT b z hb
def Inv.step{X:Cx}{H H' :Hp}{s:Xr}{h' :Xs}{ch:List Xo}(I:Inv X ef Z H s)
  (yr:∀b∈ch,(b∈X.ex\/X.s₀.heap.objs.size<=b)/\b≠X.env.locals/\(∀x c,X.env.cells.lookup x=U c->c≠b)/\∀p∈X.pn++ef,p.1≠b)
  (keep:∀b o,b≠X.env.locals->b∉X.fs->b∉ch->s.heap.get? b=U o->H b=J->h'.get? b=U o)
  (slot:∀b o,b≠X.env.locals->b∈X.fs->b∉ch->s.heap.get? b=U o->H b=J->∃sl,h'.get? b=U {o with slots:=sl})(free:∀b o,b∉ch->s.heap.get? b=U o->H b=J->H' b=J)
  (there:∀b o,b∉ch->s.heap.get? b=U o->∃o',h'.get? b=U o')
  (k7:∀b xs,H b=U (.tup xs)->H' b=U (.tup xs))(jM:∀b o u,H b=U (.frz o u)->H' b=U (.frz o u))(me:∀b ps,H b=U (.tbl ps)->∃more,H' b=U (.tbl (ps++more)))
  (ns:∀m,s.heap.Ns X.env.locals m->h'.Ns X.env.locals m)(hok:HOk X.prog X.w H' h')(hg:AllBare g'):
  Inv X ef Z H' {s with heap:=h',gens:=g',drawn:=d',toks:=t' }:=by
 have neL:∀b o,X.s₀.heap.get? b=U o->b≠_:=λb o e=>Gas (Gah (Gak e) I.ok.above);have neC:∀b o,X.s₀.heap.get? b=U o->b∉_->b∉ch:=λb o e hx hb=>by
  rcases(yr b hb).1 with z|z
  .exact hx z
  .exact absurd (Gah (Gak e) z) (GaY _)
 have cellK:∀x c,X.env.cells.lookup x=U c->∀v,s.heap.IsCell c v->h'.IsCell c v:=λx c e v ⟨o,ho,hd⟩=>by
  have nch:=λz=>(yr c z).2.2.1 x c e rfl;by_cases hc:c∈X.fs
  .obtain⟨sl,q⟩:=slot c o (I.cne x c e) hc nch ho (I.iC x c e);exact⟨_,q,hd⟩
  .exact⟨o,keep c o (I.cne x c e) hc nch ho (I.iC x c e),hd⟩
 refine⟨I.ok,I.os,hg,⟨λb o e n hb hx=> ?_,λb o e n hb hx=> ?_,λb o e n hx=> ?_,λb o e hx=> ?_,λb xs e=>k7 b xs (I.base.k7 b xs e),λb o xs e=>jM b o xs (I.base.jM b o xs e),λb ps e=> ?_⟩, ?_,λx c e=> ?_, ?_,λx c e=> ?_,λp hp=> ?_,hok,I.len⟩
 .exact keep b o (neL b o e) hb (neC b o e hx) (I.base.keep b o e n hb hx) (I.base.free b o e n hx)
 .obtain⟨sl,e1⟩:=I.base.slot b o e n hb hx;obtain⟨zP,e2⟩:=slot b _ (neL b o e) hb (neC b o e hx) e1 (I.base.free b o e n hx);exact⟨zP,e2⟩
 .obtain⟨o',e1⟩:=I.base.there b o e hx;exact free b o' (neC b o e hx) e1 (I.base.free b o e n hx)
 .obtain⟨o',e1⟩:=I.base.there b o e hx;exact there b o' (neC b o e hx) e1
 .obtain⟨m1,e1⟩:=I.base.me b ps e;obtain⟨m2,e2⟩:=me b _ e1;exact⟨m1++m2,by rw[e2,Array.append_assoc]⟩
 .obtain⟨m,hn,hl⟩:=I.loc;refine⟨m,ns m hn,λi x v e1 e2 e3=> ?_⟩;obtain⟨u,r,l⟩:=hl i x v e1 e2 e3;refine⟨u,r, ?_⟩;rcases l with l| ⟨k,c,e,z⟩
  .exact .inl l
  .exact .inr ⟨k,c,e,cellK x c e _ z⟩
 .obtain⟨v,z⟩:=I.cell x c e;exact⟨v,cellK x c e v z⟩
 .obtain⟨m,⟨o,_,_,ho,_⟩,_⟩:=I.loc;exact free _ o (λz=>(yr _ z).2.1 rfl) ho I.free
 .obtain⟨v,o,ho,hd⟩:=I.cell x c e;exact free c o (λz=>(yr c z).2.2.1 x c e rfl) ho (I.iC x c e)
 .obtain⟨e,n,ne,nf,d⟩:=I.pin p hp;have nch:=λz=>(yr _ z).2.2.2 p hp rfl;exact⟨keep _ _ ne nf nch e n,free _ _ nch e n,ne,nf,d⟩
def Inv.un{X:Cx}{s:Xr}(I:Inv X ef Z H s)(u:Un X.fs [] H H' s.heap h')(hok:HOk X.prog X.w H' h'):Inv X ef Z H' {s with heap:=h',toks:=t' }:=by
 obtain⟨m,⟨o,es,ep,ho,r⟩,_⟩:=id I.loc;obtain⟨sl,hL⟩:=u.any ho I.free ?E;exact I.step (ch:=[]) (λ_ z=>nomatch z) (λb o _ hb _ e n=>u.keep b o e n hb ?E) (λb o _ hb _ e n=>u.slot b o e n hb ?E) (λb o _ e n=>u.free b o e n ?E) (λb o _ e=>u.there b o e ?E) u.k7 u.jM u.me (λm' hm=>by
  obtain⟨o',Vb,Vc,xJ,r'⟩:=hm;rw[ho] at xJ;cases xJ;exact⟨_,Vb,Vc,hL,r'⟩) hok I.bare
def Inv.call{X:Cx}{s:Xr}(I:Inv X ef Z H s)(u:Un (frs X.stack) ch H H' s.heap h')(hok:HOk X.prog X.w H' h')(hg:AllBare g')
  (yr:∀b∈ch,(b∈X.ex\/X.s₀.heap.objs.size<=b)/\b≠X.env.locals/\(∀x c,X.env.cells.lookup x=U c->c≠b)/\∀p∈X.pn++ef,p.1≠b):
  Inv X ef Z H' {s with heap:=h',gens:=g',drawn:=d',toks:=t' }:=by
 obtain⟨m,⟨o,es,ep,ho,r⟩,_⟩:=id I.loc;obtain⟨sl,hL⟩:=u.any ho I.free λz=>(yr _ z).2.1 rfl;exact I.step yr (λb o hL hb hc e n=>u.keep b o e n (λz=>(Gae.mp (I.nX b z)).elim hL hb) hc) (λb o _ _ hc e n=>u.any e n hc) (λb o hc e n=>u.free b o e n hc) (λb o hc e=>u.there b o e hc) u.k7 u.jM u.me (λm' hm=>by
  obtain⟨o',Vb,Vc,xJ,r'⟩:=hm;rw[ho] at xJ;cases xJ;exact⟨_,Vb,Vc,hL,r'⟩) hok hg
def Inv.turned{X:Cx}{s:Xr}{h' :Xs}(I:Inv X ef Z H s)(k:∀b o,b≠it->s.heap.get? b=U o->h'.get? b=U o)(hn:H it=J)(hL:it≠X.env.locals)
  (h1:it∈X.ex\/X.s₀.heap.objs.size<=it)(h2:∀x c,X.env.cells.lookup x=U c->c≠it)(h3:∀p∈X.pn++ef,p.1≠it):Inv X ef Z H {s with heap:=h',toks:=t' }:=by
 have nit:∀b u,H b=U u->b≠it:=λb u e z=>by rw[z,hn] at e;cases e
 refine I.step (ch:=[it]) (λb hb=> ?_) (λb o _ _ hc e _=>k b o (λz=>hc (by simp[z])) e) (λb o _ _ hc e _=> ⟨_,k b o (λz=>hc (by simp[z])) e⟩) (λ_ _ _ _ n=>n)
  (λb o hc e=> ⟨o,k b o (λz=>hc (by simp[z])) e⟩) (λ_ _ e=>e) (λ_ _ _ e=>e) (λb ps e=> ⟨#[],by rw[e];simp⟩) (λm hm=> ?_) (λb u e=> ?_) I.bare
 .have e:b=it:=by simpa using hb
  subst e;exact⟨h1,hL,h2,h3⟩
 .obtain⟨o,es,ep,ho,r⟩:=hm;exact⟨o,es,ep,k _ o (GaG hL) ho,r⟩
 .refine(I.hok b u e).iD (λc v hc q=>k c v ?_ q) (λ_ q=>q) λ_ _ q=>q;rcases hc with z|z
  .rw[z];exact nit b u e
  .exact nit c _ z
def Inv.tok(I:Inv X ef Z H s)(t:Nat):Inv X ef Z H {s with toks:=t}:=I.un Un.refl I.hok
theorem Inv.kept{s:Xr}{h' :Xs}(I:Inv X ef Z H s)(k:∀b u,s.heap.get? b=U u->h'.get? b=U u):Inv X ef Z H {s with heap:=h',toks:=t' }:=I.un (Un.kept k) (I.hok.kept k)
theorem Inv.laid{X:Cx}{s:Xr}{h' :Xs}{a:Xo}(I:Inv X ef Z H s)(k:∀b u,s.heap.get? b=U u->h'.get? b=U u)(hp:s.heap.objs.size<=a)(new:bS X.prog X.w (upd H a o) h' a o):
  Inv X ef Z (upd H a o) {s with heap:=h',toks:=t' }:=I.un (Un.laid k hp (I.hok.fresh hp)) (I.hok.laid k hp new)
theorem Inv.write{X:Cx}{s:Xr}{h' :Xs}(I:Inv X ef Z H s)(mu:Mut (H x))(he:e=x\/H e=U (.own x))(k:∀b u,b≠e->s.heap.get? b=U u->h'.get? b=U u)(zg:∃u,h'.get? e=U u)
  (new:bS X.prog X.w (upd H x o) h' x o):Inv X ef Z (upd H x o) {s with heap:=h',toks:=t' }:=I.un (Un.write mu he k zg) (I.hok.write mu he k zg new)
def Inv.vU{X:Cx}{s:Xr}(I:Inv X ef Z H s)(h:∀p∈pins',s.heap.get? p.1=U p.2/\H p.1=J/\p.1≠X.env.locals/\p.1∉X.fs/\∀v,p.2.data≠ .cell v):Inv X pins' Z H s:=
 ⟨I.ok,I.os,I.bare,I.base,I.loc,I.cell,I.free,I.iC,λp hp=>(GaL.mp hp).elim (λz=>I.pin p (GcO _ z)) (h p),I.hok,I.len⟩
def nY{N:List Str}{i j:Nat}(hN:N.Nodup)(a:N[i]? =U x)(b:N[j]? =U x):i=j:=by
 obtain⟨h1,e1⟩:=Gac.mp a;obtain⟨h2,e2⟩:=Gac.mp b;exact(List.getElem_inj hN).mp (e1.trans e2.symm)
def pO{X:Cx}{Z:List (Option V)}{s:Xr}(I:Inv X ef Z H s)(hN:X.N.Nodup)(hi:X.N[i]? =U x)(hx:Loc X.env.scope x)(r:Xg v u)
  (h:∀s',Inv X ef (Z.set i (U v)) H s' ->(∃a,Heap.SameBut a s.heap s'.heap/\(a=X.env.locals\/X.env.cells.lookup x=U a))->Q () s')(hf:autoParam (X.fn x=O\/X.env.scope.names.lookup x=U .local) Za3._auto_1):wpAny Xf A (storeName X.env x u) Q E s:=by
 obtain⟨m,hn,hl⟩:=id I.loc;have hisg:i<Z.length:=by rw[I.len];exact(Gac.mp hi).1
 have cne:=I.cne;have tracked:∀{a:Xo} {h' :Xs},(∃o,s.heap.get? a=U o/\H a=J)->Heap.SameBut a _ h' ->HOk _ _ H h' :=λ{a h'} ha hs b ob e=>by
  obtain⟨_,_,xx⟩:=ha;refine(I.hok b ob e).iD (λc w' hc q=>(hs.2 c ?_).trans q) (λ_ q=>q) λ_ _ q=>q;rintro rfl;rcases hc with rfl|hc
  .rw[xx] at e;cases e
  .rw[xx] at hc;cases hc
 rcases hx with hk|hk
 .refine wpAny_storeName_local hk hn (λh' UY hs=> ?_) (by rw[I.ok.kind];rfl);obtain⟨oL,_,_,Wn,_⟩:=id hn;refine h _ ⟨I.ok,I.os,I.bare,⟨λb o e n hb hx=> ?_,λb o e n hb hx=> ?_,I.base.free,λb o e hx=> ?_,I.base.k7,I.base.jM,I.base.me⟩,⟨_,UY,λj y v' e1 e2 e3=> ?_⟩,λy c e=> ?_,I.free,I.iC,λp hp=> ?_,tracked ⟨oL,Wn,I.free⟩ hs,by simpa using I.len⟩ ⟨_,hs,.inl rfl⟩
  .exact(hs.2 b (Gas (Gah (Gak e) I.ok.above))).trans (I.base.keep b o e n hb hx)
  .obtain⟨sl,e1⟩:=I.base.slot b o e n hb hx;exact⟨sl,(hs.2 b (Gas (Gah (Gak e) I.ok.above))).trans e1⟩
  .obtain⟨o',e1⟩:=I.base.there b o e hx;exact⟨o',(hs.2 b (Gas (Gah (Gak e) I.ok.above))).trans e1⟩
  .by_cases hj:j=i
   .subst hj;rw[hi] at e1;cases e1;rw[GaD hisg] at e2;cases e2;exact⟨u,r,.inl ⟨hk,by simp⟩⟩
   .rw[Gad (GaG hj)] at e2;obtain⟨u',r',q⟩:=hl j y v' e1 e2 e3;refine⟨u',r', ?_⟩;rcases q with⟨k,e⟩| ⟨k,c,e,z⟩
    .refine .inl ⟨k, ?_⟩;have:y≠x:=λe=>hj (nY hN e1 (e▸hi));simp[this,e]
    .exact .inr ⟨k,c,e,z.sameBut hs (cne y c e)⟩
  .obtain⟨w',z⟩:=I.cell y c e;exact⟨w',z.sameBut hs (cne y c e)⟩
  .obtain⟨e,n,ne,nf,d⟩:=I.pin p hp;exact⟨(hs.2 _ ne).trans e,n,ne,nf,d⟩
 .have hfn:X.fn x=O:=by
   rcases hf with z|z
   .exact z
   .rw[z] at hk;cases hk
  obtain⟨c,hc⟩:=I.ok.has x (.inl hk);obtain⟨w',z⟩:=I.cell x c hc;refine wpAny_storeName_cell I.ok.kind hk hc z (λh' yU hs=> ?_);obtain⟨oc,VA,Wl⟩:=id z;refine h {s with heap:=h' } ⟨I.ok,I.os,I.bare,⟨λb o e n hb hx=> ?_,λb o e n hb hx=> ?_,I.base.free,λb o e hx=> ?_,I.base.k7,I.base.jM,I.base.me⟩,⟨m,hn.sameBut hs (GaG (cne x c hc)),λj y v' e1 e2 e3=> ?_⟩,λy c' e=> ?_,I.free,I.iC,λp hp=> ?_,tracked ⟨oc,VA,I.iC x c hc⟩ hs,by simpa using I.len⟩ ⟨c,hs,.inr hc⟩
  .exact(hs.2 b (Gas (Gah (Gak e) (I.ok.cab x c hfn hc)))).trans (I.base.keep b o e n hb hx)
  .obtain⟨sl,e1⟩:=I.base.slot b o e n hb hx;exact⟨sl,(hs.2 b (Gas (Gah (Gak e) (I.ok.cab x c hfn hc)))).trans e1⟩
  .obtain⟨o',e1⟩:=I.base.there b o e hx;exact⟨o',(hs.2 b (Gas (Gah (Gak e) (I.ok.cab x c hfn hc)))).trans e1⟩
  .by_cases hj:j=i
   .subst hj;rw[hi] at e1;cases e1;rw[GaD hisg] at e2;cases e2;exact⟨u,r,.inr ⟨.inl hk,c,hc,yU⟩⟩
   .rw[Gad (GaG hj)] at e2;obtain⟨u',r',q⟩:=hl j y v' e1 e2 e3;refine⟨u',r', ?_⟩;rcases q with q| ⟨k,c',e,z'⟩
    .exact .inl q
    .refine .inr ⟨k,c',e,z'.sameBut hs ?_⟩;rintro rfl;exact hj (nY hN e1 (I.ok.inj _ _ _ e hc▸hi))
  .by_cases hcc:c' =c
   .subst hcc;exact⟨_,yU⟩
   .obtain⟨w2,z2⟩:=I.cell y c' e;exact⟨w2,z2.sameBut hs hcc⟩
  .obtain⟨e,n,ne,nf,d⟩:=I.pin p hp;refine⟨(hs.2 _ ?_).trans e,n,ne,nf,d⟩;intro q;rw[q,VA] at e;exact d w' ?H
def kX{X:Cx}{Z:List (Option V)}(I:Inv X ef Z H s)(hN:X.N.Nodup)(hi:X.N[i]? =U x)(hx:Loc X.env.scope x)(r:Xg v u)
  (h:∀s',Inv X ef (Z.set i (U v)) H s' ->Q () s')(hf:autoParam (X.fn x=O\/X.env.scope.names.lookup x=U .local) Za3._auto_1):wpAny Xf A (storeName X.env x u) Q E s:=
 pO I hN hi hx r (λs' I' _=>h s' I') hf
def Inv.sr{X:Cx}{s s' :Xr}(I:Inv X ef Z H s)(ho:s'.os=s.os)(u:Un (frs X.stack) ch H H' s.heap s'.heap)(hok:HOk X.prog X.w H' s'.heap)(hg:AllBare s'.gens)
  (yr:∀b∈ch,(b∈X.ex\/X.s₀.heap.objs.size<=b)/\b≠X.env.locals/\(∀x c,X.env.cells.lookup x=U c->c≠b)/\∀p∈X.pn++ef,p.1≠b):Inv X ef Z H' s' :=by
 obtain⟨h',g',d',t',o'⟩:=s';subst ho;exact I.call u hok hg yr
abbrev XK:=Xq->Option Xo->Hp->Prop
abbrev St:=List (Option V)
abbrev VK:=V->Hp->Prop
abbrev TE:=St->Hp->VK->Prop
abbrev TT:=St->Hp->(Bool->Hp->Prop)->Prop
abbrev TA:=St->Hp->(List V->Hp->Prop)->Prop
structure Ends where
 nx:St->Hp->Prop
 rt:VK
 bk:St->Hp->Prop:=λ_ _=>False
 ct:St->Hp->Prop:=λ_ _=>False
abbrev TS:=Ends->St->Hp->Prop
def EP(X:Cx)(ef:LAO)(Z:St)(Q:VK)(u:Xq)(s' :Xr):Prop:=∃v H',Inv X ef Z H' s' /\Xg v u/\Q v H'
def TP(X:Cx)(ef:LAO)(Z:St)(Q:Bool->Hp->Prop)(b:Bool)(s' :Xr):Prop:=∃H',Inv X ef Z H' s' /\Q b H'
def AP(X:Cx)(ef:LAO)(Z:St)(Q:List V->Hp->Prop)(us:List Xq)(s' :Xr):Prop:=∃vs H',Inv X ef Z H' s' /\Xh vs us/\Q vs H'
def SP(X:Cx)(ef:LAO)(D:Ends)(f:Flow)(s' :Xr):Prop:=
 match f with
 | .next=>∃Z' H',Inv X ef Z' H' s' /\D.nx Z' H'
 | .brk=>∃Z' H',Inv X ef Z' H' s' /\D.bk Z' H'
 | .cont=>∃Z' H',Inv X ef Z' H' s' /\D.ct Z' H'
 | .ret u=>∃v Z' H',Inv X ef Z' H' s' /\Xg v u/\D.rt v H'
def PE(X:Cx)(e:Xp)(t:TE):Prop:=
 ∀(ef:LAO) (s:Xr) (Z:St) (H:Hp) (Q:VK),Inv X ef Z H s->t Z H Q->wpAny (model X.prog X.w) X.A (eval e X.env) (EP X ef Z Q) X.xe s
def PT(X:Cx)(e:Xp)(t:TT):Prop:=
 ∀(ef:LAO) (s:Xr) (Z:St) (H:Hp) (Q:Bool->Hp->Prop),Inv X ef Z H s->t Z H Q->wpAny (model X.prog X.w) X.A (isTrue e X.env (eval e X.env)) (TP X ef Z Q) X.xe s
def PW(X:Cx)(e:Xp)(t:TT):Prop:=
 ∀(whole:Sem Xq) (ef:LAO) (s:Xr) (Z:St) (H:Hp) (Q:Bool->Hp->Prop),Inv X ef Z H s->t Z H Q->wpAny (model X.prog X.w) X.A (isTrue e X.env whole) (TP X ef Z Q) X.xe s
def PW.pt(h:PW X e t):PT X e t:=h _
def PA(X:Cx)(es:List Xp)(t:TA):Prop:=
 ∀(pos:Pos) (ef:LAO) (s:Xr) (Z:St) (H:Hp) (Q:List V->Hp->Prop),Inv X ef Z H s->t Z H Q->wpAny (model X.prog X.w) X.A (spliced (backTo pos (starEach es X.env))) (AP X ef Z Q) X.xe s
def PS(X:Cx)(st:Xu)(t:TS):Prop:=
 ∀(ef:LAO) (s:Xr) (Z:St) (H:Hp) (D:Ends),Inv X ef Z H s->t D Z H->wpAny (model X.prog X.w) X.A (exec st X.env) (SP X ef D) X.xe s
def PSs(X:Cx)(st:List Xu)(t:TS):Prop:=
 ∀(ef:LAO) (s:Xr) (Z:St) (H:Hp) (D:Ends),Inv X ef Z H s->t D Z H->wpAny (model X.prog X.w) X.A (execs st X.env) (SP X ef D) X.xe s
def thn{α:Type}{t:Sem α}{Q Q' :α->Xr->Prop}(h:wpAny Xf A t Q E s)(hQ:∀a s,Q a s->Q' a s):wpAny Xf A t Q' E s:=Gba h hQ λ_ _ x=>x
section
variable{X:Cx}
def K3(i:Nat):TE:=λZ H Q=>∃v,Z[i]? =U (U v)/\Q v H
def tC(v:V):TE:=λ_ H Q=>Q v H
def fi(hN:X.N[i]? =U x)(hv:Vis X.env.scope x)(hd:autoParam ((x==("__debug__":Str))=M) Za2._auto_1)(xf:autoParam ((x==("__classdict__":Str))=M) Za2._auto_1):PE X (.Name x pos) (K3 i):=by
 intro ef s Z H Q I h;obtain⟨v,e,h⟩:=h;obtain⟨m,hn,hl⟩:=I.loc;obtain⟨u,r,l⟩:=hl i x v hN e hv;have fin:EP X ef Z Q u s:=⟨v,H,I,r,h⟩
 rcases l with⟨hk,hm⟩| ⟨hk,c,hc,xq⟩
 .exact wpAny_Name (wpAny_loadName_local I.ok.kind hk hn hm fin) hd
 .rcases hk with hk|hk
  .exact wpAny_Name (wpAny_loadName_cell I.ok.kind hk hc xq fin) hd
  .exact wpAny_Name (wpAny_loadName_free I.ok.kind hk hc xq fin xf) hd
def K4:PE X (.Constant (.int i) j pos) (tC (.int i)):=λ_ _ _ H _ I h=>wpAny_Constant_int ⟨.int i,H,I.tok _,⟨_,rfl⟩,h⟩
def NS:PE X (.Constant (.bool b) j pos) (tC (.bl b)):=λ_ _ _ H _ I h=>Constant_bool ⟨.bl b,H,I,rfl,h⟩
def K5:PE X (.Constant .none j pos) (tC .non):=λ_ _ _ H _ I h=>Constant_none ⟨.non,H,I,rfl,h⟩
def uF:PE X (.Constant (.str x) j pos) (tC (.str x)):=λ_ _ _ H _ I h=>Calls.Constant_str ⟨.str x,H,I.tok _,⟨_,rfl⟩,h⟩
def Gl(X:Cx)(x:Str):Prop:=X.env.kindOf x=U .globalImplicit
variable{Z:St}
def fQ(I:Inv X ef Z H s)(hg:Gl X x)(hm:X.mg x=U u)(h:Q u s)
  (hd:autoParam ((x==("__debug__":Str))=M) Za2._auto_1):wpAny (model X.prog X.w) X.A (eval (.Name x pos) X.env) Q E s:=
 Calls.Name_function_global I.ok.kind hg (Calls.loadGlobal_global (by rw[I.ok.glob];exact I.mod.glob.keeps I.bk) hm h) hd
def kq(I:Inv X ef Z H s)(hg:Gl X x)(hm:X.mg x=J)(hv:bootBuiltins x=U u)(h:Q u s)
  (hn:autoParam (x≠"__name__") Za2._auto_1)(hd:autoParam ((x==("__debug__":Str))=M) Za2._auto_1):wpAny (model X.prog X.w) X.A (eval (.Name x pos) X.env) Q E s:=by
 obtain⟨mb,h1,h2⟩:=I.mod.blt;exact Calls.Name_function_global I.ok.kind hg (Calls.loadGlobal_builtin (by rw[I.ok.glob];exact I.mod.glob.keeps I.bk) hm (by rw[I.ok.blt];exact h1.keeps I.bk) ((h2 x hn).trans hv) h) hd
def qG(hg:Gl X x)(hm:X.mg x=U u)(r:Xg v u)(hd:autoParam ((x==("__debug__":Str))=M) Za2._auto_1):PE X (.Name x pos) (tC v):=
 λ_ _ _ H _ I h=>fQ I hg hm ⟨v,H,I,r,h⟩ hd
def vW(hg:Gl X x)(hm:X.mg x=J)(hv:bootBuiltins x=U u)(r:Xg v u)(hn:autoParam (x≠"__name__") Za2._auto_1)(hd:autoParam ((x==("__debug__":Str))=M) Za2._auto_1):PE X (.Name x pos) (tC v):=
 λ_ _ _ H _ I h=>kq I hg hm hv ⟨v,H,I,r,h⟩ hn hd
variable{a b:Xp}{ta tb:TE}
def PC(X:Cx)(op:XE)(a b:Xp)(t:TE):Prop:=
 ∀(ef:LAO) (s:Xr) (Z:St) (H:Hp) (Q:VK),Inv X ef Z H s->t Z H Q->
  wpAny (model X.prog X.w) X.A (eval a X.env) (λv s₁=>wpAny (model X.prog X.w) X.A (eval b X.env) (λu s₂=>wpAny (model X.prog X.w) X.A (compareOp op v u) (EP X ef Z Q) X.xe s₂) X.xe s₁) X.xe s
def tB(t:TE):TT:=λZ H Q=>t Z H λx H1=>∃c,x= .bl c/\Q c H1
def K6(h:PC X op a b t)(h1:behindInMarks op b=M:=by first|exact nobehind _ (by decide) (by decide)|rfl):PT X (.Compare a [op] [b] pos) (tB t):=by
 intro ef s Z H Q I hw;refine wpAny_isTrue_Compare1 (thn (h ef s Z H _ I hw) λv s1 h1=>thn h1 λu s2 h2=>thn h2 λc s3 q0=> ?_) h1;obtain⟨x,H1,I1,r1,q1⟩:=q0;obtain⟨d,rfl,q⟩:=q1;cases r1;exact Gbc ⟨H1,I1,q⟩
def BZ{e:Xp}{t:TE}(h:PE X e t)(he:∀whole,isTrue e X.env whole=(do let v<-whole;standAt e.pos;holding [v] (truthy v)):=by intro _;rfl):PT X e (tB t):=by
 intro ef s Z H Q I hw;refine isTrue_plain (thn (h ef s Z H _ I hw) λv s1 q0=> ?_) (he _);obtain⟨x,H1,I1,r1,q1⟩:=q0;obtain⟨d,rfl,q⟩:=q1;cases r1;exact Gbc ⟨H1,I1,q⟩
def Rn(t u:TT):TT:=λZ H Q=>t Z H λc H1=>if c=O then u Z H1 Q else Q M H1
def tOr(t u:TT):TT:=λZ H Q=>t Z H λc H1=>if c=O then Q O H1 else u Z H1 Q
def Ro(t:TT):TT:=λZ H Q=>t Z H λc H1=>Q (!c) H1
def Ge(ha:PT X a tA):PW X (.BoolOp .And [a] pos) tA:=by
 intro wh ef s Z H Q I h;refine isTrue_and (thn (ha ef s Z H Q I h) λc s1 e=> ?_);cases c with
 |true=>exact isTrue_and_nil e
 |false=>exact e
def K7(ha:PT X a tA):PW X (.BoolOp .Or [a] pos) tA:=by
 intro wh ef s Z H Q I h;refine isTrue_or (thn (ha ef s Z H Q I h) λc s1 e=> ?_);cases c with
 |false=>exact isTrue_or_nil e
 |true=>exact e
def K8{tA:TT}{rest:List Xp}(ha:PT X a tA)(hb:PW X (.BoolOp .And (b::rest) pos) tB'):PW X (.BoolOp .And (a::b::rest) pos) (Rn tA tB'):=by
 intro wh ef s Z H Q I h;refine isTrue_and (thn (ha ef s Z H _ I h) λc s1 ⟨H1,I1,q1⟩=> ?_);cases c with
 |true=>exact hb wh ef s1 Z H1 Q I1 q1
 |false=>exact⟨H1,I1,q1⟩
def NT{tA:TT}{rest:List Xp}(ha:PT X a tA)(hb:PW X (.BoolOp .Or (b::rest) pos) tB'):PW X (.BoolOp .Or (a::b::rest) pos) (tOr tA tB'):=by
 intro wh ef s Z H Q I h;refine isTrue_or (thn (ha ef s Z H _ I h) λc s1 ⟨H1,I1,q1⟩=> ?_);cases c with
 |true=>exact⟨H1,I1,q1⟩
 |false=>exact hb wh ef s1 Z H1 Q I1 q1
def C0(ha:PT X a tA):PT X (.UnaryOp .Not a pos) (Ro tA):=by
 intro ef s Z H Q I h;exact isTrue_not (ha ef s Z H _ I h)
def NU(ta tb:TE):TE:=λZ H Q=>ta Z H λx H1=>∃c,x= .bl c/\if c=O then tb Z H1 Q else Q (.bl M) H1
def Rp(ta tb:TE):TE:=λZ H Q=>ta Z H λx H1=>∃c,x= .bl c/\if c=O then Q (.bl O) H1 else tb Z H1 Q
def NV(ta:TE):TE:=λZ H Q=>ta Z H λx H1=>∃c,x= .bl c/\Q (.bl (!c)) H1
def K9(h:PE X a t):PE X (.BoolOp op [a] pos) t:=λef s Z H Q I hw=>BoolOp_one (h ef s Z H Q I hw)
def Ka{rest:List Xp}(ha:PE X a ta)(hb:PE X (.BoolOp .And (b::rest) pos) tb):PE X (.BoolOp .And (a::b::rest) pos) (NU ta tb):=by
 intro ef s Z H Q I h;refine BoolOp_and (thn (ha ef s Z H _ I h) λv s1 q0=> ?_);obtain⟨x,H1,I1,r1,q1⟩:=q0;obtain⟨c,rfl,q1⟩:=q1;cases r1;refine Gbc ?_;cases c with
 |true=>exact hb ef s1 Z H1 Q I1 q1
 |false=>exact⟨.bl M,H1,I1,rfl,q1⟩
def NW{rest:List Xp}(ha:PE X a ta)(hb:PE X (.BoolOp .Or (b::rest) pos) tb):PE X (.BoolOp .Or (a::b::rest) pos) (Rp ta tb):=by
 intro ef s Z H Q I h;refine BoolOp_or (thn (ha ef s Z H _ I h) λv s1 q0=> ?_);obtain⟨x,H1,I1,r1,q1⟩:=q0;obtain⟨c,rfl,q1⟩:=q1;cases r1;refine Gbc ?_;cases c with
 |false=>exact hb ef s1 Z H1 Q I1 q1
 |true=>exact⟨.bl O,H1,I1,rfl,q1⟩
def Kb(ha:PE X a ta):PE X (.UnaryOp .Not a pos) (NV ta):=by
 intro ef s Z H Q I h;refine UnaryOp_ (thn (ha ef s Z H _ I h) λv s1 q0=> ?_);obtain⟨x,H1,I1,r1,q1⟩:=q0;obtain⟨c,rfl,q1⟩:=q1;cases r1;exact not_of (Gbc ⟨.bl _,H1,I1,rfl,q1⟩)
def tIf(t:TT)(ta tb:TE):TE:=λZ H Q=>t Z H λc H1=>if c=O then ta Z H1 Q else tb Z H1 Q
def C1(hc:PT X c tA)(ha:PE X a ta)(hb:PE X b tb):PE X (.IfExp c a b pos) (tIf tA ta tb):=by
 intro ef s Z H Q I h;refine wpAny_IfExp (thn (hc ef s Z H _ I h) λd s1 ⟨H1,I1,q1⟩=> ?_);cases d with
 |true=>exact ha ef s1 Z H1 Q I1 q1
 |false=>exact hb ef s1 Z H1 Q I1 q1
end
def SqL(K:PySem.W.Frag)(H:Hp)(a:Xo)(xs:List V):Prop:=
 Rd H a (.lst xs)\/
  ∃(o:Xw) (eh:Array Xq) (n:Nat),K.lookup a=U o/\o.cls= .type "list"/\o.dict=J/\o.data= .seq eh n/\eh.size<=sizeLine/\Xh xs eh.toList
def SqT(K:PySem.W.Frag)(H:Hp)(a:Xo)(xs:List V):Prop:=
 Rd H a (.tup xs)\/
  ∃(o:Xw) (eh:Array Xq) (n:Nat),K.lookup a=U o/\o.cls= .type "tuple"/\o.data= .seq eh n/\eh.size<=sizeLine/\Xh xs eh.toList
noncomputable def Rq:Xq->Option V
 | .none=>U .non
 | .bool b=>U (.bl b)
 | .int i _=>U (.int i)
 | .str x _=>U (.str x)
 | .ref a=>U (.ref a)
 | .type n=>U (.ty n)
 |_=>J
def Xg.abs(r:Xg x u):Rq u=U x:=by
 cases x with
 |non=>cases r;rfl
 |bl _=>cases r;rfl
 |int _=>obtain⟨t,rfl⟩:=r;rfl
 |str _=>obtain⟨t,rfl⟩:=r;rfl
 |ref _=>cases r;rfl
 |ty _=>cases r;rfl
theorem Xg.inj(r:Xg x u)(q:Xg y u):x=y:=Option.some.inj (r.abs.symm.trans q.abs)
theorem Xh.inj(p:Xh xs us)(q:Xh ys us):xs=ys:=by
 induction p generalizing ys with
 |nil=>cases q;rfl
 |cons r t ih=>cases q with|cons r' t' =>rw[r.inj r',ih t']
section
def SqT.of{H:Hp}{K:PySem.W.Frag}(h:H a=U (.tup xs)):SqT K H a xs:= .inl (.inl h)
variable{Z:St}{X:Cx}
def Inv.list{s:Xr}{xs:List V}(I:Inv X ef Z H s)(h:SqL X.K H a xs):∃eh,Xh xs eh/\PlainL s.heap a eh.toArray/\xs.length<=sizeLine:=by
 rcases h with h| ⟨o,eh,n,hk,hc,hd,hs,hz,r⟩
 .obtain⟨z,eh,n,r,e⟩:=h.ok I.hok;exact⟨eh,r,⟨_,n,e,rfl,rfl,rfl⟩,z⟩
 .refine⟨_,r,⟨o,n,I.kIn a o hk,hc,hd,by simpa using hs⟩, ?_⟩;have e:=r.length;simp_all
def Inv.tuple{s:Xr}{xs:List V}(I:Inv X ef Z H s)(h:SqT X.K H a xs):∃eh,Xh xs eh/\IsTup s.heap a eh.toArray/\xs.length<=sizeLine:=by
 rcases h with h| ⟨o,eh,n,hk,hc,hs,hz,r⟩
 .obtain⟨z,eh,r,p⟩:=h.ok I.hok;exact⟨eh,r,p,z⟩
 .refine⟨_,r,⟨o,I.kIn a o hk,hc,n,by simpa using hs⟩, ?_⟩;have e:=r.length;simp_all
def Inv.nZ(I:Inv X ef Z H s)(h:SqL X.K H a xs)(h' :SqL X.K H a ys):xs=ys:=by
 obtain⟨eh,r,⟨o,n,e,_,_,d⟩,_⟩:=I.list h;obtain⟨its',r',⟨o',n',e',_,_,d'⟩,_⟩:=I.list h';rw[e] at e';cases e'
 rw[d] at d';injection d' with d1 _
 have:eh=its' :=by simpa using congrArg Array.toList d1
 subst this;exact r.inj r'
def Inv.mf(I:Inv X ef Z H s)(h:SqT X.K H a xs)(h' :SqT X.K H a ys):xs=ys:=by
 obtain⟨eh,r,⟨o,e,_,n,d⟩,_⟩:=I.tuple h;obtain⟨its',r',⟨o',e',_,n',d'⟩,_⟩:=I.tuple h';rw[e] at e';cases e'
 rw[d] at d';injection d' with d1 _
 have:eh=its' :=by simpa using congrArg Array.toList d1
 subst this;exact r.inj r'
end
noncomputable abbrev Cx.dQ (X:Cx) (E:VSP):Cx:={X with xe:=E}
abbrev Cx.nox (X:Cx):Cx:=X.dQ λ_ _=>False
theorem Cx.Ok.dQ{X:Cx}(ok:X.Ok)(E:VSP):(X.dQ E).Ok:=
 ⟨ok.mod,ok.kind,ok.glob,ok.blt,ok.above,ok.inj,ok.has,ok.cab,ok.hd,ok.frames,ok.stk,ok.exf,ok.bs,ok.bsz,ok.vS,ok.vT,ok.kU,ok.frf⟩
def Cx.Ok.dM{X:Cx}(ok:(X.dQ E).Ok):X.Ok:=
 ⟨ok.mod,ok.kind,ok.glob,ok.blt,ok.above,ok.inj,ok.has,ok.cab,ok.hd,ok.frames,ok.stk,ok.exf,ok.bs,ok.bsz,ok.vS,ok.vT,ok.kU,ok.frf⟩
theorem Inv.dQ{X:Cx}{Z:St}(I:Inv X ef Z H s)(E:VSP):Inv (X.dQ E) ef Z H s:=⟨I.ok.dQ E,I.os,I.bare,I.base,I.loc,I.cell,I.free,I.iC,I.pin,I.hok,I.len⟩
theorem Inv.dM{X:Cx}{Z:St}(I:Inv (X.dQ E) ef Z H s):Inv X ef Z H s:=⟨I.ok.dM,I.os,I.bare,I.base,I.loc,I.cell,I.free,I.iC,I.pin,I.hok,I.len⟩
theorem SP.dM{X:Cx}(h:SP (X.dQ E) ef D f s'):SP X ef D f s' :=by
 cases f with
 |next=>obtain⟨Z',H',I,q⟩:=h;exact⟨Z',H',I.dM,q⟩
 |brk=>obtain⟨Z',H',I,q⟩:=h;exact⟨Z',H',I.dM,q⟩
 |cont=>obtain⟨Z',H',I,q⟩:=h;exact⟨Z',H',I.dM,q⟩
 |ret u=>obtain⟨v,Z',H',I,r,q⟩:=h;exact⟨v,Z',H',I.dM,r,q⟩
theorem PE.nox{X:Cx}(h:PE X.nox e t):PE X e t:=λef s Z H Q I hw=>
 Gba (h ef s Z H Q (I.dQ _) hw) (λ_ _ ⟨v,H',I',r,q⟩=> ⟨v,H',I'.dM,r,q⟩) λ_ _ z=>False.elim z
theorem PT.nox{X:Cx}(h:PT X.nox e t):PT X e t:=λef s Z H Q I hw=>
 Gba (h ef s Z H Q (I.dQ _) hw) (λ_ _ ⟨H',I',q⟩=> ⟨H',I'.dM,q⟩) λ_ _ z=>False.elim z
theorem PSs.nox{X:Cx}{st:List Xu}(h:PSs X.nox st t):PSs X st t:=λef s Z H D I hw=>
 Gba (h ef s Z H D (I.dQ _) hw) (λ_ _ q=>q.dM) λ_ _ z=>False.elim z
section
variable{t u:TS}{te:TE}
def NX:TS:=λD Z H=>D.nx Z H
def Rr(t u:TS):TS:=λD Z H=>t {D with nx:=u D} Z H
def Gf:PSs X [] NX:=λ_ _ Z H _ I h=>GbY ⟨Z,H,I,h⟩
variable{st:Xu}
def o6{rest:List Xu}(h1:PS X st t)(h2:PSs X rest u):PSs X (st::rest) (Rr t u):=by
 intro ef s Z H D I h;refine wpAny_execs_cons (thn (h1 ef s Z H {D with nx:=u D} I h) λf s1 q=> ?_);cases f with
 |next=>
  obtain⟨Z',H',I',q⟩:=q;exact h2 ef s1 Z' H' D I' q
 |ret v=>exact q
 |brk=>exact q
 |cont=>exact q
def qH(h1:PS X st t):PSs X [st] t:=by
 intro ef s Z H D I h;refine wpAny_execs_cons (thn (h1 ef s Z H D I h) λf s1 q=> ?_);cases f with
 |next=>exact GbY q
 |ret v=>exact q
 |brk=>exact q
 |cont=>exact q
def Inv.quiet{X:Cx}{Z:St}(I:Inv X ef Z H s):interactive X.env=M:=by simp[interactive,I.ok.kind]
def NY(te:TE):TS:=λD Z H=>te Z H λ_ H1=>D.nx Z H1
def qI{X:Cx}{pos:Pos}(he:PE X e te)(hs:autoParam (swapsWith e J pos.line X.env=pure M) Za1._auto_1):PS X (.Expr e pos) (NY te):=by
 intro ef s Z H D I h;exact wpAny_Expr_any (thn (he ef s Z H _ I h) λv s1 ⟨x,H1,I1,r1,q1⟩=> ⟨Z,H1,I1,q1⟩) I.quiet hs
def Rt(te:TE):TS:=λD Z H=>te Z H D.rt
def qJ(he:PE X e te):PS X (.Return (U e) pos) (Rt te):=by
 intro ef s Z H D I h;exact wpAny_Return_some (thn (he ef s Z H _ I h) λv s1 ⟨x,H1,I1,r1,q1⟩=> ⟨x,Z,H1,I1,r1,q1⟩)
def Ru(c:TT)(t u:TS):TS:=λD Z H=>c Z H λb H1=>if b=O then t D Z H1 else u D Z H1
def C3(hc:PT X c tc)(ha:PSs X a t)(hb:PSs X b u):PS X (.If c a b pos) (Ru tc t u):=by
 intro ef s Z H D I h;refine wpAny_If (thn (hc ef s Z H _ I h) λd s1 ⟨H1,I1,q1⟩=> ?_);cases d with
 |true=>exact ha ef s1 Z H1 D I1 q1
 |false=>exact hb ef s1 Z H1 D I1 q1
end
abbrev TG:=V->St->Hp->(St->Hp->Prop)->Prop
abbrev TGs:=List V->St->Hp->(St->Hp->Prop)->Prop
def PG(X:Cx)(target:Xp)(t:TG):Prop:=
 ∀(ef:LAO) (s:Xr) (Z:St) (H:Hp) (v:V) (u:Xq) (Q:St->Hp->Prop),Inv X ef Z H s->Xg v u->t v Z H Q->
  wpAny (model X.prog X.w) X.A (assign target X.env u) (λ_ s' =>∃Z' H',Inv X ef Z' H' s' /\Q Z' H') X.xe s
def PGs(X:Cx)(ts:List Xp)(t:TGs):Prop:=
 ∀(ef:LAO) (s:Xr) (Z:St) (H:Hp) (vs:List V) (us:List Xq) (Q:St->Hp->Prop),Inv X ef Z H s->Xh vs us->t vs Z H Q->
  wpAny (model X.prog X.w) X.A (assignInOrder ((assignEach ts X.env).map (·.2)) us) (λ_ s' =>∃Z' H',Inv X ef Z' H' s' /\Q Z' H') X.xe s
abbrev Rw:=V->V->V->Hp->(Hp->Prop)->Prop
def Rx(X:Cx)(t:Rw):Prop:=
 ∀(ef:LAO) (s:Xr) (Z:St) (H:Hp) (o i v:V) (ov iv u:Xq) (Q:Hp->Prop),Inv X ef Z H s->Xg o ov->Xg i iv->Xg v u->t o i v H Q->
  wpAny (model X.prog X.w) X.A (setItem ov iv u) (λ_ s' =>∃H',Inv X ef Z H' s' /\Q H') X.xe s
def Jf(i:Nat):TG:=λv Z H Q=>Q (Z.set i (U v)) H
def qK{X:Cx}(hN:X.N.Nodup)(hi:X.N[i]? =U x)(hx:Loc X.env.scope x)(hf:autoParam (X.fn x=O\/X.env.scope.names.lookup x=U .local) Za3._auto_1):PG X (.Name x pos) (Jf i):=by
 intro ef s Z H v u Q I r h;exact wpAny_assign_Name (kX I hN hi hx r (λs' I' => ⟨_,H,I',h⟩) hf)
def Rz:TGs:=λvs Z H Q=>vs=[]/\Q Z H
def NZ(t:TG)(u:TGs):TGs:=λvs Z H Q=>∃v r,vs=v::r/\t v Z H λZ' H' =>u r Z' H' Q
def vX:PGs X [] Rz:=by
 intro ef s Z H vs us Q I r h;obtain⟨e,h⟩:=h;exact assignInOrder_nil ⟨Z,H,I,h⟩
def o7{X:Cx}(h1:PG X e t)(h2:PGs X es u)
  (hs:autoParam ((assignEach (e::es) X.env).map (·.2)=assign e X.env::(assignEach es X.env).map (·.2)) Za1._auto_1):PGs X (e::es) (NZ t u):=by
 intro ef s Z H vs us Q I r h;obtain⟨v,vr,rfl,h⟩:=h;cases r with
 |cons r rr=>
  rw[hs];exact assignInOrder_cons (thn (h1 ef s Z H _ _ _ I r h) λ_ s1 ⟨Z1,H1,I1,q1⟩=>h2 ef s1 Z1 H1 _ _ Q I1 rr q1)
def RA(K:PySem.W.Frag)(n:Nat)(t:TGs):TG:=λv Z H Q=>∃a xs,v= .ref a/\SqT K H a xs/\xs.length=n/\t xs Z H Q
def C4{X:Cx}(hc:X.calm=O)(h:PGs X es t)
  (hn:autoParam ((assignEach es X.env).length=n) Za1._auto_1)(xw:autoParam ((assignEach es X.env).findIdx? (·.1)=J) Za1._auto_1):PG X (.Tuple es k pos) (RA X.K n t):=by
 intro ef s Z H v u Q I r hw;obtain⟨a,xs,rfl,hq,hl,hw⟩:=hw;cases r;obtain⟨eh,rv,ht,hz⟩:=I.tuple hq;refine assign_Tuple_tuple (I.ok.hd hc) ht (by simp[hn,<-hl,rv.length]) xw λh' hx=> ?_;have I1:Inv X ef Z H {s with heap:=h' }:=I.kept λb o e=>hx b o (Gas (Gak e)) e;exact h ef _ Z H xs _ Q I1 ?H hw
def O0(te:TE)(g:TG):TS:=λD Z H=>te Z H λx H1=>g x Z H1 D.nx
def Kc{X:Cx}{pos:Pos}(he:PE X e te)(hg:PG X tg g)(hs:autoParam (swapsWithSole [tg] e pos.line X.env=pure M) Za1._auto_1)(hw:autoParam (swappedStores [tg] e X.env=pure J) Za1._auto_1)
  (h1:autoParam ((assignEach [tg] X.env).map (·.2)=[assign tg X.env]) Za1._auto_1):PS X (.Assign [tg] e pos) (O0 te g):=by
 intro ef s Z H D I h;refine wpAny_Assign_stores (thn (he ef s Z H _ I h) λv s1 q0=> ?_) hs hw;obtain⟨x,H1,I1,r1,q1⟩:=q0;rw[h1];exact thn (hg ef s1 Z H1 x v _ I1 r1 q1) λ_ s2 q=>q
def C5{X:Cx}{pos:Pos}(hN:X.N.Nodup)(hi:X.N[i]? =U x)(hx:Loc X.env.scope x)(he:PE X e te)(hs:autoParam (swapsWith e (U (.Name x pos')) pos.line X.env=pure M) Za1._auto_1)(hf:autoParam (X.fn x=O\/X.env.scope.names.lookup x=U .local) Za3._auto_1):
  PS X (.Assign [.Name x pos'] e pos) (O0 te (Jf i)):=by
 intro ef s Z H D I h;refine wpAny_Assign_Name (thn (he ef s Z H _ I h) λv s1 q0=> ?_) hs;obtain⟨y,H1,I1,r1,q1⟩:=q0;exact kX I1 hN hi hx r1 (λs2 I2=> ⟨_,H1,I2,q1⟩) hf
structure It where
 go:Nat->Hp->Prop
 yld:Nat->Hp->V->Hp->Prop
 stop:Nat->Hp->Prop
def je(X:Cx)(ef:LAO)(H:Hp)(b:Xo):Prop:=
 H b=J/\b≠X.env.locals/\b∉X.fs/\(b∈X.ex\/X.s₀.heap.objs.size<=b)/\(∀x c,X.env.cells.lookup x=U c->c≠b)/\∀p∈X.pn++ef,p.1≠b
def Inv.uG{Z:St}{s:Xr}{b:Xo}(I:Inv X ef Z H s)(hb:s.heap.objs.size<=b)(hn:H' b=J):je X ef H' b:=by
 refine⟨hn,Gbd (Gah I.lt hb),I.Rm hb,.inr (GaH I.sz hb),λx c e z=> ?_,λp hp z=> ?_⟩
 .obtain⟨v,q⟩:=I.cell x c e;exact absurd (Gah q.lt ?H) (GaY _)
 .exact absurd (Gah (Gak (I.pin p hp).1) ?H) (GaY _)
structure Turn(P:Xz)(w:Xv)(K:PySem.W.Frag)(tg:Xp)(Xd:It)(fp:List Xo)(it:Xo)(tn:Nat->Xs->Prop):Prop where
 mem:it∈fp
 obj:∀i h,tn i h->∀b∈fp,∃o,h.get? b=U o/\∀v,o.data≠ .cell v
 keep:∀i h h',tn i h->(∀b∈fp,∀o,h.get? b=U o->h'.get? b=U o)->tn i h'
 item:∀(X:Cx),X.prog=P->X.w=w->X.K=K->X.calm=O->∀(i:Nat) (ef:LAO) (s:Xr) (Z:St) (H:Hp) (E:VSP),Inv X ef Z H s->(∀b∈fp,je X ef H b)->tn i s.heap->Xd.go i H->
  wpAny (model P w) X.A (pyNext (.ref it)) (λr s1=>∃u,r=U u/\
   wpAny (model P w) X.A (letOwnedTupleGo tg (.ref it) u) (λ_ s2=>∃x H',Inv X ef Z H' s2/\Xg x u/\Xd.yld i H x H' /\tn (i+1) s2.heap/\∀b∈fp,H' b=J) E s1) E s
 done:∀(X:Cx),X.prog=P->X.w=w->X.K=K->X.calm=O->∀(i:Nat) (ef:LAO) (s:Xr) (Z:St) (H:Hp) (E:VSP),Inv X ef Z H s->(∀b∈fp,je X ef H b)->tn i s.heap->Xd.stop i H->
  wpAny (model P w) X.A (pyNext (.ref it)) (λr s1=>r=J/\Inv X ef Z H s1) E s
 self:∀(A:Xx) (i:Nat) (s:Xr) (Q:VSP) (E:VSP),tn i s.heap->Q (.ref it) s->wpAny (model P w) A (pyIter (.ref it)) Q E s
abbrev TI:=St->Hp->(It->Hp->Prop)->Prop
def PIE(X:Cx)(ef:LAO)(Z:St)(tg:Xp)(R:It->Hp->Prop)(zx:Xq)(s2:Xr):Prop:=
 ∃(it:Xo) (fp:List Xo) (tn:Nat->Xs->Prop) (Xd:It) (H' :Hp),zx= .ref it/\Inv X ef Z H' s2/\Turn X.prog X.w X.K tg Xd fp it tn/\tn 0 s2.heap/\(∀b∈fp,je X ef H' b)/\R Xd H'
def PI(X:Cx)(tg iter:Xp)(wi:TI):Prop:=
 ∀(ef:LAO) (s:Xr) (Z:St) (H:Hp) (R:It->Hp->Prop),Inv X ef Z H s->wi Z H R->
  wpAny (model X.prog X.w) X.A (eval iter X.env) (λv s1=>wpAny (model X.prog X.w) X.A (pyIter v) (PIE X ef Z tg R) X.xe s1) X.xe s
def su{s:Xr}{o:Xw}(ho:s.heap.get? it=U o)(hc:o.cls= .type n)(hd:o.data= .fields vs)
  (hn:["enumerate","zip","dict_itemiterator","dict_reverseitemiterator","odict_iterator","itertools.zip_longest","itertools.pairwise"].contains n=M)(hQ:Q () s):wpAny Xf A (letOwnedTupleGo tg (.ref it) u) Q E s:=by
 cases tg<;>first
  |exact Gal hQ
  |(cases u<;>first
    |exact Gal hQ
    |(refine Gab (wpAny_load ho ?_)
      rw[hc,hd];show wpAny Xf A (if _=O then _ else _) Q E s;rw[Gau (by intro h;rw[hn] at h;cases h)];exact Gal hQ))
noncomputable def Itl(K:PySem.W.Frag)(a:Xo):It:=
 ⟨λi H=>∃xs x,SqL K H a xs/\xs[i]? =U x,λi H x H' =>H' =H/\∀xs,SqL K H a xs->xs[i]? =U x,λi H=>∃xs,SqL K H a xs/\xs.length<=i⟩
noncomputable def Itt(K:PySem.W.Frag)(a:Xo):It:=
 ⟨λi H=>∃xs x,SqT K H a xs/\xs[i]? =U x,λi H x H' =>H' =H/\∀xs,SqT K H a xs->xs[i]? =U x,λi H=>∃xs,SqT K H a xs/\xs.length<=i⟩
noncomputable def Itr(lo:Int)(n:Nat):It:=⟨λi _=>i<n,λi H x H' =>H' =H/\x= .int (lo+i),λi _=>n<=i⟩
theorem Ay{K:PySem.W.Frag}(a it:Xo):Turn P w K tg (Itl K a) [it] it (λi h=>h.IsListIter it a i) where
 mem:=by simp
 obj:=λi h st b hb=>by
  have e:b=it:=by simpa using hb
  subst e;obtain⟨o,e,c,d⟩:=st;simp_all
 keep:=λi h h' st k=>st.at λo e=>k it ?E o e
 item:=by
  intro X hP hw hK hc i ef s Z H E I hf st hg;subst hP hw hK;obtain⟨xs,x,hq,hx⟩:=hg;obtain⟨eh,rv,p,hz⟩:=I.list hq;obtain⟨u,hu,ru⟩:=rv.get hx;obtain⟨f0,f1,f2,f3,f4,f5⟩:=hf it ?E;refine wpAny_pyNext_list_item st p.isList (by simpa using hu) λh' xH sb=> ?_;have I1:Inv X ef Z H {s with heap:=h' }:=I.turned (λb o hb e=>(sb.2 b hb).trans e) f0 f1 f3 f4 f5;obtain⟨o,e,c,d⟩:=id xH;exact⟨u,rfl,su e c d rfl ⟨x,H,I1,ru,⟨rfl,λys hy=>by rw[I.nZ hy hq];exact hx⟩,xH,λb hb=>(hf b hb).1⟩⟩
 done:=by
  intro X hP hw hK hc i ef s Z H E I hf st hg;subst hP hw hK;obtain⟨xs,hq,hx⟩:=hg;obtain⟨eh,rv,p,hz⟩:=I.list hq;obtain⟨f0,f1,f2,f3,f4,f5⟩:=hf it ?E;have hl:=rv.length;exact wpAny_pyNext_list_end (I.ok.hd hc) st p.isList (by simp;lia) λh' eb=> ⟨rfl,I.turned (λb o hb e=>eb b o hb e) f0 f1 f3 f4 f5⟩
 self:=λ_ _ _ _ _ st h=>wpAny_pyIter_listiter st h
theorem uH{K:PySem.W.Frag}(a it:Xo):Turn P w K tg (Itt K a) [it] it (λi h=>h.IsTupleIter it a i) where
 mem:=by simp
 obj:=λi h st b hb=>by
  have e:b=it:=by simpa using hb
  subst e;obtain⟨o,e,c,d⟩:=st;simp_all
 keep:=λi h h' st k=>st.at λo e=>k it ?E o e
 item:=by
  intro X hP hw hK hc i ef s Z H E I hf st hg;subst hP hw hK;obtain⟨xs,x,hq,hx⟩:=hg;obtain⟨eh,rv,p,hz⟩:=I.tuple hq;obtain⟨u,hu,ru⟩:=rv.get hx;obtain⟨f0,f1,f2,f3,f4,f5⟩:=hf it ?E;refine wpAny_pyNext_tuple_item st (show s.heap.IsTuple a _ from p) (by simpa using hu) λh' xH sb=> ?_;have I1:Inv X ef Z H {s with heap:=h' }:=I.turned (λb o hb e=>(sb.2 b hb).trans e) f0 f1 f3 f4 f5;obtain⟨o,e,c,d⟩:=id xH;exact⟨u,rfl,su e c d rfl ⟨x,H,I1,ru,⟨rfl,λys hy=>by rw[I.mf hy hq];exact hx⟩,xH,λb hb=>(hf b hb).1⟩⟩
 done:=by
  intro X hP hw hK hc i ef s Z H E I hf st hg;subst hP hw hK;obtain⟨xs,hq,hx⟩:=hg;obtain⟨eh,rv,p,hz⟩:=I.tuple hq;obtain⟨f0,f1,f2,f3,f4,f5⟩:=hf it ?E;have hl:=rv.length;exact wpAny_pyNext_tuple_end (I.ok.hd hc) st (show s.heap.IsTuple a _ from p) (by simp;lia) λh' eb=> ⟨rfl,I.turned (λb o hb e=>eb b o hb e) f0 f1 f3 f4 f5⟩
 self:=λ_ _ _ _ _ st h=>wpAny_pyIter_tupleiter st h
theorem uI{K:PySem.W.Frag}(it:Xo)(lo:Int)(n:Nat):Turn P w K tg (Itr lo n) [it] it (λi h=>IsRangeIter h it (lo+(i:Nat)*1) ((n:Int)-(i:Nat)) 1) where
 mem:=by simp
 obj:=λi h st b hb=>by
  simp_all
 keep:=λi h h' st k=>k it ?E _ st
 item:=by
  intro X hP hw hK hc i ef s Z H E I hf st hg;subst hP hw hK;obtain⟨f0,f1,f2,f3,f4,f5⟩:=hf it ?E;refine(Walks.range (prog:=_) (w:=_) (I.ok.hd hc) it lo 1 n).item i s _ _ hg st λv h' tk hv xH kk=> ?_;obtain⟨t,rfl⟩:=hv;have I1:Inv X ef Z H {s with heap:=h',toks:=tk}:=I.turned (λb o hb e=>kk b o (by simp_all) e) f0 f1 f3 f4 f5;refine⟨_,rfl,su xH rfl rfl rfl ⟨.int _,H,I1,⟨t, ?_⟩,⟨rfl,rfl⟩,xH,λb hb=>(hf b hb).1⟩⟩;rw[Int.mul_one]
 done:=by
  intro X hP hw hK hc i ef s Z H E I hf st hg;obtain⟨f0,f1,f2,f3,f4,f5⟩:=hf it ?E;exact wpAny_pyNext_range_end (I.ok.hd hc) st (by have:n<=i:=hg;lia) λh' eb=> ⟨rfl,I.turned (λb o hb e=>eb b o hb e) f0 f1 f3 f4 f5⟩
 self:=λ_ _ _ _ _ st h=>wpAny_pyIter_rangeiter st h
section
variable{Z:St}
def jj{X:Cx}{tg:Xp}{ef:LAO}{s:Xr}{R:It->Hp->Prop}{E:VSP}{lo hi:Int}{t u v:Tok}{tk:Nat}(I:Inv X ef Z H s)(h1: -(2^62)<=lo)(h2:lo<2^62)(h3: -(2^62)<=hi)(h4:hi<2^62)
  (q:R (Itr lo (hi -lo).toNat) H):wpAny (model X.prog X.w) X.A (pyIter (.ref s.heap.objs.size)) (PIE X ef Z tg R) E {s with heap:=s.heap.push {cls:= .type "range",data:= .fields #[.int lo t,.int hi u,.int 1 v]},toks:=tk}:=by
 refine wpAny_pyIter_range (IsRange.new ..) (small_one h1 h2 h3 h4) ?_;have I1:Inv X ef Z H {s with heap:=s.heap.push {cls:= .type "range",data:= .fields #[.int lo t,.int hi u,.int 1 v]},toks:=tk}:=I.kept λb o e=>Gaf _ e;refine⟨(s.heap.push {cls:= .type "range",data:= .fields #[.int lo t,.int hi u,.int 1 v]}).objs.size,[(s.heap.push {cls:= .type "range",data:= .fields #[.int lo t,.int hi u,.int 1 v]}).objs.size],_,_,H,rfl,
  I1.kept (t' :=tk) λb o e=>Gaf _ e,uI _ lo (hi -lo).toNat, ?_,λb hb=> ?_,q⟩
 .have e1:lo+((0:Nat):Int)*1=lo:=by simp
  have e2:(((hi -lo).toNat:Nat):Int)-((0:Nat):Int)=Builtin.Range.rangeSize lo hi 1:=by rw[rangeSize_one];split<;>lia
  show IsRangeIter _ _ (lo+((0:Nat):Int)*1) ((((hi -lo).toNat:Nat):Int)-((0:Nat):Int)) 1;rw[e1,e2];exact Gat _ rfl
 .have e:b=(s.heap.push {cls:= .type "range",data:= .fields #[.int lo t,.int hi u,.int 1 v]}).objs.size:=by simpa using hb
  subst e;exact I1.uG (Gap _) (I1.hok.fresh (Gap _))
def O1(ta:TA):TI:=λZ H R=>ta Z H λvs H1=>∃j:Int,vs=[.int j]/\-(2^62)<=j/\j<2^62/\R (Itr 0 j.toNat) H1
def O2(ta:TA):TI:=λZ H R=>ta Z H λvs H1=>∃i j:Int,vs=[.int i,.int j]/\(-(2^62)<=i/\i<2^62/\-(2^62)<=j/\j<2^62)/\R (Itr i (j -i).toNat) H1
def Az{X:Cx}(hg:Gl X "range")(hm:X.mg "range"=J)(ha:PA X [a] ta)(hs:autoParam (starEach [a] X.env=[(M,eval a X.env)]) Za1._auto_1):PI X tg (.Call (.Name "range" p) [a] [] pos) (O1 ta):=by
 intro ef s Z H R I h;refine Call_ (kq I hg hm boot_range (Gbp (thn (ha pos ef s Z H _ I h) λus s1 q0=> ?_) hs rfl));obtain⟨vs,H1,I1,r1,q1⟩:=q0;obtain⟨j,rfl,q1,q2,q⟩:=q1;cases r1 with
 |cons r rr=>
  cases rr;obtain⟨t,rfl⟩:=r;exact call_range_1 (jj I1 ?B ?B q1 q2 ?H)
def AB{X:Cx}(hg:Gl X "range")(hm:X.mg "range"=J)(ha:PA X [a,b] ta)(hs:autoParam (starEach [a,b] X.env=[(M,eval a X.env),(M,eval b X.env)]) Za1._auto_1)(hV:autoParam (starEach [b] X.env=[(M,eval b X.env)]) Za1._auto_1):
  PI X tg (.Call (.Name "range" p) [a,b] [] pos) (O2 ta):=by
 intro ef s Z H R I h;refine Call_ (kq I hg hm boot_range (Gbp (thn (ha pos ef s Z H _ I h) λus s1 q0=> ?_) ?H (by rw[hV];rfl)));obtain⟨vs,H1,I1,r1,q1⟩:=q0;obtain⟨i,j,rfl,⟨q1,q2,q3,q4⟩,q⟩:=q1;cases r1 with
 |cons r rr=>
  cases rr with
  |cons r' rr=>
   cases rr;obtain⟨t,rfl⟩:=r;obtain⟨t',rfl⟩:=r';exact call_range_2 (jj I1 q1 q2 q3 q4 q)
def O3(wi:TI)(g:TG)(tb:TS):TS:=λD Z H=>wi Z H λXd H1=>∃W:Nat->Nat->St->Hp->Prop,(∃m,W 0 m Z H1)/\∀i m Z H,W i m Z H->
 (Xd.stop i H/\D.nx Z H)\/(Xd.go i H/\∃N:St->Hp->Prop,(∀Z' H',N Z' H' ->∃m',m' <m/\W (i+1) m' Z' H')/\∀x H',Xd.yld i H x H' ->g x Z H' λZ2 H2=>tb {D with nx:=N,ct:=N,bk:=D.nx} Z2 H2)
noncomputable def qL(fp:List Xo)(h:Xs):LAO:=fp.filterMap λb=>(h.get? b).map λo=>(b,o)
variable{h:Xs}
def fJ(hb:b∈fp)(e:h.get? b=U o):(b,o)∈qL fp h:=List.mem_filterMap.mpr ⟨b,hb,by rw[e];rfl⟩
def AD(hp:p∈qL fp h):p.1∈fp/\h.get? p.1=U p.2:=by
 obtain⟨b,hb,e⟩:=List.mem_filterMap.mp hp;cases q:h.get? b with
 |none=>rw[q] at e;cases e
 |some o=>
  rw[q] at e;have e' :=Option.some.inj e;subst e';exact⟨hb,q⟩
def Inv.pinned{s:Xr}(I:Inv X ef Z H s)(hf:∀b∈fp,je X ef H b)(ho:∀b∈fp,∃o,s.heap.get? b=U o/\∀v,o.data≠ .cell v):Inv X (ef++qL fp s.heap) Z H s:=
 I.vU λp hp=>(GaL.mp hp).elim (λz=>I.pin p (GaJ _ z)) λz=>by
  obtain⟨hb,e⟩:=AD z;obtain⟨f0,f1,f2,_⟩:=hf _ hb;obtain⟨o,e',d⟩:=ho _ hb;simp_all
def Inv.gM(I:Inv X (ef++pl) Z H s):Inv X ef Z H s:=I.vU λp hp=>I.pin p (GaJ _ (GcO _ hp))
def Ke{X:Cx}(hp:PassesOwn (model X.prog X.w) X.A X.env X.xe)(hc:X.calm=O)(hi:PI X tg iter wi)(hg:PG X tg g)(hb:PSs X body tb)
  (hs:∀x,foldedSetIterable iter X.env x=pure x:=by intro _;rfl):PS X (.For tg iter body [] pos) (O3 wi g tb):=by
 intro ef s Z H D I h;refine wpAny_For (thn (hi ef s Z H _ I h) λv s1 h1=>thn h1 λzx s2 h2=> ?_) hs;obtain⟨it,fp,tn,Xd,H2,rfl,I2,T,st2,f2,W,⟨m0,w0⟩,turn⟩:=h2;have stat:∀{H' :Hp},(∀b∈fp,H' b=J)->∀b∈fp,je X ef H' b:=λhn b hb=> ⟨hn b hb,(f2 b hb).2⟩;refine codeAny_forLoop_any (λn s' =>∃i Z' H',Inv X ef Z' H' s' /\tn i s'.heap/\(∀b∈fp,H' b=J)/\W i n Z' H') ?_ m0 ⟨0,Z,H2,I2,st2,λb hb=>(f2 b hb).1,w0⟩;rintro n s3 ⟨i,Z3,H3,I3,zo,zI,w3⟩;rcases turn i n Z3 H3 w3 with⟨stop,qn⟩| ⟨go,N,hN,step⟩
 .refine Gcp hp (thn (T.done X rfl rfl rfl hc i ef s3 Z3 H3 _ I3 (stat zI) zo stop) λr s4 ⟨hr,I4⟩=> ?_);subst hr;exact GbY ⟨Z3,H3,I4,qn⟩
 .refine Gcp hp (thn (T.item X rfl rfl rfl hc i ef s3 Z3 H3 _ I3 (stat zI) zo go) λr s4 ⟨u,hr,h4⟩=> ?_);subst hr;refine Gcp hp (thn h4 λ_ s5 q0=> ?_);obtain⟨x,H5,I5,r5,y5,ye,zH⟩:=q0;refine Gcp hp (thn (hg _ s5 Z3 H5 x u _ (I5.pinned (stat zH) (T.obj _ _ ye)) r5 (step x H5 y5)) λ_ s6 ⟨Z6,H6,I6,q6⟩=>Gcp hp (thn (hb _ s6 Z6 H6 _ I6 q6) λf s7 q7=> ?_));have again:∀{Z7:St} {H7:Hp},Inv X _ Z7 H7 s7->N Z7 H7->∃m,m<n/\∃i Z' H',Inv X ef Z' H' s7/\tn i _/\(∀b∈fp,H' b=J)/\W i m Z' H' :=λ{Z7 H7} I7 n7=>by
   obtain⟨m',hm,w7⟩:=hN Z7 H7 n7;refine⟨m',hm,i+1,Z7,H7,I7.gM,T.keep _ _ _ ye λb hb o e=>(I7.pin _ (GaJ _ (GaJ _ (fJ hb e)))).1,λb hb=> ?_,w7⟩;obtain⟨o,e,d⟩:=T.obj _ _ ye b hb;exact(I7.pin _ (GaJ _ (GaJ _ (fJ hb e)))).2.1
  cases f with
  |next=>obtain⟨Z7,H7,I7,n7⟩:=q7;exact again I7 n7
  |cont=>obtain⟨Z7,H7,I7,n7⟩:=q7;exact again I7 n7
  |brk=>obtain⟨Z7,H7,I7,q7⟩:=q7;exact⟨Z7,H7,I7.gM,q7⟩
  |ret v=>obtain⟨x7,Z7,H7,I7,r7,q7⟩:=q7;exact⟨x7,Z7,H7,I7.gM,r7,q7⟩
end
abbrev R2:=V->V->Hp->VK->Prop
def OpR(X:Cx)(f:Xq->Xq->Sem Xq)(r:R2):Prop:=
 ∀(ef:LAO) (s:Xr) (Z:St) (H:Hp) (x y:V) (v u:Xq) (Q:VK),Inv X ef Z H s->Xg x v->Xg y u->r x y H Q->
  wpAny (model X.prog X.w) X.A (f v u) (EP X ef Z Q) X.xe s
def UnR(X:Cx)(f:Xq->Sem Xq)(r:V->Hp->VK->Prop):Prop:=
 ∀(ef:LAO) (s:Xr) (Z:St) (H:Hp) (x:V) (v:Xq) (Q:VK),Inv X ef Z H s->Xg x v->r x H Q->
  wpAny (model X.prog X.w) X.A (f v) (EP X ef Z Q) X.xe s
def dJ(X:Cx)(f:Xq)(r:List V->Hp->VK->Prop):Prop:=
 ∀(ef:LAO) (s:Xr) (Z:St) (H:Hp) (xs:List V) (us:List Xq) (Q:VK),Inv X ef Z H s->Xh xs us->r xs H Q->
  wpAny (model X.prog X.w) X.A (call f us) (EP X ef Z Q) X.xe s
def tOp(r:R2)(ta tb:TE):TE:=λZ H Q=>ta Z H λx H1=>tb Z H1 λy H2=>r x y H2 Q
def tUn(r:V->Hp->VK->Prop)(ta:TE):TE:=λZ H Q=>ta Z H λx H1=>r x H1 Q
def rI(C:Int->Int->Prop)(g:Int->Int->V):R2:=λx y H Q=>∃i j,x= .int i/\y= .int j/\C i j/\Q (g i j) H
def rI0(g:Int->Int->V):R2:=λx y H Q=>∃i j,x= .int i/\y= .int j/\Q (g i j) H
def rU(g:Int->V):V->Hp->VK->Prop:=λx H Q=>∃i,x= .int i/\Q (g i) H
def Kf{X:Cx}{ta tb:TE}{Z:St}{R:V->V->Hp->Prop}{f:Xq->Xq->Sem Xq}(ha:PE X a ta)(hb:PE X b tb)(I:Inv X ef Z H s)
  (h:ta Z H λx H1=>tb Z H1 λy H2=>R x y H2)
  (hf:∀v u s2 x y H2,Inv X ef Z H2 s2->Xg x v->Xg y u->R x y H2->wpAny (model X.prog X.w) X.A (f v u) Q X.xe s2):
  wpAny (model X.prog X.w) X.A (eval a X.env) (λv s₁=>wpAny (model X.prog X.w) X.A (eval b X.env) (λu s₂=>wpAny (model X.prog X.w) X.A (f v u) Q X.xe s₂) X.xe s₁) X.xe s:=by
 refine thn (ha ef s Z H _ I h) λv s1 q0=> ?_;obtain⟨x,H1,I1,r1,q1⟩:=q0;refine thn (hb ef s1 Z H1 _ I1 q1) λu s2 q0=> ?_;obtain⟨y,H2,I2,r2,q2⟩:=q0;exact hf v u s2 x y H2 I2 r1 r2 q2
def O4(ho:OpR X (binaryOp op) r)(ha:PE X a ta)(hb:PE X b tb):PE X (.BinOp a op b pos) (tOp r ta tb):=by
 intro ef s Z H Q I h;exact wpAny_BinOp (Kf ha hb I h λv u s2 x y H2 I2 rx ry q=>ho ef s2 Z H2 x y v u Q I2 rx ry q)
def O5(ho:UnR X (unaryOp op) r)(ha:PE X a ta):PE X (.UnaryOp op a pos) (tUn r ta):=by
 intro ef s Z H Q I h;exact UnaryOp_ (thn (ha ef s Z H _ I h) λv s1 ⟨x,H1,I1,r1,q1⟩=>ho ef s1 Z H1 x v Q I1 r1 q1)
def opI{X:Cx}{f:Xq->Xq->Sem Xq}{C:Int->Int->Prop}{g:Int->Int->Int}
  (rule:∀(i j:Int) t u s Q E,C i j->Q (.int (g i j) s.toks) {s with toks:=s.toks+1}->wpAny (model X.prog X.w) X.A (f (.int i t) (.int j u)) Q E s):
  OpR X f (rI C λi j=> .int (g i j)):=by
 intro ef s Z H x y v u Q I rx ry h;obtain⟨i,j,rfl,rfl,hc,q⟩:=h;obtain⟨t,rfl⟩:=rx;obtain⟨t',rfl⟩:=ry;exact rule i j t t' s _ _ hc ⟨.int _,H,I.tok _,⟨_,rfl⟩,q⟩
def O6{X:Cx}{f:Xq->Xq->Sem Xq}{g:Int->Int->Int}
  (rule:∀(i j:Int) t u s Q E,Q (.int (g i j) s.toks) {s with toks:=s.toks+1}->wpAny (model X.prog X.w) X.A (f (.int i t) (.int j u)) Q E s):
  OpR X f (rI0 λi j=> .int (g i j)):=by
 intro ef s Z H x y v u Q I rx ry h;obtain⟨i,j,rfl,rfl,q⟩:=h;obtain⟨t,rfl⟩:=rx;obtain⟨t',rfl⟩:=ry;exact rule i j t t' s _ _ ⟨.int _,H,I.tok _,⟨_,rfl⟩,q⟩
def Gg{X:Cx}{f:Xq->Xq->Sem Xq}{g:Int->Int->Bool}
  (rule:∀(i j:Int) t u s Q E,Q (.bool (g i j)) s->wpAny (model X.prog X.w) X.A (f (.int i t) (.int j u)) Q E s):
  OpR X f (rI0 λi j=> .bl (g i j)):=by
 intro ef s Z H x y v u Q I rx ry h;obtain⟨i,j,rfl,rfl,q⟩:=h;obtain⟨t,rfl⟩:=rx;obtain⟨t',rfl⟩:=ry;exact rule i j t t' s _ _ ⟨.bl _,H,I,rfl,q⟩
def O7(i j:Int):Prop:=0<j/\j<1073741824
def Gh(i j:Int):Prop:=(-(2^64)<i/\i<2^64)\/(-(2^64)<j/\j<2^64)
def Gh.ok(h:Gh i j):IntMulOk i j:=by
 rcases h with⟨h1,h2⟩| ⟨h1,h2⟩
 .exact .of_left (intBits_le_64 h1 h2)
 .exact .of_right (intBits_le_64 h1 h2)
def Kg:OpR X (binaryOp .Add) (rI0 λi j=> .int (i+j)):=O6 λ_ _ _ _ _ _ _ q=>add_int q
def Kh:OpR X (binaryOp .Sub) (rI0 λi j=> .int (i -j)):=O6 λ_ _ _ _ _ _ _ q=>sub_int q
def Ki:OpR X (binaryOp .Mult) (rI Gh λi j=> .int (i*j)):=opI λ_ _ _ _ _ _ _ hc q=>mul_int q hc.ok
def Gi:OpR X (binaryOp .FloorDiv) (rI O7 λi j=> .int (i/j)):=opI λi j _ _ _ _ _ hc q=>by
 have h1:=hc.1;have h2:=hc.2;exact floordiv_int ?B (by rw[Int.fdiv_eq_ediv_of_nonneg i ?B];exact q) (.inl (PyProof.noPylong_small ?B))
def Kj:OpR X (binaryOp .Mod) (rI (λ_ j=>0<j) λi j=> .int (i%j)):=opI λi j _ _ _ _ _ hc q=>by
 exact mod_int' ?B (by rw[Int.fmod_eq_emod_of_nonneg i ?B];exact q)
def unI{X:Cx}{f:Xq->Sem Xq}{g:Int->Int}
  (rule:∀(i:Int) t s Q E,Q (.int (g i) s.toks) {s with toks:=s.toks+1}->wpAny (model X.prog X.w) X.A (f (.int i t)) Q E s):
  UnR X f (rU λi=> .int (g i)):=by
 intro ef s Z H x v Q I rx h;obtain⟨i,rfl,q⟩:=h;obtain⟨t,rfl⟩:=rx;exact rule i t s _ _ ⟨.int _,H,I.tok _,⟨_,rfl⟩,q⟩
def Kk:UnR X (unaryOp .USub) (rU λi=> .int (-i)):=unI λ_ _ _ _ _ q=>neg_int q
section
variable{ta tb tc:TE}
def C6{Z:St}(I:Inv X ef Z H s)(q:Q (.bl k) H)(e:k=k'):EP X ef Z Q (.bool k') s:=by
 subst e;exact⟨.bl k,H,I,rfl,q⟩
def O8:OpR X (compareOp .Lt) (rI0 λi j=> .bl (decide (i<j))):=Gg λ_ _ _ _ _ _ _ q=>lt_int q
def O9:OpR X (compareOp .LtE) (rI0 λi j=> .bl (decide (i<=j))):=Gg λ_ _ _ _ _ _ _ q=>le_int q
def Oa:OpR X (compareOp .Gt) (rI0 λi j=> .bl (decide (j<i))):=Gg λ_ _ _ _ _ _ _ q=>gt_int q
def Ob:OpR X (compareOp .GtE) (rI0 λi j=> .bl (decide (j<=i))):=Gg λ_ _ _ _ _ _ _ q=>ge_int q
def Km:OpR X (compareOp .Is) (λx y H Q=>y= .non/\Q (.bl (decide (x= .non))) H):=by
 intro ef s Z H x y v u Q I rx ry h;obtain⟨rfl,q⟩:=h;cases ry;refine is_none_gen (C6 I q ?_);cases x<;>first
  |(cases rx;rfl)
  |(obtain⟨t,rfl⟩:=rx;rfl)
def Gj:OpR X (compareOp .IsNot) (λx y H Q=>y= .non/\Q (.bl (!decide (x= .non))) H):=by
 intro ef s Z H x y v u Q I rx ry h;obtain⟨rfl,q⟩:=h;cases ry;refine isnot_none_gen (C6 I q ?_);cases x<;>first
  |(cases rx;rfl)
  |(obtain⟨t,rfl⟩:=rx;rfl)
def OpR.or(h:OpR X f r)(h' :OpR X f r'):OpR X f (λx y H Q=>r x y H Q\/r' x y H Q):=by
 intro ef s Z H x y v u Q I rx ry q;rcases q with q|q
 .exact h ef s Z H x y v u Q I rx ry q
 .exact h' ef s Z H x y v u Q I rx ry q
def Gk(ho:OpR X (compareOp op) r)(ha:PE X a ta)(hb:PE X b tb)(hm:behindInMarks op b=M):PE X (.Compare a [op] [b] pos) (tOp r ta tb):=by
 intro ef s Z H Q I h;exact wpAny_Compare1 (Kf ha hb I h λv u s2 x y H2 I2 rx ry q=>ho ef s2 Z H2 x y v u Q I2 rx ry q) hm
def Jg(t:TE):TT:=λZ H Q=>t Z H λx H' =>∃k,x= .bl k/\Q k H'
def Gn(ho:OpR X (compareOp op) r)(ha:PE X a ta)(hb:PE X b tb)(hm:behindInMarks op b=M):PT X (.Compare a [op] [b] pos) (Jg (tOp r ta tb)):=by
 intro ef s Z H Q I h;refine wpAny_isTrue_Compare1 (thn (ha ef s Z H _ I h) λv s1 ⟨x,H1,I1,r1,q1⟩=>thn (hb ef s1 Z H1 _ I1 q1) λu s2 ⟨y,H2,I2,r2,q2⟩=>
  thn (ho ef s2 Z H2 x y v u _ I2 r1 r2 q2) λc s3 ⟨z,H3,I3,r3,k,e,q3⟩=> ?_) hm
 subst e;cases r3;exact Gbc ⟨H3,I3,q3⟩
def C7(r r' :R2)(ta tb tc:TE):TE:=λZ H Q=>ta Z H λx H1=>tb Z H1 λy H2=>r x y H2 λz H3=>∃k,z= .bl k/\
 (if k=O then tc Z H3 λw' H4=>r' y w' H4 Q else Q (.bl M) H3)
def C8(ho:OpR X (compareOp op) r)(xJ :OpR X (compareOp xO) r')(ha:PE X a ta)(hb:PE X b tb)(hc:PE X c tc)
  (hm:lastMarks [op,xO] [b,c]=M:=by with_unfolding_all rfl):PE X (.Compare a [op,xO] [b,c] pos) (C7 r r' ta tb tc):=by
 intro ef s Z H Q I h;refine Compare_chain (thn (ha ef s Z H _ I h) λv s1 ⟨x,H1,I1,r1,q1⟩=>chain_link (thn (hb ef s1 Z H1 _ I1 q1) λu s2 ⟨y,H2,I2,r2,q2⟩=>
  thn (ho ef s2 Z H2 x y v u _ I2 r1 r2 q2) λd s3 ⟨z,H3,I3,r3,k,e,q3⟩=> ?_)) hm
 subst e;cases r3;refine Gbc ?_;cases k with
 |false=>exact ite_ff ⟨.bl M,H3,I3,rfl,q3⟩
 |true=>exact ite_tt (chain_last (thn (hc ef s3 Z H3 _ I3 q3) λw' s4 ⟨z',H4,I4,r4,q4⟩=>xJ ef s4 Z H4 y z' u w' Q I4 r2 r4 q4))
def C9(ho:OpR X (compareOp op) r)(xJ :OpR X (compareOp xO) r')(ha:PE X a ta)(hb:PE X b tb)(hc:PE X c tc)
  (hm:lastMarks [op,xO] [b,c]=M:=by with_unfolding_all rfl):PT X (.Compare a [op,xO] [b,c] pos) (Jg (C7 r r' ta tb tc)):=by
 intro ef s Z H Q I h;refine isTrue_chain (thn (ha ef s Z H _ I h) λv s1 ⟨x,H1,I1,r1,q1⟩=>test_link (thn (hb ef s1 Z H1 _ I1 q1) λu s2 ⟨y,H2,I2,r2,q2⟩=>
  thn (ho ef s2 Z H2 x y v u _ I2 r1 r2 q2) λd s3 ⟨z,H3,I3,r3,k,e,q3⟩=> ?_)) hm
 subst e;cases r3;refine Gbc ?_;cases k with
 |false=>
  obtain⟨k',e',q'⟩:=q3;cases e';exact ite_ff ⟨H3,I3,q'⟩
 |true=>
  refine ite_tt (test_last (thn (hc ef s3 Z H3 _ I3 q3) λw' s4 ⟨z',H4,I4,r4,q4⟩=>thn (xJ ef s4 Z H4 y z' u w' _ I4 r2 r4 q4) λd' s5 q0=> ?_));obtain⟨z2,H5,I5,r5,k2,rfl,q5⟩:=q0;cases r5;exact Gbc ⟨H5,I5,q5⟩
def qM:(sizeLine:Nat)<2^63:=by rw[Gco];decide
def uJ:OpR X (binaryOp .Add) (λx y H Q=>∃i j,x= .str i/\y= .str j/\i.length+j.length<=sizeLine/\Q (.str (i++j)) H):=by
 intro ef s Z H x y v u Q I rx ry h;obtain⟨i,j,rfl,rfl,hz,q⟩:=h;obtain⟨t,rfl⟩:=rx;obtain⟨t',rfl⟩:=ry;exact add_str (λt' tk=> ⟨.str _,H,I.tok _,⟨_,rfl⟩,q⟩) hz
def vals1(r:Xh [x] us):∃u,us=[u]/\Xg x u:=by
 cases r with
 |cons r1 r2=>cases r2;exact⟨_,rfl,r1⟩
def vals2(r:Xh [x,y] us):∃u w',us=[u,w']/\Xg x u/\Xg y w' :=by
 cases r with
 |cons r1 r2=>
  cases r2 with
  |cons r3 r4=>cases r4;exact⟨_,_,rfl,r1,r3⟩
def AE{X:Cx}(hc:X.calm=O):dJ X (.builtin "min") (λxs H Q=>∃i j,xs=[.int i,.int j]/\Q (.int (if j<i then j else i)) H):=by
 intro ef s Z H xs us Q I r h;obtain⟨i,j,rfl,q⟩:=h;obtain⟨u,w',rfl,⟨t,rfl⟩,⟨t',rfl⟩⟩:=vals2 r;refine min_two_ints (I.ok.hd hc) λh' tk k=> ⟨_,H,I.kept k, ?_,q⟩;by_cases hj:j<i
 .rw[Gaj hj,Gaj hj];exact⟨_,rfl⟩
 .rw[Gau hj,Gau hj];exact⟨_,rfl⟩
def AF:dJ X (.type "int") (λxs H Q=>(∃i,xs=[.int i]/\Q (.int i) H)\/∃k,xs=[.bl k]/\Q (.int (if k then 1 else 0)) H):=by
 intro ef s Z H xs us Q I r h;rcases h with⟨i,rfl,q⟩| ⟨k,rfl,q⟩
 .obtain⟨u,rfl,t,rfl⟩:=vals1 r;exact call_int_int ⟨.int i,H,I,⟨_,rfl⟩,q⟩
 .obtain⟨u,rfl,r1⟩:=vals1 r;cases r1;exact call_int_bool ⟨.int _,H,I.tok _,⟨_,rfl⟩,q⟩
def qN:dJ X (.type "str") (λxs H Q=>∃i,xs=[.int i]/\i.natAbs.log2<1920/\Q (.str (toString i)) H):=by
 intro ef s Z H xs us Q I r h;obtain⟨i,rfl,hz,q⟩:=h;obtain⟨u,rfl,t,rfl⟩:=vals1 r;exact PySem.P.str_of_int hz ⟨.str _,H,I.tok _,⟨_,rfl⟩,q⟩
def Oc(K:PySem.W.Frag)(x:V)(H:Hp)(n:Nat):Prop:=
 match x with
 | .str y=>y.length<=sizeLine/\n=y.length
 | .ref p=>(∃xs,SqL K H p xs/\n=xs.length)\/∃xs,SqT K H p xs/\n=xs.length
 |_=>False
def Ca{X:Cx}:dJ X (.builtin "len") (λxs H Q=>∃x n,xs=[x]/\Oc X.K x H n/\Q (.int n) H):=by
 intro ef s Z H xs us Q I r h;obtain⟨x,n,rfl,e,q⟩:=h;obtain⟨u,rfl,rx⟩:=vals1 r;have hs:=Gco;cases x with
 |str y=>
  obtain⟨t,rfl⟩:=rx;obtain⟨hy,rfl⟩:_<=sizeLine/\n=_:=e;exact len_str ?B ⟨.int _,H,I.tok _,⟨_,rfl⟩,q⟩
 |ref p=>
  cases rx;have e' :=e;rcases e' with⟨xs,hx,e'⟩| ⟨xs,hx,e'⟩
  .subst e';obtain⟨eh,r',pl,hz⟩:=I.list hx;have eO:=r'.length;exact Calls.call_len_list pl.isList (by simp only[GaA];lia) ⟨.int _,H,I.tok _,⟨_,by simp only[GaA];rw[eO]⟩,q⟩
  .subst e';obtain⟨eh,r',pl,hz⟩:=I.tuple hx;have eO:=r'.length;exact len_tuple pl (by simp only[GaA];lia) ⟨.int _,H,I.tok _,⟨_,by simp only[GaA];rw[eO]⟩,q⟩
 |_=>exact(show False from e).elim
end
structure AG(h:Xs)(x dx C:Xo)(mA:Str->Option Xq):Prop where
 obj:h.get? x=U (PySem.W.instObj C dx)
 ns:h.Ns1 dx mA
 ne:dx≠x
def AH{h:Xs}(n:h.Ns1 dx mA):∃od,h.get? dx=U od/\∀name,PySem.W.lookIn name od=U (mA name):=by
 obtain⟨o,es,ep,ho,hd,hk,_,hm⟩:=n;refine⟨o,ho,λname=> ?_⟩;have e:=hm name;unfold nsFind findBy at e;rw[<-Array.find?_toList] at e;unfold PySem.W.lookIn;rw[hd];dsimp only;split
 .simp_all
 .rename_i q;rw[q] at e;have a:es.toList.any (·.refKey)=M:=by
   rw[List.any_eq_false];intro y hy;obtain⟨z,t,V3⟩:=hk y (Array.mem_toList_iff.mp hy);simp[DictEntry.refKey,V3]
  rw[Gau (by rw[a];exact Gaq)];exact congrArg U e
def AG.look(I:AG h x dx C mA):∃od,PySem.W.InstAt h x (PySem.W.instObj C dx) C (U od)/\∀name,PySem.W.lookIn name od=U (mA name):=
 let⟨od,ho,hl⟩:=AH I.ns
 ⟨od,⟨I.obj,rfl,rfl,ho⟩,hl⟩
section
variable{s:Xr}
def get_map{K:PySem.W.Frag}(X:K.In s.heap)(I:AG s.heap x dx C mA)(hg:PySem.W.plainGet K C name=O)(hh:PySem.W.hasDictIn K C=O)
  (ha:PySem.W.findIn K (.ref C) name=U J)(hv:mA name=U v)(yF :PySem.W.handedIn v=O)(h:Q v {s with toks:=s.toks+1}):
  wpAny (model prog w) A (getAttr (.ref x) name expr) Q E s:=by
 obtain⟨od,Xd,hl⟩:=I.look;exact PySem.W.get_value X Xd (PySem.W.plainGet_of hg).1 (PySem.W.findObj_own hh ha rfl ?H) yF h
def Gp{K:PySem.W.Frag}{ns:List Str}(X:K.In s.heap)(I:AG s.heap x dx C mA)
  (hs:PySem.W.findIn K (.ref C) "__setattr__"=U (U (.builtin "object.__setattr__")))(hp:PySem.W.plainOver K C=O)(ht:PySem.W.takerIn K C name=U J)(hh:PySem.W.hasDictIn K C=O)
  (hw:PySem.Within mA ns)(ya:ns.length<=sizeLine)
  (h:∀h',AG h' x dx C (λy=>if y=name then U v else mA y)->Heap.SameBut dx s.heap h' ->Q () {s with heap:=h',toks:=s.toks+2}):
  wpAny (model prog w) A (setAttr (.ref x) name v) Q E s:=by
 obtain⟨od,Xd,hl⟩:=I.look;refine PySem.W.set_plain X Xd hs (PySem.W.osa_open X Xd hp ht λb=> ?_);obtain⟨cd,hc,xp⟩:=PySem.W.any_some hh;refine Gab (Gal (Gab (Gab (wpAny_loadPart I.obj (Gab (PySem.W.Looks.here (PySem.W.looks_clsIn X hc) ?_))))));rw[xp];refine Gal (Gab (Gal (Gab (wpAny_nsSet1 I.ns λh' ze hV=> ?_))));obtain⟨oD,X8,X9,Wo,WD,WG⟩:=ze.count (PySem.Within.cons name v hw);exact Gab (wpAny_lookBehind Wo (by rw[WD];exact pastItsLine_dict (GaH WG ?H)) (Gal (h _ ⟨(hV.2 _ (GaG I.ne)).trans I.obj,ze,I.ne⟩ hV)))
def Cb{A:Xx}{K:PySem.W.Frag}(X:K.In s.heap)(hm:PySem.W.makesIn K C=O)
  (hi:PySem.W.findIn K (.ref C) "__init__"=U (U (.ref f)))(hf:PySem.W.typeIn K (.ref f)=U (.type "function"))
  (h:codeAny (model prog w) (A.under (.builtin "type.__call__" ⟨.ref C::vs,kw⟩)) (.call (.ref f) ⟨.ref (s.heap.objs.size+1)::vs,kw⟩) (PySem.W.InitBack (s.heap.objs.size+1) R)
   {s with heap:=(s.heap.push PySem.W.emptyDict).push (PySem.W.instObj C s.heap.objs.size)}):
  codeAny (model prog w) A (.call (.ref C) ⟨vs,kw⟩) R s:=by
 exact PySem.W.make_core (PySem.W.makes_of X hm) (PySem.W.looks_findIn X hi) (λself=>PySem.W.bind_fn X self hf) (.inl rfl) h
end
def iE(f:Str)(v:V):List (Str×V)->List (Str×V)
 |[]=>[(f,v)]
 |(g,x)::r=>if g=f then(g,v)::r else(g,x)::iE f v r
theorem mS(f g:Str)(v:V):∀fs,(iE f v fs).lookup g=if g=f then U v else fs.lookup g
 |[]=>by
  show List.lookup g [_]=_;by_cases h:g=f
  .have hb:=GaU.mpr h;simp_all
  .simp only[List.lookup,(Gbg.mpr h),Gau h]
 |(k,x)::r=>by
  rw[show iE f v _=(if k=f then _::r else _::iE f v r) from rfl];by_cases hk:k=f
  .rw[Gaj hk];by_cases h:g=k
   .have hb:=GaU.mpr h;simp only[List.lookup,hb,Gaj (h.trans hk)]
   .have hb:=Gbg.mpr h;simp only[List.lookup,hb,Gau (λe:g=f=>h (e.trans hk.symm))]
  .rw[Gau hk];by_cases h:g=k
   .have hb:=GaU.mpr h;simp only[List.lookup,hb,Gau (λe:g=f=>hk (h.symm.trans e))]
   .have hb:=Gbg.mpr h;simp only[List.lookup,hb];exact(mS f g v r)
theorem mh(f:Str)(v:V):∀fs,f∈(iE f v fs).map (·.1)/\∀g,g∈fs.map (·.1)->g∈(iE f v fs).map (·.1)
 |[]=> ⟨by simp[iE],λg h=>by simp at h⟩
 |(k,x)::r=>by
  obtain⟨i1,i2⟩:=mh f v r;rw[show iE f v _=(if k=f then _::r else _::iE f v r) from rfl]
  grind
theorem mT(f:Str)(v:V):∀fs,(iE f v fs).length<=fs.length+1
 |[]=>by simp[iE]
 |(k,x)::r=>by
  have ih:=mT f v r;rw[show iE f v _=(if k=f then _::r else _::iE f v r) from rfl];by_cases hk:k=f
  .simp_all
  .simp_all
def Av.some_of(r:Av (U v) o):∃u,o=U u/\Xg v u:=by
 cases o with
 |none=>exact(show False from r).elim
 |some u=>exact⟨u,rfl,r⟩
def AI(r:Xg v u):PySem.W.handedIn u=O:=by
 cases v with
 |non=>cases(show u=_ from r);rfl
 |bl b=>cases(show u=Value.bool b from r);rfl
 |int i=>obtain⟨t,e⟩:=(show∃t,u=Value.int i t from r);cases e;rfl
 |str x=>obtain⟨t,e⟩:=(show∃t,u=Value.str x t from r);cases e;rfl
 |ref a=>cases(show u=Value.ref a from r);rfl
 |ty n=>cases(show u=Value.type n from r);rfl
def qO{fs:List (Str×V)}(hok:HOk P w H h)(e:H a=U (.ins C dx fs)):∃mA,AG h a dx C mA/\(∀f,Av (fs.lookup f) (mA f))/\PySem.Within mA (fs.map (·.1))/\fs.length<=1000/\H dx=U (.own a):=by
 obtain⟨d,z,ne,ob,mA,n,r,q⟩:=(show bS P w H h a _ from hok a _ e)
 exact⟨mA,⟨ob,n,ne⟩,r,q,z,d⟩
structure Cls(K:PySem.W.Frag)(C:Xo):Prop where
 pg:PySem.W.plainGet K C Str.empty=O
 hd:PySem.W.hasDictIn K C=O
 po:PySem.W.plainOver K C=O
 sa:PySem.W.findIn K (.ref C) "__setattr__"=U (U (.builtin "object.__setattr__"))
def Cls.get{K:PySem.W.Frag}(c:Cls K C)(f:Str):PySem.W.plainGet K C f=O:=c.pg
def cC(K:PySem.W.Frag)(C:Xo)(f:Str):Prop:=PySem.W.findIn K (.ref C) f=U J
def cC.Od{K:PySem.W.Frag}{f:Str}(n:cC K C f):PySem.W.takerIn K C f=U J:=by
 unfold PySem.W.takerIn;rw[show PySem.W.findIn K _ f=U J from n]
 rfl
section
variable{Z:St}
def uK{X:Cx}{fs:List (Str×V)}(I:Inv X ef Z H s)(e:H a=U (.ins C dx fs))(c:Cls X.K C)(n:cC X.K C f)(l:fs.lookup f=U v)
  (h:∀u s',Inv X ef Z H s' ->Xg v u->Q u s'):wpAny (model X.prog X.w) A (getAttr (.ref a) f b) Q E s:=by
 obtain⟨mA,Xe,r,_,_,_⟩:=qO I.hok e;obtain⟨u,hu,ru⟩:=Av.some_of (by rw[<-l];exact r f);exact get_map I.kIn Xe (c.get f) c.hd n hu (AI ru) (h u _ (I.tok _) ru)
def uL{X:Cx}{fs:List (Str×V)}(I:Inv X ef Z H s)(e:H a=U (.ins C dx fs))(c:Cls X.K C)(n:cC X.K C f)(hl:fs.length<1000)(ry:Xg y u)
  (h:∀s',Inv X ef Z (upd H a (.ins C dx (iE f y fs))) s' ->Q () s'):wpAny (model X.prog X.w) A (setAttr (.ref a) f u) Q E s:=by
 obtain⟨mA,Xe,r,wi,_,ho⟩:=qO I.hok e;refine Gp I.kIn Xe c.sa c.po n.Od c.hd wi (by rw[Gav,Gco];lia) λh' O' sb=>h _ ?_;have hd:∃o,h'.get? dx=U o:=let⟨o,_,_,e',_⟩:=O'.ns
 ⟨o,e'⟩
 refine I.write (by rw[e];exact True.intro) (.inr ho) (λb q hb z=>(sb.2 b hb).trans z) hd (⟨by rw[aq Xe.ne];exact ho, ?_,Xe.ne,O'.obj,_,O'.ns,λg=> ?_,λg hg=> ?_⟩)
 .have:=mT f y fs;lia
 .rw[mS];by_cases q:g=f
  .rwa[Gaj q,Gaj q]
  .simp_all
 .by_cases q:g=f
  .rw[q];exact(mh f y fs).1
  .refine(mh f y fs).2 g (wi g λz=>hg ?_);simp_all
def Inv.made{s:Xr}(I:Inv X ef Z H s):Inv X ef Z (upd (upd H s.heap.objs.size (.own (s.heap.objs.size+1))) (s.heap.objs.size+1) (.ins C s.heap.objs.size []))
  {s with heap:=(s.heap.push PySem.W.emptyDict).push (PySem.W.instObj C s.heap.objs.size)}:=by
 have e1:(s.heap.push _).get? _=U PySem.W.emptyDict:=Gat _ rfl;have e2:((s.heap.push PySem.W.emptyDict).push (PySem.W.instObj C s.heap.objs.size)).get? (s.heap.objs.size+1)=U (PySem.W.instObj C s.heap.objs.size):=by
  have:=Gat (s.heap.push PySem.W.emptyDict) (o:=PySem.W.instObj C s.heap.objs.size) rfl;simp_all
 refine(I.laid (o:= .own _) (t' :=s.toks) (λb u q=>Gaf _ q) (Gap _) ⟨_,e1⟩).laid (λb u q=>Gaf _ q) (Gdk (Gbj _ _)) ?_;have ne:_≠s.heap.objs.size+1:=Gas (GbR _);refine⟨by rw[aq ne,aB],Nat.zero_le _,ne,e2,λ_=>J,(Heap.Ns1.of_empty (⟨_,#[],_,e1,rfl,(λe he=>absurd he ?E),λ_=>rfl⟩)).at λo q=>Gaf _ q,λ_=>True.intro,λy hy=>absurd rfl hy⟩
def vY(hb:attributeBase e f env (eval e env)=eval e env)
  (h:wpAny (model prog w) A (eval e env) (λo s₁=>wpAny (model prog w) A (getAttr o f O) Q E s₁) E s):wpAny (model prog w) A (eval (.Attribute e f pos) env) Q E s:=
 Attribute_any_ h (by rw[arm_eval_Attribute,hb])
end
def RB(K:PySem.W.Frag)(ta:TE)(f:Str):TE:=λZ H Q=>ta Z H λx H1=>∃a C dx fs v,x= .ref a/\H1 a=U (.ins C dx fs)/\Cls K C/\cC K C f/\fs.lookup f=U v/\Q v H1
def RC(K:PySem.W.Frag)(ta tv:TE)(f:Str):TS:=λD Z H=>tv Z H λy H1=>ta Z H1 λx H2=>∃a C dx fs,x= .ref a/\H2 a=U (.ins C dx fs)/\Cls K C/\cC K C f/\fs.length<1000/\
 D.nx Z (upd H2 a (.ins C dx (iE f y fs)))
section
variable{X:Cx}
def uM(he:PE X e ta)(hb:attributeBase e f X.env (eval e X.env)=eval e X.env):PE X (.Attribute e f pos) (RB X.K ta f):=by
 intro ef s Z H Q I h;refine vY hb (thn (he ef s Z H _ I h) λu s1 q0=> ?_);obtain⟨x,H1,I1,rx,a,C,dx,fs,v,rfl,ea,c,n,l,q⟩:=q0;obtain rfl:u=Value.ref a:=rx;exact uK I1 ea c n l λu' s2 I2 ru=> ⟨v,H1,I2,ru,q⟩
def uN{pos:Pos}(ha:PE X o ta)(hv:PE X value tv)(hs:swapsWith value (U (.Attribute o f pos')) pos.line X.env=pure M):PS X (.Assign [.Attribute o f pos'] value pos) (RC X.K ta tv f):=by
 intro ef s Z H D I h;refine plainObj_wpAny_Assign_Attribute (thn (hv ef s Z H _ I h) λu s1 ⟨y,H1,I1,ry,q⟩=>thn (ha ef s1 Z H1 _ I1 q) λov s2 q0=> ?_) hs;obtain⟨x,H2,I2,rx,a,C,dx,fs,rfl,ea,c,n,l,q2⟩:=q0;obtain rfl:ov=Value.ref a:=rx;exact uL I2 ea c n l ry λs3 I3=> ⟨Z,_,I3,q2⟩
end
section
variable{H:Hp}
inductive nB(K:PySem.W.Frag)(H:Hp):V->Xq->Prop where
 |non:nB K H .non (.type "NoneType")
 |bl (x:Bool):nB K H (.bl x) (.type "bool")
 |int (i:Int):nB K H (.int i) (.type "int")
 |str (x:Str):nB K H (.str x) (.type "str")
 |lst {a:Xo} {xs:List V} (e:H a=U (.lst xs)):nB K H (.ref a) (.type "list")
 |frz {a:Xo} {o:Xw} {xs:List V} (e:H a=U (.frz o (.lst xs))):nB K H (.ref a) (.type "list")
 |tup {a:Xo} {xs:List V} (e:H a=U (.tup xs)):nB K H (.ref a) (.type "tuple")
 |ins {a C dx:Xo} {fs:List (Str×V)} (e:H a=U (.ins C dx fs)) (cl:Cls K C) (ha:PySem.W.findIn K (.ref C) "__class__"=U (U (.builtin "object.__class__")))
   (hn:PySem.W.specialIn K (.builtin "object.__class__") "__get__"=U (U (.builtin "getset_descriptor.__get__"))) (Vx:PySem.W.takesIn K (.builtin "object.__class__")=U O)
   (hm:PySem.W.mroIn K C (.type "object")=U O):nB K H (.ref a) (.ref C)
def AJ{X:Cx}{Z:St}(I:Inv X ef Z H s)(rx:Xg x u)(ty:nB X.K H x t)(e:PySem.W.kitOne X.K t c=U b)(h:∀tk,Q (.bool b) {s with toks:=tk}):
  wpAny (model X.prog X.w) A (call (.builtin "isinstance") [u,c]) Q E s:=by
 cases ty with
 |non=>cases(show u=_ from rx);exact Gbu PySem.W.kitx_none I.kIn True.intro e (λz=>nomatch z) h
 |bl y=>cases(show u=Value.bool y from rx);exact Gbu PySem.W.kitx_bool I.kIn True.intro e (λz=>nomatch z) h
 |int i=>obtain⟨t,q⟩:=(show∃t,u=Value.int i t from rx);cases q;exact Gbu PySem.W.kitx_int I.kIn True.intro e (λz=>nomatch z) h
 |str y=>obtain⟨t,q⟩:=(show∃t,u=Value.str y t from rx);cases q;exact Gbu PySem.W.kitx_str I.kIn True.intro e (λz=>nomatch z) h
 | @lst a xs ea=>
  cases(show u=Value.ref a from rx);obtain⟨_,_,n,_,h1⟩:=(show bS _ _ H _ a _ from I.hok a _ ea)
  exact Gbu PySem.W.kitx_list I.kIn ⟨_,h1,rfl⟩ e (λz=>nomatch z) h
 | @frz a ob xs ea=>
  cases(show u=Value.ref a from rx);obtain⟨_,_,_,n,_,h1⟩:=(show bS _ _ H _ a _ from I.hok a _ ea)
  exact Gbu PySem.W.kitx_list I.kIn ⟨_,h1,rfl⟩ e (λz=>nomatch z) h
 | @tup a xs ea=>
  cases(show u=Value.ref a from rx);obtain⟨_,_,_,p⟩:=(show bS _ _ H _ a _ from I.hok a _ ea)
  obtain⟨o,h1,h2,_⟩:=p;exact Gbu PySem.W.kitx_tuple I.kIn ⟨o,h1,h2⟩ e (λz=>nomatch z) h
 | @ins a C dx fs ea cl ha hn Vx hm=>
  cases(show u=Value.ref a from rx);obtain⟨mA,Xe,_⟩:=qO I.hok ea;obtain⟨od,Xd,_⟩:=Xe.look;exact Gbu (PySem.W.kitx_own (cl.get _) cl.hd ha hn Vx hm) I.kIn Xd e (λz=>nomatch z) h
end
structure cD(k:Nat)(A:Xx):Prop where
 hd:A.handled=J
 dp:A.depth+3*k+5<recursionLimit
 un:A.units+16*k+200<cLine
def cD.mono(r:cD k A)(h:j<=k):cD j A:=⟨r.hd,by have:=r.dp;lia,by have:=r.un;lia⟩
theorem cD.deeper{A:Xx}(r:cD (k+1) A)(env:Env):cD k (A.deeper env):=
 ⟨r.hd,by have:=r.dp;show _+1+3*k+5<_;lia,by have:=r.un;show _+3+16*k+200<_;lia⟩
def uO{A:Xx}:(A.under (.builtin "type.__call__" ⟨.ref C::us,kw⟩)).depth=A.depth+1:=by
 first|rfl|simp
def uP{A:Xx}:(A.under (.builtin "type.__call__" ⟨.ref C::us,kw⟩)).units=A.units+1:=by
 first|rfl|simp
def cD.make{A:Xx}(r:cD (k+1) A)(C:Xo)(us:List Xq)(kw:List (Str×Xq)):cD k (A.under (.builtin "type.__call__" ⟨.ref C::us,kw⟩)):=
 ⟨r.hd,by have:=r.dp;rw[uO];lia,by have:=r.un;rw[uP];lia⟩
theorem cD.depth{A:Xx}(r:cD k A):A.depth<recursionLimit:=by have:=r.dp;lia
theorem cD.units{A:Xx}(r:cD k A):A.units+64<cLine:=by have:=r.un;lia
def Kn:TA:=λ_ H Q=>Q [] H
def Jh(ta:TE)(tr:TA):TA:=λZ H Q=>ta Z H λx H1=>tr Z H1 λxs H2=>Q (x::xs) H2
section
variable{t:TA}
def gO:PA X [] Kn:=λ_ _ _ _ H Q I h=>Calls.spliced_nil ⟨[],H,I,.nil,h⟩
def cM{X:Cx}(ha:PE X e te)(hr:PA X es t)(hs:autoParam (starEach (e::es) X.env=(M,eval e X.env)::starEach es X.env) Za1._auto_1):PA X (e::es) (Jh te t):=by
 intro pos ef s Z H Q I h;rw[hs];show wpAny _ _ (spliced ((M,eval e _)::backTo pos _)) _ _ s;refine Calls.spliced_cons (thn (ha ef s Z H _ I h) λu s1 q0=> ?_);obtain⟨x,H1,I1,r1,q1⟩:=q0;exact thn (hr pos ef s1 Z H1 _ I1 q1) λus s2 ⟨xs,H2,I2,r2,q2⟩=> ⟨x::xs,H2,I2,.cons r1 r2,q2⟩
def RD(t:TA):TE:=λZ H Q=>t Z H λxs H1=>xs.length<=sizeLine/\∀p,H1 p=J->Q (.ref p) (upd H1 p (.tup xs))
def RE(t:TA):TE:=λZ H Q=>t Z H λxs H1=>xs.length<=sizeLine/\∀p,H1 p=J->Q (.ref p) (upd H1 p (.lst xs))
def Cc(h:PA X es t):PE X (.Tuple es x1 pos) (RD t):=by
 intro ef s Z H Q I hq;exact wpAny_Tuple_spliced (thn (h pos ef s Z H _ I hq) λus s1 ⟨xs,H1,I1,r,z,q⟩=> ⟨by rw[<-r.length];exact z,(⟨.ref _,upd H1 _ (.tup xs),I1.laid (λb u e=>Gaf _ e) (Gap _) (⟨z,us,r,⟨_,Gat _ rfl,rfl,_,rfl⟩⟩),rfl,q _ (I1.hok.fresh (Gap _))⟩)⟩)
def Cd(h:PA X es t):PE X (.List es pos) (RE t):=by
 intro ef s Z H Q I hq;exact wpAny_List_spliced (thn (h pos ef s Z H _ I hq) λus s1 ⟨xs,H1,I1,r,z,q⟩=> ⟨by rw[<-r.length];exact z,(⟨.ref _,upd H1 _ (.lst xs),I1.laid (λb u e=>Gaf _ e) (Gap _) (⟨z,us,0,r,Gat _ rfl⟩),rfl,q _ (I1.hok.fresh (Gap _))⟩)⟩)
end
abbrev Sp:=List V->Hp->VK->XK->Prop
abbrev CXT:=List Env->Hp->Xr->XK->VSP
structure AK(P:Xz)(w:Xv)(K:PySem.W.Frag)(mg:Str->Option Xq)(base:Xs)(A:Xx)(outer:List Env)(s:Xr)(H:Hp):Prop where
 frames:A.frames=U outer
 mod:Mod K mg base
 bs:∀b o,base.get? b=U o->s.heap.get? b=U o/\H b=J
 bsz:base.objs.size<=s.heap.objs.size
 kU:s.heap.FunFrames base outer
 frf:∀b∈frs outer,H b=J
 hok:HOk P w H s.heap
 bare:AllBare s.gens
def CE(outer:List Env)(P:Xz)(w:Xv)(H:Hp)(s:Xr)(Q:VK)(u:Xq)(s' :Xr):Prop:=
 ∃v H',s'.os=s.os/\AllBare s'.gens/\Un (frs outer) [] H H' s.heap s'.heap/\HOk P w H' s'.heap/\Xg v u/\Q v H'
def CR(CX:CXT)(outer:List Env)(P:Xz)(w:Xv)(H:Hp)(s:Xr)(Q:VK)(E:XK)(r:Result)(s' :Xr):Prop:=
 match r with
 | .ok (.ret u)=>CE outer P w H s Q u s'
 | .ok _=>False
 | .error e=>CX outer H s E e s'
structure cp(P:Xz)(w:Xv)(K:PySem.W.Frag)(mg:Str->Option Xq)(base:Xs)(CX:CXT)(k:Nat)(f:Xo)(fd:XA)(ps:List Str)(sp:Sp):Prop where
 len:∀vs H Q E,sp vs H Q E->vs.length=ps.length
 run:∀(A:Xx) (outer:List Env) (s:Xr) (H:Hp) (args:Args) (us:List Xq) (vs:List V) (Q:VK) (E:XK),cD k A->AK P w K mg base A outer s H->BindsTo s fd args (ps.zip us)->Xh vs us->sp vs H Q E->
  codeAny (model P w) A (.call (.ref f) args) (CR CX outer P w H s Q E) s
def cp.imp{K:PySem.W.Frag}{k:Nat}{f:Xo}{fd:XA}{sp Vi :Sp}(F:cp P w K mg base CX k f fd ps sp)
  (h:∀vs H Q E,Vi vs H Q E->sp vs H Q E):cp P w K mg base CX k f fd ps Vi :=
 ⟨λvs H Q E q=>F.len vs H Q E (h _ _ _ _ q),λA outer s H args us vs Q E hr he hb hv hs=>F.run A outer s H args us vs Q E hr he hb hv (h _ _ _ _ hs)⟩
def AK.make{K:PySem.W.Frag}{A:Xx}(e:AK P w K mg base A outer s H)(C:Xo)(us:List Xq)(kw:List (Str×Xq)):
  AK P w K mg base (A.under (.builtin "type.__call__" ⟨.ref C::us,kw⟩)) outer s H:=⟨by first|exact e.frames|(simpa[Around.under] using e.frames),e.mod,e.bs,e.bsz,e.kU,e.frf,e.hok,e.bare⟩
section
variable{Z:St}{X:Cx}
def Inv.Gq(I:Inv X ef Z H s):AK X.prog X.w X.K X.mg X.base X.A X.stack s H:=
 ⟨I.ok.frames,I.ok.mod,I.bs,GaH I.ok.bsz I.sz,I.stack,I.kW,I.hok,I.bare⟩
def Inv.after(I:Inv X ef Z H s)(h:CE X.stack X.prog X.w H s Q u s'):EP X ef Z Q u s' :=by
 obtain⟨v,H',os,bare,un,hok,r,q⟩:=h;obtain⟨hh,g,d,t,VX⟩:=s';obtain rfl:VX =_:=os;exact⟨v,H',I.call un hok bare (λb z=>absurd z ?E),r,q⟩
end
def Oe(sp:Sp)(dvs:List V)(E:XK)(t:TA):TE:=λZ H Q=>t Z H λvs H1=>sp (vs++dvs) H1 Q E
def Of(C:Xo)(sp:Sp)(dvs:List V)(E:XK)(t:TA):TE:=λZ H Q=>t Z H λvs H1=>∀x dx,H1 x=J->H1 dx=J->dx≠x->
 sp (.ref x::(vs++dvs)) (upd (upd H1 dx (.own x)) x (.ins C dx [])) (λv H2=>v= .non/\Q (.ref x) H2) E
def Binds(K:PySem.W.Frag)(fd:XA)(ps:List Str)(ds:List Xq):Prop:=
 ∀(s:Xr) (us:List Xq),K.In s.heap->(us++ds).length=ps.length->BindsTo s fd ⟨us,[]⟩ (ps.zip (us++ds))
def Binds.all{K:PySem.W.Frag}{fd:XA}{ps:List Str}(h:∀us,us.length=ps.length->bindArgs fd ⟨us,[]⟩=pure (ps.zip us)):Binds K fd ps []:=λs us _ hl=>by
 rw[GaP] at hl⊢;exact .of_eq (h us hl)
def Passes(CX:CXT)(X:Cx)(E:XK):Prop:=∀(ef:LAO) (Z:St) (H:Hp) (s:Xr) (e:Xq) (s' :Xr),Inv X ef Z H s->CX X.stack H s E e s' ->X.xe e s'
section
variable{f C:Xo}
variable{Z:St}{X:Cx}
def Ko(F:cp X.prog X.w X.K X.mg X.base CX k f fd ps sp)(hr:cD k X.A)(hb:Binds X.K fd ps ds)(hd:Xh dvs ds)(hx:Passes CX X E)
  (I:Inv X ef Z H s)(r:Xh vs us)(h:sp (vs++dvs) H Q E):wpAny (model X.prog X.w) X.A (call (.ref f) us) (EP X ef Z Q) X.xe s:=by
 have r2:=r.append hd;refine GbN (Gcg (F.run _ _ s H ⟨us,[]⟩ _ _ Q E hr I.Gq (hb s us I.kIn (by rw[<-r2.length];exact F.len _ _ _ _ h)) r2 h) λr s' hq=> ?_);cases r with
 |error e=>exact hx ef Z H s e s' I hq
 |ok fl=>
  cases fl with
  |ret u=>exact I.after hq
  |next=>exact False.elim hq
  |brk=>exact False.elim hq
  |cont=>exact False.elim hq
def qP(F:cp X.prog X.w X.K X.mg X.base CX k f fd ps sp)(hr:cD k X.A)(hg:Gl X x)(hm:X.mg x=U (.ref f))(hk:PySem.W.keepIn X.K (.ref f)=O)(hb:Binds X.K fd ps ds)(hd:Xh dvs ds)(hx:Passes CX X E)
  (ha:PA X (e::es) t)(hZ:autoParam ((x==("__debug__":Str))=M) Za2._auto_1)(he:autoParam (starEach (e::es) X.env=(M,eval e X.env)::starEach es X.env) Za1._auto_1)(xb:autoParam ((backTo pos (starEach es X.env)).any (·.1)=M) Za1._auto_1):
  PE X (.Call (.Name x p) (e::es) [] pos) (Oe sp dvs E t):=by
 intro ef s Z H Q I h;exact GbG (fQ I hg hm (Gdd I.ok.mod.kin hk (thn (ha pos ef s Z H _ I h) λus s1 ⟨vs,H1,I1,r,q⟩=> ⟨I1.kIn,(Ko F hr hb hd hx I1 r q)⟩) he xb) hZ)
structure Mk(K:PySem.W.Frag)(C f:Xo):Prop where
 makes:PySem.W.makesIn K C=O
 init:PySem.W.findIn K (.ref C) "__init__"=U (U (.ref f))
 fn:PySem.W.isFn K (.ref f)=O
 kp:PySem.W.keepIn K (.ref C)=O
def Ce(Xf:Mk X.K C f)(F:cp X.prog X.w X.K X.mg X.base CX k f fd ps sp)(hr:cD (k+1) X.A)(hb:Binds X.K fd ps ds)(hd:Xh dvs ds)
  (hx:Passes CX X E)(I:Inv X ef Z H s)(r:Xh vs us)
  (h:∀x dx,H x=J->H dx=J->dx≠x->sp (.ref x::(vs++dvs)) (upd (upd H dx (.own x)) x (.ins C dx [])) (λv H2=>v= .non/\Q (.ref x) H2) E):
  wpAny (model X.prog X.w) X.A (call (.ref C) us) (EP X ef Z Q) X.xe s:=by
 have hq:=h _ _ (I.hok.fresh (Gbi _)) (I.hok.fresh (Gap _)) (Gas (GbR _));have I2:=Inv.made (C:=C) I;have r2:Xh (V.ref _::_) (Value.ref (s.heap.objs.size+1)::_):= .cons rfl (r.append hd);have hl:(Value.ref (s.heap.objs.size+1)::us++ds).length=ps.length:=by
  have e:=r2.length;rw[F.len _ _ _ _ hq] at e;exact e.symm
 refine GbN (Cb I.kIn Xf.makes Xf.init (GaU.mp Xf.fn) (Gcg (F.run _ _ _ _ ⟨Value.ref _::us,[]⟩ _ _ _ E (hr.make C us [])
  (I2.Gq.make C us []) (hb _ (Value.ref _::us) I2.kIn hl) r2 hq) λr s' yh => ?_))
 cases r with
 |error e=>exact hx ef Z _ _ e s' I2 yh
 |ok fl=>
  cases fl with
  |ret u=>
   obtain⟨v,H',I3,rv,rfl,q3⟩:=I2.after yh;exact⟨rv,⟨V.ref _,H',I3,rfl,q3⟩⟩
  |next=>exact False.elim yh
  |brk=>exact False.elim yh
  |cont=>exact False.elim yh
def Cf(Xf:Mk X.K C f)(F:cp X.prog X.w X.K X.mg X.base CX k f fd ps sp)(hr:cD (k+1) X.A)(hg:Gl X x)(hm:X.mg x=U (.ref C))(hb:Binds X.K fd ps ds)(hd:Xh dvs ds)(hx:Passes CX X E)
  (hZ:autoParam ((x==("__debug__":Str))=M) Za2._auto_1):PE X (.Call (.Name x p) [] [] pos) (Of C sp dvs E Kn):=by
 intro ef s Z H Q I h;exact GbG (fQ I hg hm (PySem.W.callWith_K0 I.kIn Xf.kp (Ce Xf F hr hb hd hx I .nil h)) hZ)
end
structure dh(N P:List Str)(sc:Xy):Prop where
 kind:sc.kind= .function
 co:sc.isCoroutine=M
 gen:sc.isGenerator=M
 nd:N.Nodup
 pre:N.take P.length=P
 par:∀x∈P,sc.names.lookup x=U .local\/sc.names.lookup x=U .cell
 NA:∀y∈sc.names,y.2≠ .free
theorem pP{kindOf:Str->Option XD}{x:Str}:∀{binds m},(∀v,(x,v)∉binds)->bindL kindOf binds m x=m x
 |[],_,_=>rfl
 |(n,v)::r,m,h=>by
  unfold bindL;rw[pP λw hw=>h w (Gaw _ hw)];split
  .have:x≠n:=by rintro rfl;exact h v GaO
   simp[this]
  .rfl
theorem pQ{kindOf:Str->Option XD}{x:Str}:∀{binds m},(∀v,(x,v)∉binds)->bindC kindOf binds m x=m x
 |[],_,_=>rfl
 |(n,v)::r,m,h=>by
  unfold bindC;rw[pQ λw hw=>h w (Gaw _ hw)];split
  .rfl
  .have:x≠n:=by rintro rfl;exact h v GaO
   simp[this]
theorem pR{kindOf:Str->Option XD}:∀{P:List Str} {vs:List Xq} {i:Nat} {m:Str->Option Xq},P.Nodup->P[i]? =U x->vs[i]? =U v->kindOf x=U .local->
  bindL kindOf (P.zip vs) m x=U v
 |[],_,_,_,_,h,_,_=>by simp at h
 |_::_,[],_,_,_,_,h,_=>by simp at h
 |p::P,w::vs,0,m,nd,h1,h2,hk=>by
  simp at h1 h2;subst h1;subst h2;show bindL kindOf (_::P.zip vs) m p=_;unfold bindL;rw[pP λv hv=>(GaX.mp nd).1 (List.of_mem_zip hv).1,Gaj hk];simp
 |p::P,w::vs,i+1,m,nd,h1,h2,hk=>by
  show bindL kindOf (_::P.zip vs) m x=_;exact pR (GaX.mp nd).2 (by simpa using h1) (by simpa using h2) hk
theorem pS{kindOf:Str->Option XD}:∀{P:List Str} {vs:List Xq} {i:Nat} {m:Str->Option Xq},P.Nodup->P[i]? =U x->vs[i]? =U v->kindOf x≠U .local->
  bindC kindOf (P.zip vs) m x=U v
 |[],_,_,_,_,h,_,_=>by simp at h
 |_::_,[],_,_,_,_,h,_=>by simp at h
 |p::P,w::vs,0,m,nd,h1,h2,hk=>by
  simp at h1 h2;subst h1;subst h2;show bindC kindOf (_::P.zip vs) m p=_;unfold bindC;rw[pQ λv hv=>(GaX.mp nd).1 (List.of_mem_zip hv).1,Gau hk];simp
 |p::P,w::vs,i+1,m,nd,h1,h2,hk=>by
  show bindC kindOf (_::P.zip vs) m x=_;exact pS (GaX.mp nd).2 (by simpa using h1) (by simpa using h2) hk
noncomputable def start(N:List Str)(vs:List V):St:=vs.map U++List.replicate (N.length -vs.length) J
def gf(CX:CXT)(P:Xz)(w:Xv)(K:PySem.W.Frag)(mg:Str->Option Xq)(base:Xs)(N:List Str)(qual:Str)(scope:Xy)(f:Xo)(cd:Xq)(A:Xx)(outer:List Env)(s:Xr)(H:Hp)(E:XK):Cx where
 prog:=P
 w:=w
 K:=K
 mg:=mg
 base:=base
 A:=A.deeper (envOfC qual scope s.heap.objs.size f cd)
 N:=N
 s₀:=s
 H0:=H
 env:=envOfC qual scope s.heap.objs.size f cd
 outer:=outer
 stack:=envOfC qual scope s.heap.objs.size f cd::outer
 ex:=[]
 calm:=O
 fn:=λ_=>O
 pn:=[]
 xe:=λe s' =>wpAny (model P w) (A.deeper (envOfC qual scope s.heap.objs.size f cd)) (leaving (envOfC qual scope s.heap.objs.size f cd) e) (λ_ yC =>CX outer H s E e yC) (λe' yC =>CX outer H s E e' yC) s'
def sv{sc:Xy}(h:sc.names.lookup x=U .cell):∃c,(cellsFrom n sc.names []).lookup x=U c:=by
 exact Option.isSome_iff_exists.mp (PySem.W.cellsFrom_some _ n [] (.inl h))
def AM{K:PySem.W.Frag}{ps:List Str}{scope:Xy}{f:Xo}{A:Xx}{s:Xr}{vs:List V}
  (S:dh N ps scope)(hd:A.handled=J)(e0:AK P w K mg base A outer s H)(hl:vs.length=ps.length)(r:Xh vs us)
  (x:InCallC s s.heap.objs.size (bindL (envOfC qual scope s.heap.objs.size f cd).kindOf (ps.zip us) λ_=>J) (cellsFrom (s.heap.objs.size+1) scope.names []) (bindC (envOfC qual scope s.heap.objs.size f cd).kindOf (ps.zip us) λ_=>J) s1):
  Inv (gf CX P w K mg base N qual scope f cd A outer s H E) [] (start N vs) H s1:=by
 have xb:ps.length<=N.length:=by have:=congrArg List.length S.pre;rw[GaS] at this;lia
 obtain⟨h1,tk,rfl,hk⟩:=x.done;have noA:∀b:Xo,b∉(gf CX P w K mg base N qual scope f cd A outer s H E).ex:=λb z=>absurd (show b∈([]) from z) ?E;refine⟨⟨e0.mod,S.kind,rfl,rfl,Gap _,λy z c h1 h2=> ?_,λy hy=> ?_,λy c _ h=> ?_,λ_=>hd,Around.frames_deeper e0.frames,.inr ⟨rfl,rfl⟩,λb z=>absurd z (noA b),e0.bs,e0.bsz,λb _ _=>noA b,λb z=>absurd z (noA b),e0.kU,e0.frf⟩,
  rfl,e0.bare,Un.kept hk,⟨_,x.toInCall.ns,λi y v h1 h2 h3=> ?_⟩,λy c h=> ⟨_,x.cell y c h⟩,e0.hok.fresh (Gap _),λy c h=> ?_,λp hp=>absurd (show p∈([]:List _) from hp) ?E,e0.hok.kept hk, ?_⟩
 .exact name_of_addr x.apart (PySem.mem_of_lookup h1) (PySem.mem_of_lookup h2)
 .rcases hy with hy|hy
  .exact sv hy
  .exact absurd rfl (S.NA _ (PySem.mem_of_lookup hy))
 .exact Gdj (x.above y c (PySem.mem_of_lookup h))
 .have hi:i<vs.length:=by
   unfold start at h2;by_cases hi:i<vs.length
   .exact hi
   .rw[GaK (by simpa using hi),GbC] at h2;split at h2<;>cases h2
  have ha:vs[i]? =U v:=by
   unfold start at h2;rw[GaM (by simpa using hi),Gam] at h2;cases e:vs[i]? with
   |none=>rw[e] at h2;cases h2
   |some a=>rw[e] at h2;cases h2;rfl
  obtain⟨u,hu,rv⟩:=r.get ha;have hp:ps[i]? =U y:=by
   rwa[<-S.pre,List.getElem?_take_of_lt ?B]
  have ndP:ps.Nodup:=by rw[<-S.pre];exact S.nd.sublist (List.take_sublist _ _)
  refine⟨u,rv, ?_⟩;rcases S.par y (GaC hp) with k|k
  .exact .inl ⟨k,pR ndP hp hu k⟩
  .obtain⟨c,e⟩:=sv k;refine .inr ⟨.inl k,c,e, ?_⟩;have q:=x.cell y c e
   rwa[pS ndP hp hu (by show scope.names.lookup y≠_;rw[k];decide)] at q
 .exact e0.hok.fresh (Gdj (x.above y c (PySem.mem_of_lookup h)))
 .unfold start;show _=N.length;rw[Gax,Gav,GcK];lia
def Cg{K:PySem.W.Frag}{k:Nat}{f:Xo}{kV oc:Xq}{ps:List Str}{sp:Sp}
    (lk:K.lookup f=U ⟨oc,od,.func (PySem.W.fnOf name qual params body scope dV kV doc pm an eQ ct),yD⟩)(xf:PySem.W.codeIn K eQ qual=O)(S:dh N ps scope)
  (len:∀vs H Q E,sp vs H Q E->vs.length=ps.length)
  (xg:∀A outer s H vs Q E,cD k (A.deeper (envOfC qual scope s.heap.objs.size f eQ))->sp vs H Q E->
   ∃t,PSs (gf CX P w K mg base N qual scope f eQ A outer s H E) body t/\t {nx:=λ_ H' =>Q .non H',rt:=Q} (start N vs) H):
  cp P w K mg base CX (k+1) f (PySem.W.fnOf name qual params body scope dV kV doc pm an eQ ct) ps sp:=by
 refine⟨len,λA outer s H args us vs Q E hr e0 hb r xI=> ?_⟩;have KX:=e0.mod.kin.keeps λb o e=>(e0.bs b o e).1;have hkind:∀y∈ps.zip us,scope.names.lookup y.1=U .local\/(scope.names.lookup y.1=U .cell/\((cellsFrom (s.heap.objs.size+1) _ []).lookup y.1).isSome=O):=λ⟨n,v⟩ hy=>by
  rcases S.par n (List.of_mem_zip hy).1 with q|q
  .exact .inl q
  .exact .inr ⟨q,PySem.W.cellsFrom_some _ _ _ (.inl q)⟩
 refine codeAny_call_function hr.depth (KX _ _ lk) rfl S.co S.gen rfl (PySem.W.codeRec_of KX xf) (hb _ _ _ _ (wpAny_newFunctionEnv_cells S.kind hkind λenv he s1 x=> ?_));subst he;refine⟨(e0.mod.nolimit.keeps λb o e=>(e0.bs b o e).1).keeps x.toInCall.keep,codeAny_func ?_⟩;obtain⟨t,ht,hq⟩:=xg A outer s H vs Q E (hr.deeper _) xI;refine Gba (ht [] s1 _ H _ (AM S hr.hd e0 (len _ _ _ _ xI) r x) hq) (λfl s' hs=> ?_) λe s' hs=>hs;have fin:∀{Z' :St} {H' :Hp} {v:V} {u:Xq},Inv (gf CX P w K mg base N qual scope f eQ A outer s H E) [] Z' H' s' ->Xg v u->Q v H' ->CE outer P w H s Q u s' :=
  λ{Z' H' v u} Xd rv q=> ⟨v,H',Xd.os,Xd.bare,Xd.base,Xd.hok,rv,q⟩
 cases fl with
 |ret u=>
  obtain⟨v,Z',H',Xd,rv,q⟩:=hs;exact fin Xd rv q
 |next=>
  obtain⟨Z',H',Xd,q⟩:=hs;exact fin (v:=V.non) Xd rfl q
 |brk=>
  obtain⟨_,_,_,q⟩:=hs;exact False.elim q
 |cont=>
  obtain⟨_,_,_,q⟩:=hs;exact False.elim q
section
variable{t:TA}{r:List V->Hp->VK->Prop}
def tCB(r:List V->Hp->VK->Prop)(t:TA):TE:=λZ H Q=>t Z H λvs H1=>r vs H1 Q
variable{X:Cx}
def kZ{x:Str}{p pos:Pos}{e:Xp}{es:List Xp}{id:String}(hc:dJ X (.builtin id) r)(hg:Gl X x)(hm:X.mg x=J)(hv:bootBuiltins x=U (.builtin id))(ha:PA X (e::es) t)(hn:autoParam (x≠"__name__") Za2._auto_1)(hZ:autoParam ((x==("__debug__":Str))=M) Za2._auto_1)
  (he:autoParam (starEach (e::es) X.env=(M,eval e X.env)::starEach es X.env) Za1._auto_1)(xb:autoParam ((backTo pos (starEach es X.env)).any (·.1)=M) Za1._auto_1):PE X (.Call (.Name x p) (e::es) [] pos) (tCB r t):=by
 intro ef s Z H Q I h;exact GbG (kq I hg hm hv (GcP (thn (ha pos ef s Z H _ I h) λus s1 ⟨vs,H1,I1,r1,q1⟩=>hc ef s1 Z H1 vs us Q I1 r1 q1) he xb) hn hZ)
def pT(hc:dJ X (.type T) r)(hg:Gl X x)(hm:X.mg x=J)(hv:bootBuiltins x=U (.type T))(ha:PA X (e::es) t)(hn:autoParam (x≠"__name__") Za2._auto_1)(hZ:autoParam ((x==("__debug__":Str))=M) Za2._auto_1)
  (he:autoParam (starEach (e::es) X.env=(M,eval e X.env)::starEach es X.env) Za1._auto_1)(xb:autoParam ((backTo pos (starEach es X.env)).any (·.1)=M) Za1._auto_1):PE X (.Call (.Name x p) (e::es) [] pos) (tCB r t):=by
 intro ef s Z H Q I h;exact GbG (kq I hg hm hv (Gbp (thn (ha pos ef s Z H _ I h) λus s1 ⟨vs,H1,I1,r1,q1⟩=>hc ef s1 Z H1 vs us Q I1 r1 q1) he xb) hn hZ)
end
end L2
namespace HT
open PySem PyProof.Rows
section
open PySem.SeqAt
open PySem.AutoSeq1 (wpAny_loadPart')
open PySem.MeetsSeq PySem.MeetsSeq2 PySem.MeetsSeq3
end
section
def Gr{s:Xr}{vs ws:List Xq}(ht:IsTup s.heap t vs.toArray)(hb:IsTup s.heap b ws.toArray)(hv:vs≠[])
  (h1:ws=[]->Q (.ref t) s)(h2:ws≠[]->Q (.ref s.heap.objs.size) {s with heap:=s.heap.push {cls:= .type "tuple",data:= .seq (vs++ws).toArray}})
  (ya:vs.length+ws.length<=sizeLine):wpAny (model prog w) A (binaryOp .Add (.ref t) (.ref b)) Q E s:=by
 obtain⟨⟨cls,dd,data,sl⟩,ho,hc,n,hd⟩:=id ht;obtain⟨⟨Ve,Uw,data2,zO⟩,yy,zX,n2,hd2⟩:=id hb;simp only at hc hd zX hd2;subst hc hd zX hd2;have e:vs.toArray++ws.toArray=(vs++ws).toArray:=by simp
 by_cases hw:ws=[]
 .exact concat_meets ⟨_,ho,rfl⟩ ⟨_,yy,rfl⟩ noFill_tuple_add seq_tuple_add GcC Gcw (Gcs _ _)
   (tuple_addW1 t b vs.toArray ws.toArray n n2 dd Uw sl zO (by simpa using hv) (by simp[hw])) ⟨ho,yy,h1 hw⟩
 .refine concat_meets ⟨_,ho,rfl⟩ ⟨_,yy,rfl⟩ noFill_tuple_add seq_tuple_add GcC Gcw (Gcs _ _)
   (tuple_addW2 t b vs.toArray ws.toArray n n2 dd Uw sl zO (by simpa using hv) (by simpa using hw) (by rw[GaA,GaA];exact ya)) ⟨ho,yy, ?_⟩
  rw[e];exact h2 hw
noncomputable def sIx(n d:Nat):Option Int->Nat
 |none=>d
 |some v=>if v<0 then(v+(n:Int)).toNat else min v.toNat n
def Kp(n d:Nat)(hd:d<=n)(o:Option Int):sIx n d o<=n:=by
 cases o with
 |none=>exact hd
 |some v=>
  show(if v<0 then(v+(n:Int)).toNat else min v.toNat n)<=n;by_cases hv:v<0
  .rw[Gaj hv];lia
  .rw[Gau hv];exact Nat.min_le_right _ _
def vZ(v:Int)(n d:Nat):(if v<0 then max (v+(n:Int)) 0 else min v (n:Int))=((sIx n d (U v):Nat):Int):=by
 show(if v<0 then max (v+(n:Int)) 0 else min v (n:Int))=(((if v<0 then(v+(n:Int)).toNat else min v.toNat n):Nat):Int);by_cases hv:v<0
 .simp only[Gaj hv];lia
 .simp only[Gau hv];lia
def uQ(lo hi:Option Int)(n:Nat):Builtin.Slice.sliceAdjust lo hi 1 (n:Int)=(((sIx n 0 lo:Nat):Int),((sIx n n hi:Nat):Int)):=by
 have h1:¬((1:Int)<0):=by lia
 unfold Builtin.Slice.sliceAdjust;simp only[h1,if_false];refine Prod.ext ?_ ?_
 .cases lo with
  |none=>rfl
  |some v=>exact vZ v n 0
 .cases hi with
  |none=>rfl
  |some v=>exact vZ v n n
def uR(i j:Nat):Builtin.Slice.slicePlaces (i:Int) (j:Int) 1=j -i:=by
 unfold Builtin.Slice.slicePlaces;have h1:(1:Int)>0:=by lia
 simp only[h1,if_true,Int.ediv_one];split<;>lia
def o8(p:IsPart v o)(h:Q o s):wpAny (model prog w) A (Builtin.Slice.slicePartIndex v) Q E s:=by
 cases p with
 |none=>exact slicePart_none h
 |int i t=>exact slicePart_int h
variable{lo hi:Option Int}{vl vu:Xq}{sl:Xo}
def mi{E:VSP}{s:Xr}{n:Nat}{Q:Int×Int×Nat->Xr->Prop}(hs:s.heap.IsSliceOf sl vl vu .none)(pl:IsPart vl lo)(pu:IsPart vu hi)
  (h:Q (((sIx n 0 lo:Nat):Int),1,sIx n n hi -sIx n 0 lo) s):wpAny (model prog w) A (Builtin.Slice.sliceApplied (.ref sl) (pure (n:Int))) Q E s:=by
 obtain⟨os,yO,yq,hds⟩:=id hs;unfold Builtin.Slice.sliceApplied Builtin.Slice.sliceFields;refine Gab (Gab (wpAny_field yO hds (x:=vl) rfl (Gab (wpAny_field yO hds (x:=vu) rfl (Gab (wpAny_field yO hds (x:= .none) rfl (Gal ?_)))))));refine Gab (slicePart_none ?_);show wpAny _ _ (if((1:Int)==0)=O then _ else _) _ _ s;rw[Gau (by decide)];refine Gab (o8 pl (Gab (o8 pu (Gab (Gal ?_)))));show wpAny _ _ (match Builtin.Slice.sliceAdjust lo hi 1 (n:Int) with|(lo,hi)=>pure (lo,(1:Int),Builtin.Slice.slicePlaces lo hi 1)) _ _ s;rw[uQ lo hi n];show wpAny _ _ (pure (((sIx n 0 lo:Nat):Int),(1:Int),Builtin.Slice.slicePlaces ((sIx n 0 lo:Nat):Int) ((sIx n n hi:Nat):Int) 1)) _ _ s;rw[uR];exact Gal h
def Ci(xs:Array Xq)(i k:Nat):((List.range k).filterMap λ(m:Nat)=>xs[((i:Int)+(m:Int)*1).toNat]?).toArray=((xs.toList.drop i).take k).toArray:=by
 have e:(λ(m:Nat)=>xs[((i:Int)+(m:Int)*1).toNat]?)=λm=>xs[i+m]? :=by
  funext m
  have:((i:Int)+(m:Int)*1).toNat=i+m:=by lia
  rw[this]
 rw[e];have:=pick_run xs i k;rw[List.filterMap_map] at this;have e2:((λx=>xs[x]?)∘λx=>i+x)=λm=>xs[i+m]? :=rfl;rw[e2] at this;rw[this]
def l0{E:VSP}{s:Xr}{t:Xo}{items:Array Xq}{Q:VSP}(ht:IsTup s.heap t items)(hs:s.heap.IsSliceOf sl vl vu .none)(pl:IsPart vl lo)(pu:IsPart vu hi)
  (hw:¬(sIx items.size 0 lo=0/\sIx items.size items.size hi=items.size))
  (h:Q (.ref s.heap.objs.size) {s with heap:=s.heap.push {cls:= .type "tuple",data:= .seq ((items.toList.drop (sIx items.size 0 lo)).take (sIx items.size items.size hi -sIx items.size 0 lo)).toArray}})
  (ya:items.size<=sizeLine):wpAny (model prog w) A (getItem (.ref t) (.ref sl)) Q E s:=by
 have htake:sizeOk (.seq ((items.toList.drop (sIx items.size 0 lo)).take (sIx items.size items.size hi -sIx items.size 0 lo)).toArray):=by
  show((items.toList.drop (sIx items.size 0 lo)).take (sIx items.size items.size hi -sIx items.size 0 lo)).toArray.size<=sizeLine;rw[GaA,GaS,Gck,Gda];lia
 have hj:sIx items.size items.size hi<=items.size:=Kp _ _ (Gap _) hi;obtain⟨os,yO,yq,hds⟩:=id hs;have hTs:s.TypeIs (.ref sl) "slice":=⟨os,yO,yq⟩
 unfold getItem
 try with_reducible refine Gbz ?_
 first|refine Gab (Gal ?_)|skip
 refine Gab (wpAny_sequenceKey ht.typeIs (by decide) ?_);refine Gab (GbD (name:=Str.ofString "__getitem__") ht.typeIs GbU
  (Gcl GbU ht.typeIs entry_tuple_getitem ?_ (args_tuple_getitem _ _)))
 show wpAny _ _ (Builtin.Tuple.tupleItemsOf (.ref t)>>=_) _ _ s;refine Gab (tupleItemsOf_ ht ?_);refine Gab (wpAny_typeOf hTs ?_);rw[Gaj (by decide)];refine Gab (mi hs pl pu ?_);have hno:¬((((sIx items.size 0 lo:Nat):Int)==0&&(1:Int)==1&&(sIx items.size items.size hi -sIx items.size 0 lo)==items.size)=O):=by
  intro q;rw[Gai,Gai] at q;have q1:((sIx items.size 0 lo:Nat):Int)=0:=eq_of_beq q.1.1;have q2:sIx items.size items.size hi -sIx items.size 0 lo=items.size:=eq_of_beq q.2;exact hw ⟨by lia,by lia⟩
 show wpAny _ _ (if(((sIx items.size 0 lo:Nat):Int)==0&&(1:Int)==1&&(sIx items.size items.size hi -sIx items.size 0 lo)==items.size)=O then _ else _) _ _ s;rw[Gau hno,Ci]
 first
  |exact Gab (m:=Builtin.Tuple.tupleExact _) (Gby (Gal ⟨_,rfl,Gal h⟩) htake)
  |exact Gab (m:=Builtin.Tuple.tupleExact _) (Gby (Gab (Gal (Gal ⟨_,rfl,Gal h⟩))) htake)
  |exact Gab (Gab (m:=Builtin.Tuple.tupleExact _) (Gby (Gal (Gal ⟨_,rfl,Gal h⟩)) htake))
  |exact Gab (Gab (m:=Builtin.Tuple.tupleExact _) (Gby (Gal ⟨_,rfl,Gal h⟩) htake))
end
end HT
namespace L2
open PySem PySem.Spec PyProof.Rows
abbrev TO:=St->Hp->(Option Int->Hp->Prop)->Prop
def PO(X:Cx)(e:Option Xp)(t:TO):Prop:=
 ∀(ef:LAO) (s:Xr) (Z:St) (H:Hp) (Q:Option Int->Hp->Prop),Inv X ef Z H s->t Z H Q->
  wpAny (model X.prog X.w) X.A (evalPart e X.env) (λu s' =>∃o H',Inv X ef Z H' s' /\IsPart u o/\Q o H') X.xe s
def Gs:TO:=λ_ H Q=>Q J H
def Og(t:TE):TO:=λZ H Q=>t Z H λx H1=>∃i,x= .int i/\Q (U i) H1
section
variable{X:Cx}{te:TE}{lo hi:Option Xp}{tl th:TO}
def w6:PO X J Gs:=by
 intro ef s Z H Q I h;exact Gal ⟨J,H,I,.none,h⟩
def w8(h:PE X e te):PO X (U e) (Og te):=by
 intro ef s Z H Q I hw;refine thn (h ef s Z H _ I hw) λu s1 q0=> ?_;obtain⟨x,H1,I1,r1,q1⟩:=q0;obtain⟨i,rfl,q⟩:=q1;obtain⟨t,rfl⟩:=r1;exact⟨U i,H1,I1,.int i t,q⟩
def SlR(X:Cx)(r:V->Option Int->Option Int->Hp->VK->Prop):Prop:=
 ∀(ef:LAO) (s:Xr) (Z:St) (H:Hp) (x:V) (v vl vu:Xq) (lo hi:Option Int) (sl:Xo) (Q:VK),Inv X ef Z H s->Xg x v->s.heap.IsSliceOf sl vl vu .none->IsPart vl lo->IsPart vu hi->r x lo hi H Q->
  ∃T id,typeLookup (.type T) "__getitem__"=pure (U (.builtin id))/\s.TypeIs v T/\wpAny (model X.prog X.w) X.A (getItem v (.ref sl)) (EP X ef Z Q) X.xe s
def SlR.or(h:SlR X r)(h' :SlR X r'):SlR X (λx lo hi H Q=>r x lo hi H Q\/r' x lo hi H Q):=by
 intro ef s Z H x v vl vu lo hi sl Q I rx hs pl pu q;rcases q with q|q
 .exact h ef s Z H x v vl vu lo hi sl Q I rx hs pl pu q
 .exact h' ef s Z H x v vl vu lo hi sl Q I rx hs pl pu q
def tSl(r:V->Option Int->Option Int->Hp->VK->Prop)(te:TE)(tl th:TO):TE:=λZ H Q=>te Z H λx H1=>tl Z H1 λl H2=>th Z H2 λu H3=>r x l u H3 Q
def o9(hr:SlR X r)(he:PE X e te)(hl:PO X lo tl)(hu:PO X hi th):PE X (.Subscript e (.Slice lo hi J p2) pos) (tSl r te tl th):=by
 intro ef s Z H Q I h;refine Subscript_ (thn (he ef s Z H _ I h) λv s1 q0=> ?_);obtain⟨x,H1,I1,r1,q1⟩:=q0;refine wpAny_Slice (thn (hl ef s1 Z H1 _ I1 q1) λvl s2 ⟨l,H2,I2,pl,q2⟩=>thn (hu ef s2 Z H2 _ I2 q2) λvu s3 q0=> ?_);obtain⟨u,H3,I3,pu,q3⟩:=q0;refine Gal ?_;have I4:Inv X ef Z H3 {s3 with heap:=s3.heap.push {cls:= .type "slice",data:= .fields #[vl,vu,.none]}}:=I3.kept λb ob q=>Gaf _ q;obtain⟨T,id,hT,ht,hg⟩:=hr ef {s3 with heap:=s3.heap.push {cls:= .type "slice",data:= .fields #[vl,vu,.none]}} Z H3 x v vl vu l u _ Q I4 r1 (Heap.IsSliceOf.new ..) pl pu q3;exact tail_any ht hT hg rfl
def AN(xs:List V)(lo hi:Option Int):List V:=(xs.drop (HT.sIx xs.length 0 lo)).take (HT.sIx xs.length xs.length hi -HT.sIx xs.length 0 lo)
def mU(xs:List V)(lo hi:Option Int):(AN xs lo hi).length<=xs.length:=by
 unfold AN;rw[GaS,Gck];lia
def RF(K:PySem.W.Frag):V->Option Int->Option Int->Hp->VK->Prop:=λx lo hi H Q=>∃a xs,x= .ref a/\SqT K H a xs/\
 ¬(HT.sIx xs.length 0 lo=0/\HT.sIx xs.length xs.length hi=xs.length)/\∀p,H p=J->Q (.ref p) (upd H p (.tup (AN xs lo hi)))
def Kq:SlR X (RF X.K):=by
 intro ef s Z H x v vl vu lo hi sl Q I rx hs pl pu h;obtain⟨a,xs,rfl,hx,hw,q⟩:=h;cases rx;obtain⟨eh,r,ht,hz⟩:=I.tuple hx;have eO:eh.toArray.size=xs.length:=by rw[GaA];exact r.length.symm
 refine⟨"tuple",_,GbU.lookup,ht.typeIs,(HT.l0 ht hs pl pu (by rw[eO];exact hw) ?_ (by rw[eO];exact hz))⟩;rw[eO];refine⟨.ref _,_,I.laid (λb ob q=>Gaf _ q) (Gap _) ?_,rfl,q _ (I.hok.fresh (Gap _))⟩;exact⟨GaH (mU xs lo hi) hz,_,(r.drop _).take _,IsTup.new _ _⟩
def Ji(K:PySem.W.Frag):R2:=λx y H Q=>∃a b xs ys,x= .ref a/\y= .ref b/\SqT K H a xs/\SqT K H b ys/\xs≠[]/\xs.length+ys.length<=sizeLine/\
 (ys=[]->Q (.ref a) H)/\(ys≠[]->∀p,H p=J->Q (.ref p) (upd H p (.tup (xs++ys))))
def Xh.fm(r:Xh xs us):us=[]↔xs=[]:=by
 cases r with
 |nil=>simp
 |cons _ _=>simp
def Gu:OpR X (binaryOp .Add) (Ji X.K):=by
 intro ef s Z H x y v u Q I rx ry h;obtain⟨a,b,xs,ys,rfl,rfl,ha,hb,hx,hz,q1,q2⟩:=h;cases rx;cases ry;obtain⟨eh,r1,p1,_⟩:=I.tuple ha;obtain⟨eL,r2,p2,_⟩:=I.tuple hb;refine HT.Gr p1 p2 (λz=>hx (r1.fm.mp z)) (λz=> ⟨.ref a,H,I,rfl,q1 (r2.fm.mp z)⟩) (λz=>(⟨.ref _,_,I.laid (λb ob q=>Gaf _ q) (Gap _) ?_,rfl,q2 (λw=>z (r2.fm.mpr w)) _ (I.hok.fresh (Gap _))⟩)) (by rw[<-r1.length,<-r2.length];exact hz);exact⟨by rw[Gax];exact hz,_,r1.append r2,IsTup.new _ _⟩
end
noncomputable def ixN(n:Nat)(i:Int):Option Nat:=if 0<=i then(if i<n then U i.toNat else J) else if -(n:Int)<=i then U (i+n).toNat else J
def atI{α:Type}(xs:List α)(i:Int):Option α:=(ixN xs.length i).bind λj=>xs[j]?
def w9(h:ixN n i=U j):seqIndex? i n=U j/\j<n/\-(n:Int)<=i/\i<n:=by
 unfold ixN at h;by_cases h0:0<=i
 .rw[Gaj h0] at h;by_cases h1:i<n
  .rw[Gaj h1] at h;exact⟨by rw[seqIndex_of h0 h1,(Option.some.inj h)],by lia,by lia,h1⟩
  .simp_all
 .rw[Gau h0] at h;by_cases h1: -(n)<=i
  .rw[Gaj h1] at h;exact⟨by rw[seqIndex_neg ?B h1,(Option.some.inj h)],by lia,h1,by lia⟩
  .simp_all
def qQ{xs:List α}(h:atI xs i=U v):∃j,seqIndex? i xs.length=U j/\xs[j]? =U v/\j<xs.length/\-(xs.length:Int)<=i/\i<xs.length:=by
 unfold atI at h;cases e:ixN _ i with
 |none=>rw[e] at h;cases h
 |some j=>
  rw[e] at h;obtain⟨h1,h2,h3,h4⟩:=w9 e;exact⟨j,h1,h,h2,h3,h4⟩
def qR(b:Xp):Prop:=∀o i,subscripted b M o i=operate [o,i] (getItem o i)
def IxR(X:Cx)(r:R2):Prop:=
 ∀(value slice:Xp) (ef:LAO) (s:Xr) (Z:St) (H:Hp) (x y:V) (v u:Xq) (Q:VK),Inv X ef Z H s->Xg x v->Xg y u->r x y H Q->
  subscripted slice M v u=operate [v,u] (getItem v u)->wpAny (model X.prog X.w) X.A (subscriptTail value slice v u) (EP X ef Z Q) X.xe s
def MtR(X:Cx)(id:String)(r:V->List V->Hp->VK->Prop):Prop:=
 ∀(ef:LAO) (s:Xr) (Z:St) (H:Hp) (x:V) (xs:List V) (v:Xq) (us:List Xq) (Q:VK),Inv X ef Z H s->Xg x v->Xh xs us->r x xs H Q->
  wpAny (model X.prog X.w) X.A (call (.builtin id) (v::us)) (EP X ef Z Q) X.xe s
section
variable{a b:Xp}
def IxR.or(h:IxR X r)(h' :IxR X r'):IxR X (λx y H Q=>r x y H Q\/r' x y H Q):=by
 intro value slice ef s Z H x y v u Q I rx ry q hs;rcases q with q|q
 .exact h value slice ef s Z H x y v u Q I rx ry q hs
 .exact h' value slice ef s Z H x y v u Q I rx ry q hs
def Oh(hr:IxR X r)(ha:PE X a ta)(hb:PE X b tb)(hs:qR b):PE X (.Subscript a b pos) (tOp r ta tb):=by
 intro ef s Z H Q I h;exact Subscript_ (Kf ha hb I h λv u s2 x y H2 I2 rx ry q=>hr a b ef s2 Z H2 x y v u Q I2 rx ry q (hs _ _))
def Oi(K:PySem.W.Frag):R2:=λx y H Q=>∃p xs i v,x= .ref p/\y= .int i/\SqL K H p xs/\atI xs i=U v/\Q v H
def Oj(K:PySem.W.Frag):R2:=λx y H Q=>∃p xs i v,x= .ref p/\y= .int i/\SqT K H p xs/\atI xs i=U v/\Q v H
def Ol:R2:=λx y H Q=>∃z i c,x= .str z/\y= .int i/\z.length<=sizeLine/\atI z.cps.toList i=U c/\Q (.str ⟨#[c]⟩) H
def Gv{X:Cx}:IxR X (Oi X.K):=by
 intro value slice ef s Z H x y v u Q I rx ry h hs;obtain⟨p,xs,i,z,rfl,rfl,hq,he,q⟩:=h;cases rx;obtain⟨t,rfl⟩:=ry;obtain⟨eh,r,pl,hz⟩:=I.list hq;obtain⟨j,h1,h2,h3,h4,h5⟩:=qQ he;obtain⟨w,ew,zr⟩:=r.get h2;have hl:=r.length;have hn:=qM;have fin:EP X ef Z Q w s:=⟨z,H,I,zr,q⟩
 by_cases h0:0<=i
 .have hj:i.toNat=j:=by
   rw[seqIndex_of h0 h5] at h1;exact Option.some.inj h1
  exact item_listR pl.isList h0 ?B (by rw[hj];simpa using ew) fin hs
 .have hj:(i+(eh.toArray.size)).toNat=j:=by
   rw[seqIndex_neg ?B h4] at h1;rw[GaA,<-hl];exact Option.some.inj h1
  exact subscriptTail_builtinR (x:=w) pl.isList.typeIs slot_list_getitem.lookup
   (wpAny_getItem_list_neg (Q:=λr s' =>r=w/\EP X ef Z Q r s') pl.isList ?B ?H ?B (by rw[hj];simpa using ew) ⟨rfl,fin⟩) hs
def Kr{X:Cx}:IxR X (Oj X.K):=by
 intro value slice ef s Z H x y v u Q I rx ry h hs;obtain⟨p,xs,i,z,rfl,rfl,hq,he,q⟩:=h;cases rx;obtain⟨t,rfl⟩:=ry;obtain⟨eh,r,pl,hz⟩:=I.tuple hq;obtain⟨j,h1,h2,h3,h4,h5⟩:=qQ he;obtain⟨w,ew,zr⟩:=r.get h2;have hn:=qM;exact subscriptTail_builtinR pl.typeIs slot_tuple_getitem.lookup
  (getItem_tuple pl ?B ?B (by rw[GaA,<-r.length];exact h1) ?H ⟨rfl,(⟨z,H,I,zr,q⟩)⟩) hs
def Ku:IxR X Ol:=by
 intro value slice ef s Z H x y v u Q I rx ry h hs;obtain⟨z,i,c,rfl,rfl,hz,he,q⟩:=h;obtain⟨t,rfl⟩:=rx;obtain⟨t',rfl⟩:=ry;obtain⟨j,h1,h2,h3,h4,h5⟩:=qQ he;have hl:z.cps.toList.length=z.length:=by simp[Str.length]
 rw[hl] at h1 h4 h5;have hn:=qM;exact tail_any (Gcv s z t) slot_str_getitem.lookup (getItem_str (by
  rw[(Gbo ?B),(Gbo ?B),Bool.or_false]) (by rw[h1];simpa using h2) ⟨.str ⟨#[c]⟩,H,I.tok _,⟨_,rfl⟩,q⟩) hs
def rIx(K:PySem.W.Frag):R2:=λx y H Q=>Oi K x y H Q\/Oj K x y H Q\/Ol x y H Q
def Kv{X:Cx}:IxR X (rIx X.K):=Gv.or (Kr.or Ku)
def uS(eh:List Xq)(n j:Nat)(u:Xq):Obj.mapSeq (·.setIfInBounds j u) {cls:= .type "list",data:= .seq eh.toArray n}={cls:= .type "list",data:= .seq (eh.set j u).toArray n}:=by
 simp[Obj.mapSeq]
theorem Inv.lst{X:Cx}{ef:LAO}{Z:St}{H:Hp}{s:Xr}{p:Xo}{xs:List V}(I:Inv X ef Z H s)(h:H p=U (.lst xs)):
  ∃eh n,Xh xs eh/\s.heap.get? p=U {cls:= .type "list",data:= .seq eh.toArray n}/\xs.length<=sizeLine:=by
 obtain⟨z,eh,n,r,e⟩:=I.hok p _ h;exact⟨eh,n,r,e,z⟩
variable{Z:St}
def Inv.Kw{s:Xr}{ys:List V}{eh its' :List Xq}(I:Inv X ef Z H s)(h:H p=U (.lst xs))
  (ho:s.heap.get? p=U {cls:= .type "list",data:= .seq eh.toArray n})(hf:f {cls:= .type "list",data:= .seq eh.toArray n}={cls:= .type "list",data:= .seq its'.toArray n' })(r:Xh ys its')(hz:ys.length<=sizeLine)(t:Nat):
  Inv X ef Z (upd H p (.lst ys)) {s with heap:=s.heap.update p f,toks:=t}:=by
 have e:(s.heap.update p f).get? p=U {cls:= .type "list",data:= .seq its'.toArray n' }:=by
  rw[GbI f ho (by rw[hf]<;>rfl),hf]
 exact I.write (by rw[h];trivial) (.inl rfl) (λb u hb q=>(Gbq _ _ (GaG hb)).trans q) ⟨_,e⟩ (⟨hz,its',n',r,e⟩)
def Jj:V->V->V->Hp->(Hp->Prop)->Prop:=λo i v H Q=>∃p xs k j,o= .ref p/\i= .int k/\H p=U (.lst xs)/\ixN xs.length k=U j/\Q (upd H p (.lst (xs.set j v)))
def set_list:Rx X Jj:=by
 intro ef s Z H o i v ov iv u Q I ro ri rv h;obtain⟨p,xs,k,j,rfl,rfl,hp,hj,q⟩:=h;cases ro;obtain⟨t,rfl⟩:=ri;obtain⟨eh,n,r,ho,hz⟩:=I.lst hp;obtain⟨h1,h2,h3,h4⟩:=w9 hj;have hl:=r.length;have hn:=qM;have I' :Inv X ef Z _ {s with heap:=s.heap.update p _}:=
  I.Kw hp ho (uS eh n j u) (r.set rv j) ?H _
 by_cases h0:0<=k
 .have hk:k.toNat=j:=by
   rw[seqIndex_of h0 h4] at h1;simp_all
  exact PySem.W.ki_setAt ho h0 ?B ?H (by rw[hk];exact⟨_,I',q⟩)
 .have hk:(k+(eh.toArray.size)).toNat=j:=by
   rw[seqIndex_neg ?B h3] at h1;simp_all
  exact PySem.W.ki_setBack ho ?B ?H ?B (by rw[hk];exact⟨_,I',q⟩)
def qS(lo hi:Option Int)(n:Nat):(sliceBounds lo hi J n).1=((HT.sIx n 0 lo:Nat):Int)/\(sliceBounds lo hi J n).2.1=((HT.sIx n n hi:Nat):Int)/\(sliceBounds lo hi J n).2.2=1:=by
 refine⟨?_, ?_,rfl⟩
 .cases lo with
  |none=>simp[sliceBounds,HT.sIx]
  |some i=>
   simp only[sliceBounds,HT.sIx,Option.getD_none,show(1:Int)>0 by decide,if_true];by_cases h:i<0
   .simp only[h,if_true]<;>lia
   .simp only[h,if_false]<;>lia
 .cases hi with
  |none=>simp[sliceBounds,HT.sIx]
  |some i=>
   simp only[sliceBounds,HT.sIx,Option.getD_none,show(1:Int)>0 by decide,if_true];by_cases h:i<0
   .simp only[h,if_true]<;>lia
   .simp only[h,if_false]<;>lia
def pv(eh:List Xq)(lo hi:Option Int):slicePick eh.toArray lo hi J=((eh.drop (HT.sIx eh.length 0 lo)).take (HT.sIx eh.length eh.length hi -HT.sIx eh.length 0 lo)).toArray:=by
 obtain⟨h1,h2,h3⟩:=qS lo hi _;unfold slicePick;rw[h1,h2,h3];simp only[sliceRange_one,pick_run]<;>rfl
def RG(K:PySem.W.Frag):V->Option Int->Option Int->Hp->VK->Prop:=λx lo hi H Q=>∃a xs,x= .ref a/\SqL K H a xs/\∀p,H p=J->Q (.ref p) (upd H p (.lst (AN xs lo hi)))
def Gw{X:Cx}:SlR X (RG X.K):=by
 intro ef s Z H x v vl vu lo hi sl Q I rx hs pl pu h;obtain⟨a,xs,rfl,hx,q⟩:=h;cases rx;obtain⟨eh,r,ht,hz⟩:=I.list hx;have eO:=r.length;refine⟨"list",_,slot_list_getitem.lookup,ht.isList.typeIs, ?_⟩;refine wpAny_getItem_list_slice ht.isList hs pl pu .none ?E ?_ ?H;rw[pv,<-eO];refine⟨.ref _,_,I.laid (λb ob q=>Gaf _ q) (Gap _) ?_,rfl,q _ (I.hok.fresh (Gap _))⟩;exact⟨GaH (mU xs lo hi) hz,_,0,(r.drop _).take _,Gat _ rfl⟩
noncomputable def wa:V->Bool
 | .non=>O
 | .bl _=>O
 | .int _=>O
 | .str _=>O
 |_=>M
noncomputable def eqV:V->V->Bool
 | .non,.non=>O
 | .bl a,.bl b=>a==b
 | .bl a,.int b=>(if a then 1 else 0)==b
 | .int a,.bl b=>a==(if b then 1 else 0)
 | .int a,.int b=>a==b
 | .str a,.str b=>a==b
 |_,_=>M
def Kx(ry:Xg y u)(rx:Xg x v)(fy:wa y=O)(fx:wa x=O):SeqAt.EqAt A s u v (eqV y x):=by
 cases y with
 |non=>
  cases ry;cases x with
  |non=>cases rx;exact SeqAt.EqAt.same _
  |bl b=>cases rx;exact SeqAt.EqAt.none_bool b
  |int b=>obtain⟨t,rfl⟩:=rx;exact SeqAt.EqAt.none_int b t
  |str b=>obtain⟨t,rfl⟩:=rx;exact SeqAt.EqAt.none_str b t
  |_=>exact absurd (show M=O from fx) Gaq
 |bl a=>
  cases ry;cases x with
  |non=>cases rx;exact SeqAt.EqAt.bool_none a
  |bl b=>cases rx;exact SeqAt.EqAt.bool_bool a b
  |int b=>obtain⟨t,rfl⟩:=rx;exact SeqAt.EqAt.bool_int a b t
  |str b=>obtain⟨t,rfl⟩:=rx;exact SeqAt.EqAt.bool_str a b t
  |_=>exact absurd (show M=O from fx) Gaq
 |int a=>
  obtain⟨t',rfl⟩:=ry;cases x with
  |non=>cases rx;exact SeqAt.EqAt.int_none a t'
  |bl b=>cases rx;exact SeqAt.EqAt.int_bool a t' b
  |int b=>obtain⟨t,rfl⟩:=rx;exact SeqAt.EqAt.int_int a t' b t
  |str b=>obtain⟨t,rfl⟩:=rx;exact SeqAt.EqAt.int_str a t' b t
  |_=>exact absurd (show M=O from fx) Gaq
 |str a=>
  obtain⟨t',rfl⟩:=ry;cases x with
  |non=>cases rx;exact SeqAt.EqAt.str_none a t'
  |bl b=>cases rx;exact SeqAt.EqAt.str_bool a t' b
  |int b=>obtain⟨t,rfl⟩:=rx;exact SeqAt.EqAt.str_int a t' b t
  |str b=>obtain⟨t,rfl⟩:=rx;exact SeqAt.EqAt.str_str a t' b t
  |_=>exact absurd (show M=O from fx) Gaq
 |_=>exact absurd (show M=O from fy) Gaq
def dJ.or(h:dJ X f r)(h' :dJ X f r'):dJ X f (λxs H Q=>r xs H Q\/r' xs H Q):=by
 intro ef s Z H xs us Q I rs q;rcases q with q|q
 .exact h ef s Z H xs us Q I rs q
 .exact h' ef s Z H xs us Q I rs q
def qT{X:Cx}:dJ X (.type "list") (λxs H Q=>∃p ys,xs=[.ref p]/\(SqL X.K H p ys\/SqT X.K H p ys)/\∀l,H l=J->Q (.ref l) (upd H l (.lst ys))):=by
 intro ef s Z H xs us Q I r h;obtain⟨p,ys,rfl,hq,q⟩:=h;obtain⟨u,rfl,rx⟩:=vals1 r;cases rx;have fin:∀(eh),Xh ys eh->_<=sizeLine->∀(h') (c'),_->
   h'.get? s.heap.objs.size=U {cls:= .type "list",dict:=J,data:= .seq eh.toArray c',slots:=#[]}->EP X ef Z Q _ {s with heap:=h' }:=λeh r' hz h' c' kp e=>
  ⟨.ref _,_,I.laid kp (Gap _) (show bS _ _ _ h' _ (.lst ys) from⟨hz,eh,c',r',e⟩),rfl,q _ (I.hok.fresh (Gap _))⟩
 rcases hq with hq|hq
 .obtain⟨eh,r',pl,hz⟩:=I.list hq;have eO:=r'.length;obtain⟨o,ho,hc,n,hd⟩:=pl.isList;exact call_list_seq p (.inl rfl) ho hc hd (λh' c' kp e=>fin eh r' hz h' c' kp e) ?H
 .obtain⟨eh,r',pl,hz⟩:=I.tuple hq;have eO:=r'.length;obtain⟨o,ho,hc,n,hd⟩:=pl;exact call_list_seq p (.inr rfl) ho hc hd (λh' c' kp e=>fin eh r' hz h' c' kp e) ?H
def pz{X:Cx}:dJ X (.type "tuple") (λxs H Q=>∃p ys,xs=[.ref p]/\((SqL X.K H p ys/\∀l,H l=J->Q (.ref l) (upd H l (.tup ys)))\/(SqT X.K H p ys/\Q (.ref p) H))):=by
 intro ef s Z H xs us Q I r h;obtain⟨p,ys,rfl,h⟩:=h;obtain⟨u,rfl,rx⟩:=vals1 r;cases rx;rcases h with⟨hq,q⟩| ⟨hq,q⟩
 .obtain⟨eh,r',pl,hz⟩:=I.list hq;have eO:=r'.length;refine call_tuple_list pl.isList (λh' kp=> ?_) ?H;have I1:Inv X ef Z H {s with heap:=h' }:=I.kept kp;have I2:Inv X ef Z _ {s with heap:=h'.push {cls:= .type "tuple",data:= .seq _}}:=
   I1.laid (λb o e=>Gaf _ e) (Gap _) (show bS _ _ _ _ _ (.tup ys) from⟨hz,eh,r',IsTup.new _ _⟩)
  exact⟨.ref _,_,I2,rfl,q _ (I1.hok.fresh (Gap _))⟩
 .obtain⟨eh,r',pl,hz⟩:=I.tuple hq;exact call_tuple_same pl ⟨.ref p,H,I,rfl,q⟩
def tyV(K:PySem.W.Frag)(T:String)(x:V)(H:Hp):Prop:=match x with
 | .str _=>T="str"
 | .int _=>T="int"
 | .ref p=>(T="list"/\∃xs,SqL K H p xs)\/(T="tuple"/\∃o,K.lookup p=U o/\o.cls= .type "tuple"/\o.dict=J)
 |_=>False
def Cj{X:Cx}{s:Xr}(I:Inv X ef Z H s)(r:Xg x v)(ty:tyV X.K T x H):
  s.TypeIs v T/\∀a,v= .ref a->∃ob,s.heap.get? a=U ob/\ob.dict=J:=by
 cases x with
 |str z=>
  obtain⟨t,rfl⟩:=r;cases(show T="str" from ty);exact⟨Gcv s z t,λ_ e=>nomatch e⟩
 |int i=>
  obtain⟨t,rfl⟩:=r;cases(show T="int" from ty);exact⟨typeIs_int s i t,λ_ e=>nomatch e⟩
 |ref p=>
  cases r;rcases ty with⟨rfl,xs,hq⟩| ⟨rfl,o,hk,hc,hd⟩
  .obtain⟨eh,_,pl,_⟩:=I.list hq;refine⟨pl.isList.typeIs,λa e=> ?_⟩;cases e;obtain⟨o,n,e,c,hd,_⟩:=pl;exact⟨o,e,hd⟩
  .refine⟨⟨o,I.kIn p o hk,hc⟩,λa e=> ?_⟩;cases e;exact⟨o,I.kIn _ o hk,hd⟩
 |_=>exact False.elim ty
def RH(K:PySem.W.Frag)(T:String)(r:V->List V->Hp->VK->Prop)(to:TE):TE:=λZ H Q=>to Z H λx H1=>tyV K T x H1/\r x [] H1 Q
def tBM(K:PySem.W.Frag)(T:String)(r:V->List V->Hp->VK->Prop)(to:TE)(t:TA):TE:=λZ H Q=>to Z H λx H1=>tyV K T x H1/\t Z H1 λxs H2=>r x xs H2 Q
variable{id:String}{apos eJ:Pos}
def Ky{X:Cx}{r:V->List V->Hp->VK->Prop}(pa:PlainAttrs T)(slot:Slot T name id)(yv:typeOf (.builtin id)=pure (.type "method_descriptor"))(hm:MtR X id r)(ho:PE X o to)
  (xh:autoParam (attributeBase o name X.env (eval o X.env)=eval o X.env) Za1._auto_1)(eU:autoParam ((apos.endLine==eJ.line)=O) Za1._auto_1):PE X (.Call (.Attribute o name apos) [] [] eJ) (RH X.K T r to):=by
 intro ef s Z H Q I h;refine wpAny_Call_method0_late xh eU (thn (ho ef s Z H _ I h) λv s1 q0=> ?_);obtain⟨x,H1,I1,r1,ty,q1⟩:=q0;obtain⟨h1,h2⟩:=Cj I1 r1 ty;exact⟨T,id,pa,slot,yv,h1,h2,Calls.callWith_builtin rfl (PySem.evalArgs_none (hm ef s1 Z H1 x [] v [] Q I1 r1 .nil q1))⟩
def sx{X:Cx}{o e:Xp}{es:List Xp}{name:Str}{T:String}{r:V->List V->Hp->VK->Prop}(pa:PlainAttrs T)(slot:Slot T name id)(yv:typeOf (.builtin id)=pure (.type "method_descriptor"))(hm:MtR X id r)(ho:PE X o to)(ha:PA X (e::es) t)
  (xh:autoParam (attributeBase o name X.env (eval o X.env)=eval o X.env) Za1._auto_1)
  (yp:((backTo eJ (starEach (e::es) X.env)).all (λx=> !x.1)&&(backToKw eJ (keywordEach [] X.env)).all (λx=>x.1.isSome)
   &&decide ((e::es).length+([]:List Keyword).length+(if([]:List Keyword).isEmpty then 0 else 1)<30))=O:=by rfl)
  (eU:autoParam ((apos.endLine==eJ.line)=O) Za1._auto_1)(hs:autoParam (starEach (e::es) X.env=(M,eval e X.env)::starEach es X.env) Za1._auto_1)(yN:autoParam ((backTo eJ (starEach es X.env)).any (·.1)=M) Za1._auto_1):
  PE X (.Call (.Attribute o name apos) (e::es) [] eJ) (tBM X.K T r to t):=by
 intro ef s Z H Q I h;refine wpAny_Call_method_late xh yp eU rfl (thn (ho ef s Z H _ I h) λv s1 q0=> ?_);obtain⟨x,H1,I1,r1,ty,q1⟩:=q0;obtain⟨h1,h2⟩:=Cj I1 r1 ty;refine⟨T,id,pa,slot,yv,h1,h2, ?_⟩;have hA:=ha eJ ef s1 Z H1 _ I1 q1;rw[hs] at hA⊢;exact Calls.callWith_builtin (by show(M||(backTo eJ _).any _)=M;rw[yN]<;>rfl) (Calls.evalArgs_plain (thn hA λus s2 ⟨vs,H2,I2,r2,q2⟩=>hm ef s2 Z H2 x vs v us Q I2 r1 r2 q2))
end
def MtM(X:Cx)(id:String)(r:V->List V->Hp->VK->Prop):Prop:=
 ∀(ef:LAO) (s:Xr) (Z:St) (H:Hp) (x:V) (xs:List V) (v:Xq) (us:List Xq) (Q:VK),Inv X ef Z H s->Xg x v->Xh xs us->r x xs H Q->
  wpAny (model X.prog X.w) X.A (call (.builtin id) (v::us)) (EP X ef Z Q) X.xe s
def Xh.one(p:Xh [x] us):∃u,us=[u]/\Xg x u:=by
 cases p with
 |cons r t=>cases t;exact⟨_,rfl,r⟩
section
variable{ys:List V}{s:Xr}{Z:St}
def Inv.Om{eh its' :List Xq}(I:Inv X ef Z H s)(hH:H l=U (.lst xs))
  (e:s.heap.get? l=U {cls:= .type "list",data:= .seq eh.toArray n})(hf:f eh.toArray=its'.toArray)(hv:Xh ys its')(hz:ys.length<=sizeLine):
  Inv X ef Z (upd H l (.lst ys)) {s with heap:=s.heap.update l (Obj.mapSeq f),toks:=t' }:=by
 have q:=PySem.IsL.update e f;rw[hf] at q;exact I.write (by rw[hH];exact trivial) (.inl rfl) (λb' u hb hu=>(Gbq _ _ (GaG hb)).trans hu) ⟨_,q⟩ (⟨hz,its',_,hv,q⟩)
def Inv.Oo{eh:List Xq}(I:Inv X ef Z H s)(hv:Xh ys eh)(hz:ys.length<=sizeLine):
  Inv X ef Z (upd H s.heap.objs.size (.lst ys)) {s with heap:=s.heap.push {cls:= .type "list",data:= .seq eh.toArray},toks:=t' }:=
 I.laid (λ_ _ q=>Gaf _ q) (Gap _) ⟨hz,eh,0,hv,Gat _ rfl⟩
theorem Inv.fresh{Z:St}{s:Xr}(I:Inv X ef Z H s):H s.heap.objs.size=J:=I.hok.fresh (Gap _)
def Inv.Oq{xs:List V}(I:Inv X ef Z H s)(hH:H l=U (.lst xs)):xs.length<=sizeLine/\∃eh n,Xh xs eh/\xs.length=eh.length/\s.heap.get? l=U {cls:= .type "list",data:= .seq eh.toArray n}:=by
 obtain⟨z,eh,n,r,e⟩:=I.hok l _ hH;exact⟨z,eh,n,r,r.length,e⟩
end
def Gx:V->List V->Hp->VK->Prop:=λx vs H Q=>∃l xs y,x= .ref l/\vs=[y]/\H l=U (.lst xs)/\xs.length<sizeLine/\Q .non (upd H l (.lst (xs++[y])))
def mj:MtM X "list.append" Gx:=by
 intro ef s Z H x vs v us Q I rx rv h;obtain⟨l,xs,y,rfl,rfl,hH,hz,q⟩:=h;cases rx;obtain⟨u,rfl,ru⟩:=rv.one;obtain⟨z,eh,n,r,hl,e⟩:=I.Oq hH;refine GcQ F.slot_list_append ⟨_,e,rfl⟩ F.entry_list_append (F.args_list_append_2 _ _) (PySem.list_append l _ n u ?H) ⟨e,(⟨.non,_,I.Om (its' :=eh++[u]) hH e ?E (r.append (.cons ru .nil)) ?_,rfl,q⟩)⟩;rw[Gax,Gch];lia
def Ck(r:Xg (kV k) u):(gw P w).is k u=O:=by
 cases k with
 |inl i=>obtain⟨t,e⟩:=(show∃t,u=Value.int i t from r);subst e;exact so P w i t
 |inr x=>obtain⟨t,e⟩:=(show∃t,u=Value.str x t from r);subst e;exact ji P w x t
def Kz(i:Xp):Prop:=∀ov iv,subscripted i M ov iv=operate [ov,iv] (getItem ov iv)
def Gy{id:String}
  (hl:typeLookup (.type T) "__getitem__"=pure (U (.builtin id)))(hs:Kz slice)
  (h:wpAny (model prog w) A (eval value env) (λo s₁=>wpAny (model prog w) A (eval slice env) (λi s₂=>s₂.TypeIs o T/\wpAny (model prog w) A (getItem o i) Q E s₂) E s₁) E s):
  wpAny (model prog w) A (eval (.Subscript value slice pos) env) Q E s:=by
 refine Subscript_ (Gba h (λo s₁ h₁=>Gba h₁ (λi s₂ h₂=> ?_) λ_ _ x=>x) λ_ _ x=>x);obtain⟨hT,h₂⟩:=h₂;refine Gab (Gab (wpAny_specialOf hT hl ?_));have fin:wpAny (model prog w) A (subscripted slice M o i) (λr s₃=>wpAny (model prog w) A (letTemporaryGo value o r>>=λ_=>pure r) Q E s₃) E s₂:=by
  rw[hs o i];exact wpAny_operating (Gba h₂ (λr s₃ h₃=>Gab (wpAny_letTemporaryGo (Gal h₃))) λ_ _ x=>x)
 first
  |exact Gal (Gab fin)
  |exact Gab _
  |exact Gab fin
end L2
namespace Att
open PySem PySem.W PySem.Calls PyProof.Rows
def nC:∀ns vs,WellAll P h vs (ns.map WData.int)->IntsAre vs ns:=by
 intro ns;induction ns with
 |nil=>
  intro vs w;rw[Gdl] at w;cases w;exact .nil
 |cons n ns ih=>
  intro vs w;rw[GaI] at w;cases w with
  |cons a b=>
   cases a;exact .cons _ _ (ih _ b)
def AO{l:OpenLaw}{h:Xs}(hn:l.most=U n)
  (yx:l.row.toRowW.claim.pre args=O)(UM:WellAll P h vals args):
  ∃a vs ns,vals=[Value.ref a]/\args=[WData.list (ns.map WData.int)]/\h.get? a=U {cls:= .type "list",data:= .seq vs.toArray}/\IntsAre vs ns/\ns.length<=n:=by
 have hsh:WShape.hasAll [] args [.list .int]=O:=(pre_splitW yx).1;have hc:l.pre.holds [] {args:=args}=O:=(pre_splitW yx).2;obtain⟨d,r,rfl,h1,h2⟩:=hasAllW_cons hsh;obtain rfl:=hasAllW_nil h2;obtain⟨xs,rfl,h3⟩:=hasW_list h1;obtain⟨ns,rfl⟩:=items_int h3;have eO:ns.length<=n:=by
  unfold OpenLaw.pre at hc;have h4:(WTm.not (.lt (.lit (.int (n:Int))) (.len (.arg 0)))).holds [] {args:=[.list (ns.map .int)]}=O:=by
   have h4:=(holds_andW hc).1;rw[hn] at h4;exact h4
  have h5:=condW_of h4 (w_not (w_lt w_lit (w_len_list (w_arg rfl))));rw[Gav] at h5;refine Nat.le_of_not_lt λq=> ?_;have q' :(n:Int)<((ns.length:Nat):Int):=by lia
  first
   |(rw[GbE q'] at h5;exact absurd h5 (by decide))
   |(simp at h5;lia)
 cases UM with
 |cons w1 w2=>
  cases w2;cases w1 with
  |list ho hall=>exact⟨_,_,ns,rfl,rfl,ho,nC ns _ hall,eO⟩
def AQ(l:OpenLaw)(args:List WData):l.row.toRowW.claim.post args (.bool O) args=O:=
 postW_of (r:=l.row.toRowW) (X:=(O==O))
  (show WShape.has [] (.bool O) .bool=O by first|rfl|decide|simp[WShape.has,WShape.arms,WShape.armsAll])
  (show(WTm.eq .res (.lit (.bool O))).value [] {args:=args,res:=U (.bool O),after:=args}=U (.bool (O==O)) from w_eq_bool (w_res rfl) w_lit) rfl
def sy{l:OpenLaw}{d:DefRec}
  (hn:l.most=U n)(yT:d.params.defaults=[])
  (call:∀w s₀ s₁ mg mb fa o pm cd doc a vs ns,
   Ground q loose [] XP w s₀ mg mb s₁.heap->YP w s₁.heap->
   s₁.heap.get? fa=U o->o.data= .func (docDef d.name d.params d.body d.scope pm cd doc)->s₁.heap.CodeRec cd d.name->mg d.name=U (.ref fa)->
   s₁.heap.get? a=U {cls:= .type "list",data:= .seq vs.toArray}->IntsAre vs ns->ns.length<=n->s₁.gens=#[]->
   codeAny (model l.prog w) callerA (.call (.ref fa) ⟨[.ref a],[]⟩) (λr s' =>r= .ok (.ret (.bool O))/\OldK s₁.heap s'.heap/\s'.os=s₁.os/\AllBare s'.gens) s₁):
  WalkO q loose XP YP l.row.toRowW d [] (λf vs=>PySem.call f vs):=by
 intro w s₀ s₁ mg mb G Y fa o pm cd doc dV kV ho hd xf hD yQ hg args vals as yx hlay hrd UM VB;obtain rfl:dV= .none:=Dflts.none hD yT;obtain rfl:kV= .none:=Dflts.noKw hD;obtain⟨a,vs,ns,rfl,rfl,yP,hints,eO⟩:=AO hn yx UM;refine enter_call (Gcg (call w s₀ s₁ mg mb fa o pm cd doc a vs ns G Y ho (fd_plain hd) xf yQ yP hints eO hg) λr s' hq=> ?_);obtain⟨rfl,h2,h3,h4⟩:=hq;exact⟨.inl ⟨.bool O,.bool O,[],rfl,λ_=>rfl,.bool O,AQ l _,λ_=> ⟨List.Pairwise.nil,λ_ hm=>(nomatch hm)⟩⟩,h2,h3,h4⟩
end Att
namespace L2
open PySem PySem.Spec PyProof.Rows
def mq{ns:List Int}(p:IntsAre vs ns):Xh (ns.map V.int) vs:=by
 induction p with
 |nil=>exact .nil
 |cons n t h ih=>exact .cons ⟨t,rfl⟩ ih
def Gz(H:Hp):Prop:=∀b,H b=J\/∃o xs,H b=U (.frz o (.lst xs))
def Cm{K:PySem.W.Frag}{s₁:Xr}{vs:List Xq}{ns:List Int}
  (KX:K.In s₁.heap)(yi:s₁.heap.Ns mainGlobals mg)(hb:s₁.heap.Ns builtinsNs mb)(WI:∀x:Str,x≠"__name__"->mb x=bootBuiltins x)(V1:s₁.heap.NoLimit)(hg:s₁.gens=#[])
  (ha:s₁.heap.get? a=U {cls:= .type "list",data:= .seq vs.toArray})(hi:IntsAre vs ns)(hl:ns.length<=sizeLine)(hr:cD k callerA)
  (F:∀base,K.In base->base.Ns mainGlobals mg->cp P w K mg base CX k fa fd [x] sp)(zC:∀s u,BindsTo s fd ⟨[u],[]⟩ [(x,u)])
  (xI:∀H,Gz H->SqL K H a (ns.map V.int)->sp [.ref a] H (λv _=>v= .bl O) λ_ _ _=>False)
  (V9:∀H e s',CX [] H s₁ (λ_ _ _=>False) e s' ->False):
  codeAny (model P w) callerA (.call (.ref fa) ⟨[.ref a],[]⟩) (λr s' =>r= .ok (.ret (.bool O))/\OldK s₁.heap s'.heap/\s'.os=s₁.os/\AllBare s'.gens) s₁:=by
 have rv:=mq hi;have lenV:=hi.length;have core:∀H:Hp,Gz H->SqL K H a (ns.map V.int)->HOk P w H s₁.heap->(∀b,H b≠J->b=a)->(H a≠J->K.lookup a=J)->
   codeAny (model P w) callerA (.call (.ref fa) ⟨[.ref a],[]⟩) (λr s' =>r= .ok (.ret (.bool O))/\OldK s₁.heap s'.heap/\s'.os=s₁.os/\AllBare s'.gens) s₁:=by
  intro H hO hS hok hA hK;have base_of:∀{b:Xo} {o:Xw},s₁.heap.get? b=U o->H b=J->(Aw _ H).get? b=U o:=λe n=>BY e n;have noA:∀{b:Xo} {o:Xw} {es:Array DictEntry} {ep:Nat},s₁.heap.get? b=U o->o.data= .dict es ep->H b=J:=λ{b o es ep} e d=>by
   cases q:H b with
   |none=>rfl
   |some u=>
    have e' :=hA b (by rw[q];simp);subst e';rw[ha] at e;cases e;cases d
  have nsK:∀{b:Xo} {m:Str->Option Xq},s₁.heap.Ns b m->(Aw _ H).Ns b m:=λ{b m} ⟨o,es,ep,e,d,r⟩=> ⟨o,es,ep,base_of e (noA e d),d,r⟩;have VI:=λb o e=>base_of (KX b o e) (by
   cases q:H b with
   |none=>rfl
   |some u=>
    have e' :=hA b (by rw[q];simp);subst e';rw[hK (by rw[q];simp)] at e;cases e)
  refine Gcg ((F _ VI (nsK yi)).run callerA [] s₁ H ⟨[.ref a],[]⟩ [.ref a] [.ref a] _ _ hr (⟨rfl,(⟨VI,nsK yi,⟨mb,nsK hb,WI⟩,let⟨mc,h1,h2⟩:=V1;⟨mc,nsK h1,h2⟩⟩),λb o e=>Gb e,Gdk (Ax _ _),trivial,λb hb=>absurd (show b∈([]) from hb) ?E,hok,.of_eq hg⟩) (zC s₁ _) (.cons rfl .nil) (xI H hO hS)) λr s' h=> ?_;cases r with
  |error e=>exact(V9 H e s' h).elim
  |ok fl=>
   cases fl with
   |next=>exact False.elim h
   |brk=>exact False.elim h
   |cont=>exact False.elim h
   |ret u=>
    obtain⟨v,H',os,bare,un,UU,r',rfl⟩:=h;obtain rfl:u=Value.bool O:=r';refine⟨rfl,OldK.of_keep λb o e=> ?_,os,bare⟩;cases q:H b with
    |none=>exact un.keep b o e q (by intro z;exact absurd (show b∈([]) from z) ?E) ?E
    |some u=>
     rcases hO b with z| ⟨ob,xs,z⟩
     .rw[q] at z;cases z
     .obtain⟨e1,_⟩:=hok b _ z;obtain⟨e2,_⟩:=UU b _ (un.jM b ob _ z);rw[e] at e1;cases e1;exact e2
 cases hk:K.lookup a with
 |some o=>
  have e:=KX a o hk;rw[ha] at e;cases e;refine core _ (λ_=> .inl rfl) (.inr ⟨_,_,_,hk,rfl,rfl,rfl,by rw[GaA,lenV];exact hl,by simpa using rv⟩) (λb u z=>by have z' :_=U u:=z;cases z') (λb z=>absurd rfl z) λz=>absurd rfl z
 |none=>
  refine core (λb=>if b=a then U _ else J) (λb=> ?_) (.inl (.inr ⟨{cls:= .type "list",data:= .seq vs.toArray},Gaj rfl⟩)) (λb u z=> ?_) (λb z=> ?_) λ_=>hk
  .by_cases hb:b=a
   .exact .inr ⟨_,_,Gaj hb⟩
   .exact .inl (Gau hb)
  .by_cases hb:b=a
   .have z' :=(Gaj hb).symm.trans z;cases z';subst hb;exact⟨ha,by rw[Gav];exact hl,vs,_,rv,ha⟩
   .cases((Gau hb).symm.trans z)
  .by_cases hb:b=a
   .exact hb
   .exact absurd (Gau hb) z
def GA{l:PySem.W.OpenLaw}{k:Nat}{loose:List Str}{YP:Xv->Xs->Prop}{d:DefRec}{K:XC->PySem.W.Frag}{CX:Xv->CXT}{sp:Xv->Sp}{x:Str}
  (hn:l.most=U n)(ze:n<=sizeLine)(yT:d.params.defaults=[])(hr:cD k callerA)
  (hY:∀w h,YP w h->(K w.params).In h)
  (F:∀w (mg:Str->Option Xq) fa h,(K w.params).In h->h.Ns mainGlobals mg->mg d.name=U (.ref fa)->
   ∃fd,(∀s u,BindsTo s fd ⟨[u],[]⟩ [(x,u)])/\
    ∀base,(K w.params).In base->base.Ns mainGlobals mg->cp l.prog w (K w.params) mg base (CX w) k fa fd [x] (sp w))
  (xI:∀w H a (ns:List Int),ns.length<=n->Gz H->SqL (K w.params) H a (ns.map V.int)->sp w [.ref a] H (λv _=>v= .bl O) λ_ _ _=>False)
  (V9:∀w H s e s',CX w [] H s (λ_ _ _=>False) e s' ->False):
  PySem.W.WalkO q loose XP YP l.row.toRowW d [] (λf vs=>PySem.call f vs):=by
 refine Att.sy hn yT λw s₀ s₁ mg mb fa o pm cd doc a vs ns G Y ho hd xf yQ yP hints eO hg=> ?_;have KX:=hY w _ Y;obtain⟨fd,hb,hF⟩:=F w mg fa _ KX G.T.g yQ;exact Cm KX G.T.g G.T.b G.T.builtins G.T.nolimit hg yP hints (GaH eO ze) hr hF hb (λH hO hS=>xI w H a ns eO hO hS) λH e s' =>V9 w H s₁ e s'
noncomputable def ic(s:Xu):Arguments:=match s with
 | .FunctionDef _ a _ _ _ _ _ _ _ _=>a
 |_=>{posonlyargs:=[],args:=[],vararg:=J,kwonlyargs:=[],kw_defaults:=[],kwarg:=J,defaults:=[]}
noncomputable def bY(s:Xu):List Xu:=match s with
 | .FunctionDef _ _ b _ _ _ _ _ _ _=>b
 |_=>[]
noncomputable def av(s:Xu):Xy:=match s with
 | .FunctionDef _ _ _ _ _ _ sc _ _ _=>sc
 |_=>{kind:= .function,names:=[],isGenerator:=M,isCoroutine:=M}
noncomputable abbrev CX0:CXT:=λ_ _ _ _ _ _=>False
noncomputable abbrev E0:XK:=λ_ _ _=>False
def wc:Passes CX0 X E0:=λ_ _ _ _ _ _ _ h=>h.elim
structure Fun(K:PySem.W.Frag)(x qual:Str)(st:Xu)(f:Xo)(fd:XA):Prop where
 ex:∃(oc:Xq) (od:Option Xo) (kV doc pm:Xq) (an:Option Xo) (eQ ct:Xq) (yD:Array (Option Xq)),
  fd=PySem.W.fnOf x qual (ic st) (bY st) (av st) .none kV doc pm an eQ ct/\K.lookup f=U ⟨oc,od,.func fd,yD⟩/\PySem.W.codeIn K eQ qual=O
 kp:PySem.W.keepIn K (.ref f)=O
section
variable{st:Xu}{x qual:Str}
def Fun.ok{K:PySem.W.Frag}{mg:Str->Option Xq}{base:Xs}{f:Xo}{fd:XA}{N ps:List Str}{k:Nat}{sp:Sp}(F:Fun K x qual st f fd)(S:dh N ps (av st))(len:∀vs H Q E,sp vs H Q E->vs.length=ps.length)
  (xg:∀eQ A outer s H vs Q E,cD k (A.deeper (envOfC qual (av st) s.heap.objs.size f eQ))->sp vs H Q E->
   ∃t,PSs (gf CX0 P w K mg base N qual (av st) f eQ A outer s H E).nox (bY st) t/\t {nx:=λ_ H' =>Q .non H',rt:=Q} (start N vs) H):cp P w K mg base CX0 (k+1) f fd ps sp:=by
 obtain⟨oc,od,kV,doc,pm,an,eQ,ct,yD,rfl,lk,xf⟩:=F.ex;refine Cg lk xf S len λA outer s H vs Q E hr xI=> ?_;obtain⟨t,h,q⟩:=xg eQ A outer s H vs Q E hr xI;exact⟨t,h.nox,q⟩
def KA{K:PySem.W.Frag}{f:Xo}{oc:Xq}{od an:Option Xo}{yD:Array (Option Xq)}{kV doc pm eQ ct:Xq}(l:K.lookup f=U ⟨oc,od,.func (PySem.W.fnOf x qual (ic st) (bY st) (av st) .none kV doc pm an eQ ct),yD⟩)
  (c:PySem.W.codeIn K eQ qual=O)(k:PySem.W.keepIn K (.ref f)=O):Fun K x qual st f (PySem.W.fnOf x qual (ic st) (bY st) (av st) .none kV doc pm an eQ ct):=⟨⟨oc,od,kV,doc,pm,an,eQ,ct,yD,rfl,l,c⟩,k⟩
end
def bp(H H' :Hp):Prop:=∀b o,H b=U o->H' b=U o
def bp.trans(a:bp H H1)(b:bp H1 H2):bp H H2:=λc o h=>b c o (a c o h)
def bp.free(e:bp H H')(h:H' l=Option.none):H l=Option.none:=by
 cases q:H l with
 |none=>rfl
 |some o=>
  rw[e l o q] at h;cases h
end L2
namespace Hd
noncomputable section
open PySem PySem.W PyProof.Rows L2
def pU(p:Xz)(w:Xv)(m:Nat)(ann:Option Xq)(q:SharedT×Thread):Option (SharedT×Thread):=bif stepOk m ann q.2 then stepT (denote treeTable) p w q.1 q.2 else J
def goT(p:Xz)(w:Xv)(m:Nat)(ann:Option Xq)(N:Nat):SharedT×Thread->Option SharedT:=
 N.rec (λ_=>J) λ_ go q=>bif through q.2 then U q.1 else(pU p w m ann q).bind go
def GB{r:SharedT}(N:Nat):∀q,goT p w m ann N q=U r->topRun treeTable p w m ann N q.1.abs q.2=U r.abs:=by
 induction N with
 |zero=>exactλ_ h=>nomatch h
 |succ N ih=>
  rintro⟨s,t⟩ h;have h:(bif through t then U s else(pU p w m ann (s,t)).bind (goT p w m ann N))=U r:=h;rw[topRun];rcases Bool.eq_false_or_eq_true (through t) with a|a<;>rw[a] at h⊢
  .exact congrArg (Option.map SharedT.abs) h
  obtain⟨x,hx,go⟩:=Gbl.mp h;rcases Bool.eq_false_or_eq_true (stepOk m ann t) with b|b<;>simp only[pU,b,cond_true,cond_false] at hx
  .simp only[b,stepT_spec hx];exact ih x go
  .cases hx
def Jk(l:List Xw):BT:=(l.foldl (λ(q:BT×Nat) o=>(q.1.ins q.2 o,q.2+1)) (.nil,0)).1
noncomputable def at0(w:Xv)(os:OsState):SharedT:=⟨Jk (boot_heap w.params).objs.toList,(boot_heap w.params).objs.size,(boot_heap w.params).life,#[],boot_drawn,boot_toks,os⟩
abbrev Way(p q:Xz)(loose:List Str)(Xt:Xr->Bool){α:Type}(Yf:Xr->α)(Ya:Xv->α)(N m:Nat)(ann:Option Xq)(row:String)(b:Bool):Prop:=∀(w:Xv) (os:OsState),(goT p (w.withFollow row b) m ann N (at0 w os,topStub p)).map (λr=>(staticsOk (importedModules p.main.body) (boot_heap w.params) r.abs.heap&&namesBound p r.abs.heap&&gensDone r.abs&&laidKept (boot_heap w.params) r.abs.heap,openSeen q loose (importedModules p.main.body) Xt O r.abs,Yf r.abs))=U (O,openGood q loose,Ya (w.withFollow row b))
def GC{p:Xz}{α:Type}{Yf:Xr->α}{Ya:Xv->α}(e:opening p=plainProg p.main.scope.names)(f:∀s,fenceModules? p s=U s)(hN:Nat.ble 600 N=O)
  (h0:∀w os,(at0 w os).abs=⟨boot_heap w.params,#[],boot_drawn,boot_toks,os⟩)(size:∀w:Xv,((boot_heap w.params).isNs mainGlobals,(boot_heap w.params).objs.size,(boot_heap w.params).nsMap mainGlobals "__annotations__")=(O,m,ann))
  (c0:Way p q loose Xt Yf Ya N m ann row M)(c1:Way p q loose Xt Yf Ya N m ann row O):LeftO p q loose Xt Yf Ya N:=LeftO.of_split row λw=>by
 obtain⟨⟨h,gs,d,k,os⟩,e1,e2⟩:=Gaa.mp (boot_open e hN f w);obtain⟨rfl,rfl,rfl,rfl⟩:h=boot_heap w.params/\gs=#[]/\d=boot_drawn/\k=boot_toks:=by simpa using e2
 obtain⟨z1,z2,z3⟩:_/\_/\_:=by simpa only[Gbe] using size w
 have go:∀b,Way p q loose Xt Yf Ya N m ann row b->(topFrom treeTable p (w.withFollow row b) N ⟨boot_heap w.params,#[],boot_drawn,boot_toks,os⟩).map (λs=>(openSeen q loose (importedModules p.main.body) Xt O s,Yf s))=U (openGood q loose,Ya (w.withFollow row b)):=λb c=>by
  obtain⟨r,hr,hc⟩:=Gaa.mp (c w os);obtain⟨l1,l2,l3⟩:_/\_/\_:=by simpa only[Gbe] using hc
  have t:=GB N _ hr;rw[h0] at t;have t' :topFrom treeTable p (w.withFollow row b) N ⟨boot_heap w.params,#[],boot_drawn,boot_toks,os⟩=U r.abs:=by
   unfold topFrom;dsimp only;rw[z1,z2,z3,t];show(match staticsOk (importedModules p.main.body) (boot_heap w.params) r.abs.heap&&namesBound p r.abs.heap&&gensDone r.abs&&laidKept (boot_heap w.params) r.abs.heap with|true=>_|false=>_)=_;rw[l1]
  rw[t'];exact congrArg U (Prod.ext l2 l3)
 rw[e1];exact congrArg U (Prod.ext (go _ c0) (go _ c1))
end
end Hd
namespace Hd
noncomputable section
open PySem PySem.W PyProof.Rows L2
abbrev p0:=PySem.Challenge.pw_dosehouse_k08_lines_that_never_stand
def top(i:Nat):Xu:=p0.main.body.getD i (.Pass ⟨0,0,0,0⟩)
def view:Xz:={p0 with main:={p0.main with body:=[1,2,3,4,5,6,7,8,10,11,12,13,14,15,16,17,19,20,21,22,23,24,25,26,27,28,29,30,31,32,33,34,35,36,37,38,39,40,41,42,43,44,45,46,47,48,49,50,51,53,54,55,56,57,58,59,60,61,62,63,64,65,66,67,68,69,70,71,72,73].map top}}
abbrev fd(n:Str)(i:Nat)(m:Str)(t c:Nat):XA:=fnOf n n (ic (top i)) (bY (top i)) (av (top i)) .none .none .none (.str m t) J (.ref c) .none
def fo(d:XA):Xw:=⟨.type "function",J,.func d,#[]⟩
def coq(m n:Str)(t l k a:Nat)(x y:Xq)(b u:Nat):Xw:={cls:= .type "code",data:= .fields #[.str m t,.str n (t+1),.str "/claim/cut.py" (t+2),.int l 0,.int k 0,.int 0 0,.int 0 0,.int 3 0,.ref a,.bool O,.int 181 0,.ref (a+1),.none,x,y,.ref b,.int u 0,.int l 0,.str "/claim/cut.py" (u+1)]}
def co(n:Str)(t l k a:Nat)(x y:Xq)(b u:Nat):Xw:=coq n n t l k a x y b u
def e(P:XC)(n:Str)(t:Nat)(v:Xq):DictEntry:=⟨PyData.keyHash P n,.str n t,v⟩
def r(P:XC)(n:Str)(t a:Nat):DictEntry:=e P n t (.ref a)
abbrev m0:Str:="dosehouse.reading"
abbrev m1:Str:="dosehouse.words"
abbrev m2:Str:="law_dosehouse_k08_lines_that_never_stand"
abbrev kr:=fd "_law_same" 54 m2 714 349
abbrev Jl:=fd "law" 73 m2 714 466
def inn(i j:Nat):Xu:=match top i with
 | .ClassDef _ _ _ b _ _ _ _ _ _ _=>b.getD j (.Pass ⟨0,0,0,0⟩)
 |s=>s
abbrev fq(n q:Str)(st:Xu)(m:Str)(t c:Nat):XA:=fnOf n q (ic st) (bY st) (av st) .none .none .none (.str m t) J (.ref c) .none
abbrev GD:Xw:={cls:= .type "type",data:= .cls {name:="Draft",bases:=[.type "object"],mro:=[.ref 214,.type "object"],ns:=213,qualname:="Draft"},slots:=#[Option.none,Option.none,Option.some (.str "Draft" 512),Option.some (.str "Draft" 520),Option.some (.builtin "object.__new__"),Option.some (.bool O)]}
abbrev sA:=fq "__init__" "Draft.__init__" (inn 33 0) "dosehouse.reading" 416 210
abbrev q0:Str×Nat:=(m0,416)
abbrev q1:Str×Nat:=(m1,383)
abbrev q2:Str×Nat:=(m2,714)
def tu(a:Array Xq):Xw:={cls:= .type "tuple",data:= .seq a}
def kv(x:Key×Nat):Xq:=match x.1 with
 | .inl n=> .int n x.2
 | .inr s=> .str s x.2
def tt(t:Nat)(l:List Key):Xw:=tu ((l.zipIdx t).map kv).toArray
def odi(l:List DictEntry)(n:Nat):Xw:={cls:= .type "dict",data:= .dict l.toArray n}
def er:Xq:= .str "dosehouse.errors" 187
def ocl(n:Str)(b x:List Xq)(a t u i:Nat)(sub:List Xq):Xw:={cls:= .type "type",data:= .cls {name:=n,bases:=b,mro:= .ref a::b++x,ns:=a -1,qualname:=n,subclasses:=sub},slots:=#[U (.ref i),J,U (.str n t),U (.str n u),U (.builtin "ValueError.__new__"),U (.bool O)]}
def xs0:List Xq:=[.type "Exception",.type "BaseException",.type "object"]
abbrev Co:Xw:=ocl "NoText" [.ref 24] (.type "ValueError"::xs0) 44 207 215 28 []
abbrev mr:=fq "__init__" "NoText.__init__" (inn 2 0) "dosehouse.errors" 187 40
def kf(n:Str)(i:Nat)(q:Str×Nat)(a u l k v:Nat):Frag:=[(a,fo (fd n i q.1 q.2 (a -1))),(a -1,match v with|0=>co n u l k (a -4) .none .none (a -2) (u+3)|v=>co n u l k (a -6) (.ref (a -4)) (.ref (a -3)) (a -2) (u+3+v))]
def kc(P:XC)(n q:Str)(i l a t k:Nat):Frag:=[(a+16,ocl n [.ref 24] (.type "ValueError"::xs0) (a+16) t (t+8) a []),
 (a+15,odi [e P "__module__" (t+7) er,e P "__firstlineno__" (t+11) (.int l (t+10)),r P "__init__" (t+17+k) (a+13),r P "__static_attributes__" (t+19+k) (a+14),e P "__doc__" (t+20+k) .none] 2),
 (a+13,fo (fq "__init__" q (inn i 0) "dosehouse.errors" 187 (a+12))),(a+12,coq "__init__" q (t+12) (l+2) 2 (a+7) (.ref (a+9)) (.ref (a+10)) (a+11) (t+15+k))]
def K(P:XC):Frag:=[(3,odi [e P "__name__" 165 (.str "law_dosehouse_k08_lines_that_never_stand" 714),e P "__doc__" 166 (.none),e P "__package__" 167 (.none),e P "__loader__" 168 (.builtin "__main__.__loader__#opaque"),e P "__spec__" 169 (.none),r P "__annotations__" 170 6,r P "__builtins__" 171 4,e P "__file__" 173 (.str "/claim/cut.py" 172),e P "__cached__" 174 (.none),r P "HouseError" 206 24,r P "NoText" 231 44,r P "NoPieces" 256 63,r P "Twice" 281 82,r P "NoEntry" 306 101,r P "Unsafe" 332 120,r P "Torn" 357 139,r P "NoLine" 382 158,e P "LETTERS" 386 (.str "abcdefghijklmnopqrstuvwxyz" 385),e P "FIGURES" 388 (.str "0123456789" 387),e P "LONGEST_NAME" 390 (.int 8 389),e P "GREATEST" 392 (.int 1000000000 391),e P "MOST_FIGURES" 394 (.int 10 393),r P "is_made_of" 400 165,r P "is_name" 407 172,r P "number_of" 415 179,r P "BEHIND" 471 180,r P "UNENDED" 474 192,r P "CAP_LOWS" 487 193,r P "WAYS" 491 197,e P "MOST_GUESTS" 493 (.int 6 492),e P "MOST_STUFFS" 495 (.int 6 494),e P "MOST_BARS" 497 (.int 12 496),e P "MOST_ORDERS" 499 (.int 12 498),e P "MOST_SIZES" 501 (.int 8 500),e P "MOST_CAPS" 503 (.int 4 502),e P "MOST_TAPERS" 505 (.int 6 504),e P "MOST_DUES" 507 (.int 60 506),e P "MOST_DEN" 509 (.int 1000 508),e P "MOST_PARTS" 511 (.int 2000 510),r P "Draft" 543 214,r P "place_of" 553 225,r P "has_new_name" 561 232,r P "numbers_of" 573 239,r P "with_part" 582 246,r P "take_guest" 591 253,r P "sizes_fit" 597 258,r P "take_stuff" 603 263,r P "take_cap" 614 270,r P "take_young" 623 277,r P "take_bar" 629 282,r P "take_order" 639 289,r P "take_dose" 650 296,r P "take_asked" 659 303,r P "take_due" 670 310,r P "take_taper" 683 317,r P "take_of_order" 692 324,r P "take" 703 331,r P "read" 713 338,r P "_law_draw" 725 345,r P "_law_same" 731 350,r P "_law_names" 737 355,r P "_law_number" 747 362,r P "_law_cap" 758 369,r P "_law_stuff" 764 374,r P "_law_bars" 777 381,r P "_law_dues" 790 388,r P "_law_tapers" 802 395,r P "_law_order" 820 402,r P "_law_world" 826 407,r P "_law_line" 832 412,r P "_law_lines" 838 417,r P "_law_odd" 846 424,r P "_law_blank" 852 429,r P "_law_number_bent" 858 434,r P "_law_name_bent" 870 441,r P "_law_bent" 879 448,r P "_law_spoilt" 885 453,r P "_law_place" 894 460,r P "law" 904 467] 79),
 (2,{cls:= .none,data:= .dict #[]}),(214,GD),(213,odi [e P "__module__" 519 (.str "dosehouse.reading" 416),e P "__firstlineno__" 523 (.int 74 522),e P "__init__" 530 (.ref 211),e P "__static_attributes__" 536 (.ref 212),e P "__dict__" 538 (.ref 215),e P "__weakref__" 540 (.ref 216),e P "__doc__" 541 (.none)] 4),(211,fo sA),(210,coq "__init__" "Draft.__init__" 524 76 1 205 (.ref 207) (.ref 208) 209 528),
 (24,ocl "HouseError" [.type "ValueError"] xs0 24 189 197 15 [.ref 44,.ref 63,.ref 82,.ref 101,.ref 120,.ref 139,.ref 158]),(23,odi [e P "__module__" 196 (.str "dosehouse.errors" 187),e P "__firstlineno__" 200 (.int 2 199),e P "__static_attributes__" 201 (.ref 22),e P "__weakref__" 203 (.ref 25),e P "__doc__" 204 (.none)] 3),
 (180,odi [e P "" 418 (.ref 181),e P "guest" 423 (.ref 182),e P "stuff" 428 (.ref 183),e P "cap" 434 (.ref 184),e P "young" 440 (.ref 185),e P "bar" 444 (.ref 186),e P "order" 447 (.ref 187),e P "dose" 449 (.ref 188),e P "asked" 452 (.ref 189),e P "due" 454 (.ref 190),e P "taper" 457 (.ref 191)] 11),(193,odi [e P "flat" 475 (.ref 194),e P "kilo" 478 (.ref 195),e P "ever" 482 (.ref 196)] 3)]++
 ([
  (181,419,[.inr "guest",.inr "stuff",.inr "bar",.inr "order"]),
  (182,424,[.inr "guest",.inr "stuff",.inr "bar",.inr "order"]),
  (183,429,[.inr "cap",.inr "young",.inr "stuff",.inr "bar",.inr "order"]),
  (184,435,[.inr "cap",.inr "young",.inr "stuff",.inr "bar",.inr "order"]),
  (185,441,[.inr "stuff",.inr "bar",.inr "order"]),
  (186,445,[.inr "bar",.inr "order"]),
  (187,448,[.inr "dose"]),
  (188,450,[.inr "asked",.inr "due"]),
  (189,453,[.inr "order"]),
  (190,455,[.inr "taper",.inr "order"]),
  (191,458,[.inr "taper",.inr "order"]),
  (192,472,[.inr "order",.inr "dose"]),
  (194,476,[.inl 1,.inl 1]),
  (195,479,[.inl 1,.inl 1,.inl 1]),
  (196,483,[.inl 1]),
  (197,488,[.inr "down",.inr "up",.inr "near"])]:List (Nat×Nat×List Key)).map (λx=>(x.1,tt x.2.1 x.2.2))++(
 kc P "NoText" "NoText.__init__" 2 4 28 207 2++kc P "NoPieces" "NoPieces.__init__" 3 9 47 232 2++kc P "Twice" "Twice.__init__" 4 14 66 257 2++kc P "NoEntry" "NoEntry.__init__" 5 19 85 282 2++kc P "Unsafe" "Unsafe.__init__" 6 24 104 307 3++kc P "Torn" "Torn.__init__" 7 30 123 333 2++kc P "NoLine" "NoLine.__init__" 8 35 142 358 2)++(
 kf "is_made_of" 15 q1 165 395 46 2 0++
 kf "is_name" 16 q1 172 401 48 1 1++
 kf "number_of" 17 q1 179 408 50 1 2++
 kf "place_of" 34 q0 225 544 82 2 4++
 kf "has_new_name" 35 q0 232 554 87 2 2++
 kf "numbers_of" 36 q0 239 562 89 2 6++
 kf "with_part" 37 q0 246 574 99 3 3++
 kf "take_guest" 38 q0 253 583 101 2 3++
 kf "sizes_fit" 39 q0 258 592 107 1 0++
 kf "take_stuff" 40 q0 263 598 113 2 0++
 kf "take_cap" 41 q0 270 604 121 2 5++
 kf "take_young" 42 q0 277 615 131 2 3++
 kf "take_bar" 43 q0 282 624 137 2 0++
 kf "take_order" 44 q0 289 630 149 2 4++
 kf "take_dose" 45 q0 296 640 158 2 5++
 kf "take_asked" 46 q0 303 651 166 2 3++
 kf "take_due" 47 q0 310 660 172 2 5++
 kf "take_taper" 48 q0 317 671 182 2 7++
 kf "take_of_order" 49 q0 324 684 194 3 3++
 kf "take" 50 q0 331 693 204 2 5++
 kf "read" 51 q0 338 704 222 1 4++
 kf "_law_draw" 53 q2 345 716 231 3 4++
 kf "_law_same" 54 q2 350 726 236 2 0++
 kf "_law_names" 55 q2 355 732 248 3 0++
 kf "_law_number" 56 q2 362 738 268 3 4++
 kf "_law_cap" 57 q2 369 748 275 2 5++
 kf "_law_stuff" 58 q2 374 759 284 3 0++
 kf "_law_bars" 59 q2 381 765 296 3 7++
 kf "_law_dues" 60 q2 388 778 304 2 7++
 kf "_law_tapers" 61 q2 395 791 313 3 6++
 kf "_law_order" 62 q2 402 803 321 5 12++
 kf "_law_world" 63 q2 407 821 331 1 0++
 kf "_law_line" 64 q2 412 827 344 1 0++
 kf "_law_lines" 65 q2 417 833 346 1 0++
 kf "_law_odd" 66 q2 424 839 364 1 2++
 kf "_law_blank" 67 q2 429 847 377 2 0++
 kf "_law_number_bent" 68 q2 434 853 386 2 0++
 kf "_law_name_bent" 69 q2 441 859 395 2 6++
 kf "_law_bent" 70 q2 448 871 403 2 3++
 kf "_law_spoilt" 71 q2 453 880 412 2 0++
 kf "_law_place" 72 q2 460 886 433 1 3++
 kf "law" 73 q2 467 895 448 1 4)
def as_:List Xo:=[3,2,214,213,211,210,24,23,180,193,181,182,183,184,185,186,187,188,189,190,191,192,194,195,196,197]++([28,47,66,85,104,123,142].flatMap λa=>[a+16,a+15,a+13,a+12])++[165,172,179,225,232,239,246,253,258,263,270,277,282,289,296,303,310,317,324,331,338,345,350,355,362,369,374,381,388,395,402,407,412,417,424,429,434,441,448,453,460,467].flatMap λa=>[a,a -1]
def hook:Hook:=kHook K as_ (λ_=>rfl)
def xt(s:Xr):Bool:=xlAt view [] s&&recOk (RowW.records (OpenRow.toRowW (OpenLaw.row PySem.Challenge.rw_dosehouse_k08_lines_that_never_stand))) s
noncomputable section
def kx(P:XC)(a:Nat):Xw:=((K P).lookup a).getD default
def oc(n:Str)(t l a:Nat):Xw:={cls:= .type "code",data:= .fields #[.str n t,.str n (t+1),.str "/claim/cut.py" (t+2),.int l 0,.int 0 0,.int 0 0,.int 0 0,.int 0 0,.ref a,.bool M,.int 181 0,.ref (a+1),.none,.none,.none,.none,.int (t+3) 0,.int l 0,.str "/claim/cut.py" (t+4)]}
def ofr(a c:Nat)(n:Str)(t:Nat):Xw:={cls:= .type "frame",slots:=#[U (.ref a),U (.ref 3),U (.ref c),J,U (.str n t),J,U (.ref 0)]}
def obf(x:String)(v:Xq):Xw:={cls:= .type "builtin_function_or_method",data:= .fields #[.builtin x,v]}
def ofi(l:List Xq):Xw:={cls:= .none,data:= .fields l.toArray}
def osu(a:Nat):List Xw:=[{cls:= .type "super",data:= .fields #[.ref a,.ref a,.ref a]},obf "object.__init_subclass__" (.ref a)]
def off(n q:Str)(st:Xu):Xw:={cls:= .none,data:= .func {name:=n,qualname:=q,params:=ic st,body:= .stmts (bY st),scope:=av st,globals:=0,closure:=[],defaults:= .none,kwdefaults:= .none}}
def otx(t:Nat)(vs:List Str):Xw:=tu ((vs.zipIdx t).map λx=> .str x.1 x.2).toArray
def xc(P:XC)(n q f:Str)(i l a t:Nat)(vs:List Str):List Xw:=
 [tu #[.ref 24],obf "type.__prepare__" (.type "type"),
  odi [e P "__module__" (t+7) er,e P "__qualname__" (t+9) (.str n (t+8)),e P "__firstlineno__" (t+11) (.int l (t+10)),r P "__init__" (t+18+vs.length) (a+13),r P "__static_attributes__" (t+20+vs.length) (a+14)] 5,
  tu #[],ofi [.int (l+2) 0,.int 4 0,.ref (a+12)],oc n (t+2) l (a+3),ofr (a+5) (a+2) "dosehouse.errors" 187,tu #[],ofi [],
  otx (t+15) ("self"::vs),tu #[],off "__init__" q (inn i 0),kx P (a+12),kx P (a+13),otx (t+19+vs.length) [f],kx P (a+15),kx P (a+16)]++osu (a+16)
def fx(P:XC)(n:Str)(i a:Nat)(l:List Xw):List Xw:=[tu #[],ofi []]++l++[off n n (top i),kx P a,kx P (a+1)]
def news(P:XC):List Xw:=
 [tu #[],ofi ([(2,20),(4,33),(9,52),(14,71),(19,90),(24,109),(30,128),(35,147),(46,164),(48,171),(50,178)].flatMap λ(x:Nat×Nat)=>[.int x.1 0,.int 0 0,.ref x.2]),
  oc "<module>" 182 1 11,ofr 13 3 "__main__" 164,tu #[.type "ValueError"],obf "type.__prepare__" (.type "type"),
  odi [e P "__module__" 196 er,e P "__qualname__" 198 (.str "HouseError" 197),e P "__firstlineno__" 200 (.int 2 199),r P "__static_attributes__" 201 22] 4,
  tu #[],ofi [],oc "HouseError" 191 2 18,ofr 20 17 "dosehouse.errors" 187,tu #[],kx P 23,kx P 24,
  {cls:= .type "getset_descriptor",data:= .fields #[.str "__weakref__" 202,.ref 24,.builtin "ExceptionGroup.__weakref__",.none]}]++osu 24++
 xc P "NoText" "NoText.__init__" "place" 2 4 28 207 ["place"]++xc P "NoPieces" "NoPieces.__init__" "amount" 3 9 47 232 ["amount"]++xc P "Twice" "Twice.__init__" "entry" 4 14 66 257 ["entry"]++xc P "NoEntry" "NoEntry.__init__" "entry" 5 19 85 282 ["entry"]++
 xc P "Unsafe" "Unsafe.__init__" "faults" 6 24 104 307 ["faults","kept"]++xc P "Torn" "Torn.__init__" "mark" 7 30 123 333 ["mark"]++xc P "NoLine" "NoLine.__init__" "line" 8 35 142 358 ["line"]++
 fx P "is_made_of" 15 164 []++fx P "is_name" 16 171 [otx 404 ["text"],tu #[]]++fx P "number_of" 17 178 [otx 411 ["text","number"],tu #[]]++(List.range 17).map λi=>kx P (180+i)
def glob(P:XC):Xw:=odi (e P "__name__" 165 (.str m0 416)::match(kx P 3).data with| .dict a _=>(a.toList.drop 1).take 27|_=>[]) 28
def mid(w:Xv)(os:OsState):SharedT:=⟨(Jk ((boot_heap w.params).objs.toList++news w.params)).set 3 λ_=>glob w.params,197,(boot_heap w.params).life,#[],boot_drawn,488,os⟩
def KC:Env:={scope:=p0.main.scope,locals:=mainNs,globals:=mainNs,cells:=[],code:= .ref 13,frame:=U 14}
def th1:Thread:=⟨((execs (p0.main.body.drop 22) KC).onRaise (leaving KC)).bind λf=>(Sem.pure (Fin.done f):Sem Fin),.body p0.main.body KC,⟨62,0,62,8⟩,[topFrame ⟨0,0,0,0⟩]⟩
end
noncomputable def goN(p:Xz)(w:Xv)(m:Nat)(ann:Option Xq)(N:Nat):SharedT×Thread->Option (SharedT×Thread):=
 N.rec U λ_ go q=>bif through q.2 then J else(pU p w m ann q).bind go
def Ot{r:SharedT×Thread}(n:Nat):∀q,goN p w m ann n q=U r->goT p w m ann (n+N) q=goT p w m ann N r:=by
 induction n with
 |zero=>intro q h;cases h;rw[GaR]
 |succ n ih=>
  intro q h;have h:(bif through q.2 then J else(pU p w m ann q).bind (goN p w m ann n))=U r:=h;rw[Nat.succ_add];show(bif through q.2 then U q.1 else(pU p w m ann q).bind (goT p w m ann (n+N)))=_;cases a:through q.2<;>rw[a] at h
  .obtain⟨x,hx,go⟩:=Gbl.mp h;rw[hx];exact ih x go
  .cases h
abbrev row:String:="special-get-raises"
abbrev loose:List Str:=["BEHIND","CAP_LOWS"]
noncomputable def fin(w:Xv)(os:OsState):Option SharedT:=goT p0 w 11 (U (.ref 6)) 5526 (mid w os,th1)
abbrev sn(r:SharedT):=openSeen view loose (importedModules p0.main.body) xt O r.abs
def v1:∀w os,(fin w os).map (λr=>(staticsOk (importedModules p0.main.body) (boot_heap w.params) r.abs.heap&&namesBound p0 r.abs.heap&&gensDone r.abs&&laidKept (boot_heap w.params) r.abs.heap,(sn r).1,hook.obs r.abs))=U (O,expectedOf view,hook.val w):=λ_ _=>by kernel_rfl
def v2:∀w os,(fin w os).map (λr=>(sn r).2)=U (bltViewBooted,O,O,pinGoodD (drecsOf view),plainGoodE view (looseW view loose),plainGoodD view loose,wideGood view,clsGoodW view loose):=λ_ _=>by kernel_rfl
abbrev GF(b:Bool):Prop:=∀(w:Xv) os,goN p0 (w.withFollow row b) 11 (U (.ref 6)) 2364 (at0 w os,topStub p0)=U (mid (w.withFollow row b) os,th1)
def h0:GF M:=λ_ _=>by kernel_rfl
def h1:GF O:=λ_ _=>by kernel_rfl
def og:openGood view loose=(expectedOf view,bltViewBooted,O,O,pinGoodD (drecsOf view),plainGoodE view (looseW view loose),plainGoodD view loose,wideGood view,clsGoodW view loose):=by kernel_rfl
def run(h:GF b)(w:Xv)(os:OsState):goT p0 (w.withFollow row b) 11 (U (.ref 6)) 7890 (at0 w os,topStub p0)=fin (w.withFollow row b) os:=Ot (N:=5526) 2364 _ (h w os)
def GH{α β γ:Type}{X:Option SharedT}{S:SharedT->Bool}{Xe:SharedT->α×β}{Y:SharedT->γ}{a:α}{b:β}{c:γ}(x:X.map (λr=>(S r,(Xe r).1,Y r))=U (O,a,c))(y:X.map (λr=>(Xe r).2)=U b):X.map (λr=>(S r,Xe r,Y r))=U (O,(a,b),c):=by
 cases X with
 |none=>cases x
 |some r=>
  simp only[Gcq,Gdg,Gbe] at x y⊢;exact⟨x.1,Prod.ext x.2.1 y,x.2.2⟩
def way(h:GF b):Way p0 view loose xt hook.obs hook.val 7890 11 (U (.ref 6)) row b:=λw os=>by
 rw[run h w os,og];exact GH (v1 (w.withFollow row b) os) (v2 (w.withFollow row b) os)
def left:LeftO p0 view loose xt hook.obs hook.val 7890:=GC (row:=row) rfl (λ_=>rfl) rfl (λ_ _=>by kernel_rfl) (λ_=>by kernel_rfl) (way h0) (way h1)
end
end Hd
namespace DL
open PySem
abbrev Key:=Sum Int Str
set_option genInjectivity true in
inductive D where
 |non
 |bl (b:Bool)
 |int (i:Int)
 |str (x:Str)
 |tup (ds:List D)
 |lst (ds:List D)
 |scr (ns:List Int)
 |exc (C:Nat) (n:Str) (d:D)
 |obj (C:Nat) (ns:List Str) (ds:List D)
 |kid (ds:List D)
 |kt (ks:List Key)
 deriving Inhabited
mutual
@[simp] def D.imm:D->Bool
 | .non=>O
 | .bl _=>O
 | .int _=>O
 | .str _=>O
 | .tup ds=>aj ds
 | .lst _=>M
 | .scr _=>O
 | .exc _ _ d=>d.imm
 | .obj _ _ _=>M
 | .kid _=>M
 | .kt _=>O
@[simp] def aj:List D->Bool
 |[]=>O
 |d::ds=>d.imm&&aj ds
end
def D.bI:D->Bool
 | .lst ds=>aj ds
 |d=>d.imm
noncomputable def D.top:D->Bool
 | .lst _=>O
 | .obj _ _ _=>O
 |_=>M
noncomputable def a7:Nat:=16777216
set_option genInjectivity true in
inductive Slot where
 |sh (d:D)
 |own (d:D)
 |lok (d:D)
 |bor (d:D)
abbrev Env:=List (Option Slot)
set_option genInjectivity true in
inductive Cls where
 |c|tn|to|tb
 deriving DecidableEq
set_option genInjectivity true in
structure RV where
 k:Cls
 d:D
abbrev SpF:=List D->Option D
abbrev SpV:=List D->Option RV
abbrev SpX:=List D->Option (D×List D)
abbrev DE:=Env->Option RV
abbrev DT:=Env->Option Bool
abbrev DA:=Env->Option (List RV)
abbrev DG:=D->Env->Option Env
set_option genInjectivity true in
inductive Out where
 |nx (e:Env)
 |ret (d:D)
 |bk (e:Env)
 |ct (e:Env)
abbrev DS:=Env->Option Out
def jk(d:D):RV:=⟨if d.top then .tn else .c,d⟩
def RV.free(r:RV):Bool:=match r.k with
 | .c=>O
 | .tn=>O
 |_=>M
@[simp] noncomputable def vE(i:Nat):DE:=λenv=>match env[i]? with
 |some (U (.sh d))=>U ⟨.c,d⟩
 |some (U (.own d))=>U ⟨.to,d⟩
 |some (U (.lok d))=>U ⟨.tb,d⟩
 |some (U (.bor d))=>U ⟨.tb,d⟩
 |_=>J
@[simp] noncomputable def kE(d:D):DE:=λ_=>U ⟨.c,d⟩
@[simp] def Xn(o:D->D->Option RV)(f g:DE):DE:=λenv=>(f env).bind λx=>(g env).bind λy=>o x.d y.d
@[simp] def unE(o:D->Option RV)(f:DE):DE:=λenv=>(f env).bind λx=>o x.d
def sD:D->D->Option RV
 | .int i,.int j=>U ⟨.c,.int (i+j)⟩
 | .str x,.str y=>if x.length+y.length<=a7 then U ⟨.c,.str (x++y)⟩ else J
 | .tup x,.tup y=>if x.length+y.length<=a7/\0<x.length then U ⟨.c,.tup (x++y)⟩ else J
 | .lst x,.lst y=>if x.length+y.length<=a7 then U ⟨.tn,.lst (x++y)⟩ else J
 |_,_=>J
noncomputable def mw:D->D->Option RV
 | .int i,.int j=>U ⟨.c,.int (i -j)⟩
 |_,_=>J
noncomputable def bO(i j:Int):Bool:=decide (i.natAbs<18446744073709551616)||decide (j.natAbs<18446744073709551616)
def dq:D->D->Option RV
 | .int i,.int j=>if bO i j then U ⟨.c,.int (i*j)⟩ else J
 |_,_=>J
noncomputable def l5:D->D->Option RV
 | .int i,.int j=>if 0<j/\j<1073741824 then U ⟨.c,.int (i/j)⟩ else J
 |_,_=>J
noncomputable def gg:D->D->Option RV
 | .int i,.int j=>if 0<j then U ⟨.c,.int (i%j)⟩ else J
 |_,_=>J
noncomputable def jl:D->Option RV
 | .int i=>U ⟨.c,.int (-i)⟩
 |_=>J
@[simp] noncomputable def aY:Nat->D->Bool
 |_,.non=>O
 |_,.bl _=>O
 |_,.int _=>O
 |_,.str _=>O
 |n+1,.tup ds=>ds.all (aY n)
 |n+1,.lst ds=>ds.all (aY n)
 |_,_=>M
@[simp] def D.plain(d:D):Bool:=aY 20 d
mutual
def eqD:D->D->Bool
 | .non,.non=>O
 | .bl a,.bl b=>a==b
 | .bl a,.int b=>(if a then 1 else 0)==b
 | .int a,.bl b=>a==(if b then 1 else 0)
 | .int a,.int b=>a==b
 | .str a,.str b=>a==b
 | .tup a,.tup b=>l8 a b
 | .lst a,.lst b=>l8 a b
 |_,_=>M
@[simp] def l8:List D->List D->Bool
 |[],[]=>O
 |a::as,b::bs=>eqD a b&&l8 as bs
 |_,_=>M
end
@[simp] theorem QK:eqD .non .non=O:=rfl
@[simp] theorem RI:eqD (.bl a) (.bl b)=(a==b):=rfl
@[simp] theorem RJ:eqD (.int a) (.int b)=(a==b):=rfl
@[simp] theorem RK:eqD (.str a) (.str b)=(a==b):=rfl
@[simp] theorem RL:eqD (.tup a) (.tup b)=l8 a b:=rfl
def eqB(x y:D):Option Bool:=if x.plain&&y.plain then U (eqD x y) else J
def neB(x y:D):Option Bool:=if x.plain&&y.plain then U (!eqD x y) else J
noncomputable def fT:D->Bool
 | .non=>O
 |_=>M
def gx(x y:D):Option Bool:=if fT y then U (fT x) else J
def Cp(x y:D):Option Bool:=if fT y then U (!fT x) else J
noncomputable def ltB:D->D->Option Bool
 | .int i,.int j=>U (decide (i<j))
 |_,_=>J
noncomputable def leB:D->D->Option Bool
 | .int i,.int j=>U (decide (i<=j))
 |_,_=>J
noncomputable def gtB:D->D->Option Bool
 | .int i,.int j=>U (decide (j<i))
 |_,_=>J
noncomputable def geB:D->D->Option Bool
 | .int i,.int j=>U (decide (j<=i))
 |_,_=>J
@[simp] def aw(o:D->D->Option Bool)(f g:DE):DT:=λenv=>(f env).bind λx=>(g env).bind λy=>o x.d y.d
@[simp] noncomputable def bE(t:DT):DE:=λenv=>(t env).map λb=> ⟨.c,.bl b⟩
@[simp] def dF(f:DE):DT:=λenv=>(f env).bind λx=>match x.d with
 | .bl b=>U b
 |_=>J
@[simp] noncomputable def gh(t u:DT):DT:=λenv=>(t env).bind λb=>if b then u env else U M
@[simp] noncomputable def orT(t u:DT):DT:=λenv=>(t env).bind λb=>if b then U O else u env
@[simp] noncomputable def ku(t:DT):DT:=λenv=>(t env).map (!·)
@[simp] def my(o p:D->D->Option Bool)(f g h:DE):DT:=λenv=>(f env).bind λx=>(g env).bind λy=>(o x.d y.d).bind λb=>if b then(h env).bind λz=>p y.d z.d else U M
@[simp] def ifE(t:DT)(f g:DE):DE:=λenv=>(t env).bind λb=>if b then f env else g env
noncomputable def atD{α:Type}(xs:List α)(i:Int):Option α:=if 0<=i then xs[i.toNat]? else if -(xs.length:Int)<=i then xs[(i+xs.length).toNat]? else J
noncomputable def keyOf:D->Option Key
 | .int i=>U (.inl i)
 | .str x=>U (.inr x)
 |_=>J
section
variable{Y:Type} [DecidableEq Y]
def look(kvs:List (Y×D))(k:Y):Option D:=(kvs.find? λkv=>decide (kv.1=k)).map (·.2)
def put(kvs:List (Y×D))(k:Y)(v:D):List (Y×D):=
 if(kvs.any λkv=>decide (kv.1=k))=O then kvs.map (λkv=>if kv.1=k then(kv.1,v) else kv) else kvs++[(k,v)]
end
def ixD:D->D->Option D
 | .lst xs,.int i=>atD xs i
 | .tup xs,.int i=>atD xs i
 | .str x,.int i=>if x.length<=a7 then(atD x.cps.toList i).map λc=> .str ⟨#[c]⟩ else J
 | .scr ns,.int i=>(atD ns i).map .int
 |_,_=>J
@[simp] def Xm(f g:DE):DE:=λenv=>(f env).bind λx=>(g env).bind λy=>(ixD x.d y.d).map λd=> ⟨.c,d⟩
@[simp] noncomputable def aM:DA:=λ_=>U []
@[simp] def ak(f:DE)(r:DA):DA:=λenv=>(f env).bind λx=>(r env).bind λxs=>U (x::xs)
@[simp] def gk(a:DA):DE:=λenv=>(a env).bind λrs=>if rs.all (·.free)&&decide (rs.length<=a7) then U ⟨.c,.tup (rs.map (·.d))⟩ else J
@[simp] def jf(a:DA):DE:=λenv=>(a env).bind λrs=>if rs.all (·.free)&&decide (rs.length<=a7) then U ⟨.tn,.lst (rs.map (·.d))⟩ else J
@[simp] def bF(sp:SpF)(a:DA):DE:=λenv=>(a env).bind λrs=>(sp (rs.map (·.d))).map jk
@[simp] noncomputable def jY(o:SpV)(a:DA):DE:=λenv=>(a env).bind λrs=>o (rs.map (·.d))
def cW:SpV
 |[.lst xs]=>U ⟨.c,.int xs.length⟩
 |[.tup xs]=>U ⟨.c,.int xs.length⟩
 |[.str x]=>if x.length<=a7 then U ⟨.c,.int x.length⟩ else J
 |[.scr ns]=>U ⟨.c,.int ns.length⟩
 |[.kt ks]=>U ⟨.c,.int ks.length⟩
 |_=>J
noncomputable def jm:SpV
 |[.int i,.int j]=>U ⟨.c,.int (if j<i then j else i)⟩
 |_=>J
noncomputable def bz:SpV
 |[.lst xs]=>U ⟨.c,.tup xs⟩
 |[.tup xs]=>U ⟨.c,.tup xs⟩
 |_=>J
noncomputable def listS:SpV
 |[.lst xs]=>U ⟨.tn,.lst xs⟩
 |[.tup xs]=>U ⟨.tn,.lst xs⟩
 |_=>J
@[simp] noncomputable def qU:List D->Option (List Bool)
 |[]=>U []
 | .bl b::ds=>(qU ds).map (b:: ·)
 |_=>J
@[simp] noncomputable def sF:List D->Option (List Int)
 |[]=>U []
 | .int i::ds=>(sF ds).map (i:: ·)
 |_=>J
def sG:D->Option (List D)
 | .lst xs=>U xs
 | .tup xs=>U xs
 | .scr ns=>U (ns.map .int)
 |_=>J
def one(o:SpV):SpV
 |[d]=>(sG d).bind o
 |_=>J
def sI:SpV:=one λds=>(qU ds).map λbs=> ⟨.c,.bl (bs.all id)⟩
def sJ(i:Int)(ns:List Int):Int:=ns.foldl (λa b=>if b>a then b else a) i
def pV:SpV:=one λds=>(sF ds).bind λns=>match ns with
 |[]=>J
 |n::ns=>U ⟨.c,.int (sJ n ns)⟩
noncomputable def pB(T:String):D->Bool
 | .non=>T=="NoneType"
 | .bl _=>T=="bool"||T=="int"
 | .int _=>T=="int"
 | .str _=>T=="str"
 | .tup _=>T=="tuple"
 | .lst _=>T=="list"
 | .scr _=>T=="list"
 | .exc _ _ _=>M
 | .obj _ _ _=>M
 | .kid _=>M
 | .kt _=>M
noncomputable def l9:D->Bool
 | .scr _=>O
 | .exc _ _ _=>O
 | .obj _ _ _=>O
 | .kid _=>O
 | .kt _=>O
 |_=>M
@[simp] def jZ(T:String)(f:DE):DT:=λenv=>(f env).bind λx=>if l9 x.d then J else U (pB T x.d)
noncomputable def sIx(n d:Nat):Option Int->Nat
 |none=>d
 |some v=>if v<0 then(v+(n:Int)).toNat else min v.toNat n
def cutD{α:Type}(xs:List α)(lo hi:Option Int):List α:=(xs.drop (sIx xs.length 0 lo)).take (sIx xs.length xs.length hi -sIx xs.length 0 lo)
abbrev DO:=Env->Option (Option Int)
@[simp] noncomputable def noO:DO:=λ_=>U J
@[simp] def aV(f:DE):DO:=λenv=>(f env).bind λx=>match x.d with
 | .int i=>U (U i)
 |_=>J
def slD(lo hi:Option Int):D->Option RV
 | .lst xs=>U ⟨.tn,.lst (cutD xs lo hi)⟩
 | .tup xs=>if sIx xs.length 0 lo=0/\sIx xs.length xs.length hi=xs.length then J else U ⟨.c,.tup (cutD xs lo hi)⟩
 | .scr ns=>U ⟨.tn,.lst (cutD (ns.map .int) lo hi)⟩
 |_=>J
@[simp] def slE(f:DE)(lo hi:DO):DE:=λenv=>(f env).bind λx=>(lo env).bind λl=>(hi env).bind λh=>slD l h x.d
@[simp] noncomputable def gN(i:Nat):DG:=λd env=>U (env.set i (U (.sh d)))
@[simp] noncomputable def gNs:List Nat->List D->Env->Option Env
 |[],[],env=>U env
 |i::is,d::ds,env=>gNs is ds (env.set i (U (.sh d)))
 |_,_,_=>J
@[simp] def gT(is:List Nat):DG:=λd env=>match d with
 | .tup ds=>gNs is ds env
 |_=>J
@[simp] noncomputable def aE:DS:=λenv=>U (.nx env)
@[simp] noncomputable def uT:DS:=λ_=>J
@[simp] def ao(f g:DS):DS:=λenv=>(f env).bind λo=>match o with
 | .nx e=>g e
 |o=>U o
def stored(i:Nat)(r:RV)(env:Env):Option Env:=match r.k with
 | .c=>U (env.set i (U (.sh r.d)))
 | .tn=>U (env.set i (U (.own r.d)))
 |_=>J
@[simp] def au(i:Nat)(f:DE):DS:=λenv=>(f env).bind λr=>(stored i r env).map .nx
@[simp] def GI(g:DG)(f:DE):DS:=λenv=>(f env).bind λr=>match r.k with
 | .c=>(g r.d env).map .nx
 |_=>J
def sL(r:RV):Bool:=match r.k with
 | .c=>r.d.imm
 | .tn=>r.d.bI
 | .to=>r.d.bI
 | .tb=>M
@[simp] def Xi(f:DE):DS:=λenv=>(f env).bind λr=>if sL r then U (.ret r.d) else J
@[simp] def ifS(t:DT)(f g:DS):DS:=λenv=>(t env).bind λb=>if b then f env else g env
@[simp] def Xj(g:DG)(body:DS):List D->Env->Option Out
 |[],env=>U (.nx env)
 |d::ds,env=>(g d env).bind λe=>(body e).bind λo=>match o with
  | .nx e=>Xj g body ds e
  | .ct e=>Xj g body ds e
  | .bk e=>U (.nx e)
  | .ret d=>U (.ret d)
abbrev DI:=Env->Option (List D)
@[simp] noncomputable def bM(l:Option Nat)(env:Env):Env:=match l with
 |none=>env
 |some i=>match env[i]? with
  |some (U (.own d))=>env.set i (U (.lok d))
  |_=>env
@[simp] noncomputable def mV(l:Option Nat)(env:Env):Bool:=match l with
 |none=>M
 |some i=>match env[i]? with
  |some (U (.own _))=>O
  |_=>M
@[simp] noncomputable def iF(l:Option Nat)(env:Env):Env:=match l with
 |none=>env
 |some i=>match env[i]? with
  |some (U (.lok d))=>env.set i (U (.own d))
  |_=>env
def freed(l:Option Nat)(b:Bool):Out->Out
 | .nx e=> .nx (if b then iF l e else e)
 |o=>o
@[simp] def gy(l:Option Nat)(src:DI)(g:DG)(body:DS):DS:=λenv=>(src (bM l env)).bind λds=>(Xj g body ds (bM l env)).map (freed l (mV l env))
@[simp] def Cq(f:DE):DI:=λenv=>(f env).bind λr=>if r.k= .to then J else match r.d with
 | .lst xs=>U xs
 | .tup xs=>U xs
 | .scr ns=>U (ns.map .int)
 |_=>J
noncomputable def aO(lo:Int)(n:Nat):List D:=(List.range n).map λ(k:Nat)=> .int (lo+(k:Int))
noncomputable def bt(i:Int):Bool:=decide (-4611686018427387904<=i)&&decide (i<4611686018427387904)
@[simp] def aS(f:DE):DI:=λenv=>(f env).bind λr=>match r.d with
 | .int j=>if bt j then U (aO 0 j.toNat) else J
 |_=>J
@[simp] def gz(f g:DE):DI:=λenv=>(f env).bind λx=>(g env).bind λy=>match x.d,y.d with
 | .int i,.int j=>if bt i&&bt j then U (aO i (j -i).toNat) else J
 |_,_=>J
@[simp] noncomputable def ownAt(i:Nat)(env:Env):Option D:=match env[i]? with
 |some (U (.own d))=>U d
 |_=>J
@[simp] def cL(i:Nat)(f:DE):DS:=λenv=>(f env).bind λr=>(ownAt i env).bind λd=>match d with
 | .lst xs=>if r.free&&decide (xs.length<a7) then U (.nx (env.set i (U (.own (.lst (xs++[r.d])))))) else J
 |_=>J
noncomputable def putD(d k v:D):Option D:=match d with
 | .lst xs=>match k with
  | .int j=>if 0<=j/\j<xs.length then U (.lst (xs.set j.toNat v)) else if j<0/\-(xs.length:Int)<=j then U (.lst (xs.set (j+xs.length).toNat v)) else J
  |_=>J
 |_=>J
@[simp] def nF(i:Nat)(k v:DE):DS:=λenv=>(v env).bind λx=>(k env).bind λy=>(ownAt i env).bind λd=>if x.free then(putD d y.d x.d).map λd=> .nx (env.set i (U (.own d))) else J
noncomputable def dG:Option Slot->Option Slot
 |some (.sh d)=>U (.sh d)
 |some (.own d)=>U (.bor d)
 |some (.lok d)=>U (.bor d)
 |some (.bor d)=>U (.bor d)
 |none=>J
def Xk(n:Nat)(eF:List Nat)(env:Env):Env:=List.replicate n J++eF.map λi=>dG (env[i]?.getD J)
@[simp] def cq(g:DG)(t:DT)(f:DE):List D->Env->Option (List D)
 |[],_=>U []
 |d::ds,env=>(g d env).bind λe=>(t e).bind λb=>if b then(f e).bind λr=>if r.free then(cq g t f ds e).map (r.d:: ·) else J else cq g t f ds e
@[simp] def bu(l:Option Nat)(n:Nat)(eF:List Nat)(src:DI)(g:DG)(t:DT)(f:DE):DE:=λenv=>(src (bM l env)).bind λds=>if ds.length<=a7 then(cq g t f ds (Xk n eF env)).map λrs=> ⟨.tn,.lst rs⟩ else J
@[simp] noncomputable def bc:DT:=λ_=>U O
@[simp] noncomputable def dv(n:Nat)(ds:List D):Env:=ds.map (λd=>U (.sh d))++List.replicate (n -ds.length) J
@[simp] def cN(n np:Nat)(body:DS):SpF:=λds=>if ds.length=np then(body (dv n ds)).bind λo=>match o with
  | .ret d=>U d
  | .nx _=>U .non
  |_=>J
 else J
@[simp] theorem GJ:Str.ofString a=Str.ofString b↔a=b:=by
 constructor
 .intro h;rw[GcD,GcD] at h;have h1:a.toList.map Char.toNat=b.toList.map Char.toNat:=by
   injection h with h
   exact Array.toList_inj.mpr h|>λz=>by simpa using z
  have h2:a.toList=b.toList:=by
   have inj:∀(x y:List Char),x.map Char.toNat=y.map Char.toNat->x=y:=by
    intro x;induction x with
    |nil=>intro y e;cases y with
     |nil=>rfl
     |cons=>simp at e
    |cons c x ih=>intro y e;cases y with
     |nil=>simp at e
     |cons c' y=>
      simp only[GaI,List.cons.injEq] at e;rw[ih y e.2,Char.toNat_inj.mp e.1]
   exact inj _ _ h1
  exact String.toList_inj.mp h2
 .rintro rfl;rfl
@[simp] theorem Ou{x y:Str}:sD (.str x) (.str y)=if x.length+y.length<=a7 then U ⟨.c,.str (x++y)⟩ else J:=rfl
@[simp] theorem Ov{ds es:List D}:sD (.tup ds) (.tup es)=if ds.length+es.length<=a7/\0<ds.length then U ⟨.c,.tup (ds++es)⟩ else J:=rfl
@[simp] theorem Ox{ds es:List D}:sD (.lst ds) (.lst es)=if ds.length+es.length<=a7 then U ⟨.tn,.lst (ds++es)⟩ else J:=rfl
@[simp] theorem Oy:mw (.int i) (.int j)=U ⟨.c,.int (i -j)⟩:=rfl
@[simp] theorem Oz:dq (.int i) (.int j)=if bO i j then U ⟨.c,.int (i*j)⟩ else J:=rfl
@[simp] theorem NC:l5 (.int i) (.int j)=if 0<j/\j<1073741824 then U ⟨.c,.int (i/j)⟩ else J:=rfl
@[simp] theorem OA:gg (.int i) (.int j)=if 0<j then U ⟨.c,.int (i%j)⟩ else J:=rfl
@[simp] theorem OB:jl (.int i)=U ⟨.c,.int (-i)⟩:=rfl
@[simp] theorem QL:ltB (.int i) (.int j)=U (decide (i<j)):=rfl
@[simp] theorem QM:leB (.int i) (.int j)=U (decide (i<=j)):=rfl
@[simp] theorem QN:gtB (.int i) (.int j)=U (decide (j<i)):=rfl
@[simp] theorem QO:geB (.int i) (.int j)=U (decide (j<=i)):=rfl
@[simp] theorem QP:eqB (.int i) (.int j)=U (i==j):=rfl
@[simp] theorem lj:eqB (.str x) (.str y)=U (x==y):=rfl
@[simp] theorem QQ:neB (.int i) (.int j)=U (!(i==j)):=rfl
@[simp] theorem GK:neB (.str x) (.str y)=U (!(x==y)):=rfl
@[simp] theorem ND:fT .non=O:=rfl
@[simp] theorem NF:fT (.int i)=M:=rfl
@[simp] theorem NG:fT (.str x)=M:=rfl
@[simp] theorem OC:gx d .non=U (fT d):=rfl
@[simp] theorem oh{ds:List D}:cW [.lst ds]=U ⟨.c,.int ds.length⟩:=rfl
@[simp] theorem OD{ds:List D}:cW [.tup ds]=U ⟨.c,.int ds.length⟩:=rfl
@[simp] theorem cy{x:Str}:cW [.str x]=if x.length<=a7 then U ⟨.c,.int x.length⟩ else J:=rfl
@[simp] theorem OE{ns:List Int}:cW [.scr ns]=U ⟨.c,.int ns.length⟩:=rfl
@[simp] theorem AR:jm [.int i,.int j]=U ⟨.c,.int (if j<i then j else i)⟩:=rfl
@[simp] theorem KD:bz [.lst ds]=U ⟨.c,.tup ds⟩:=rfl
@[simp] theorem NH:listS [.lst ds]=U ⟨.tn,.lst ds⟩:=rfl
@[simp] theorem OF:pB T .non=(T=="NoneType"):=rfl
@[simp] theorem QR:pB T (.bl b)=(T=="bool"||T=="int"):=rfl
@[simp] theorem OG:pB T (.int i)=(T=="int"):=rfl
@[simp] theorem OH:pB T (.str x)=(T=="str"):=rfl
@[simp] theorem OI:pB T (.tup ds)=(T=="tuple"):=rfl
@[simp] theorem OJ:pB T (.lst ds)=(T=="list"):=rfl
@[simp] theorem NI:l9 (.int i)=M:=rfl
@[simp] theorem NJ:l9 (.str x)=M:=rfl
@[simp] theorem NK:l9 (.tup ds)=M:=rfl
@[simp] theorem NL:l9 (.lst ds)=M:=rfl
@[simp] theorem QS:slD lo hi (.lst ds)=U ⟨.tn,.lst (cutD ds lo hi)⟩:=rfl
@[simp] theorem QT{ds:List D}:slD lo hi (.tup ds)=if sIx ds.length 0 lo=0/\sIx ds.length ds.length hi=ds.length then J else U ⟨.c,.tup (cutD ds lo hi)⟩:=rfl
@[simp] theorem OK{env:Env}:stored n ⟨.c,d⟩ env=U (env.set n (U (.sh d))):=rfl
@[simp] theorem NM{env:Env}:stored n ⟨.tn,d⟩ env=U (env.set n (U (.own d))):=rfl
@[simp] theorem QU{d:D}:sL ⟨.c,d⟩=d.imm:=rfl
@[simp] theorem OL{d:D}:sL ⟨.to,d⟩=d.bI:=rfl
@[simp] theorem NN:(D.lst ds).bI=aj ds:=rfl
@[simp] theorem OM:jk .non=⟨.c,.non⟩:=rfl
@[simp] theorem QV:jk (.bl b)=⟨.c,.bl b⟩:=rfl
@[simp] theorem ON:jk (.int i)=⟨.c,.int i⟩:=rfl
@[simp] theorem OP:jk (.str x)=⟨.c,.str x⟩:=rfl
@[simp] theorem OQ:jk (.tup ds)=⟨.c,.tup ds⟩:=rfl
@[simp] theorem OR:jk (.lst ds)=⟨.tn,.lst ds⟩:=rfl
@[simp] theorem RM:RV.free ⟨.c,d⟩=O:=rfl
@[simp] theorem OS:freed l b (.nx env)= .nx (if b then iF l env else env):=rfl
@[simp] theorem NO:freed l b (.ret d)= .ret d:=rfl
@[simp] theorem NP:keyOf (.str x)=U (.inr x):=rfl
@[simp] theorem we:ixD (.lst ds) (.int i)=atD ds i:=rfl
@[simp] theorem QW:ixD (.tup ds) (.int i)=atD ds i:=rfl
@[simp] theorem QX:ixD (.scr ns) (.int i)=(atD ns i).map .int:=rfl
@[simp] theorem dU{x:Str}:ixD (.str x) (.int i)=if x.length<=a7 then(atD x.cps.toList i).map λc=> .str ⟨#[c]⟩ else J:=rfl
def ie{α:Type}{xs:List α}{k:Nat}:atD xs (k:Int)=xs[k]? :=by
 unfold atD;rw[Gaj ?B];simp
@[simp] theorem Tb{α:Type}{xs:List α}:atD xs 0=xs[0]? :=rfl
@[simp] theorem Tc{α:Type}{xs:List α}:atD xs 1=xs[1]? :=rfl
@[simp] theorem Td{α:Type}{xs:List α}:atD xs 2=xs[2]? :=rfl
@[simp] theorem Te{α:Type}{xs:List α}:atD xs 3=xs[3]? :=rfl
@[simp] theorem Tf{α:Type}{xs:List α}:atD xs 4=xs[4]? :=rfl
@[simp] theorem Tg{α:Type}{xs:List α}:atD xs 5=xs[5]? :=rfl
open PySem.Spec PyProof.Rows L2
abbrev ag:=PySem.W.Frag
abbrev St:=L2.St
def isT:HO->Prop
 | .tup _=>True
 | .frz _ _=>True
 |_=>False
def Kl(K:ag)(a:Xo)(xs:List V):Prop:=∃(o:Xw) (eh:Array Xq) (n:Nat),K.lookup a=U o/\o.cls= .type "list"/\o.dict=J/\o.data= .seq eh n/\eh.size<=sizeLine/\Xh xs eh.toList
def Kt(K:ag)(a:Xo)(ks:List Key):Prop:=∃(o:Xw) (eh:Array Xq) (n:Nat),K.lookup a=U o/\o.cls= .type "tuple"/\o.data= .seq eh n/\eh.size<=sizeLine/\Xh (ks.map kV) eh.toList
def Scr(K:ag)(H:Hp)(a:Xo)(ns:List Int):Prop:=(∃o,H a=U (.frz o (.lst (ns.map V.int))))\/Kl K a (ns.map V.int)
def Xc(H:Hp)(a:Xo)(C:Nat)(n:Str)(v:V):Prop:=∃dx vs sl od,H a=U (.frz {cls:= .ref C,dict:=U dx,data:= .fields vs,slots:=sl} (.own a))/\H dx=U (.frz od (.xd [(n,v)]))
def Kd(ds:List D)(vs:List V):Prop:=∀(i j:Nat) l g,ds[i]? =U (.kid l)->vs[i]? =U (.ref g)->vs[j]? =U (.ref g)->i=j
inductive Rep (K:ag) (F:Xo->Prop) (H:Hp):D->V->Prop where
 |non:Rep K F H .non .non
 |bl (b:Bool):Rep K F H (.bl b) (.bl b)
 |int (i:Int):Rep K F H (.int i) (.int i)
 |str (x:Str):Rep K F H (.str x) (.str x)
 |tup {a:Xo} {vs:List V} {ds:List D} (h:H a=U (.tup vs)) (l:ds.length=vs.length) (r:∀(i:Nat) d v,ds[i]? =U d->vs[i]? =U v->Rep K F H d v):Rep K F H (.tup ds) (.ref a)
 |lst {a:Xo} {vs:List V} {ds:List D} (f:F a) (h:Rd H a (.lst vs)) (l:ds.length=vs.length) (r:∀(i:Nat) d v,ds[i]? =U d->vs[i]? =U v->Rep K F H d v):Rep K F H (.lst ds) (.ref a)
 |scr {a:Xo} {ns:List Int} (h:Scr K H a ns):Rep K F H (.scr ns) (.ref a)
 |kt {a:Xo} {ks:List Key} (h:Kt K a ks):Rep K F H (.kt ks) (.ref a)
 |exc {a:Xo} {C:Nat} {n:Str} {v:V} {d:D} (h:Xc H a C n v) (r:Rep K F H d v):Rep K F H (.exc C n d) (.ref a)
 |obj {a dx C:Xo} {ns:List Str} {vs:List V} {ds:List D} (f:F a) (h:H a=U (.ins C dx (ns.zip vs))) (ln:ns.length=vs.length) (kd:Kd ds vs) (l:ds.length=vs.length) (r:∀(i:Nat) d v,ds[i]? =U d->vs[i]? =U v->Rep K F H d v):Rep K F H (.obj C ns ds) (.ref a)
 |kid {a:Xo} {vs:List V} {ds:List D} (f:F a) (h:H a=U (.lst vs)) (l:ds.length=vs.length) (r:∀(i:Nat) d v,ds[i]? =U d->vs[i]? =U v->Rep K F H d v):Rep K F H (.kid ds) (.ref a)
def aP(K:ag)(F:Xo->Prop)(H:Hp)(ds:List D)(vs:List V):Prop:=ds.length=vs.length/\∀(i:Nat) d v,ds[i]? =U d->vs[i]? =U v->Rep K F H d v
inductive Inn (K:ag) (F:Xo->Prop) (H:Hp):D->V->Prop where
 |non:Inn K F H .non .non
 |bl (b:Bool):Inn K F H (.bl b) (.bl b)
 |int (i:Int):Inn K F H (.int i) (.int i)
 |str (x:Str):Inn K F H (.str x) (.str x)
 |tup {a:Xo} {vs:List V} {ds:List D} (h:H a=U (.tup vs)) (r:aP K F H ds vs):Inn K F H (.tup ds) (.ref a)
 |lst {a:Xo} {vs:List V} {ds:List D} (h:Rd H a (.lst vs)) (r:aP K F H ds vs):Inn K F H (.lst ds) (.ref a)
 |scr {a:Xo} {ns:List Int} (h:Scr K H a ns):Inn K F H (.scr ns) (.ref a)
 |kt {a:Xo} {ks:List Key} (h:Kt K a ks):Inn K F H (.kt ks) (.ref a)
 |exc {a:Xo} {C:Nat} {n:Str} {v:V} {d:D} (h:Xc H a C n v) (r:Rep K F H d v):Inn K F H (.exc C n d) (.ref a)
 |obj {a dx C:Xo} {ns:List Str} {vs:List V} {ds:List D} (h:H a=U (.ins C dx (ns.zip vs))) (ln:ns.length=vs.length) (kd:Kd ds vs) (r:aP K F H ds vs):Inn K F H (.obj C ns ds) (.ref a)
 |kid {a:Xo} {vs:List V} {ds:List D} (f:F a) (h:H a=U (.lst vs)) (r:aP K F H ds vs):Inn K F H (.kid ds) (.ref a)
section
variable{F:Xo->Prop}{H H' :Hp}
def Rep.inn{K:ag}(h:Rep K F H d v):Inn K F H d v:=by
 cases h with
 |non=>exact .non
 |bl b=>exact .bl b
 |int i=>exact .int i
 |str x=>exact .str x
 |tup h l r=>exact .tup h ⟨l,r⟩
 |lst f h l r=>exact .lst h ⟨l,r⟩
 |scr h=>exact .scr h
 |kt h=>exact .kt h
 |exc h r=>exact .exc h r
 |obj f h ln kd l r=>exact .obj h ln kd ⟨l,r⟩
 |kid f h l r=>exact .kid f h ⟨l,r⟩
def Inn.rep{K:ag}{d:D}(h:Inn K F H d v)(hf:∀a,v= .ref a->d.top=O->F a):Rep K F H d v:=by
 cases h with
 |non=>exact .non
 |bl b=>exact .bl b
 |int i=>exact .int i
 |str x=>exact .str x
 |tup h r=>exact .tup h r.1 r.2
 |lst h r=>exact .lst (hf _ rfl rfl) h r.1 r.2
 |scr h=>exact .scr h
 |kt h=>exact .kt h
 |exc h r=>exact .exc h r
 |obj h ln kd r=>exact .obj (hf _ rfl rfl) h ln kd r.1 r.2
 |kid f h r=>exact .kid f h r.1 r.2
def jg(F:Xo->Prop)(H H' :Hp):Prop:=∀b o,H b=U o->(F b\/isT o)->H' b=U o
def jg.Xl(h:bp H H'):jg F H H' :=λb o e _=>h b o e
theorem jg.tup{vs:List V}{a:Xo}(s:jg F H H')(h:H a=U (.tup vs)):H' a=U (.tup vs):=s _ _ h (.inr trivial)
def jg.scr{K:ag}{a:Xo}{ns:List Int}(s:jg F H H')(h:Scr K H a ns):Scr K H' a ns:=by
 rcases h with⟨o,h⟩|h
 .exact .inl ⟨o,s _ _ h (.inr trivial)⟩
 .exact .inr h
def jg.xc(s:jg F H H')(h:Xc H a C n v):Xc H' a C n v:=let⟨dx,vs,sl,od,h1,h2⟩:=h;⟨dx,vs,sl,od,s _ _ h1 (.inr trivial),s _ _ h2 (.inr trivial)⟩
def jg.rd(s:jg F H H')(f:F a)(h:Rd H a u):Rd H' a u:=by
 rcases h with h| ⟨o,h⟩
 .exact .inl (s _ _ h (.inl f))
 .exact .inr ⟨o,s _ _ h (.inl f)⟩
def Rd.there(h:Rd H a u):H a≠J:=by
 rcases h with h| ⟨o,h⟩<;>rw[h]<;>simp
def Rep.gen{K:ag}{F' :Xo->Prop}(s:jg F H H')(hF:∀b,F b->H b≠J->F' b)(h:Rep K F H d v):Rep K F' H' d v:=by
 induction h with
 |non=>exact .non
 |bl b=>exact .bl b
 |int i=>exact .int i
 |str x=>exact .str x
 |tup h l r ih=>exact .tup (s.tup h) l ih
 |lst f h l r ih=>exact .lst (hF _ f (Rd.there h)) (s.rd f h) l ih
 |scr h=>exact .scr (s.scr h)
 |kt h=>exact .kt h
 |exc h r ih=>exact .exc (s.xc h) ih
 |obj f h ln kd l r ih=>exact .obj (hF _ f ?H) (s _ _ h (.inl f)) ln kd l ih
 |kid f h l r ih=>exact .kid (hF _ f ?H) (s _ _ h (.inl f)) l ih
def Rep.same{K:ag}(s:bp H H')(h:Rep K F H d v):Rep K F H' d v:=h.gen (.Xl s) λ_ f _=>f
def Rep.imp{K:ag}{F' :Xo->Prop}(hF:∀b,F b->F' b)(h:Rep K F H d v):Rep K F' H d v:=h.gen (.Xl λ_ _ e=>e) λb f _=>hF b f
theorem aP.gen{K:ag}{F' :Xo->Prop}(s:jg F H H')(hF:∀b,F b->H b≠J->F' b)(h:aP K F H ds vs):aP K F' H' ds vs:=⟨h.1,λi d v e1 e2=>(h.2 i d v e1 e2).gen s hF⟩
theorem Inn.gen{K:ag}{F' :Xo->Prop}{d:D}(s:jg F H H')(hF:∀b,F b->H b≠J->F' b)(ht:∀a,v= .ref a->d.top=O->∀o,H a=U o->H' a=U o)(h:Inn K F H d v):Inn K F' H' d v:=by
 have rd:∀{a:Xo} {u:HO},(∀o,H a=U o->H' a=U o)->Rd H a u->Rd H' a u:=λk h=>by
  rcases h with h| ⟨o,h⟩
  .exact .inl (k _ h)
  .exact .inr ⟨o,k _ h⟩
 cases h with
 |non=>exact .non
 |bl b=>exact .bl b
 |int i=>exact .int i
 |str x=>exact .str x
 |tup h r=>exact .tup (s.tup h) (r.gen s hF)
 |lst h r=>exact .lst (rd (ht _ rfl rfl) h) (r.gen s hF)
 |scr h=>exact .scr (s.scr h)
 |kt h=>exact .kt h
 |exc h r=>exact .exc (s.xc h) (r.gen s hF)
 |obj h ln kd r=>exact .obj (ht _ rfl rfl _ h) ln kd (r.gen s hF)
 |kid f h r=>exact .kid (hF _ f ?B) (s _ _ h (.inl f)) (r.gen s hF)
def Inn.same{K:ag}(s:bp H H')(h:Inn K F H d v):Inn K F H' d v:=h.gen (.Xl s) (λ_ f _=>f) λ_ _ _ o e=>s _ o e
def Inn.imp{K:ag}{F' :Xo->Prop}(hF:∀b,F b->F' b)(h:Inn K F H d v):Inn K F' H d v:=h.gen (.Xl λ_ _ e=>e) (λb f _=>hF b f) λ_ _ _ _ e=>e
def Inn.any{K:ag}(h:Inn K F H d v):Rep K (λ_=>True) H d v:=(h.imp λ_ _=>trivial).rep λ_ _ _=>trivial
def qV(h:aj ds=O):∀(i:Nat) d,ds[i]? =U d->d.imm=O:=by
 induction ds with
 |nil=>intro i d e;simp at e
 |cons x xs ih=>
  unfold aj at h;rw[Gai] at h;intro i d e;cases i with
  |zero=>simp at e;subst e;exact h.1
  |succ i=>exact ih h.2 i d ?H
theorem Rep.imm{K:ag}{d:D}(h:Rep K F H d v)(hd:d.imm=O):Rep K F' H d v:=by
 induction h with
 |non=>exact .non
 |bl b=>exact .bl b
 |int i=>exact .int i
 |str x=>exact .str x
 |tup h l r ih=>
  exact .tup h l λi d v e1 e2=>ih i d v e1 e2 (qV hd i d e1)
 |lst f h l r ih=>simp at hd
 |scr h=>exact .scr h
 |kt h=>exact .kt h
 |exc h r ih=>
  exact .exc h (ih hd)
 |obj f h ln kd l r ih=>simp at hd
 |kid f h l r ih=>simp at hd
theorem Inn.imm{K:ag}{d:D}(h:Inn K F H d v)(hd:d.imm=O):Rep K F' H d v:=by
 refine Rep.imm (h.rep λa _ ht=> ?_) hd;cases d<;>simp[D.top] at ht<;>simp at hd
def aP.nil{K:ag}:aP K F H [] []:=⟨rfl,λi d v e=>by simp at e⟩
def aP.fm{K:ag}(h:aP K F H [] vs):vs=[]:=GbB h.1.symm
def aP.cons{K:ag}{d:D}{v:V}{ds:List D}{vs:List V}(h:Rep K F H d v)(r:aP K F H ds vs):aP K F H (d::ds) (v::vs):=by
 refine⟨by simp[r.1],λi x u e1 e2=> ?_⟩;cases i with
 |zero=>simp at e1 e2;subst e1;subst e2;exact h
 |succ i=>exact r.2 i x u ?H (by simpa using e2)
def aP.cons_inv{K:ag}(h:aP K F H (d::ds) vs):∃v r,vs=v::r/\Rep K F H d v/\aP K F H ds r:=by
 cases vs with
 |nil=>exact absurd h.1 ?E
 |cons v r=>exact⟨v,r,rfl,h.2 0 d v rfl rfl,by simpa using h.1,λi x u e1 e2=>h.2 (i+1) x u ?H (by simpa using e2)⟩
theorem aP.append{K:ag}:∀{ds es vs us},aP K F H ds vs->aP K F H es us->aP K F H (ds++es) (vs++us)
 |[],es,vs,us,h,r=>by rw[h.fm];exact r
 |d::ds,es,vs,us,h,r=>by
  obtain⟨v,w,rfl,h1,h2⟩:=h.cons_inv;exact .cons h1 (h2.append r)
theorem aP.take{K:ag}{ds:List D}{vs:List V}(n:Nat)(h:aP K F H ds vs):aP K F H (ds.take n) (vs.take n):=by
 refine⟨by simp[h.1],λi x u e1 e2=> ?_⟩;by_cases hi:i<n
 .rw[List.getElem?_take_of_lt hi] at e1 e2;exact h.2 i x u e1 e2
 .rw[Gbs (by simp;lia)] at e1;cases e1
theorem aP.drop{K:ag}{ds:List D}{vs:List V}(n:Nat)(h:aP K F H ds vs):aP K F H (ds.drop n) (vs.drop n):=by
 refine⟨by simp[h.1],λi x u e1 e2=> ?_⟩;rw[List.getElem?_drop] at e1 e2;exact h.2 _ x u e1 e2
theorem aP.set{K:ag}{ds:List D}{vs:List V}(h:aP K F H ds vs)(r:Rep K F H d v)(i:Nat):aP K F H (ds.set i d) (vs.set i v):=by
 refine⟨by simp[h.1],λj x u e1 e2=> ?_⟩;by_cases hj:i=j
 .subst hj;have hi:i<ds.length:=by have:=(Gac.mp e1).1;simpa using this
  rw[GaD hi] at e1;rw[GaD (by rw[<-h.1];exact hi)] at e2;lia
 .rw[Gad hj] at e1 e2;exact h.2 j x u e1 e2
def aP.get{K:ag}{i:Nat}(h:aP K F H ds vs)(e:ds[i]? =U d):∃v,vs[i]? =U v/\Rep K F H d v:=by
 have xB :i<vs.length:=by rw[<-h.1];exact((Gac.mp e).1)
 exact⟨vs[i],by simp,h.2 i d _ e ?E⟩
theorem aP.imm{K:ag}(h:aP K F H ds vs)(hd:aj ds=O):aP K F' H ds vs:=⟨h.1,λi d v e1 e2=>(h.2 i d v e1 e2).imm (qV hd i d e1)⟩
end
def bJ:Option (Option Slot)->Prop
 |some (U (.own _))=>True
 |some (U (.lok _))=>True
 |some (U (.bor _))=>True
 |_=>False
def lq:Option (Option Slot)->Prop
 |some (U (.own _))=>True
 |some (U (.lok _))=>True
 |_=>False
def isO:Option (Option Slot)->Prop
 |some (U (.own _))=>True
 |_=>False
def pC:Option (Option Slot)->Prop
 |some (U (.lok _))=>True
 |some (U (.bor _))=>True
 |_=>False
def pW(h:bJ x):isO x\/pC x:=by
 match x,h with
 |some (U (.own _)),_=>exact .inl trivial
 |some (U (.lok _)),_=>exact .inr trivial
 |some (U (.bor _)),_=>exact .inr trivial
def pC.top(h:pC x):bJ x:=by
 match x,h with
 |some (U (.lok _)),_=>trivial
 |some (U (.bor _)),_=>trivial
def isO.ol(h:isO x):lq x:=by
 match x,h with
 |some (U (.own _)),_=>trivial
def lq.top(h:lq x):bJ x:=by
 match x,h with
 |some (U (.own _)),_=>trivial
 |some (U (.lok _)),_=>trivial
def Cln(eg:Xo->Prop)(env:Env)(Z:St)(a:Xo):Prop:=¬eg a/\∀i:Nat,bJ env[i]? ->Z[i]? ≠U (U (V.ref a))
def isW:HO->Prop
 | .lst _=>True
 | .ins _ _ _=>True
 |_=>False
def Wr(H:Hp)(a:Xo):Prop:=∃o,H a=U o/\isW o
def isB:HO->Prop
 | .frz _ (.lst _)=>True
 |o=>isW o
def Wb(H:Hp)(a:Xo):Prop:=∃o,H a=U o/\isB o
def Wr.wb(w:Wr H a):Wb H a:=let⟨o,h,k⟩:=w;⟨o,h,by cases o<;>first|exact k|exact k.elim⟩
def Ow(env:Env)(Z:St)(a:Xo):Prop:=∃i:Nat,isO env[i]? /\Z[i]? =U (U (.ref a))
structure az(K:ag)(H0:Hp)(eg:Xo->Prop)(env:Env)(Z:St)(H:Hp):Prop where
 same:bp H0 H
 len:env.length=Z.length
 bad:∀a,eg a->H a≠J
 sh:∀(i:Nat) d,env[i]? =U (U (.sh d))->∃v,Z[i]? =U (U v)/\Rep K (Cln eg env Z) H d v
 ow:∀(i:Nat) d,(env[i]? =U (U (.own d))\/env[i]? =U (U (.lok d)))->∃a,Z[i]? =U (U (.ref a))/\H0 a=J/\¬eg a/\Wr H a/\d.top=O/\Inn K (Cln eg env Z) H d (.ref a)
 bo:∀(i:Nat) d,env[i]? =U (U (.bor d))->∃a,Z[i]? =U (U (.ref a))/\Wb H a/\d.top=O/\Inn K (Cln eg env Z) H d (.ref a)
 dj:∀(i j:Nat) a,lq env[i]? ->bJ env[j]? ->Z[i]? =U (U (.ref a))->Z[j]? =U (U (.ref a))->i=j
structure Stp(env:Env)(Z:St)(H:Hp)(eD :Env)(Z' :St)(H' :Hp):Prop where
 keep:∀b o,H b=U o->¬Ow env Z b->H' b=U o
 ow:∀b,Ow eD Z' b->Ow env Z b\/H b=J
 lk:∀i:Nat,pC eD[i]? ->eD[i]? =env[i]? /\Z'[i]? =Z[i]?
def Stp.refl:Stp env Z H env Z H:=⟨λ_ _ e _=>e,λ_ h=> .inl h,λ_ _=> ⟨rfl,rfl⟩⟩
def Stp.Xl(s:bp H H'):Stp env Z H env Z H' :=⟨λb o e _=>s b o e,λ_ h=> .inl h,λ_ _=> ⟨rfl,rfl⟩⟩
theorem Stp.trans(a:Stp e1 s1 H1 e2 s2 H2)(b:Stp e2 s2 H2 e3 s3 H3):Stp e1 s1 H1 e3 s3 H3:=by
 refine⟨λc o e n=>b.keep c o (a.keep c o e n) λh=> ?_,λc h=> ?_,λi h=> ?_⟩
 .rcases a.ow c h with q|q
  .exact n q
  .rw[e] at q;cases q
 .rcases b.ow c h with q|q
  .exact a.ow c q
  .by_cases z:Ow e1 s1 c
   .exact .inl z
   .right
    cases e:H1 c with
    |none=>rfl
    |some o=>rw[a.keep c o e z] at q;cases q
 .obtain⟨h1,h2⟩:=b.lk i h;rw[h1] at h;obtain⟨h3,h4⟩:=a.lk i h;exact⟨h1.trans h3,h2.trans h4⟩
section
variable{K:ag}{H0 H H' :Hp}{eg:Xo->Prop}{env:Env}{Z:St}{d:D}{v:V}{a:Xo}
def Wr.same(s:bp H H')(w:Wr H a):Wr H' a:=let⟨o,h1,h2⟩:=w;⟨o,s a o h1,h2⟩
def Wb.same(s:bp H H')(w:Wb H a):Wb H' a:=let⟨o,h1,h2⟩:=w;⟨o,s a o h1,h2⟩
def Wb.there(w:Wb H a):H a≠J:=let⟨o,h1,_⟩:=w;by rw[h1];simp
theorem az.mono(E:az K H0 eg env Z H)(s:bp H H'):az K H0 eg env Z H' where
 same:=E.same.trans s
 len:=E.len
 bad:=λa h e=>E.bad a h (s.free e)
 sh:=λi d e=>let⟨v,h1,h2⟩:=E.sh i d e;⟨v,h1,h2.same s⟩
 ow:=λi d e=>let⟨a,h1,h2,h3,h4,h5,h6⟩:=E.ow i d e;⟨a,h1,h2,h3,h4.same s,h5,h6.same s⟩
 bo:=λi d e=>let⟨a,h1,h2,h3,h4⟩:=E.bo i d e;⟨a,h1,h2.same s,h3,h4.same s⟩
 dj:=E.dj
variable{i:Nat}
def az.k9(E:az K H0 eg env Z H)(h:bJ env[i]?):∃d a,d.top=O/\Z[i]? =U (U (.ref a))/\Wb H a/\Inn K (Cln eg env Z) H d (.ref a):=by
 match e:env[i]?,h with
 |some (U (.own d)),_=>obtain⟨a,h1,_,_,h4,h5,h6⟩:=E.ow i d (.inl e);exact⟨d,a,h5,h1,h4.wb,h6⟩
 |some (U (.lok d)),_=>obtain⟨a,h1,_,_,h4,h5,h6⟩:=E.ow i d (.inr e);exact⟨d,a,h5,h1,h4.wb,h6⟩
 |some (U (.bor d)),_=>obtain⟨a,h1,h4,h5,h6⟩:=E.bo i d e;exact⟨d,a,h5,h1,h4,h6⟩
def az.Jm(E:az K H0 eg env Z H)(h:bJ env[i]?)(e:Z[i]? =U (U (.ref a))):Wb H a:=by
 obtain⟨d,b,h1,h2,h3,h4⟩:=E.k9 h;lia
def az.OT(E:az K H0 eg env Z H)(h:lq env[i]?)(e:Z[i]? =U (U (.ref a))):Wr H a:=by
 match q:env[i]?,h with
 |some (U (.own d)),_=>obtain⟨b,h1,_,_,h4,_⟩:=E.ow i d (.inl q);rw[e] at h1;cases h1;exact h4
 |some (U (.lok d)),_=>obtain⟨b,h1,_,_,h4,_⟩:=E.ow i d (.inr q);rw[e] at h1;cases h1;exact h4
def az.jo(E:az K H0 eg env Z H)(h:bJ env[i]?)(e:Z[i]? =U (U (.ref a))):H a≠J:=(E.Jm h e).there
def az.kz(E:az K H0 eg env Z H)(h:H a=J):Cln eg env Z a:=⟨λb=>E.bad a b h,λi t e=>E.jo t e h⟩
def fU(K:ag)(H0:Hp)(eg:Xo->Prop)(env:Env)(Z:St)(H H' :Hp)(r:RV)(v:V):Prop:=
 match r.k with
 | .c=>Rep K (Cln eg env Z) H' r.d v
 | .tn=>∃a,v= .ref a/\H a=J/\Wr H' a/\r.d.top=O/\Inn K (λb=>Cln eg env Z b/\b≠a) H' r.d v
 | .to=>∃a,v= .ref a/\H0 a=J/\Wr H' a/\r.d.top=O/\Inn K (Cln eg env Z) H' r.d v
 | .tb=>Inn K (Cln eg env Z) H' r.d v/\∀a,v= .ref a->r.d.top=O->¬Ow env Z a
theorem fU.inn{r:RV}(h:fU K H0 eg env Z H H' r v):Inn K (Cln eg env Z) H' r.d v:=by
 obtain⟨k,d⟩:=r;cases k with
 |c=>exact Rep.inn h
 |tn=>obtain⟨_,_,_,_,_,h⟩:=h;exact h.imp λ_ z=>z.1
 |to=>obtain⟨_,_,_,_,_,h⟩:=h;exact h
 |tb=>exact h.1
theorem fU.rep{r:RV}(h:fU K H0 eg env Z H H' r v)(E:az K H0 eg env Z H)(hf:r.free=O):Rep K (Cln eg env Z) H' r.d v:=by
 obtain⟨k,d⟩:=r;cases k with
 |c=>exact h
 |tn=>
  obtain⟨a,e,h1,_,_,h2⟩:=h;exact(h2.imp λ_ z=>z.1).rep λb eb _=>by rw[e] at eb;cases eb;exact E.kz h1
 |to=>simp[RV.free] at hf
 |tb=>simp[RV.free] at hf
theorem fU.same(h:fU K H0 eg env Z H H' r v)(s:bp H' H2):fU K H0 eg env Z H H2 r v:=by
 obtain⟨k,d⟩:=r;cases k with
 |c=>exact Rep.same s h
 |tn=>obtain⟨a,e,h1,w,t,h2⟩:=h;subst e;exact⟨a,rfl,h1,w.same s,t,h2.same s⟩
 |to=>obtain⟨a,e,h1,w,t,h2⟩:=h;subst e;exact⟨a,rfl,h1,w.same s,t,h2.same s⟩
 |tb=>exact⟨h.1.same s,h.2⟩
def fU.from(s:bp H H1)(h:fU K H0 eg env Z H1 H' r v):fU K H0 eg env Z H H' r v:=by
 obtain⟨k,d⟩:=r;cases k with
 |c=>exact h
 |tn=>obtain⟨a,e,h1,w,t,h2⟩:=h;exact⟨a,e,s.free h1,w,t,h2⟩
 |to=>exact h
 |tb=>exact h
def pX(K:ag)(H0 H' :Hp)(d:D)(v:V):Prop:=
 (d.top=O->∃a,v= .ref a/\H0 a=J/\Wr H' a)/\Inn K (λb=>H0 b=J/\v≠ .ref b) H' d v
def pX.rv(E:az K H0 eg env Z H)(h:pX K H H' d v):fU K H0 eg env Z H H' (jk d) v:=by
 obtain⟨h1,h2⟩:=h;unfold jk;by_cases t:d.top=O
 .rw[Gaj t];obtain⟨a,rfl,n,w⟩:=h1 t;exact⟨a,rfl,n,w,t,h2.imp λb z=> ⟨E.kz z.1,λq=>z.2 (by rw[q])⟩⟩
 .rw[Gau t];exact(h2.imp λb z=>E.kz z.1).rep λ_ _ z=>absurd z t
end
def tE(X:Cx)(f:DE):TE:=λZ H Q=>∃H0 eg env r,az X.K H0 eg env Z H/\f env=U r/\∀v H',bp H H' ->fU X.K H0 eg env Z H H' r v->Q v H'
def tT(X:Cx)(t:DT):TT:=λZ H Q=>∃H0 eg env b,az X.K H0 eg env Z H/\t env=U b/\∀H',bp H H' ->Q b H'
def tA(X:Cx)(a:DA):TA:=λZ H Q=>∃H0 eg env rs,az X.K H0 eg env Z H/\a env=U rs/\∀vs H',bp H H' ->Paired (fU X.K H0 eg env Z H H') rs vs->Q vs H'
def Cr(X:Cx)(H0:Hp)(eg:Xo->Prop)(env:Env)(Z:St)(H:Hp)(E:Ends):Out->Prop
 | .nx e=>∀Z' H',az X.K H0 eg e Z' H' ->Stp env Z H e Z' H' ->E.nx Z' H'
 | .bk e=>∀Z' H',az X.K H0 eg e Z' H' ->Stp env Z H e Z' H' ->E.bk Z' H'
 | .ct e=>∀Z' H',az X.K H0 eg e Z' H' ->Stp env Z H e Z' H' ->E.ct Z' H'
 | .ret d=>∀v H',bp H0 H' ->pX X.K H0 H' d v->E.rt v H'
def tS(X:Cx)(f:DS):TS:=λE Z H=>∃H0 eg env o,az X.K H0 eg env Z H/\f env=U o/\Cr X H0 eg env Z H E o
def tG(X:Cx)(g:DG):TG:=λv Z H Q=>∃H0 eg env d eD,az X.K H0 eg env Z H/\g d env=U eD /\Rep X.K (Cln eg env Z) H d v/\∀Z' H',az X.K H0 eg eD Z' H' ->Stp env Z H eD Z' H' ->Q Z' H'
abbrev PEd(X:Cx)(e:Xp)(f:DE):Prop:=PE X e (tE X f)
abbrev PTd(X:Cx)(e:Xp)(t:DT):Prop:=PT X e (tT X t)
abbrev PWd(X:Cx)(e:Xp)(t:DT):Prop:=PW X e (tT X t)
abbrev PAd(X:Cx)(es:List Xp)(a:DA):Prop:=PA X es (tA X a)
abbrev PSd(X:Cx)(st:Xu)(f:DS):Prop:=PS X st (tS X f)
abbrev nG(X:Cx)(st:List Xu)(f:DS):Prop:=PSs X st (tS X f)
abbrev PGd(X:Cx)(e:Xp)(g:DG):Prop:=PG X e (tG X g)
section
variable{X:Cx}{a b:Xp}
def _root_.L2.PE.aA(h:PE X e t')(i:∀Z H Q,t Z H Q->t' Z H Q):PE X e t:=λef s Z H Q I q=>h ef s Z H Q I (i Z H Q q)
def _root_.L2.PT.aA(h:PT X e t')(i:∀Z H Q,t Z H Q->t' Z H Q):PT X e t:=λef s Z H Q I q=>h ef s Z H Q I (i Z H Q q)
def _root_.L2.PW.aA(h:PW X e t')(i:∀Z H Q,t Z H Q->t' Z H Q):PW X e t:=λwh ef s Z H Q I q=>h wh ef s Z H Q I (i Z H Q q)
def _root_.L2.PA.aA(h:PA X es t')(i:∀Z H Q,t Z H Q->t' Z H Q):PA X es t:=λpos ef s Z H Q I q=>h pos ef s Z H Q I (i Z H Q q)
def _root_.L2.PS.aA{st:Xu}{t t' :TS}(h:PS X st t')(i:∀D Z H,t D Z H->t' D Z H):PS X st t:=λef s Z H D I q=>h ef s Z H D I (i D Z H q)
def _root_.L2.PSs.aA{st:List Xu}{t t' :TS}(h:PSs X st t')(i:∀D Z H,t D Z H->t' D Z H):PSs X st t:=λef s Z H D I q=>h ef s Z H D I (i D Z H q)
def _root_.L2.PG.aA(h:PG X e t')(i:∀v Z H Q,t v Z H Q->t' v Z H Q):PG X e t:=λef s Z H v u Q I r q=>h ef s Z H v u Q I r (i v Z H Q q)
def bw:bp H H:=λ_ _ e=>e
def xW{α β:Type}{o:Option α}{k:α->Option β}{y:β}(h:o.bind k=U y):∃x,o=U x/\k x=U y:=Gbl.mp h
def a9{α β:Type}{P:Prop}{o:Option α}{k:α->Option β}{y:β}(h:o.bind k=U y)(c:∀x,o=U x->k x=U y->P):P:=let⟨x,a,b⟩:=xW h;c x a b
def bP{α β γ δ:Type}{A B C:α->β->γ->δ->Prop}{P:Prop}(h:∃a b c d,A a b c d/\B a b c d/\C a b c d)(k:∀a b c d,A a b c d->B a b c d->C a b c d->P):P:=let⟨_,_,_,_,x,y,z⟩:=h;k _ _ _ _ x y z
def Cs(i:Nat)(hN:autoParam (X.N[i]? =U x) Za1._auto_1)(hv:Vis X.env.scope x:=by first|exact Or.inl rfl|exact Or.inr (Or.inl rfl)|exact Or.inr (Or.inr rfl))(hd:autoParam ((x==("__debug__":Str))=M) Za2._auto_1)
  (xf:autoParam ((x==("__classdict__":Str))=M) Za2._auto_1):PEd X (.Name x pos) (vE i):=by
 refine(fi hN hv hd xf).aA (λZ H Q q0=>bP q0 λH0 eg env r E e k=> ?_);unfold vE at e
 match q:env[i]?,e with
 |some (U (.sh d)),e=>
  cases e;obtain⟨v,h1,h2⟩:=E.sh i d q;exact⟨v,h1,k v H bw h2⟩
 |some (U (.own d)),e=>
  cases e;obtain⟨a,h1,h2,h3,h4,h5,h6⟩:=E.ow i d (.inl q);exact⟨_,h1,k _ H bw ⟨a,rfl,h2,h4,h5,h6⟩⟩
 |some (U (.lok d)),e=>
  cases e;obtain⟨a,h1,h2,h3,h4,h5,h6⟩:=E.ow i d (.inr q);refine⟨_,h1,k _ H bw ⟨h6,λb eb _ ⟨j,ho,hj⟩=> ?_⟩⟩;cases eb;have:=E.dj j i a ho.ol (by rw[q];trivial) hj h1;subst this
  rwa[q] at ho
 |some (U (.bor d)),e=>
  cases e;obtain⟨a,h1,h4,h5,h6⟩:=E.bo i d q;refine⟨_,h1,k _ H bw ⟨h6,λb eb _ ⟨j,ho,hj⟩=> ?_⟩⟩;cases eb;have:=E.dj j i a ho.ol (by rw[q];trivial) hj h1;subst this
  rwa[q] at ho
def Ct:PEd X (.Constant (.int i) j pos) (kE (.int i)):=K4.aA λZ H Q ⟨_,_,_,_,_,e,k⟩=>by cases e;exact k _ H bw (.int i)
def OU{b:Bool}:PEd X (.Constant (.bool b) j pos) (kE (.bl b)):=NS.aA λZ H Q ⟨_,_,_,_,_,e,k⟩=>by cases e;exact k _ H bw (.bl b)
def KG:PEd X (.Constant .none j pos) (kE .non):=K5.aA λZ H Q ⟨_,_,_,_,_,e,k⟩=>by cases e;exact k _ H bw .non
def KH:PEd X (.Constant (.str x) j pos) (kE (.str x)):=uF.aA λZ H Q ⟨_,_,_,_,_,e,k⟩=>by cases e;exact k _ H bw (.str x)
def RvN(K:ag)(F:Xo->Prop)(H H' :Hp)(r:RV)(v:V):Prop:=
 match r.k with
 | .c=>Rep K F H' r.d v
 | .tn=>∃a,v= .ref a/\H a=J/\Wr H' a/\r.d.top=O/\Inn K (λb=>F b/\b≠a) H' r.d v
 |_=>False
def RvN.ok{K:ag}{r:RV}(h:RvN K (Cln eg env Z) H1 H' r v)(s:bp H H1):fU K H0 eg env Z H H' r v:=by
 obtain⟨k,d⟩:=r;cases k with
 |c=>exact h
 |tn=>obtain⟨a,e,h1,w,t,h2⟩:=h;exact⟨a,e,s.free h1,w,t,h2⟩
 |to=>exact(show False from h).elim
 |tb=>exact(show False from h).elim
def OpD(X:Cx)(o:D->D->Option RV)(r:R2):Prop:=∀(F:Xo->Prop) (H:Hp) (dx dy:D) (x y:V) (rv:RV) (Q:VK),Inn X.K F H dx x->Inn X.K F H dy y->o dx dy=U rv->
 (∀v H',bp H H' ->RvN X.K F H H' rv v->Q v H')->r x y H Q
def sM(ho:OpR X (binaryOp op) r)(hd:OpD X o r)(ha:PEd X a f)(hb:PEd X b g):PEd X (.BinOp a op b pos) (Xn o f g):=by
 refine(O4 ho ha hb).aA (λZ H Q q0=>bP q0 λH0 eg env rv E e k=>a9 e λx hx e=>a9 e λy hy e=> ?_);exact⟨H0,eg,env,x,E,hx,λvx H1 s1 R1=> ⟨H0,eg,env,y,E.mono s1,hy,λvy H2 s2 R2=>hd _ H2 _ _ vx vy rv Q (R1.inn.same s2) R2.inn e λv H3 s3 R3=>
  k v H3 (s1.trans (s2.trans s3)) (R3.ok (s1.trans s2))⟩⟩
variable{gi:Int->Int->Int}
def KI{o:D->D->Option RV}(h:∀dx dy rv,o dx dy=U rv->∃i j,dx= .int i/\dy= .int j/\rv=⟨.c,.int (gi i j)⟩):OpD X o (rI0 λi j=> .int (gi i j)):=by
 intro F H dx dy x y rv Q ix iy e k;obtain⟨i,j,rfl,rfl,rfl⟩:=h dx dy rv e;cases ix;cases iy
 exact⟨i,j,rfl,rfl,k _ H bw (.int _)⟩
def Cu{o:D->D->Option RV}{C:Int->Int->Prop}(h:∀dx dy rv,o dx dy=U rv->∃i j,dx= .int i/\dy= .int j/\C i j/\rv=⟨.c,.int (gi i j)⟩):OpD X o (rI C λi j=> .int (gi i j)):=by
 intro F H dx dy x y rv Q ix iy e k;obtain⟨i,j,rfl,rfl,hc,rfl⟩:=h dx dy rv e;cases ix;cases iy
 exact⟨i,j,rfl,rfl,hc,k _ H bw (.int _)⟩
def GL:OpD X mw (rI0 λi j=> .int (i -j)):=KI λdx dy rv e=>by
 unfold mw at e;split at e
 .simp_all
 .cases e
def GN:OpD X dq (rI Gh λi j=> .int (i*j)):=Cu λdx dy rv e=>by
 unfold dq at e;split at e
 .split at e
  .rename_i i j q;cases e;refine⟨i,j,rfl,rfl, ?_,rfl⟩;unfold bO at q;rw[GaW] at q;rcases q with q|q
   .left;have:=Gar q;lia
   .right;have:=Gar q;lia
  .cases e
 .cases e
def Cv:OpD X l5 (rI O7 λi j=> .int (i/j)):=Cu λdx dy rv e=>by
 unfold l5 at e;split at e
 .split at e
  .rename_i i j q;cases e;exact⟨i,j,rfl,rfl,q,rfl⟩
  .cases e
 .cases e
def GO:OpD X gg (rI (λ_ j=>0<j) λi j=> .int (i%j)):=Cu λdx dy rv e=>by
 unfold gg at e;split at e
 .simp_all
 .cases e
def Jn:R2:=λx y H Q=>∃l b xs zs,x= .ref l/\y= .ref b/\Rd H l (.lst xs)/\Rd H b (.lst zs)/\xs.length+zs.length<=sizeLine/\∀p,H p=J->Q (.ref p) (upd H p (.lst (xs++zs)))
def GP:OpR X (binaryOp .Add) Jn:=by
 intro ef s Z H x y v u Q I rx ry h;obtain⟨l,b,xs,zs,rfl,rfl,hH,hB,hz,q⟩:=h;cases rx;cases ry;obtain⟨z,eh,n,r,e⟩:=(show bS _ _ H _ l _ from hH.ok I.hok)
 obtain⟨z2,eL,n2,r2,e2⟩:=(show bS _ _ H _ b _ from hB.ok I.hok)
 have hl:=r.length;have VC:=r2.length;refine PySem.P.add_list e e2 ?_ ?H;have ea:eh.toArray++eL.toArray=(eh++eL).toArray:=by simp
 rw[ea];exact⟨.ref _,_,I.Oo (r.append r2) ?H,rfl,q _ I.fresh⟩
def eW:a7=sizeLine:=by rw[Gco];rfl
def bh(n:H p=J):bp H (upd H p o):=λb u e=>by rw[aq (aX e n)];exact e
def dX{K:ag}{H:Hp}(n:H p=J)(r:aP K F H ds vs):Rep K F (upd H p (.tup vs)) (.tup ds) (.ref p):=by
 have r2:=r.gen (.Xl (bh (o:= .tup vs) n)) λ_ f _=>f;exact .tup aB r2.1 r2.2
def fK{K:ag}{F:Xo->Prop}{H:Hp}(n:H p=J)(r:aP K F H ds vs):Inn K (λb=>F b/\b≠p) (upd H p (.lst vs)) (.lst ds) (.ref p):=
 .lst (.inl aB) (r.gen (.Xl (bh n)) λb f hb=> ⟨f,λz=>hb (z▸n)⟩)
def kA:Wr (upd H p (.lst xs)) p:=⟨_,aB,trivial⟩
def Cw(K:ag):R2:=λx y H Q=>rI0 (λi j=> .int (i+j)) x y H Q\/(∃i j,x= .str i/\y= .str j/\i.length+j.length<=sizeLine/\Q (.str (i++j)) H)\/Jn x y H Q\/Ji K x y H Q
def GQ:OpR X (binaryOp .Add) (Cw X.K):=Kg.or (uJ.or (GP.or Gu))
def aP.ne{K:ag}(r:aP K F H ds vs):vs=[]↔ds=[]:=by
 constructor
 .rintro rfl;exact GbB r.1
 .rintro rfl;exact r.fm
def GR:OpD X sD (Cw X.K):=by
 intro F H dx dy x y rv Q ix iy e k;unfold sD at e;split at e
 .cases e;cases ix;cases iy;exact .inl ⟨_,_,rfl,rfl,k _ H bw (.int _)⟩
 .split at e
  .rename_i q;cases e;cases ix;cases iy;exact .inr (.inl ⟨_,_,rfl,rfl,by rw[<-eW];exact q,k _ H bw (.str _)⟩)
  .cases e
 .split at e
  .rename_i xs ys q;cases e;cases ix with
   |tup hx rx=>
    cases iy with
    |tup hy ry=>
     refine .inr (.inr (.inr ⟨_,_,_,_,rfl,rfl,SqT.of hx,SqT.of hy, ?_, ?_, ?_, ?_⟩))
     .intro z;have:=rx.ne.mp z;simp_all
     .rw[<-rx.1,<-ry.1];exact q.1
     .intro z;have:=ry.ne.mp z;subst this;refine k _ H bw ?_;rw[GaP];exact .tup hx rx.1 rx.2
     .intro z p n;exact k _ _ (bh n) (dX n (rx.append ry))
  .cases e
 .split at e
  .rename_i xs ys q;cases e;cases ix with
   |lst hx rx=>
    cases iy with
    |lst hy ry=>
     exact .inr (.inr (.inl ⟨_,_,_,_,rfl,rfl,hx,hy,by rw[<-rx.1,<-ry.1];exact q,λp n=>(k _ _ (bh n) ⟨p,rfl,n,kA,rfl,fK n (rx.append ry)⟩)⟩))
  .cases e
 .cases e
def UnD(X:Cx)(o:D->Option RV)(r:V->Hp->VK->Prop):Prop:=∀(F:Xo->Prop) (H:Hp) (dx:D) (x:V) (rv:RV) (Q:VK),Inn X.K F H dx x->o dx=U rv->(∀v H',bp H H' ->RvN X.K F H H' rv v->Q v H')->r x H Q
def OV(ho:UnR X (unaryOp op) r)(hd:UnD X o r)(ha:PEd X a f):PEd X (.UnaryOp op a pos) (unE o f):=by
 exact(O5 ho ha).aA (λZ H Q q0=>bP q0 λH0 eg env rv E e k=>a9 e λx hx e=> ⟨H0,eg,env,x,E,hx,λvx H1 s1 R1=>hd _ H1 _ vx rv Q R1.inn e λv H3 s3 R3=>k v H3 (s1.trans s3) (R3.ok s1)⟩)
def GS:UnD X jl (rU λi=> .int (-i)):=by
 intro F H dx x rv Q ix e k;unfold jl at e;split at e
 .cases e;cases ix;exact⟨_,rfl,k _ H bw (.int _)⟩
 .cases e
def KJ(ha:PEd X a f)(hb:PEd X b g):PEd X (.BinOp a .Sub b pos) (Xn mw f g):=sM Kh GL ha hb
def KL(ha:PEd X a f)(hb:PEd X b g):PEd X (.BinOp a .Mult b pos) (Xn dq f g):=sM Ki GN ha hb
def GU(ha:PEd X a f)(hb:PEd X b g):PEd X (.BinOp a .FloorDiv b pos) (Xn l5 f g):=sM Gi Cv ha hb
def KN(ha:PEd X a f)(hb:PEd X b g):PEd X (.BinOp a .Mod b pos) (Xn gg f g):=sM Kj GO ha hb
def Cy(ha:PEd X a f):PEd X (.UnaryOp .USub a pos) (unE jl f):=OV Kk GS ha
def OpB(X:Cx)(o:D->D->Option Bool)(r:R2):Prop:=∀(F:Xo->Prop) (H:Hp) (dx dy:D) (x y:V) (b:Bool) (Q:VK),Inn X.K F H dx x->Inn X.K F H dy y->o dx dy=U b->Q (.bl b) H->r x y H Q
def KO(ho:OpR X (compareOp op) r)(hd:OpB X o r)(ha:PEd X a f)(hb:PEd X b g)(hm:behindInMarks op b=M):PTd X (.Compare a [op] [b] pos) (aw o f g):=by
 exact(Gn ho ha hb hm).aA (λZ H Q q0=>bP q0 λH0 eg env bb E e k=>a9 e λx hx e=>a9 e λy hy e=> ⟨H0,eg,env,x,E,hx,λvx H1 s1 R1=> ⟨H0,eg,env,y,E.mono s1,hy,λvy H2 s2 R2=>hd _ H2 _ _ vx vy bb _ (R1.inn.same s2) R2.inn e ⟨bb,rfl,k H2 (s1.trans s2)⟩⟩⟩)
def KP(ho:OpR X (compareOp op) r)(hd:OpB X o r)(ha:PEd X a f)(hb:PEd X b g)(hm:behindInMarks op b=M):PEd X (.Compare a [op] [b] pos) (bE (aw o f g)):=by
 refine(Gk ho ha hb hm).aA (λZ H Q q0=>bP q0 λH0 eg env rv E e k=> ?_);obtain⟨bb,e',rfl⟩:=Gaa.mp e;have e:=e';exact a9 e λx hx e=>a9 e λy hy e=> ⟨H0,eg,env,x,E,hx,λvx H1 s1 R1=> ⟨H0,eg,env,y,E.mono s1,hy,λvy H2 s2 R2=>hd _ H2 _ _ vx vy bb _ (R1.inn.same s2) R2.inn e (k _ H2 (s1.trans s2) (.bl bb))⟩⟩
def wj{o:D->D->Option Bool}{gb:Int->Int->Bool}(h:∀dx dy b,o dx dy=U b->∃i j,dx= .int i/\dy= .int j/\b=gb i j):OpB X o (rI0 λi j=> .bl (gb i j)):=by
 intro F H dx dy x y b Q ix iy e q;obtain⟨i,j,rfl,rfl,rfl⟩:=h dx dy b e;cases ix;cases iy
 exact⟨i,j,rfl,rfl,q⟩
def KQ:OpB X ltB (rI0 λi j=> .bl (decide (i<j))):=wj λdx dy b e=>by
 unfold ltB at e;split at e<;>cases e;exact⟨_,_,rfl,rfl,rfl⟩
def KR:OpB X leB (rI0 λi j=> .bl (decide (i<=j))):=wj λdx dy b e=>by
 unfold leB at e;split at e<;>cases e;exact⟨_,_,rfl,rfl,rfl⟩
def KS:OpB X gtB (rI0 λi j=> .bl (decide (j<i))):=wj λdx dy b e=>by
 unfold gtB at e;split at e<;>cases e;exact⟨_,_,rfl,rfl,rfl⟩
def KU:OpB X geB (rI0 λi j=> .bl (decide (j<=i))):=wj λdx dy b e=>by
 unfold geB at e;split at e<;>cases e;exact⟨_,_,rfl,rfl,rfl⟩
def pY{K:ag}(h:Inn K F H d x):decide (x= .non)=fT d:=by
 cases h<;>simp[fT]
def GV:OpB X gx (λx y H Q=>y= .non/\Q (.bl (decide (x= .non))) H):=by
 intro F H dx dy x y b Q ix iy e q;simp only[gx] at e;split at e
 .rename_i h;cases e;cases iy<;>simp[fT] at h
  exact⟨rfl,by rw[pY ix];exact q⟩
 .cases e
def Cz:OpB X Cp (λx y H Q=>y= .non/\Q (.bl (!decide (x= .non))) H):=by
 intro F H dx dy x y b Q ix iy e q;simp only[Cp] at e;split at e
 .rename_i h;cases e;cases iy<;>simp[fT] at h
  exact⟨rfl,by rw[pY ix];exact q⟩
 .cases e
def KV{e:Xp}{f:DE}(h:PEd X e f)(he:∀whole,isTrue e X.env whole=(do let v<-whole;standAt e.pos;holding [v] (truthy v)):=by intro _;rfl):PTd X e (dF f):=by
 refine(BZ h he).aA (λZ H Q q0=>bP q0 λH0 eg env bb E e k=>a9 e λx hx e=> ?_);split at e
 .rename_i b hb;cases e;refine⟨H0,eg,env,x,E,hx,λvx H1 s1 R1=> ⟨bb, ?_,k H1 s1⟩⟩;have i:=R1.inn;rw[hb] at i;cases i
  rfl
 .cases e
def CA(h:PEd X e f):PEd X e (bE (dF f)):=by
 refine h.aA (λZ H Q q0=>bP q0 λH0 eg env rv E e k=> ?_);obtain⟨bb,e',rfl⟩:=Gaa.mp e;have e:=e';refine a9 e λx hx e=> ?_;split at e
 .rename_i b hb;cases e;refine⟨H0,eg,env,x,E,hx,λvx H1 s1 R1=>k _ H1 s1 ?_⟩;have i:=R1.inn;rw[hb] at i;cases i;exact .bl _
 .cases e
def GW(ha:PTd X a t):PWd X (.BoolOp .And [a] pos) t:=Ge ha
def KW(ha:PTd X a t):PWd X (.BoolOp .Or [a] pos) t:=K7 ha
def KY{rest:List Xp}(ha:PTd X a t)(hb:PWd X (.BoolOp .And (b::rest) pos) u):PWd X (.BoolOp .And (a::b::rest) pos) (gh t u):=by
 refine(K8 ha hb).aA (λZ H Q q0=>bP q0 λH0 eg env bb E e k=>a9 e λx hx e=> ⟨H0,eg,env,x,E,hx,λH1 s1=> ?_⟩);cases x with
 |true=>rw[Gaj rfl];rw[Gaj rfl] at e;exact⟨H0,eg,env,bb,E.mono s1,e,λH2 s2=>k H2 (s1.trans s2)⟩
 |false=>rw[Gau Gaq];rw[Gau Gaq] at e;cases e;exact k H1 s1
def OW{rest:List Xp}(ha:PTd X a t)(hb:PWd X (.BoolOp .Or (b::rest) pos) u):PWd X (.BoolOp .Or (a::b::rest) pos) (orT t u):=by
 refine(NT ha hb).aA (λZ H Q q0=>bP q0 λH0 eg env bb E e k=>a9 e λx hx e=> ⟨H0,eg,env,x,E,hx,λH1 s1=> ?_⟩);cases x with
 |false=>rw[Gau Gaq];rw[Gau Gaq] at e;exact⟨H0,eg,env,bb,E.mono s1,e,λH2 s2=>k H2 (s1.trans s2)⟩
 |true=>rw[Gaj rfl];rw[Gaj rfl] at e;cases e;exact k H1 s1
def KZ(ha:PTd X a t):PTd X (.UnaryOp .Not a pos) (ku t):=by
 refine(C0 ha).aA (λZ H Q q0=>bP q0 λH0 eg env bb E e k=> ?_);obtain⟨x,hx,rfl⟩:=Gaa.mp e;exact⟨H0,eg,env,x,E,hx,λH1 s1=>k H1 s1⟩
def L3(ha:PEd X a (bE t)):PEd X (.BoolOp op [a] pos) (bE t):=K9 ha
def L4{rest:List Xp}(ha:PEd X a (bE t))(hb:PEd X (.BoolOp .And (b::rest) pos) (bE u)):PEd X (.BoolOp .And (a::b::rest) pos) (bE (gh t u)):=by
 refine(Ka ha hb).aA (λZ H Q q0=>bP q0 λH0 eg env rv E e k=> ?_);obtain⟨bb,e',rfl⟩:=Gaa.mp e;have e:=e';refine a9 e λx hx e=> ⟨H0,eg,env,⟨.c,.bl x⟩,E,by unfold bE;rw[hx];rfl,λv H1 s1 R=> ?_⟩;have R' :=R.inn;cases R';refine⟨x,rfl, ?_⟩;cases x with
 |true=>rw[Gaj rfl];rw[Gaj rfl] at e;exact⟨H0,eg,env,⟨.c,.bl bb⟩,E.mono s1,by unfold bE;rw[e];rfl,λv2 H2 s2 R2=>k v2 H2 (s1.trans s2) (R2.from s1)⟩
 |false=>rw[Gau Gaq];rw[Gau Gaq] at e;cases e;exact k _ H1 s1 (.bl M)
def OY{rest:List Xp}(ha:PEd X a (bE t))(hb:PEd X (.BoolOp .Or (b::rest) pos) (bE u)):PEd X (.BoolOp .Or (a::b::rest) pos) (bE (orT t u)):=by
 refine(NW ha hb).aA (λZ H Q q0=>bP q0 λH0 eg env rv E e k=> ?_);obtain⟨bb,e',rfl⟩:=Gaa.mp e;have e:=e';refine a9 e λx hx e=> ⟨H0,eg,env,⟨.c,.bl x⟩,E,by unfold bE;rw[hx];rfl,λv H1 s1 R=> ?_⟩;have R' :=R.inn;cases R';refine⟨x,rfl, ?_⟩;cases x with
 |false=>rw[Gau Gaq];rw[Gau Gaq] at e;exact⟨H0,eg,env,⟨.c,.bl bb⟩,E.mono s1,by unfold bE;rw[e];rfl,λv2 H2 s2 R2=>k v2 H2 (s1.trans s2) (R2.from s1)⟩
 |true=>rw[Gaj rfl];rw[Gaj rfl] at e;cases e;exact k _ H1 s1 (.bl O)
def L5(ha:PEd X a (bE t)):PEd X (.UnaryOp .Not a pos) (bE (ku t)):=by
 refine(Kb ha).aA (λZ H Q q0=>bP q0 λH0 eg env rv E e k=> ?_);obtain⟨bb,e',rfl⟩:=Gaa.mp e;obtain⟨x,hx,rfl⟩:=Gaa.mp e';refine⟨H0,eg,env,⟨.c,.bl x⟩,E,by unfold bE;rw[hx];rfl,λv H1 s1 R=> ?_⟩;have R' :=R.inn;cases R';exact⟨x,rfl,k _ H1 s1 (.bl _)⟩
def CB(hc:PTd X c t)(ha:PEd X a f)(hb:PEd X b g):PEd X (.IfExp c a b pos) (ifE t f g):=by
 refine(C1 hc ha hb).aA (λZ H Q q0=>bP q0 λH0 eg env rv E e k=>a9 e λx hx e=> ⟨H0,eg,env,x,E,hx,λH1 s1=> ?_⟩);cases x with
 |true=>rw[Gaj rfl];rw[Gaj rfl] at e;exact⟨H0,eg,env,rv,E.mono s1,e,λv H2 s2 R=>k v H2 (s1.trans s2) (R.from s1)⟩
 |false=>rw[Gau Gaq];rw[Gau Gaq] at e;exact⟨H0,eg,env,rv,E.mono s1,e,λv H2 s2 R=>k v H2 (s1.trans s2) (R.from s1)⟩
def CC(ho:OpR X (compareOp op) r)(hd:OpB X o r)(xJ :OpR X (compareOp xO) r')(xp :OpB X p r')(ha:PEd X a f)(hb:PEd X b g)(hc:PEd X c h)
  (hm:lastMarks [op,xO] [b,c]=M:=by with_unfolding_all rfl):PTd X (.Compare a [op,xO] [b,c] pos) (my o p f g h):=by
 refine(C9 ho xJ ha hb hc hm).aA (λZ H Q q0=>bP q0 λH0 eg env bb E e k=>a9 e λx hx e=>a9 e λy hy e=>a9 e λb1 h1 e=> ⟨H0,eg,env,x,E,hx,λvx H1 s1 R1=> ⟨H0,eg,env,y,E.mono s1,hy,λvy H2 s2 R2=>hd _ H2 _ _ vx vy b1 _ (R1.inn.same s2) R2.inn h1 ⟨b1,rfl, ?_⟩⟩⟩);cases b1 with
 |true=>
  exact a9 e λz hz e=> ⟨H0,eg,env,z,(E.mono s1).mono s2,hz,λvz H3 s3 R3=>xp _ H3 _ _ vy vz bb _ (R2.inn.same s3) R3.inn e ⟨bb,rfl,k H3 (s1.trans (s2.trans s3))⟩⟩
 |false=>
  cases e;exact⟨M,rfl,k H2 (s1.trans s2)⟩
end
section
variable{X:Cx}
def Scr.sq{K:ag}{ns:List Int}(h:Scr K H a ns):SqL K H a (ns.map V.int):=by
 rcases h with⟨o,h⟩|h
 .exact .inl (.inr ⟨o,h⟩)
 .exact .inr h
def CD{K:ag}(r:aP K F H ds vs)(e:atD ds i=U d):∃v,atI vs i=U v/\Rep K F H d v:=by
 unfold atD at e;unfold atI ixN;rw[<-r.1];split at e
 .rename_i h0;obtain⟨v,h1,h2⟩:=r.get e;have hi:=(Gac.mp e).1;refine⟨v, ?_,h2⟩;rw[Gaj h0,Gaj ?B];exact h1
 .rename_i h0;split at e
  .rename_i h1;obtain⟨v,h2,h3⟩:=r.get e;refine⟨v, ?_,h3⟩;rw[Gau h0,Gaj h1];exact h2
  .cases e
def Jo(hu:X.A.units+1<cLine)(ha:PEd X a f)(hb:PEd X b g)(hs:qR b:=by exactλ_ _=>rfl):PEd X (.Subscript a b pos) (Xm f g):=by
 refine(Oh Kv ha hb hs).aA ?_
 refineλZ H Q q0=>bP q0 λH0 eg env rv E e k=> ?_
 refine a9 e λx hx e=> ?_;refine a9 e λy hy e=> ?_;obtain⟨d,e',rfl⟩:=Gaa.mp e;clear e;have e:=e';clear e';refine⟨H0,eg,env,x,E,hx,λvx H1 s1 R1=> ⟨H0,eg,env,y,E.mono s1,hy,λvy H2 s2 R2=> ?_⟩⟩;have ix:=R1.inn.same s2;have iy:=R2.inn;have fin:∀v,Rep X.K (Cln eg env Z) H2 d v->Q v H2:=λv r=>k v H2 (s1.trans s2) r;generalize x.d=dx at ix e;generalize y.d=dy at iy e;unfold ixD at e;split at e
 .cases iy;cases ix with
  |lst h r=>
   obtain⟨v,h1,h2⟩:=CD r e;exact .inl ⟨_,_,_,v,rfl,rfl,.inl h,h1,fin v h2⟩
 .cases iy;cases ix with
  |tup h r=>
   obtain⟨v,h1,h2⟩:=CD r e;exact .inr (.inl ⟨_,_,_,v,rfl,rfl,SqT.of h,h1,fin v h2⟩)
 .split at e
  .rename_i hz;obtain⟨ch,e',rfl⟩:=Gaa.mp e;clear e;have e:=e';clear e';cases iy;cases ix
   refine .inr (.inr ⟨_,_,ch,rfl,rfl,by rw[<-eW];exact hz, ?_,fin _ (.str _)⟩);unfold atD at e;unfold atI ixN;split at e
   .rename_i h0;have hi:=(Gac.mp e).1;rw[Gaj h0,Gaj ?B];exact e
   .rename_i h0;split at e
    .rename_i h1;rw[Gau h0,Gaj h1];exact e
    .cases e
  .cases e
 .obtain⟨n,e',rfl⟩:=Gaa.mp e;clear e;have e:=e';clear e';cases iy;cases ix with
  |scr h=>
   refine .inl ⟨_,_,_,.int n,rfl,rfl,h.sq, ?_,fin _ (.int n)⟩;unfold atD at e;unfold atI ixN;rw[Gav];split at e
   .rename_i h0;have hi:=(Gac.mp e).1;rw[Gaj h0,Gaj ?B];show(List.map V.int _)[_]? =_;rw[Gam,e];rfl
   .rename_i h0;split at e
    .rename_i h1;rw[Gau h0,Gaj h1];show(List.map V.int _)[_]? =_;rw[Gam,e];rfl
    .cases e
 .cases e
def gP:PAd X [] aM:=by
 refine gO.aA (λZ H Q q0=>bP q0 λH0 eg env rs E e k=> ?_);cases e;exact k [] H bw .nil
def sO{K:ag}(s:bp H H1)(p:Paired (fU K H0 eg env Z H1 H') rs vs):Paired (fU K H0 eg env Z H H') rs vs:=L2.Paired.Rk p λ_ _ h=>h.from s
def dk(ha:PEd X e f)(hr:PAd X es r)(hs:autoParam (starEach (e::es) X.env=(M,eval e X.env)::starEach es X.env) Za1._auto_1):PAd X (e::es) (ak f r):=by
 refine(cM ha hr hs).aA (λZ H Q q0=>bP q0 λH0 eg env rs E e k=>a9 e λx hx e=>a9 e λxs zT e=> ?_);cases e;exact⟨H0,eg,env,x,E,hx,λvx H1 s1 R1=> ⟨H0,eg,env,xs,E.mono s1,zT,λvs H2 s2 Rs=>k _ H2 (s1.trans s2) (.cons (R1.same s2) (sO s1 Rs))⟩⟩
def pZ{K:ag}{rs:List RV}(E:az K H0 eg env Z H)(p:Paired (fU K H0 eg env Z H H') rs vs):rs.all (·.free)=O->aP K (Cln eg env Z) H' (rs.map (·.d)) vs:=by
 induction p with
 |nil=>exactλ_=>aP.nil
 |cons h t ih=>
  intro f;rw[GbA,Gai] at f;exact aP.cons (h.rep E f.1) (ih f.2)
def L6(ha:PAd X es r):PEd X (.Tuple es j pos) (gk r):=by
 refine(Cc ha).aA (λZ H Q q0=>bP q0 λH0 eg env rv E e k=>a9 e λrs hr e=> ?_);split at e
 .rename_i q;rw[Gai] at q;cases e;refine⟨H0,eg,env,rs,E,hr,λvs H1 s1 Rs=> ?_⟩;have rep:=pZ E Rs q.1;exact⟨by rw[<-rep.1,Gav];exact Gar q.2,λp n=>(k _ _ (s1.trans (bh n)) (dX n rep))⟩
 .cases e
def L7(ha:PAd X es r):PEd X (.List es pos) (jf r):=by
 refine(Cd ha).aA (λZ H Q q0=>bP q0 λH0 eg env rv E e k=>a9 e λrs hr e=> ?_);split at e
 .rename_i q;rw[Gai] at q;cases e;refine⟨H0,eg,env,rs,E,hr,λvs H1 s1 Rs=> ?_⟩;have rep:=pZ E Rs q.1;exact⟨by rw[<-rep.1,Gav];exact Gar q.2,λp n=>(k _ _ (s1.trans (bh n)) ⟨p,rfl,s1.free n,kA,rfl,fK n rep⟩)⟩
 .cases e
noncomputable def spD(K:ag)(np:Nat)(sp:SpF):Sp:=λvs H Q _=>∃ds d,ds.length=np/\aP K (λ_=>True) H ds vs/\sp ds=U d/\∀v H',bp H H' ->pX K H H' d v->Q v H'
def AS{K:ag}{rs:List RV}(p:Paired (fU K H0 eg env Z H H') rs vs):aP K (λ_=>True) H' (rs.map (·.d)) vs:=by
 induction p with
 |nil=>exact aP.nil
 |cons h t ih=>exact aP.cons h.inn.any ih
def GX(F:cp X.prog X.w X.K X.mg X.base CX k fa fd ps (spD X.K np sp))(hr:cD k X.A)(hg:Gl X x)
  (hm:X.mg x=U (.ref fa))(hk:PySem.W.keepIn X.K (.ref fa)=O)(hb:Binds X.K fd ps [])(hx:Passes CX X E)(ha:PAd X (e::es) r)(hl:∀env rs,r env=U rs->rs.length=np)
  (hZ:autoParam ((x==("__debug__":Str))=M) Za2._auto_1)(he:autoParam (starEach (e::es) X.env=(M,eval e X.env)::starEach es X.env) Za1._auto_1)(xb:autoParam ((backTo pos (starEach es X.env)).any (·.1)=M) Za1._auto_1):
  PEd X (.Call (.Name x p) (e::es) [] pos) (bF sp r):=by
 refine(qP F hr hg hm hk hb .nil hx ha hZ he xb).aA (λZ H Q q0=>bP q0 λH0 eg env rv E e k=>a9 e λrs xK e=> ?_);obtain⟨d,hd,rfl⟩:=Gaa.mp e;refine⟨H0,eg,env,rs,E,xK,λvs H1 s1 Rs=> ⟨rs.map _,d,by rw[Gav];exact hl env rs xK, ?_,hd,λv H2 s2 R2=>k v H2 (s1.trans s2) ((R2.rv (E.mono s1)).from s1)⟩⟩;rw[GaP];exact AS Rs
def CallD(X:Cx)(o:SpV)(r:List V->Hp->VK->Prop):Prop:=∀(F:Xo->Prop) (H:Hp) (ds:List D) (vs:List V) (rv:RV) (Q:VK),Paired (Inn X.K F H) ds vs->o ds=U rv->(∀v H',bp H H' ->RvN X.K F H H' rv v->Q v H')->r vs H Q
def oj{K:ag}{rs:List RV}(p:Paired (fU K H0 eg env Z H H') rs vs):Paired (Inn K (Cln eg env Z) H') (rs.map (·.d)) vs:=by
 induction p with
 |nil=>exact .nil
 |cons h t ih=>exact .cons h.inn ih
def qW{e:Xp}{pos:Pos}{id:String}{o:SpV}{r:List V->Hp->VK->Prop}{x:Str}{p:Pos}{es:List Xp}(hc:dJ X (.builtin id) r)(hd:CallD X o r)(hg:Gl X x)(hm:X.mg x=J)(hv:bootBuiltins x=U (.builtin id))(ha:PAd X (e::es) ra)
  (hn:autoParam (x≠"__name__") Za2._auto_1)(hZ:autoParam ((x==("__debug__":Str))=M) Za2._auto_1)(he:autoParam (starEach (e::es) X.env=(M,eval e X.env)::starEach es X.env) Za1._auto_1)(xb:autoParam ((backTo pos (starEach es X.env)).any (·.1)=M) Za1._auto_1):
  PEd X (.Call (.Name x p) (e::es) [] pos) (jY o ra):=by
 exact(kZ hc hg hm hv ha hn hZ he xb).aA (λZ H Q q0=>bP q0 λH0 eg env rv E e k=>a9 e λrs xK e=> ⟨H0,eg,env,rs,E,xK,λvs H1 s1 Rs=>hd _ H1 _ vs rv Q (oj Rs) e λv H2 s2 R2=>k v H2 (s1.trans s2) (R2.ok s1)⟩)
def lu(hc:dJ X (.type T) r)(hd:CallD X o r)(hg:Gl X x)(hm:X.mg x=J)(hv:bootBuiltins x=U (.type T))(ha:PAd X (e::es) ra)
  (hn:autoParam (x≠"__name__") Za2._auto_1)(hZ:autoParam ((x==("__debug__":Str))=M) Za2._auto_1)(he:autoParam (starEach (e::es) X.env=(M,eval e X.env)::starEach es X.env) Za1._auto_1)(xb:autoParam ((backTo pos (starEach es X.env)).any (·.1)=M) Za1._auto_1):
  PEd X (.Call (.Name x p) (e::es) [] pos) (jY o ra):=by
 exact(pT hc hg hm hv ha hn hZ he xb).aA (λZ H Q q0=>bP q0 λH0 eg env rv E e k=>a9 e λrs xK e=> ⟨H0,eg,env,rs,E,xK,λvs H1 s1 Rs=>hd _ H1 _ vs rv Q (oj Rs) e λv H2 s2 R2=>k v H2 (s1.trans s2) (R2.ok s1)⟩)
def cH{R:D->V->Prop}{d:D}{vs:List V}(h:Paired R [d] vs):∃v,vs=[v]/\R d v:=by
 cases h with
 |cons h t=>cases t;exact⟨_,rfl,h⟩
def GY{R:D->V->Prop}{d d2:D}{vs:List V}(h:Paired R [d,d2] vs):∃v w,vs=[v,w]/\R d v/\R d2 w:=by
 cases h with
 |cons h t=>cases t with
  |cons h2 t=>cases t;exact⟨_,_,rfl,h,h2⟩
def AU:CallD X cW (λxs H Q=>∃x n,xs=[x]/\Oc X.K x H n/\Q (.int n) H):=by
 intro F H ds vs rv Q ps e k;unfold cW at e;split at e
 .cases e;obtain⟨v,rfl,i⟩:=cH ps;cases i with
  |lst h r=>exact⟨_,_,rfl,.inl ⟨_,.inl h,r.1⟩,k _ H bw (.int _)⟩
 .cases e;obtain⟨v,rfl,i⟩:=cH ps;cases i with
  |tup h r=>exact⟨_,_,rfl,.inr ⟨_,SqT.of h,r.1⟩,k _ H bw (.int _)⟩
 .split at e
  .rename_i q;cases e;obtain⟨v,rfl,i⟩:=cH ps;cases i;exact⟨_,_,rfl,⟨by rw[<-eW];exact q,rfl⟩,k _ H bw (.int _)⟩
  .cases e
 .cases e;obtain⟨v,rfl,i⟩:=cH ps;cases i with
  |scr h=>exact⟨_,_,rfl,.inl ⟨_,h.sq,by simp⟩,k _ H bw (.int _)⟩
 .cases e;obtain⟨v,rfl,i⟩:=cH ps;cases i with
  |kt h=>exact⟨_,_,rfl,.inr ⟨_,.inr h,by simp⟩,k _ H bw (.int _)⟩
 .cases e
def uU:CallD X jm (λxs H Q=>∃i j,xs=[.int i,.int j]/\Q (.int (if j<i then j else i)) H):=by
 intro F H ds vs rv Q ps e k;unfold jm at e;split at e
 .cases e;obtain⟨v,w,rfl,i1,i2⟩:=GY ps;cases i1;cases i2
  exact⟨_,_,rfl,k _ H bw (.int _)⟩
 .cases e
def sP:CallD X bz (λxs H Q=>∃p ys,xs=[.ref p]/\((SqL X.K H p ys/\∀l,H l=J->Q (.ref l) (upd H l (.tup ys)))\/(SqT X.K H p ys/\Q (.ref p) H))):=by
 intro F H ds vs rv Q ps e k;unfold bz at e;split at e
 .cases e;obtain⟨v,rfl,i⟩:=cH ps;cases i with
  |lst h r=>
   exact⟨_,_,rfl,.inl ⟨.inl h,λl n=>(k _ _ (bh n) (dX n r))⟩⟩
 .cases e;obtain⟨v,rfl,i⟩:=cH ps;cases i with
  |tup h r=>exact⟨_,_,rfl,.inr ⟨SqT.of h,k _ H bw (.tup h r.1 r.2)⟩⟩
 .cases e
def uV:CallD X listS (λxs H Q=>∃p ys,xs=[.ref p]/\(SqL X.K H p ys\/SqT X.K H p ys)/\∀l,H l=J->Q (.ref l) (upd H l (.lst ys))):=by
 intro F H ds vs rv Q ps e k;unfold listS at e;split at e
 .cases e;obtain⟨v,rfl,i⟩:=cH ps;cases i with
  |lst h r=>
   exact⟨_,_,rfl,.inl (.inl h),λl n=>(k _ _ (bh n) ⟨l,rfl,n,kA,rfl,fK n r⟩)⟩
 .cases e;obtain⟨v,rfl,i⟩:=cH ps;cases i with
  |tup h r=>
   exact⟨_,_,rfl,.inr (SqT.of h),λl n=>(k _ _ (bh n) ⟨l,rfl,n,kA,rfl,fK n r⟩)⟩
 .cases e
end
section
def eG{α:Type}{l:List α}{i j:Nat}{x y:α}(e:(l.set i x)[j]? =U y):(i=j/\y=x)\/(i≠j/\l[j]? =U y):=by
 by_cases h:i=j
 .subst h;have hi:i<l.length:=by have:=(Gac.mp e).1;simpa using this
  simp_all
 .rw[Gad h] at e;exact .inr ⟨h,e⟩
def set_same{α:Type}{l:List α}{i:Nat}{x:α}(e:l[i]? =U x):l.set i x=l:=by
 apply Gdh;intro j;by_cases h:i=j
 .subst h;rw[GaD (Gac.mp e).1,e]
 .simp_all
def bZ{α:Type}{l:List α}{i:Nat}{x:α}(h:i<l.length):(l.set i x)[i]? =U x:=GaD h
variable{env:Env}
def gQ(h:bJ (env.set i (U (.sh d)))[j]?):i≠j/\bJ env[j]? :=by
 by_cases q:i=j
 .subst q;by_cases z:i<env.length
  .rw[bZ z] at h;exact h.elim
  .rw[Gbs ?H] at h;exact h.elim
 .rw[Gad q] at h;exact⟨q,h⟩
def az.jq{K:ag}{Z:St}(E:az K H0 eg env Z H)(r:Rep K (Cln eg env Z) H d v):az K H0 eg (env.set i (U (.sh d))) (Z.set i (U v)) H:=by
 have cln:∀b,Cln eg env Z b->Cln eg (env.set i (U (.sh d))) (Z.set i (U v)) b:=λb ⟨h1,h2⟩=> ⟨h1,λj t e=>by
  obtain⟨q,t⟩:=gQ t;rw[Gad q] at e;exact h2 j t e⟩
 refine⟨E.same,by simp[E.len],E.bad,λj dj e=> ?_,λj dj e=> ?_,λj dj e=> ?_,λj k b t1 t2 e1 e2=> ?_⟩
 .rcases eG e with⟨q,e⟩| ⟨q,e⟩
  .cases e;subst q;exact⟨v,bZ (by rw[<-E.len];exact(by have:=(Gac.mp e);simpa using this.1)),r.imp cln⟩
  .obtain⟨w,h1,h2⟩:=E.sh j dj e;exact⟨w,by rw[Gad q];exact h1,h2.imp cln⟩
 .have e' :i≠j/\(env[j]? =U (U (.own dj))\/env[j]? =U (U (.lok dj))):=by
   rcases e with e|e
   .rcases eG e with⟨q,e⟩| ⟨q,e⟩
    .cases e
    .exact⟨q,.inl e⟩
   .rcases eG e with⟨q,e⟩| ⟨q,e⟩
    .cases e
    .exact⟨q,.inr e⟩
  obtain⟨b,h1,h2,h3,h4,h5,h6⟩:=E.ow j dj e'.2;exact⟨b,by rw[Gad e'.1];exact h1,h2,h3,h4,h5,h6.imp cln⟩
 .rcases eG e with⟨q,e⟩| ⟨q,e⟩
  .cases e
  .obtain⟨b,h1,hw,h2,h3⟩:=E.bo j dj e;exact⟨b,by rw[Gad q];exact h1,hw,h2,h3.imp cln⟩
 .obtain⟨q1,z9⟩:=gQ t1.top;obtain⟨q2,t2⟩:=gQ t2;rw[Gad q1] at e1 t1;rw[Gad q2] at e2;exact E.dj j k b t1 t2 e1 e2
def Stp.jq{Z:St}:Stp env Z H (env.set i (U (.sh d))) (Z.set i (U v)) H:=⟨λ_ _ e _=>e,λb ⟨j,h,e⟩=>by
 obtain⟨q,_⟩:=gQ h.ol.top;rw[Gad q] at h e;exact .inl ⟨j,h,e⟩,λj h=>by
 obtain⟨q,_⟩:=gQ h.top;rw[Gad q,Gad q];exact⟨rfl,rfl⟩⟩
def ig(h:bJ (env.set i (U (.own d)))[j]?)(hi:i<env.length):i=j\/(i≠j/\bJ env[j]?):=by
 by_cases q:i=j
 .exact .inl q
 .rw[Gad q] at h;exact .inr ⟨q,h⟩
def az.CF{K:ag}{H0 H H' :Hp}{eg:Xo->Prop}{Z:St}{d:D}(E:az K H0 eg env Z H)(hi:i<env.length)(n0:H0 a=J)(nb:¬eg a)(w:Wr H' a)(t:d.top=O)(s:bp H0 H')(bd:∀b,eg b->H' b≠J)
  (ne:∀j b,j≠i->bJ env[j]? ->Z[j]? =U (U (.ref b))->b≠a/\H' b=H b)
  (inn:Inn K (Cln eg (env.set i (U (.own d))) (Z.set i (U (.ref a)))) H' d (.ref a))
  (cln:∀b,Cln eg env Z b->H b≠J->Cln eg (env.set i (U (.own d))) (Z.set i (U (.ref a))) b)
  (iD:jg (Cln eg env Z) H H'):
  az K H0 eg (env.set i (U (.own d))) (Z.set i (U (.ref a))) H' :=by
 have keep:∀{j:Nat} {b:Xo} {dj:D},j≠i->bJ env[j]? ->Z[j]? =U _->Inn K _ H dj _->Inn K _ H' dj (.ref b):=λ{j b dj} hj tj ej h=>
  h.gen iD cln λb' eb _ o e=>by cases eb;rw[(ne j b hj tj ej).2];exact e
 refine⟨s,by simp[E.len],bd,λj dj e=> ?_,λj dj e=> ?_,λj dj e=> ?_,λj k b t1 t2 e1 e2=> ?_⟩
 .rcases eG e with⟨q,e⟩| ⟨q,e⟩
  .cases e
  .obtain⟨u,h1,h2⟩:=E.sh j dj e;exact⟨u,by rw[Gad q];exact h1,h2.gen iD cln⟩
 .have e' :(i=j/\dj=d)\/(i≠j/\(env[j]? =U (U (.own dj))\/env[j]? =U (U (.lok dj)))):=by
   rcases e with e|e
   .rcases eG e with⟨q,e⟩| ⟨q,e⟩
    .cases e;exact .inl ⟨q,rfl⟩
    .exact .inr ⟨q,.inl e⟩
   .rcases eG e with⟨q,e⟩| ⟨q,e⟩
    .cases e
    .exact .inr ⟨q,.inr e⟩
  rcases e' with⟨q,rfl⟩| ⟨q,e'⟩
  .subst q;exact⟨a,bZ (by rw[<-E.len];exact hi),n0,nb,w,t,inn⟩
  .obtain⟨b,h1,h2,h3,h4,h5,h6⟩:=E.ow j dj e';have tj:bJ env[j]? :=by rcases e' with e' |e' <;>rw[e']<;>trivial
   refine⟨b,by rw[Gad q];exact h1,h2,h3, ?_,h5,keep (GaG q) tj h1 h6⟩;unfold Wr
   rwa[(ne j b (GaG q) tj h1).2]
 .rcases eG e with⟨q,e⟩| ⟨q,e⟩
  .cases e
  .obtain⟨b,h1,hw,h2,h3⟩:=E.bo j dj e;have tj:bJ env[j]? :=by rw[e];trivial
   refine⟨b,by rw[Gad q];exact h1, ?_,h2,keep (GaG q) tj h1 h3⟩;unfold Wb
   rwa[(ne j b (GaG q) tj h1).2]
 .rcases ig t1.top hi with q1| ⟨q1,z9⟩
  .rcases ig t2 hi with q2| ⟨q2,zm⟩
   .rw[<-q1,<-q2]
   .subst q1;rw[bZ (by rw[<-E.len];exact hi)] at e1;cases e1;rw[Gad q2] at e2;exact absurd rfl (ne k a (GaG q2) zm e2).1
  .rcases ig t2 hi with q2| ⟨q2,zm⟩
   .subst q2;rw[bZ (by rw[<-E.len];exact hi)] at e2;cases e2;rw[Gad q1] at e1;exact absurd rfl (ne j a (GaG q1) z9 e1).1
   .rw[Gad q1] at e1 t1;rw[Gad q2] at e2;exact E.dj j k b t1 zm e1 e2
def sQ{Z:St}(hi:i<env.length)(hs:env.length=Z.length)(h:Cln eg env Z b)(hb:b≠a):Cln eg (env.set i (U (.own d))) (Z.set i (U (.ref a))) b:=⟨h.1,λj t e=>by
 rcases ig t hi with q| ⟨q,t⟩
 .simp_all
 .rw[Gad q] at e;exact h.2 j t e⟩
def az.mz{K:ag}{H:Hp}{Z:St}{d:D}(E:az K H0 eg env Z H)(s:bp H H')(hi:i<env.length)(n:H a=J)(w:Wr H' a)(t:d.top=O)(zf:Inn K (λb=>Cln eg env Z b/\b≠a) H' d (.ref a)):
  az K H0 eg (env.set i (U (.own d))) (Z.set i (U (.ref a))) H' :=by
 have cln:∀b,Cln eg env Z b->b≠a->Cln eg (env.set i (U (.own d))) _ b:=λb h hb=>sQ hi E.len h hb;refine E.CF hi (E.same.free n) (λb=>E.bad a b n) w t (E.same.trans s) (λb h e=>E.bad b h (s.free e)) (λj b hj tj ej=> ?_) (zf.imp λb h=>cln b h.1 h.2) (λb h hb=>cln b h λz=>hb (z▸n)) (.Xl s);have hb:=E.jo tj ej;refine⟨λz=>hb (z▸n), ?_⟩;cases q:H b with
 |none=>exact absurd q hb
 |some o=>exact s b o q
def Stp.mz{Z:St}(s:bp H H')(hi:i<env.length)(hs:env.length=Z.length)(n:H a=J):Stp env Z H (env.set i (U (.own d))) (Z.set i (U (.ref a))) H' :=⟨λb o e _=>s b o e,λb ⟨j,h,e⟩=>by
 by_cases q:i=j
 .simp_all
 .rw[Gad q] at h e;exact .inl ⟨j,h,e⟩,λj h=>by
 by_cases q:i=j
 .subst q;rw[bZ hi] at h;exact h.elim
 .rw[Gad q,Gad q];exact⟨rfl,rfl⟩⟩
def az.change{K:ag}{i:Nat}{d' :D}(E:az K H0 eg env Z H)(e:env[i]? =U (U (.own d)))(ea:Z[i]? =U (U (.ref a)))(wo:isW o)(t:d'.top=O)
  (inn:Inn K (Cln eg env Z) (upd H a o) d' (.ref a)):az K H0 eg (env.set i (U (.own d'))) Z (upd H a o)/\Stp env Z H (env.set i (U (.own d'))) Z (upd H a o):=by
 have hi:=(Gac.mp e).1;obtain⟨a',h1,h2,h3,h4,h5,h6⟩:=E.ow i d (.inl e);rw[ea] at h1;cases h1;have hsg:=set_same ea;have hU:∀j,bJ (env.set i (U (.own d')))[j]? ↔bJ env[j]? :=λj=>by
  by_cases q:i=j
  .subst q;rw[bZ hi,e];exact⟨λ_=>trivial,λ_=>trivial⟩
  .simp_all
 have clnE:∀b,Cln eg env Z b->Cln eg _ Z b:=λb h=> ⟨h.1,λj tj ej=>h.2 j ((hU j).mp tj) ej⟩;have ca:∀b,Cln eg env Z b->b≠a:=λb h z=>by subst z;exact h.2 i (by rw[e];trivial) ea
 have iD:jg (Cln eg env Z) H (upd H a o):=λb x hb q=>by
  have:b≠a:=by
   rintro rfl;rcases q with q|q
   .exact ca b q rfl
   .obtain⟨y,hy,wy⟩:=h4;rw[hb] at hy;cases hy;cases x<;>simp[isT] at q<;>exact wy
  rwa[aq this]
 have keepA:∀b x,H b=U x->b≠a->(upd H a o) b=U x:=λb x hb hn=>by rw[aq hn];exact hb
 refine⟨?_,⟨λb x hb n=>keepA b x hb λz=>n ⟨i,by rw[e];trivial,by rw[z];exact ea⟩,λb ⟨j,h,ej⟩=> .inl ?_,λj h=> ?_⟩⟩
 .have:=E.CF hi h2 h3 ⟨o,aB,wo⟩ t (λb x hb=>keepA b x (E.same b x hb) λz=>by rw[z,h2] at hb;cases hb)
   (λb hb z=>by
    by_cases q:b=a
    .subst q;rw[aB] at z;cases z
    .rw[aq q] at z;exact E.bad b hb z)
   (λj b hj tj ej=>by
    have:b≠a:=by rintro rfl;exact hj (E.dj i j b (by rw[e];trivial) tj ea ej).symm
    exact⟨this,by rw[aq this]⟩)
   (by rw[hsg];exact inn.imp clnE) (λb h _=>by rw[hsg];exact clnE b h) iD
  rwa[hsg] at this
 .by_cases q:i=j
  .subst q;exact⟨i,by rw[e];trivial,ej⟩
  .rw[Gad q] at h;exact⟨j,h,ej⟩
 .by_cases q:i=j
  .subst q;rw[bZ hi] at h;exact h.elim
  .rw[Gad q];exact⟨rfl,rfl⟩
end
section
variable{X:Cx}{b:Xp}
def CG:nG X [] aE:=by
 refine Gf.aA (λD Z H q0=>bP q0 λH0 eg env o E e k=> ?_);cases e;exact k Z H E .refl
variable{st:Xu}
def GZ{rest:List Xu}(h1:PSd X st s1)(h2:nG X rest s2):nG X (st::rest) (ao s1 s2):=by
 refine(o6 h1 h2).aA (λD Z H q0=>bP q0 λH0 eg env o E e k=>a9 e λo1 h1 e=> ⟨H0,eg,env,o1,E,h1, ?_⟩);cases o1 with
 |nx e1=>
  intro Z1 H1 E1 p1;refine⟨H0,eg,e1,o,E1,e, ?_⟩;cases o with
  |nx e2=>exactλZ2 H2 E2 p2=>k Z2 H2 E2 (p1.trans p2)
  |bk e2=>exactλZ2 H2 E2 p2=>k Z2 H2 E2 (p1.trans p2)
  |ct e2=>exactλZ2 H2 E2 p2=>k Z2 H2 E2 (p1.trans p2)
  |ret d=>exact k
 |bk e1=>cases e;exact k
 |ct e1=>cases e;exact k
 |ret d=>cases e;exact k
def CH(h1:PSd X st s1):nG X [st] s1:=qH h1
def CI:PSd X st uT:=λ_ _ _ _ _ _ ⟨_,_,_,_,_,e,_⟩=>by cases e
variable{d:D}
def Ha{K:ag}(i:Inn K F H' d v)(hd:d.imm=O):pX K H0 H' d v:=by
 refine⟨λt=> ?_,(i.imm hd).inn⟩;cases d<;>simp[D.top] at t<;>simp at hd
def wm{K:ag}{H0:Hp}(i:Inn K F H' d (.ref a))(hd:d.bI=O)(n:H0 a=J)(w:Wr H' a):pX K H0 H' d (.ref a):=by
 refine⟨λ_=> ⟨a,rfl,n,w⟩, ?_⟩;cases i with
 |tup h r=>exact(Inn.imm (.tup h r) (by exact hd)).inn
 |scr h=>exact .scr h
 |kt h=>exact .kt h
 |exc h r=>exact(Inn.imm (.exc h r) (by exact hd)).inn
 |obj h ln kd r=>simp[D.bI] at hd
 |kid f h r=>simp[D.bI] at hd
 |lst h r=>exact .lst h (r.imm hd)
def CJ(he:PEd X e f):PSd X (.Return (U e) pos) (Xi f):=by
 refine(qJ he).aA (λD Z H q0=>bP q0 λH0 eg env o E e k=>a9 e λr hr e=> ?_);split at e
 .rename_i ok;cases e;refine⟨H0,eg,env,r,E,hr,λv H1 s1 R=>k v H1 (E.same.trans s1) ?_⟩;obtain⟨kd,d⟩:=r;cases kd with
  |c=>exact Ha R.inn ok
  |tn=>
   have ii:=R.inn;obtain⟨a,rfl,n,w,t,i⟩:=R;exact wm ii ok (E.same.free n) w
  |to=>
   have ii:=R.inn;obtain⟨a,rfl,n,w,t,i⟩:=R;exact wm ii ok n w
  |tb=>exact absurd (show M=O from ok) Gaq
 .cases e
def OZ(hc:PTd X c t)(ha:nG X xs s1)(hb:nG X ys s2):PSd X (.If c xs ys pos) (ifS t s1 s2):=by
 refine(C3 hc ha hb).aA (λD Z H q0=>bP q0 λH0 eg env o E e k=>a9 e λx hx e=> ⟨H0,eg,env,x,E,hx,λH1 s1=> ?_⟩);have st:Stp env Z H env Z H1:= .Xl s1;have fin:∀{s:DS},s env=U o->tS X s D Z H1:=λ{s} e=> ⟨H0,eg,env,o,E.mono s1,e,by
  cases o with
  |nx e2=>exactλZ2 H2 E2 p2=>k Z2 H2 E2 (st.trans p2)
  |bk e2=>exactλZ2 H2 E2 p2=>k Z2 H2 E2 (st.trans p2)
  |ct e2=>exactλZ2 H2 E2 p2=>k Z2 H2 E2 (st.trans p2)
  |ret d=>exact k⟩
 dsimp only;cases x with
 |true=>rw[Gaj rfl];rw[Gaj rfl] at e;exact fin e
 |false=>rw[Gau Gaq];rw[Gau Gaq] at e;exact fin e
def CK{X:Cx}{env:Env}{Z:St}(E:az X.K H0 eg env Z H)(hl:Z.length=X.N.length)(hi:X.N[i]? =U x):i<env.length:=by
 rw[E.len,hl];exact(Gac.mp hi).1
def uW{pos:Pos}(hN:X.N.Nodup)(hi:X.N[i]? =U x)(hx:Loc X.env.scope x)(he:PEd X e f)(hs:autoParam (swapsWith e (U (.Name x pos')) pos.line X.env=pure M) Za1._auto_1)
  (hf:autoParam (X.fn x=O\/X.env.scope.names.lookup x=U .local) Za3._auto_1):PSd X (.Assign [.Name x pos'] e pos) (au i f):=by
 intro ef s Z H D I hw;refine(C5 hN hi hx he hs hf) ef s Z H D I ?_;obtain⟨H0,eg,env,o,E,e,k⟩:=hw;refine a9 e λr hr e=> ?_;obtain⟨e',xw,rfl⟩:=Gaa.mp e;have hie:=CK E I.len hi;refine⟨H0,eg,env,r,E,hr,λv H1 s1 R=> ?_⟩;have st:Stp env Z H env Z H1:= .Xl s1;obtain⟨kd,d⟩:=r;cases kd with
 |c=>
  cases xw;exact k _ H1 ((E.mono s1).jq R) (st.trans .jq)
 |tn=>
  cases xw;obtain⟨a,rfl,n,w,t,i⟩:=R;exact k _ H1 (E.mz s1 hie n w t i) (.mz s1 hie E.len n)
 |to=>cases xw
 |tb=>cases xw
def CL(K:ag)(F N:Xo->Prop)(Xd:It)(ds:List D)(H1:Hp):Prop:=
 ∀Hi:Hp,(∀b o,H1 b=U o->N b->Hi b=U o)->(∀(i:Nat) d,ds[i]? =U d->Xd.go i Hi/\∀x H2,Xd.yld i Hi x H2->bp Hi H2/\Rep K F H2 d x)/\Xd.stop ds.length Hi
def tI(X:Cx)(src:DI):TI:=λZ H R=>∃H0 eg env ds,az X.K H0 eg env Z H/\src env=U ds/\∀Xd H',bp H H' ->CL X.K (λb=>Cln eg env Z b/\H' b≠J) (λb=>¬Ow env Z b) Xd ds H' ->R Xd H'
abbrev PId(X:Cx)(tg iter:Xp)(src:DI):Prop:=PI X tg iter (tI X src)
def _root_.L2.PI.aA(h:PI X tg iter w')(i:∀Z H R,w Z H R->w' Z H R):PI X tg iter w:=λef s Z H R I q=>h ef s Z H R I (i Z H R q)
def az.lock{K:ag}(E:az K H0 eg env Z H)(l:Option Nat):az K H0 eg (bM l env) Z H/\(∀b,Ow (bM l env) Z b->Ow env Z b)/\∀i:Nat,bJ (bM l env)[i]? ↔bJ env[i]? :=by
 cases l with
 |none=>exact⟨E,λ_ h=>h,λ_=>Iff.rfl⟩
 |some j=>
  unfold bM;dsimp only;split
  .rename_i d q;have hj:j<env.length:=(Gac.mp q).1;have hU:∀i,bJ (env.set j (U (.lok d)))[i]? ↔bJ env[i]? :=λi=>by
    by_cases z:j=i
    .subst z;rw[bZ hj,q];exact⟨λ_=>trivial,λ_=>trivial⟩
    .rw[Gad z]
   have cln:∀b,Cln eg env Z b->Cln eg (env.set j (U (.lok d))) Z b:=λb h=> ⟨h.1,λi t e=>h.2 i ((hU i).mp t) e⟩;refine⟨⟨E.same,by simpa using E.len,E.bad,λi di e=> ?_,λi di e=> ?_,λi di e=> ?_,λi k b t1 t2 e1 e2=> ?_⟩,λb ⟨i,h,e⟩=> ?_,hU⟩
   .rcases eG e with⟨z,e⟩| ⟨z,e⟩
    .cases e
    .obtain⟨v,h1,h2⟩:=E.sh i di e;exact⟨v,h1,h2.imp cln⟩
   .have e' :env[i]? =U (U (.own di))\/env[i]? =U (U (.lok di)):=by
     rcases e with e|e
     .rcases eG e with⟨z,e⟩| ⟨z,e⟩
      .cases e
      .exact .inl e
     .rcases eG e with⟨z,e⟩| ⟨z,e⟩
      .cases e;subst z;exact .inl q
      .exact .inr e
    obtain⟨b,h1,h2,h3,h4,h5,h6⟩:=E.ow i di e';exact⟨b,h1,h2,h3,h4,h5,h6.imp cln⟩
   .rcases eG e with⟨z,e⟩| ⟨z,e⟩
    .cases e
    .obtain⟨b,h1,hw,h2,h3⟩:=E.bo i di e;exact⟨b,h1,hw,h2,h3.imp cln⟩
   .have z9 :lq env[i]? :=by
     by_cases z:j=i
     .subst z;rw[q];trivial
     .rw[Gad z] at t1;exact t1
    exact E.dj i k b z9 ((hU k).mp t2) e1 e2
   .by_cases z:j=i
    .subst z;rw[bZ hj] at h;exact h.elim
    .rw[Gad z] at h;exact⟨i,h,e⟩
  .exact⟨E,λ_ h=>h,λ_=>Iff.rfl⟩
def az.free{K:ag}(E:az K H0 eg env Z H)(l:Option Nat):az K H0 eg (iF l env) Z H:=by
 cases l with
 |none=>exact E
 |some j=>
  unfold iF;dsimp only;split
  .rename_i d q;have hU:∀i,bJ (env.set j (U (.own d)))[i]? ↔bJ env[i]? :=λi=>by
    by_cases z:j=i
    .subst z;rw[bZ ((Gac.mp q).1),q];exact⟨λ_=>trivial,λ_=>trivial⟩
    .rw[Gad z]
   have cln:∀b,Cln eg env Z b->Cln eg _ Z b:=λb h=> ⟨h.1,λi t e=>h.2 i ((hU i).mp t) e⟩;refine⟨E.same,by simpa using E.len,E.bad,λi di e=> ?_,λi di e=> ?_,λi di e=> ?_,λi k b t1 t2 e1 e2=> ?_⟩
   .rcases eG e with⟨z,e⟩| ⟨z,e⟩
    .cases e
    .obtain⟨v,h1,h2⟩:=E.sh i di e;exact⟨v,h1,h2.imp cln⟩
   .have e' :env[i]? =U (U (.own di))\/env[i]? =U (U (.lok di)):=by
     rcases e with e|e
     .rcases eG e with⟨z,e⟩| ⟨z,e⟩
      .cases e;subst z;exact .inr q
      .exact .inl e
     .rcases eG e with⟨z,e⟩| ⟨z,e⟩
      .cases e
      .exact .inr e
    obtain⟨b,h1,h2,h3,h4,h5,h6⟩:=E.ow i di e';exact⟨b,h1,h2,h3,h4,h5,h6.imp cln⟩
   .rcases eG e with⟨z,e⟩| ⟨z,e⟩
    .cases e
    .obtain⟨b,h1,hw,h2,h3⟩:=E.bo i di e;exact⟨b,h1,hw,h2,h3.imp cln⟩
   .have z9 :lq env[i]? :=by
     by_cases z:j=i
     .subst z;rw[q]
      trivial
     .rwa[Gad z] at t1
    exact E.dj i k b z9 ((hU k).mp t2) e1 e2
  .exact E
end
section
variable{X:Cx}{a b:Xp}
def sS(h:∀j,l=U j->j≠i):(bM l env)[i]? =env[i]? :=by
 unfold bM;split
 .rfl
 .rename_i j;split
  .simp_all
  .rfl
def Stp.loop(p:Stp (bM l env) Z H xv ZN HN)(lo:∀b,Ow (bM l env) Z b->Ow env Z b):Stp env Z H (if mV l env then iF l xv else xv) ZN HN:=by
 have same:mV l env=M->bM l env=env:=λh=>by
  unfold mV at h;unfold bM;split at h
  .rfl
  .split at h
   .cases h
   .rfl
 cases ho:mV l env with
 |false=>
  simp_all
 |true=>
  rw[Gaj rfl];unfold mV at ho;split at ho
  .cases ho
  .rename_i j;split at ho
   .rename_i d q;have lockj:(bM (U j) env)[j]? =U (U (.lok d)):=by unfold bM;simp only[q];exact bZ ((Gac.mp q).1)
    refine⟨λb o e n=>p.keep b o e λz=>n (lo b z),λb ⟨i,h,e⟩=> ?_,λi h=> ?_⟩
    .by_cases z:j=i
     .subst z;unfold iF at h;dsimp only at h;split at h
      .rename_i d' q';obtain⟨h1,h2⟩:=p.lk j (by rw[q'];trivial);rw[h2] at e;exact .inl ⟨j,by rw[q];trivial,e⟩
      .rcases p.ow b ⟨j,h,e⟩ with w|w
       .exact .inl (lo b w)
       .exact .inr w
     .have h' :isO xv[i]? :=by
       unfold iF at h;dsimp only at h;split at h
       .rwa[Gad z] at h
       .exact h
      rcases p.ow b ⟨i,h',e⟩ with w|w
      .exact .inl (lo b w)
      .exact .inr w
    .by_cases z:j=i
     .subst z;unfold iF at h⊢;dsimp only at h⊢;split at h
      .rename_i d' q';rw[bZ ((Gac.mp q').1)] at h;exact h.elim
      .rename_i q';obtain⟨h1,_⟩:=p.lk j h;rw[lockj] at h1;exact absurd h1 (q' d)
     .have hN:(iF (U j) xv)[i]? =xv[i]? :=by
       unfold iF;dsimp only;split
       .rw[Gad z]
       .rfl
      rw[hN] at h⊢;obtain⟨h1,h2⟩:=p.lk i h;rw[(λi hi=>sS λk e=>by cases e;exact hi) i z] at h1;exact⟨h1,h2⟩
   .cases ho
def q8{b:Xo}(p:Stp env Z H eD Z' H')(h:Cln eg env Z b)(hb:H b≠J):Cln eg eD Z' b:=⟨h.1,λi t e=>by
 rcases pW t with o|o
 .rcases p.ow b ⟨i,o,e⟩ with⟨j,w,ej⟩|w
  .exact h.2 j w.ol.top ej
  .exact hb w
 .obtain⟨h1,h2⟩:=p.lk i o;rw[h1] at t;rw[h2] at e;exact h.2 i t e⟩
def L8(hp:PassesOwn (model X.prog X.w) X.A X.env X.xe)(hc:X.calm=O)(hi:PId X tg iter src)(hg:PGd X tg gd)(hb:nG X body sb)
  (hs:∀x,foldedSetIterable iter X.env x=pure x:=by intro _;rfl):PSd X (.For tg iter body [] pos) (gy l src gd sb):=by
 refine(Ke hp hc hi hg hb hs).aA (λD Z H q0=>bP q0 λH0 eg env o E e k=>a9 e λds hds e=> ?_);obtain⟨o1,UX,rfl⟩:=Gaa.mp e;obtain⟨EL,lo,_⟩:=E.lock l;refine⟨H0,eg,bM l env,ds,EL,hds,λXd H1 sH it=> ?_⟩;have st1:Stp env Z H env Z H1:= .Xl sH;have nxOk:∀xv ZN HN,o1= .nx xv->az _ H0 eg xv ZN HN->Stp _ Z H1 xv ZN HN->D.nx ZN HN:=λxv ZN HN eo EN pN=>by
  subst eo;refine k ZN HN ?_ (st1.trans (pN.loop lo));split
  .exact EN.free l
  .exact EN
 refine⟨λi m Z' H' =>m=ds.length -i/\i<=ds.length/\∃eV,az _ H0 eg eV Z' H' /\Stp _ Z H1 eV Z' H' /\Xj gd sb (ds.drop i) eV=U o1,
  ⟨ds.length,by simp,Nat.zero_le _,_,(EL.mono sH),.refl,by simpa using UX⟩, ?_⟩
 rintro i m Z' H' ⟨rfl,hle,eV,Ei,pi,ei⟩;obtain⟨items,stop⟩:=it H' λb o hb n=>pi.keep b o hb n;by_cases xa:i<ds.length
 .obtain⟨go,yld⟩:=items i ds[i] ?E;refine .inr ⟨go,λZ2 H2=>(ds.length -(i+1))=_ -_/\i+1<=_/\∃eV,az _ H0 eg eV Z2 H2/\Stp _ Z H1 eV Z2 H2/\Xj gd sb _ eV=U o1,λZ2 H2 q=> ⟨_,by lia,q⟩,λx H2 y=> ?_⟩;obtain⟨s2,rep⟩:=yld x H2 y;rw[(List.drop_eq_getElem_cons xa)] at ei;refine a9 ei λe2 yo ei=>a9 ei λo2 zD ei=> ⟨H0,eg,eV,ds[i],e2,Ei.mono s2,yo,rep.imp λb q=>q8 pi q.1 q.2,λZ3 H3 E3 p3=> ?_⟩;have p3' :Stp _ Z H1 e2 Z3 H3:=(pi.trans (.Xl s2)).trans p3;refine⟨H0,eg,e2,o2,E3,zD, ?_⟩;cases o2 with
  |nx e4=>exactλZ4 H4 E4 p4=> ⟨rfl,xa,e4,E4,p3'.trans p4,ei⟩
  |ct e4=>exactλZ4 H4 E4 p4=> ⟨rfl,xa,e4,E4,p3'.trans p4,ei⟩
  |bk e4=>
   cases ei
   exactλZ4 H4 E4 p4=>nxOk e4 Z4 H4 rfl E4 (p3'.trans p4)
  |ret d=>
   cases ei;exact k
 .have hi:i=ds.length:=by lia
  subst hi;rw[List.drop_length] at ei;cases ei;exact .inl ⟨stop,nxOk eV Z' H' rfl Ei pi⟩
def az.fL{K:ag}{H:Hp}{b:Xo}(E:az K H0 eg env Z H)(h:Ow env Z b)(hb:H b=U o):¬isT o:=by
 intro q;obtain⟨i,h1,h2⟩:=h;obtain⟨y,hy,wy⟩:=E.OT h1.ol h2;rw[hb] at hy;cases hy
 cases o<;>simp[isT] at q<;>exact wy
def az.gL{K:ag}{H Hi:Hp}(E:az K H0 eg env Z H)(keep:∀b o,H b=U o->¬Ow env Z b->Hi b=U o)(r:Rep K (Cln eg env Z) H d v):
  Rep K (λb=>Cln eg env Z b/\H b≠J) Hi d v:=
 r.gen (λb o hb q=>keep b o hb (by
  rcases q with q|q
  .exactλ⟨i,h1,h2⟩=>q.2 i h1.ol.top h2
  .exactλw=>E.fL w hb q)) λb q hb=> ⟨q,hb⟩
def RN(K:ag)(tl:TE):TI:=λZ H R=>tl Z H λx H1=>∃a,x= .ref a/\(((∃xs,SqL K H1 a xs)/\R (Itl K a) H1)\/((∃xs,SqT K H1 a xs)/\R (Itt K a) H1))
def L9(hl:PE X l tl):PI X tg l (RN X.K tl):=by
 intro ef s Z H R I h;refine thn (hl ef s Z H _ I h) λv s1 q0=> ?_;obtain⟨x,H1,I1,r1,q1⟩:=q0;obtain⟨a,rfl,q1⟩:=q1;cases r1;have fp:∀b∈[s1.heap.objs.size],je X ef H1 b:=λb hb=>by
  have e:b=s1.heap.objs.size:=by simpa using hb
  subst e;exact I1.uG (Gap _) (I1.hok.fresh (Gap _))
 rcases q1 with⟨⟨xs,hq⟩,q⟩| ⟨⟨xs,hq⟩,q⟩
 .obtain⟨eh,rv,p,hz⟩:=I1.list hq;exact Gcz p.isList (⟨_,[s1.heap.objs.size],_,_,H1,rfl,I1.kept λb o e=>Gaf _ e,Ay a _,⟨_,Gat _ rfl,rfl,rfl⟩,fp,q⟩)
 .obtain⟨eh,rv,p,hz⟩:=I1.tuple hq;exact GbZ (show s1.heap.IsTuple a _ from p) (⟨_,[s1.heap.objs.size],_,_,H1,rfl,I1.kept λb o e=>Gaf _ e,uH a _,⟨_,Gat _ rfl,rfl,rfl⟩,fp,q⟩)
theorem qX{d:D}(E:az X.K H0 eg env Z H)(ht:d.top=O)(hk:kd≠ .to)(Rv:fU X.K H0 eg env Z H H1 ⟨kd,d⟩ v):∀a,v= .ref a->¬Ow env Z a:=λa ea=>by
 cases kd with
 |c=>
  have fin:∀b,Cln eg env Z b->¬Ow env Z b:=λb f ⟨i,h1,h2⟩=>f.2 i h1.ol.top h2;cases Rv with
  |tup h l r=>simp[D.top] at ht
  |lst f h l r=>cases ea;exact fin _ f
  |non=>cases ea
  |bl b=>cases ea
  |int i=>cases ea
  |str x=>cases ea
  |scr h=>simp[D.top] at ht
  |kt h=>simp[D.top] at ht
  |exc _ _=>simp[D.top] at ht
  |obj f h ln kd l r=>cases ea;exact fin _ f
  |kid f h l r=>simp[D.top] at ht
 |tn=>
  obtain⟨a',e',n,_⟩:=Rv;rw[e'] at ea;cases ea
  exactλ⟨i,h1,h2⟩=>E.jo h1.ol.top h2 n
 |to=>exact absurd rfl hk
 |tb=>exact Rv.2 a ea ht
def CM(he:PEd X e f):PId X tg e (Cq f):=by
 refine(L9 he).aA (λZ H R q0=>bP q0 λH0 eg env ds E hf k=>a9 hf λ⟨kd,d⟩ hr hf=> ?_);split at hf
 .cases hf
 rename_i hk;refine⟨H0,eg,env,_,E,hr,λv H1 s1 Rv=> ?_⟩;have ii:=Rv.inn;have E1:=E.mono s1;split at hf
 .rename_i xs hd;cases hf;subst hd;have hno:=qX E rfl hk Rv;cases ii with
  | @lst la lv _ h r=>
   refine⟨_,rfl,.inl ⟨⟨_,.inl h⟩,k _ H1 s1 λHi keep=> ?_⟩⟩;have hh:Rd Hi la (.lst lv):=by
    rcases h with h| ⟨o,h⟩
    .exact .inl (keep _ _ h (hno _ rfl))
    .exact .inr ⟨o,keep _ _ h (hno _ rfl)⟩
   refine⟨λi d hd=> ?_,⟨_,.inl hh,by rw[r.1];exact Gap _⟩⟩;obtain⟨x,h1,h2⟩:=r.get hd;refine⟨⟨_,x,.inl hh,h1⟩,λy H2 ⟨e2,e3⟩=> ?_⟩;subst e2;refine⟨bw, ?_⟩;have:=e3 _ (.inl hh);rw[h1] at this;cases this;exact E1.gL keep h2
 .rename_i xs hd;cases hf;have xp :=hd;subst xp;cases ii with
  | @tup la lv _ h r=>
   refine⟨_,rfl,.inr ⟨⟨_,SqT.of h⟩,k _ H1 s1 λHi keep=> ?_⟩⟩;have hh:=keep _ _ h λw=>E1.fL w h trivial;refine⟨λi d hd=> ?_,⟨_,SqT.of hh,by rw[r.1];exact Gap _⟩⟩;obtain⟨x,h1,h2⟩:=r.get hd;refine⟨⟨_,x,SqT.of hh,h1⟩,λy H2 ⟨e2,e3⟩=> ?_⟩;subst e2;refine⟨bw, ?_⟩;have:=e3 _ (SqT.of hh);rw[h1] at this;cases this;exact E1.gL keep h2
 .rename_i ns hd;cases hf;subst hd;cases ii with
  | @scr la _ h=>
   refine⟨_,rfl,.inl ⟨⟨_,h.sq⟩,k _ H1 s1 λHi keep=> ?_⟩⟩;have hh:Scr X.K Hi la ns:=by
    rcases h with⟨o,h⟩|h
    .exact .inl ⟨o,keep _ _ h λw=>E1.fL w h trivial⟩
    .exact .inr h
   refine⟨λi d hd=> ?_,⟨_,hh.sq,by simp⟩⟩;rw[Gam] at hd;cases q:ns[i]? with
   |none=>rw[q] at hd;cases hd
   |some n=>
    rw[q] at hd;cases hd;refine⟨⟨_,.int n,hh.sq,by rw[Gam,q];rfl⟩,λy H2 ⟨e2,e3⟩=> ?_⟩;subst e2;have:=e3 _ hh.sq;rw[Gam,q] at this;cases this;exact⟨bw,.int n⟩
 .cases hf
def jj{lo:Int}{n:Nat}{F N:Xo->Prop}:CL X.K F N (Itr lo n) (aO lo n) H1:=λHi _=>by
 refine⟨λi d hd=> ?_,by show n<=(aO lo n).length;simp[aO]⟩;have hi:i<n:=by have:=(Gac.mp hd).1;simpa[aO] using this
 refine⟨hi,λx H2 ⟨e1,e2⟩=> ?_⟩;subst e1 e2;have:d= .int (lo+(i:Int)):=by
  unfold aO at hd;rw[Gam,List.getElem?_range hi] at hd;cases hd;rfl
 subst this;exact⟨bw,.int _⟩
def dY(h:bt i=O): -(2^62)<=i/\i<2^62:=by
 unfold bt at h;lia
def AV(hg:Gl X "range")(hm:X.mg "range"=J)(he:PEd X e f)(hs:autoParam (starEach [e] X.env=[(M,eval e X.env)]) Za1._auto_1):PId X tg (.Call (.Name "range" p) [e] [] pos) (aS f):=by
 refine(Az hg hm (dk he gP hs) hs).aA (λZ H R q0=>bP q0 λH0 eg env ds E hf k=>a9 hf λr hr hf=> ?_);split at hf
 .rename_i j hd;split at hf
  .rename_i hz;cases hf;refine⟨H0,eg,env,[r],E,by unfold ak aM;rw[hr];rfl,λvs H1 s1 Rs=> ?_⟩;cases Rs with
   |cons R1 t=>
    cases t;have i:=R1.inn;rw[hd] at i;cases i;exact⟨j,rfl,(dY hz).1,(dY hz).2,k _ H1 s1 jj⟩
  .cases hf
 .cases hf
def AX(hg:Gl X "range")(hm:X.mg "range"=J)(ha:PEd X a f)(hb:PEd X b g)(hs:autoParam (starEach [a,b] X.env=[(M,eval a X.env),(M,eval b X.env)]) Za1._auto_1)(hV:autoParam (starEach [b] X.env=[(M,eval b X.env)]) Za1._auto_1):
  PId X tg (.Call (.Name "range" p) [a,b] [] pos) (gz f g):=by
 refine(AB hg hm (dk ha (dk hb gP hV) ?H) hs hV).aA (λZ H R q0=>bP q0 λH0 eg env ds E hf k=>a9 hf λr hr hf=>a9 hf λr' Wi hf=> ?_);split at hf
 .rename_i i j hd xp;split at hf
  .rename_i hz;rw[Gai] at hz;cases hf;refine⟨H0,eg,env,[r,r'],E,by simp only[ak,hr,Wi];rfl,λvs H1 s1 Rs=> ?_⟩;cases Rs with
   |cons R1 t=>
    cases t with
    |cons R2 t=>
     cases t;have i1:=R1.inn;rw[hd] at i1;cases i1;have i2:=R2.inn;rw[xp] at i2;cases i2;exact⟨i,j,rfl,⟨(dY hz.1).1,(dY hz.1).2,(dY hz.2).1,(dY hz.2).2⟩,k _ H1 s1 jj⟩
  .cases hf
 .cases hf
def wq(hN:X.N.Nodup)(hi:X.N[i]? =U x)(hx:Loc X.env.scope x)(hf:autoParam (X.fn x=O\/X.env.scope.names.lookup x=U .local) Za3._auto_1):PGd X (.Name x pos) (gN i):=by
 refine(qK hN hi hx hf).aA ?_;rintro v Z H Q ⟨H0,eg,env,d,eD,E,hg,r,k⟩;cases hg;exact k _ H (E.jq r) .jq
def tGs(X:Cx)(is:List Nat):TGs:=λvs Z H Q=>∃H0 eg env ds eD,az X.K H0 eg env Z H/\gNs is ds env=U eD /\aP X.K (λb=>Cln eg env Z b/\H b≠J) H ds vs/\∀Z' H',az X.K H0 eg eD Z' H' ->Stp env Z H eD Z' H' ->Q Z' H'
def _root_.L2.PGs.aA(h:PGs X es t')(i:∀v Z H Q,t v Z H Q->t' v Z H Q):PGs X es t:=λef s Z H v u Q I r q=>h ef s Z H v u Q I r (i v Z H Q q)
def Hb:PGs X [] (tGs X []):=by
 refine vX.aA ?_;rintro vs Z H Q ⟨H0,eg,env,ds,eD,E,hg,r,k⟩;cases ds with
 |nil=>cases hg;exact⟨r.fm,k Z H E .refl⟩
 |cons d ds=>cases hg
def CN(h1:PGd X e (gN i))(h2:PGs X es (tGs X is))(hs:autoParam ((assignEach (e::es) X.env).map (·.2)=assign e X.env::(assignEach es X.env).map (·.2)) Za1._auto_1):PGs X (e::es) (tGs X (i::is)):=by
 refine(o7 h1 h2 hs).aA ?_;rintro vs Z H Q ⟨H0,eg,env,ds,eD,E,hg,r,k⟩;cases ds with
 |nil=>cases hg
 |cons d ds=>
  obtain⟨v,vr,rfl,r1,r2⟩:=r.cons_inv;refine⟨v,vr,rfl,H0,eg,env,d,_,E,rfl,r1.imp λ_ q=>q.1,λZ1 H1 E1 p1=> ?_⟩;refine⟨H0,eg,_,ds,eD,E1,hg,r2.gen (λb o hb q=>p1.keep b o hb (by
   rcases q with q|q
   .exactλ⟨j,w1,w2⟩=>q.1.2 j w1.ol.top w2
   .exactλw=>E.fL w hb q)) (λb q hb=> ⟨q8 p1 q.1 hb, ?_⟩),λZ2 H2 E2 p2=>k Z2 H2 E2 (p1.trans p2)⟩
  cases o:H b with
  |none=>exact absurd o hb
  |some x=>rw[p1.keep b x o λ⟨j,w1,w2⟩=>q.1.2 j w1.ol.top w2];simp
theorem wt:∀{is ds env eD},gNs is ds env=U eD ->ds.length=is.length
 |[],[],_,_,_=>rfl
 |[],_::_,_,_,h=>by cases h
 |_::_,[],_,_,h=>by cases h
 |i::is,d::ds,env,eD,h=>by
  have:=wt (ds:=ds) h;simp[this]
def La{is:List Nat}(hc:X.calm=O)(h:PGs X es (tGs X is))(hn:autoParam ((assignEach es X.env).length=n) Za1._auto_1)(xw:autoParam ((assignEach es X.env).findIdx? (·.1)=J) Za1._auto_1)(hl:autoParam (is.length=n) Za1._auto_1):PGd X (.Tuple es j pos) (gT is):=by
 refine(C4 hc h hn xw).aA ?_;rintro v Z H Q ⟨H0,eg,env,d,eD,E,hg,r,k⟩;unfold gT at hg;split at hg
 .rename_i ds;cases r with
  |tup h l r=>
   refine⟨_,_,rfl,SqT.of h,by rw[<-l,wt hg,hl],H0,eg,env,ds,eD,E,hg,⟨l,λi d v e1 e2=>(r i d v e1 e2).gen (.Xl bw) λb q hb=> ⟨q,hb⟩⟩,k⟩
 .cases hg
def Lb{pos:Pos}(he:PEd X e f)(hg:PGd X tg gd)(hs:autoParam (swapsWithSole [tg] e pos.line X.env=pure M) Za1._auto_1)(hw:autoParam (swappedStores [tg] e X.env=pure J) Za1._auto_1)(h1:autoParam ((assignEach [tg] X.env).map (·.2)=[assign tg X.env]) Za1._auto_1):PSd X (.Assign [tg] e pos) (GI gd f):=by
 refine(Kc he hg hs hw h1).aA (λD Z H q0=>bP q0 λH0 eg env o E e k=>a9 e λ⟨kd,d⟩ hr e=> ?_);cases kd with
 |c=>
  obtain⟨eD,yS,rfl⟩:=Gaa.mp e;exact⟨H0,eg,env,_,E,hr,λv H1 s1 R=> ⟨H0,eg,env,d,eD,E.mono s1,yS,R,λZ2 H2 E2 p2=>k Z2 H2 E2 ((Stp.Xl s1).trans p2)⟩⟩
 |tn=>cases e
 |to=>cases e
 |tb=>cases e
end
section
variable{b:Xp}{t:DT}
def ly(h:ownAt i env=U d):env[i]? =U (U (.own d)):=by
 unfold ownAt at h;split at h
 .simp_all
 .cases h
def nO{K:ag}{H:Hp}(w:Wr H a)(i:Inn K F H (.lst ds) (.ref a)):∃vs,H a=U (.lst vs)/\aP K F H ds vs:=by
 cases i with
 |lst h r=>
  rcases h with h| ⟨o,h⟩
  .exact⟨_,h,r⟩
  .obtain⟨y,hy,wy⟩:=w;rw[h] at hy;cases hy;exact wy.elim
variable{X:Cx}
def AY{pos apos eJ:Pos}(hN:X.N[i]? =U x)(hv:Vis X.env.scope x)(he:PEd X e f)(hd:autoParam ((x==("__debug__":Str))=M) Za2._auto_1)(xf:autoParam ((x==("__classdict__":Str))=M) Za2._auto_1)
  (eZ:autoParam (starEach [e] X.env=[(M,eval e X.env)]) Za1._auto_1)
  (xh:autoParam (attributeBase (.Name x px) "append" X.env (eval (.Name x px) X.env)=eval (.Name x px) X.env) Za1._auto_1)
  (yp:((backTo eJ (starEach [e] X.env)).all (λx=> !x.1)&&(backToKw eJ (keywordEach [] X.env)).all (λx=>x.1.isSome)
   &&decide (([e]:List Xp).length+([]:List Keyword).length+(if([]:List Keyword).isEmpty then 0 else 1)<30))=O:=by rfl)
  (eU:autoParam ((apos.endLine==eJ.line)=O) Za1._auto_1)(hs:autoParam (swapsWith (.Call (.Attribute (.Name x px) "append" apos) [e] [] eJ) J pos.line X.env=pure M) Za1._auto_1):
  PSd X (.Expr (.Call (.Attribute (.Name x px) "append" apos) [e] [] eJ) pos) (cL i f):=by
 refine(qI (sx Gcx PySem.F.slot_list_append PySem.F.type_list_append mj (fi hN hv hd xf) (dk he gP eZ) xh yp eU eZ rfl) hs).aA (λD Z H q0=>bP q0 λH0 eg env o E e k=>a9 e λr hr e=>a9 e λd hd e=> ?_);have q:=ly hd;split at e
 .rename_i xs;split at e
  .rename_i z;rw[Gai] at z;cases e;obtain⟨a,h1,h2,h3,h4,h5,h6⟩:=E.ow i _ (.inl q);obtain⟨vs,hH,rp⟩:=nO h4 h6;refine⟨_,h1,.inl ⟨rfl,vs,.inl (.inl hH)⟩,H0,eg,env,[r],E,by unfold ak aM;rw[hr];rfl,λws H2 s2 Rs=> ?_⟩;cases Rs with
   | @cons _ v _ _ R1 tl=>
    cases tl;have yB:=s2 _ _ hH;refine⟨a,vs,v,rfl,rfl,yB,by rw[<-rp.1];exact Gar z.2, ?_⟩;obtain⟨E3,p3⟩:=(E.mono s2).change (o:= .lst _) q h1 trivial rfl (.lst (.inl aB) (((rp.gen (.Xl s2) λ_ f _=>f).append (.cons (R1.rep E z.1) .nil)).gen (λb o hb w=>by
     have:b≠a:=by
      rintro rfl;rcases w with w|w
      .exact w.2 i (by rw[q];trivial) h1
      .rw[yB] at hb;cases hb;exact w
     rw[aq this];exact hb) λ_ f _=>f))
    exact k Z _ E3 ((Stp.Xl s2).trans p3)
  .cases e
 .cases e
def RO(K:ag):List V->Hp->VK->Prop:=λxs H Q=>∃x T t b,xs=[x,.ty T]/\nB K H x (.type t)/\PySem.W.kitOne K (.type t) (.type T)=U b/\Q (.bl b) H
def CO:dJ X (.builtin "isinstance") (RO X.K):=by
 intro ef s Z H xs us Q I r h;obtain⟨x,T,t,bb,rfl,ty,hk,q⟩:=h;obtain⟨u,w',rfl,r1,r2⟩:=vals2 r;cases r2;exact AJ I r1 ty hk λtk=> ⟨.bl bb,H,I.tok _,rfl,q⟩
def om(K:ag)(T:String):Prop:=∀t∈["NoneType","bool","int","str","tuple","list","dict"],PySem.W.kitOne K (.type t) (.type T)=U (T==t||(t=="bool"&&T=="int"))
def Hc{K:ag}(i:Inn K F H d x)(hs:l9 d=M):∃t∈["NoneType","bool","int","str","tuple","list","dict"],nB K H x (.type t)/\∀S,pB S d=(S==t||(t=="bool"&&S=="int")):=by
 have rdl:∀{a:Xo} {vs:List V},Rd H a (.lst vs)->nB K H _ _:=λh=>by
  rcases h with h| ⟨o,h⟩
  .exact .lst h
  .exact .frz h
 cases i with
 |non=>exact⟨"NoneType",by simp,.non,λS=>by simp⟩
 |bl b=>exact⟨"bool",by simp,.bl b,λS=>by simp⟩
 |int i=>exact⟨"int",by simp,.int i,λS=>by simp⟩
 |str x=>exact⟨"str",by simp,.str x,λS=>by simp⟩
 |tup h r=>exact⟨"tuple",by simp,.tup h,λS=>by simp⟩
 |lst h r=>exact⟨"list",by simp,rdl h,λS=>by simp⟩
 |scr h=>cases hs
 |kt h=>cases hs
 |exc _ _=>cases hs
 |obj _ _ _ _=>cases hs
 |kid _ _ _=>cases hs
def Lc(W6:om X.K T)(he:PEd X e f)(hg:Gl X "isinstance")(hm:X.mg "isinstance"=J)(yo:Gl X x)(xT:X.mg x=J)(Wc:bootBuiltins x=U (.type T))(ze:autoParam (x≠"__name__") Za2._auto_1)(hd2:autoParam ((x==("__debug__":Str))=M) Za2._auto_1)
  (eZ:autoParam (starEach [e,.Name x p2] X.env=(M,eval e X.env)::starEach [.Name x p2] X.env) Za1._auto_1)(hV:autoParam (starEach [.Name x p2] X.env=(M,eval (.Name x p2) X.env)::starEach [] X.env) Za1._auto_1)(xb:autoParam ((backTo pos (starEach [.Name x p2] X.env)).any (·.1)=M) Za1._auto_1):
  PEd X (.Call (.Name "isinstance" p) [e,.Name x p2] [] pos) (bE (jZ T f)):=by
 have ht:PE X (.Name x p2) (tC (.ty T)):=vW yo xT Wc rfl ze hd2;refine(kZ CO hg hm rfl (cM he (cM ht gO hV) eZ) (by decide) rfl eZ xb).aA (λZ H Q q0=>bP q0 λH0 eg env rv E e k=> ?_);obtain⟨bb,e',rfl⟩:=Gaa.mp e;have e:=e';refine a9 e λr hr e=> ?_;split at e
 .cases e
 .rename_i hs;cases e;refine⟨H0,eg,env,r,E,hr,λv H1 s1 R=> ?_⟩;obtain⟨t,ht,ty,hb⟩:=Hc R.inn ?H;exact⟨v,T,t,_,rfl,ty,W6 t ht,by rw[<-hb T];exact k _ H1 s1 (.bl _)⟩
def He:∀env rs,aM env=U rs->rs.length=0:=λenv rs h=>by cases h;rfl
def CP(h:∀env rs,r env=U rs->rs.length=n):∀env rs,ak f r env=U rs->rs.length=n+1:=λenv rs e=>by
 refine a9 e λx _ e=>a9 e λxs hx e=> ?_;cases e;rw[GaF,h env xs hx]
theorem az.start{K:ag}{N:List Str}{ds:List D}(hl:ds.length<=N.length)(r:aP K (λ_=>True) H ds vs):az K H (λ_=>False) (dv N.length ds) (start N vs) H:=by
 have nt:∀i:Nat,¬bJ (dv N.length ds)[i]? :=λi h=>by
  unfold dv at h;by_cases hi:i<ds.length
  .rw[GaM (by simpa using hi),Gam] at h;cases q:ds[i]? with
   |none=>rw[q] at h;exact h
   |some d=>rw[q] at h;exact h
  .rw[GaK (by simpa using hi),GbC] at h;split at h<;>exact h
 have no:∀{i:Nat} {s:Slot},(dv N.length ds)[i]? =U (U s)->bJ (U (U s))->False:=λ{i s} e h=>nt i (by rw[e];exact h);refine⟨λ_ _ e=>e,by simp[dv,L2.start,r.1],λ_ h=>h.elim,λi d e=> ?_,λi d e=> ?_,λi d e=> ?_,λi j a t _ _ _=>(nt i t.top).elim⟩
 .unfold dv at e;by_cases hi:i<ds.length
  .rw[GaM (by simpa using hi),Gam] at e;cases q:ds[i]? with
   |none=>rw[q] at e;cases e
   |some d' =>
    rw[q] at e;have e' :d' =d:=by simpa using e
    subst e';obtain⟨v,h1,h2⟩:=r.get q;refine⟨v, ?_,h2.imp λb _=> ⟨λz=>z,λj t=>(nt j t).elim⟩⟩;unfold L2.start;rw[GaM (by rw[Gav,<-r.1];exact hi),Gam,h1];rfl
  .rw[GaK (by simpa using hi),GbC] at e;split at e<;>cases e
 .rcases e with e|e
  .exact(no e trivial).elim
  .exact(no e trivial).elim
 .exact(no e trivial).elim
def P0{K:ag}{fd:XA}{N ps:List Str}{k:Nat}(F:Fun K x qual sd fa fd)(S:dh N ps (av sd))(yj:ps.length=np)
  (xg:∀eQ A outer s H E,cD k (A.deeper (envOfC qual (av sd) s.heap.objs.size fa eQ))->
   nG (gf CX0 P w K mg base N qual (av sd) fa eQ A outer s H E).nox (bY sd) body):cp P w K mg base CX0 (k+1) fa fd ps (spD K np (cN N.length np body)):=by
 refine F.ok S (λvs H Q E h=> ?_) λeQ A outer s H vs Q E hr h=> ⟨_,xg eQ A outer s H E hr, ?_⟩
 .obtain⟨ds,d,h1,h2,_⟩:=h;rw[<-h2.1,h1,yj]
 .obtain⟨ds,d,h1,h2,h3,k⟩:=h;unfold cN at h3;rw[Gaj h1] at h3;refine a9 h3 λo ho h3=> ?_;have hl:ds.length<=N.length:=by
   have:=congrArg List.length S.pre
   grind
  refine⟨H,λ_=>False,dv _ ds,o,az.start hl h2,ho, ?_⟩;cases o with
  |ret d' =>cases h3;exactλv H' s' R=>k v H' s' R
  |nx e=>cases h3;exactλZ' H' E' p' =>k .non H' E'.same ⟨λt=>(by cases t),.non⟩
  |bk e=>cases h3
  |ct e=>cases h3
def Ld{K:ag}{ns:List Int}{sp:SpF}(hO:Gz H)(hS:SqL K H a (ns.map V.int))(h:sp [.scr ns]=U (.bl O)):spD K 1 sp [.ref a] H (λv _=>v= .bl O) E:=by
 refine⟨[.scr ns],.bl O,rfl,aP.cons (.scr ?_) .nil,h,λv H' _ R=> ?_⟩
 .rcases hS with(z|z)|z
  .rcases hO a with q| ⟨o,xs,q⟩<;>rw[z] at q<;>cases q
  .exact .inl z
  .exact .inr z
 .have i:=R.2;cases i;rfl
end
def plain_all{ds:List D}{i:Nat}(h:ds.all (aY n)=O)(e:ds[i]? =U d):aY n d=O:=Gan.mp h d (GaC e)
inductive qY (K:ag) (F:Xo->Prop) (H:Hp):D->V->Prop where
 |non:qY K F H .non .non
 |bl (b:Bool):qY K F H (.bl b) (.bl b)
 |int (i:Int):qY K F H (.int i) (.int i)
 |str (x:Str):qY K F H (.str x) (.str x)
 |tup {a:Xo} {vs:List V} {ds:List D} (h:H a=U (.tup vs)) (l:ds.length=vs.length) (r:∀(i:Nat) d v,ds[i]? =U d->vs[i]? =U v->Rep K F H d v):qY K F H (.tup ds) (.ref a)
 |lst {a:Xo} {vs:List V} {ds:List D} (f:F a) (h:Rd H a (.lst vs)) (l:ds.length=vs.length) (r:∀(i:Nat) d v,ds[i]? =U d->vs[i]? =U v->Rep K F H d v):qY K F H (.lst ds) (.ref a)
def bQ{K:ag}(p:aY n d=O)(r:Rep K F H d v):qY K F H d v:=by
 cases r with
 |non=>exact .non
 |bl b=>exact .bl b
 |int i=>exact .int i
 |str x=>exact .str x
 |tup h l r=>exact .tup h l r
 |lst f h l r=>exact .lst f h l r
 |_=>cases n<;>exact(Gaq p).elim
def sT:∀n d,aY n d=O->eqD d d=O:=by
 intro n;induction n with
 |zero=>intro d h;cases d<;>simp at h<;>simp
 |succ n ih=>
  have all:∀ds:List D,ds.all (aY n)=O->l8 ds ds=O:=by
   intro ds;induction ds with
   |nil=>intro _;rfl
   |cons d ds ih2=>
    intro h;rw[GbA,Gai] at h;simp[ih d h.1,ih2 h.2]
  intro d h;cases d<;>simp only[aY] at h<;>first
   |(simp;done)
   |exact all _ h
   |cases h
theorem jr:∀{ds es},ds.length≠es.length->l8 ds es=M
 |[],[],h=>absurd rfl h
 |[],_::_,_=>rfl
 |_::_,[],_=>rfl
 |d::ds,e::es,h=>by
  unfold l8;rw[jr ?H,Gdc]
theorem gS:∀{ds es},ds.length=es.length->(List.range ds.length).all (λj=>eqD (ds.getD j .non) (es.getD j .non))=l8 ds es
 |[],[],_=>rfl
 |[],_::_,h=>by simp at h
 |_::_,[],h=>by simp at h
 |d::ds,e::es,h=>by
  unfold l8;rw[GaF,List.range_succ_eq_map,GbA,List.all_map,<-(gS (by simpa using h))]
  rfl
section
def qZ{K:ag}:∀n {d d' v},aY n d=O->aY n d' =O->Rep K F H d v->Rep K G H d' v->d=d' :=by
 intro n;induction n with
 |zero=>intro d d' v h1 h2 r1 r2;cases bQ h1 r1<;>first|exact(Gaq h1).elim|(cases bQ h2 r2;rfl)
 |succ n ih=>
  have all:∀{ds es:List D} {vs:List V},ds.all (aY n)=O->es.all (aY n)=O->ds.length=vs.length->es.length=vs.length->(∀(i:Nat) d v,ds[i]? =U d->vs[i]? =U v->Rep K F H d v)->(∀(i:Nat) d v,es[i]? =U d->vs[i]? =U v->Rep K G H d v)->ds=es:=by
   intro ds es vs p1 p2 l1 l2 r1 r2;apply Gdh;intro i;by_cases hi:i<vs.length
   .have e1:ds[i]? =U ds[i]:=by simp
    have e2:es[i]? =U es[i]:=by simp
    have e3:vs[i]? =U vs[i]:=by simp
    rw[e1,e2,ih (plain_all p1 e1) (plain_all p2 e2) (r1 i _ _ e1 e3) (r2 i _ _ e2 e3)]
   .rw[Gbs ?B,Gbs ?B]
  intro d d' v h1 h2 r1 r2;cases bQ h1 r1 with
  |non=>cases bQ h2 r2;rfl
  |bl b=>cases bQ h2 r2;rfl
  |int i=>cases bQ h2 r2;rfl
  |str x=>cases bQ h2 r2;rfl
  |tup h l r=>
   cases bQ h2 r2 with
   |tup h' l' r' =>
    rw[h] at h';cases h';rw[all (by simpa[aY] using h1) ?H l l' r r']
   |lst f h' l' r' =>rcases h' with h' | ⟨o,h'⟩<;>rw[h] at h' <;>cases h'
  |lst f h l r=>
   cases bQ h2 r2 with
   |tup h' l' r' =>rcases h with h| ⟨o,h⟩<;>rw[h] at h' <;>cases h'
   |lst f' h' l' r' =>
    have:∀{xs ys:List V} {a:Xo},Rd H a (.lst xs)->Rd H a (.lst ys)->xs=ys:=λz1 z2=>by
     rcases z1 with z1| ⟨o,z1⟩<;>rcases z2 with z2| ⟨o',z2⟩<;>rw[z1] at z2<;>cases z2<;>rfl
    cases this h h';rw[all (by simpa[aY] using h1) (by simpa[aY] using h2) l l' r r']
def item_at{ds:List D}{vs:List V}{eh:List Xq}{K:ag}{j:Nat}(l:ds.length=vs.length)(r:∀(i:Nat) d v,ds[i]? =U d->vs[i]? =U v->Rep K F H d v)(rv:Xh vs eh)(h:j<eh.toArray.size):
  ∃d v,ds[j]? =U d/\ds.getD j .non=d/\Rep K F H d v/\Xg v eh.toArray[j]:=by
 have hj:j<eh.length:=by simpa using h
 have hv:j<vs.length:=by rw[rv.length];exact hj
 have hd:j<ds.length:=by rw[l];exact hv
 obtain⟨u,e1,e2⟩:=rv.get (i:=j) (x:=vs[j]) ?E;refine⟨ds[j],vs[j],by simp,by simp[hd],r j _ _ ?E ?E, ?_⟩;simp_all
def in1_units{A:Xx}(h:A.units+(n+1)<cLine):A.in1.units+n<cLine:=by
 lia
variable{Z:St}{X:Cx}
def oo(I:Inv X ef Z H s):∀n {dx dy x y v u A},aY n dx=O->aY n dy=O->Rep X.K F H dx x->Rep X.K G H dy y->Xg x v->Xg y u->A.units+n<cLine->SeqAt.EqAt A s v u (eqD dx dy):=by
 have flat:∀{dx dy:D} {x y:V} {v u:Xq} {A:Xx},qY X.K F H dx x->qY X.K G H dy y->Xg x v->Xg y u->wa x=O->wa y=O->SeqAt.EqAt A s v u (eqD dx dy):=by
  intro dx dy x y v u A r1 r2 rv ru fx fy;have e:eqD dx dy=eqV x y:=by
   cases r1<;>first|exact(Gaq fx).elim|(cases r2<;>first|exact _.elim|rfl)
  rw[e];exact Kx rv ru fx fy
 intro n;induction n with
 |zero=>
  intro dx dy x y v u A p1 p2 r1 r2 rv ru hu;refine flat (bQ p1 r1) (bQ p2 r2) rv ru ?_ ?_
  .cases bQ p1 r1<;>first|rfl|exact(Gaq p1).elim
  .cases bQ p2 r2<;>first|rfl|exact(Gaq p2).elim
 |succ n ih=>
  intro dx dy x y v u A p1 p2 r1 r2 rv ru hu;have hu0:A.units<cLine:=by lia
  cases bQ p1 r1 with
  | @tup a vs1 ds1 h l r=>
   cases rv;obtain⟨eh,xN,ht,_⟩:=I.tuple (SqT.of h);cases bQ p2 r2 with
   |non=>cases ru;exact SeqAt.EqAt.tuple_none ht hu0
   |bl b=>cases ru;exact SeqAt.EqAt.tuple_bool b ht hu0
   |int i=>obtain⟨t,rfl⟩:=ru;exact SeqAt.EqAt.tuple_int i t ht hu0
   |str z=>obtain⟨t,rfl⟩:=ru;exact SeqAt.EqAt.tuple_str z t ht hu0
   |lst f' h' l' r' =>
    cases ru;obtain⟨eL,eX,pl,_⟩:=I.list (.inl h');exact SeqAt.EqAt.tuple_list ht pl.isList hu0
   | @tup b yY xr h' l' r' =>
    cases ru;by_cases hab:a=b
    .subst hab;have:=qZ (n+1) p1 p2 (Rep.tup h l r) (Rep.tup h' l' r');rw[<-this,sT _ _ p1];exact SeqAt.EqAt.same _
    .obtain⟨eL,eX,xj,_⟩:=I.tuple (SqT.of h');have eZ:eh.toArray.size=ds1.length:=by rw[GaA,<-xN.length,l]
     have hV:eL.toArray.size=xr.length:=by rw[GaA,<-eX.length,l']
     have key:=SeqAt.RcAt.tuples (e:=λj=>eqD (ds1.getD j .non) (xr.getD j .non)) ht xj hu0 λj h1 h2=>by
      obtain⟨d1,v1,q1,q2,q3,q4⟩:=item_at l r xN h1;obtain⟨d2,v2,w1,w2,w3,w4⟩:=item_at l' r' eX h2;rw[q2,w2];exact ih (plain_all (by simpa[aY] using p1) q1) (plain_all (by simpa[aY] using p2) w1) q3 w3 q4 w4 (in1_units hu)
     refine SeqAt.EqAt.of_refs hab ?_;show SeqAt.RcAt A s (.ref a) (.ref b) (l8 ds1 xr);rw[eZ,hV] at key;by_cases hl:ds1.length=xr.length
     .rw[<-hl,Nat.min_self,gS hl] at key
      simpa using key
     .rw[jr hl];have:(ds1.length==xr.length)=M:=by simpa using hl
      rwa[this,Gdc] at key
  | @lst a vs1 ds1 f h l r=>
   cases rv;obtain⟨eh,xN,pl,_⟩:=I.list (.inl h);have ht:=pl.isList;cases bQ p2 r2 with
   |non=>cases ru;exact SeqAt.EqAt.list_none ht hu0
   |bl b=>cases ru;exact SeqAt.EqAt.list_bool b ht hu0
   |int i=>obtain⟨t,rfl⟩:=ru;exact SeqAt.EqAt.list_int i t ht hu0
   |str z=>obtain⟨t,rfl⟩:=ru;exact SeqAt.EqAt.list_str z t ht hu0
   |tup h' l' r' =>
    cases ru;obtain⟨eL,eX,xj,_⟩:=I.tuple (SqT.of h');exact SeqAt.EqAt.list_tuple ht xj hu0
   | @lst b yY xr f' h' l' r' =>
    cases ru;by_cases hab:a=b
    .subst hab;have:=qZ (n+1) p1 p2 (Rep.lst f h l r) (Rep.lst f' h' l' r');rw[<-this,sT _ _ p1];exact SeqAt.EqAt.same _
    .obtain⟨eL,eX,yf,_⟩:=I.list (.inl h');have xj:=yf.isList;have eZ:eh.toArray.size=ds1.length:=by rw[GaA,<-xN.length,l]
     have hV:eL.toArray.size=xr.length:=by rw[GaA,<-eX.length,l']
     refine SeqAt.EqAt.of_refs hab ?_;show SeqAt.RcAt A s (.ref a) (.ref b) (l8 ds1 xr);by_cases hl:ds1.length=xr.length
     .have key:=SeqAt.RcAt.lists (e:=λj=>eqD (ds1.getD j .non) (xr.getD j .non)) ht xj (by rw[eZ,hV,hl]) hu0 λj h1 h2=>by
       obtain⟨d1,v1,q1,q2,q3,q4⟩:=item_at l r xN h1;obtain⟨d2,v2,w1,w2,w3,w4⟩:=item_at l' r' eX h2;rw[q2,w2];exact ih (plain_all (by simpa[aY] using p1) q1) (plain_all (by simpa[aY] using p2) w1) q3 w3 q4 w4 (in1_units hu)
      rwa[eZ,gS hl] at key
     .rw[jr hl];exact SeqAt.RcAt.lists_lengths ht xj (by rw[eZ,hV];simpa using hl) hu0
  |non=>
   cases rv;cases bQ p2 r2 with
   |tup h' l' r' =>cases ru;obtain⟨eL,eX,xj,_⟩:=I.tuple (SqT.of h');exact SeqAt.EqAt.none_tuple xj hu0
   |lst f' h' l' r' =>cases ru;obtain⟨eL,eX,yf,_⟩:=I.list (.inl h');exact SeqAt.EqAt.none_list yf.isList hu0
   |_=>exact flat .non (by first|exact .non|exact .bl _|exact .int _|exact .str _) rfl ru rfl rfl
  |bl b=>
   cases bQ p2 r2 with
   |tup h' l' r' =>cases rv;cases ru;obtain⟨eL,eX,xj,_⟩:=I.tuple (SqT.of h');exact SeqAt.EqAt.bool_tuple b xj hu0
   |lst f' h' l' r' =>cases rv;cases ru;obtain⟨eL,eX,yf,_⟩:=I.list (.inl h');exact SeqAt.EqAt.bool_list b yf.isList hu0
   |_=>exact flat (.bl b) (by first|exact .non|exact .bl _|exact .int _|exact .str _) rv ru rfl rfl
  |int i=>
   cases bQ p2 r2 with
   |tup h' l' r' =>obtain⟨t,rfl⟩:=rv;cases ru;obtain⟨eL,eX,xj,_⟩:=I.tuple (SqT.of h');exact SeqAt.EqAt.int_tuple i t xj hu0
   |lst f' h' l' r' =>obtain⟨t,rfl⟩:=rv;cases ru;obtain⟨eL,eX,yf,_⟩:=I.list (.inl h');exact SeqAt.EqAt.int_list i t yf.isList hu0
   |_=>exact flat (.int i) (by first|exact .non|exact .bl _|exact .int _|exact .str _) rv ru rfl rfl
  |str z=>
   cases bQ p2 r2 with
   |tup h' l' r' =>obtain⟨t,rfl⟩:=rv;cases ru;obtain⟨eL,eX,xj,_⟩:=I.tuple (SqT.of h');exact SeqAt.EqAt.str_tuple z t xj hu0
   |lst f' h' l' r' =>obtain⟨t,rfl⟩:=rv;cases ru;obtain⟨eL,eX,yf,_⟩:=I.list (.inl h');exact SeqAt.EqAt.str_list z t yf.isList hu0
   |_=>exact flat (.str z) (by first|exact .non|exact .bl _|exact .int _|exact .str _) rv ru rfl rfl
def sU{A:Xx}(I:Inv X ef Z H s)(p1:aY n dx=O)(p2:aY n dy=O)(r1:Rep X.K F H dx x)(r2:Rep X.K G H dy y)(rv:Xg x v)(ru:Xg y u)(hu:A.units+n<cLine):
  SeqAt.RcAt A s v u (eqD dx dy)/\SeqAt.RcNeAt A s v u (!eqD dx dy):=by
 have hu0:A.units<cLine:=by lia
 have tupAt:∀{a:Xo} {vs:List V},H a=U (.tup vs)->∃eh:List Xq,s.heap.IsTuple a _:=λh=>let⟨eh,_,ht,_⟩:=I.tuple (SqT.of h);⟨eh,ht⟩
 have lstAt:∀{a:Xo} {vs:List V},Rd H a (.lst vs)->∃eh:List Xq,s.heap.IsList a _:=λh=>let⟨eh,_,pl,_⟩:=I.list (.inl h);⟨eh,pl.isList⟩
 cases bQ p1 r1 with
 |non=>
  cases rv;cases bQ p2 r2 with
  |non=>cases ru;exact⟨.none_none,.none_none⟩
  |bl b=>cases ru;exact⟨.none_bool b,.none_bool b⟩
  |int i=>obtain⟨t,rfl⟩:=ru;exact⟨.none_int i t,.none_int i t⟩
  |str z=>obtain⟨t,rfl⟩:=ru;exact⟨.none_str z t,.none_str z t⟩
  |tup h' l' r' =>cases ru;obtain⟨eh,ht⟩:=tupAt h';exact⟨.none_tuple ht hu0,.none_tuple ht hu0⟩
  |lst f' h' l' r' =>cases ru;obtain⟨eh,ht⟩:=lstAt h';exact⟨.none_list ht hu0,.none_list ht hu0⟩
 |bl b=>
  cases rv;cases bQ p2 r2 with
  |non=>cases ru;exact⟨.bool_none b,.bool_none b⟩
  |bl b' =>cases ru;exact⟨.bool_bool b b',.bool_bool b b'⟩
  |int i=>obtain⟨t,rfl⟩:=ru;exact⟨.bool_int b i t,.bool_int b i t⟩
  |str z=>obtain⟨t,rfl⟩:=ru;exact⟨.bool_str b z t,.bool_str b z t⟩
  |tup h' l' r' =>cases ru;obtain⟨eh,ht⟩:=tupAt h';exact⟨.bool_tuple b ht hu0,.bool_tuple b ht hu0⟩
  |lst f' h' l' r' =>cases ru;obtain⟨eh,ht⟩:=lstAt h';exact⟨.bool_list b ht hu0,.bool_list b ht hu0⟩
 |int i=>
  obtain⟨t,rfl⟩:=rv;cases bQ p2 r2 with
  |non=>cases ru;exact⟨.int_none i t,.int_none i t⟩
  |bl b' =>cases ru;exact⟨.int_bool i t b',.int_bool i t b'⟩
  |int j=>obtain⟨t',rfl⟩:=ru;exact⟨.int_int i t j t',.int_int i t j t'⟩
  |str z=>obtain⟨t',rfl⟩:=ru;exact⟨.int_str i t z t',.int_str i t z t'⟩
  |tup h' l' r' =>cases ru;obtain⟨eh,ht⟩:=tupAt h';exact⟨.int_tuple i t ht hu0,.int_tuple i t ht hu0⟩
  |lst f' h' l' r' =>cases ru;obtain⟨eh,ht⟩:=lstAt h';exact⟨.int_list i t ht hu0,.int_list i t ht hu0⟩
 |str z=>
  obtain⟨t,rfl⟩:=rv;cases bQ p2 r2 with
  |non=>cases ru;exact⟨.str_none z t,.str_none z t⟩
  |bl b' =>cases ru;exact⟨.str_bool z t b',.str_bool z t b'⟩
  |int j=>obtain⟨t',rfl⟩:=ru;exact⟨.str_int z t j t',.str_int z t j t'⟩
  |str z' =>obtain⟨t',rfl⟩:=ru;exact⟨.str_str z t z' t',.str_str z t z' t'⟩
  |tup h' l' r' =>cases ru;obtain⟨eh,ht⟩:=tupAt h';exact⟨.str_tuple z t ht hu0,.str_tuple z t ht hu0⟩
  |lst f' h' l' r' =>cases ru;obtain⟨eh,ht⟩:=lstAt h';exact⟨.str_list z t ht hu0,.str_list z t ht hu0⟩
 | @tup a vs1 ds1 h l r=>
  cases n with
  |zero=>simp[aY] at p1
  |succ n=>
   cases rv;obtain⟨eh,xN,ht,_⟩:=I.tuple (SqT.of h);cases bQ p2 r2 with
   |non=>cases ru;exact⟨.tuple_none ht hu0,.tuple_none ht hu0⟩
   |bl b=>cases ru;exact⟨.tuple_bool b ht hu0,.tuple_bool b ht hu0⟩
   |int i=>obtain⟨t,rfl⟩:=ru;exact⟨.tuple_int i t ht hu0,.tuple_int i t ht hu0⟩
   |str z=>obtain⟨t,rfl⟩:=ru;exact⟨.tuple_str z t ht hu0,.tuple_str z t ht hu0⟩
   |lst f' h' l' r' =>cases ru;obtain⟨eL,xj⟩:=lstAt h';exact⟨.tuple_list ht xj hu0,.tuple_list ht xj hu0⟩
   | @tup b yY xr h' l' r' =>
    cases ru;obtain⟨eL,eX,xj,_⟩:=I.tuple (SqT.of h');have eZ:eh.toArray.size=ds1.length:=by rw[GaA,<-xN.length,l]
    have hV:eL.toArray.size=xr.length:=by rw[GaA,<-eX.length,l']
    have items:∀j (h1:j<eh.toArray.size) (h2:j<eL.toArray.size),SeqAt.EqAt A.in1 s eh.toArray[j] eL.toArray[j] ((λj=>eqD (ds1.getD j .non) (xr.getD j .non)) j):=λj h1 h2=>by
     obtain⟨d1,v1,q1,q2,q3,q4⟩:=item_at l r xN h1;obtain⟨d2,v2,w1,w2,w3,w4⟩:=item_at l' r' eX h2;dsimp only;rw[q2,w2];exact oo I n (plain_all (by simpa[aY] using p1) q1) (plain_all (by simpa[aY] using p2) w1) q3 w3 q4 w4 (in1_units hu)
    have k1:=SeqAt.RcAt.tuples ht xj hu0 items;have k2:=SeqAt.RcNeAt.tuples ht xj hu0 items;have e:((List.range (min eh.toArray.size eL.toArray.size)).all (λj=>eqD (ds1.getD j .non) (xr.getD j .non))&&eh.toArray.size==eL.toArray.size)=l8 ds1 xr:=by
     rw[eZ,hV];by_cases hl:ds1.length=xr.length
     .rw[<-hl,Nat.min_self,gS hl];simp
     .rw[jr hl];have:(ds1.length==xr.length)=M:=by simpa using hl
      rw[this,Gdc]
    rw[e] at k1 k2;exact⟨k1,k2⟩
 | @lst a vs1 ds1 f h l r=>
  cases n with
  |zero=>simp[aY] at p1
  |succ n=>
   cases rv;obtain⟨eh,xN,pl,_⟩:=I.list (.inl h);have ht:=pl.isList;cases bQ p2 r2 with
   |non=>cases ru;exact⟨.list_none ht hu0,.list_none ht hu0⟩
   |bl b=>cases ru;exact⟨.list_bool b ht hu0,.list_bool b ht hu0⟩
   |int i=>obtain⟨t,rfl⟩:=ru;exact⟨.list_int i t ht hu0,.list_int i t ht hu0⟩
   |str z=>obtain⟨t,rfl⟩:=ru;exact⟨.list_str z t ht hu0,.list_str z t ht hu0⟩
   |tup h' l' r' =>cases ru;obtain⟨eL,xj⟩:=tupAt h';exact⟨.list_tuple ht xj hu0,.list_tuple ht xj hu0⟩
   | @lst b yY xr f' h' l' r' =>
    cases ru;obtain⟨eL,eX,yf,_⟩:=I.list (.inl h');have xj:=yf.isList;have eZ:eh.toArray.size=ds1.length:=by rw[GaA,<-xN.length,l]
    have hV:eL.toArray.size=xr.length:=by rw[GaA,<-eX.length,l']
    have items:∀j (h1:j<eh.toArray.size) (h2:j<eL.toArray.size),SeqAt.EqAt A.in1 s eh.toArray[j] eL.toArray[j] ((λj=>eqD (ds1.getD j .non) (xr.getD j .non)) j):=λj h1 h2=>by
     obtain⟨d1,v1,q1,q2,q3,q4⟩:=item_at l r xN h1;obtain⟨d2,v2,w1,w2,w3,w4⟩:=item_at l' r' eX h2;dsimp only;rw[q2,w2];exact oo I n (plain_all (by simpa[aY] using p1) q1) (plain_all (by simpa[aY] using p2) w1) q3 w3 q4 w4 (in1_units hu)
    show SeqAt.RcAt A s (.ref a) (.ref b) (l8 ds1 xr)/\SeqAt.RcNeAt A s (.ref a) (.ref b) (!l8 ds1 xr);by_cases hl:ds1.length=xr.length
    .have k1:=SeqAt.RcAt.lists ht xj (by rw[eZ,hV,hl]) hu0 items;have k2:=SeqAt.RcNeAt.lists ht xj (by rw[eZ,hV,hl]) hu0 items;rw[eZ,gS hl] at k1 k2;exact⟨k1,k2⟩
    .rw[jr hl];exact⟨SeqAt.RcAt.lists_lengths ht xj (by rw[eZ,hV];simpa using hl) hu0,SeqAt.RcNeAt.lists_lengths ht xj (by rw[eZ,hV];simpa using hl) hu0⟩
end
section
def Hg(K:ag)(neg:Bool):R2:=λx y H Q=>∃F dx dy,Inn K F H dx x/\Inn K F H dy y/\dx.plain=O/\dy.plain=O/\Q (.bl (if neg then !eqD dx dy else eqD dx dy)) H
variable{X:Cx}
def Le(hu:X.A.units+20<cLine):OpR X (compareOp .Eq) (Hg X.K M):=by
 intro ef s Z H x y v u Q I rx ry h;obtain⟨F,dx,dy,i1,i2,p1,p2,q⟩:=h;exact(sU I p1 p2 i1.any i2.any rx ry hu).1 _ _ _ _ ⟨.bl _,H,I,rfl,q⟩
def Lf(hu:X.A.units+20<cLine):OpR X (compareOp .NotEq) (Hg X.K O):=by
 intro ef s Z H x y v u Q I rx ry h;obtain⟨F,dx,dy,i1,i2,p1,p2,q⟩:=h;exact(sU I p1 p2 i1.any i2.any rx ry hu).2 _ _ _ _ ⟨.bl _,H,I,rfl,q⟩
def Lg:OpB X eqB (Hg X.K M):=by
 intro F H dx dy x y b Q ix iy e q;unfold eqB at e;split at e
 .rename_i z;rw[Gai] at z;cases e;exact⟨F,dx,dy,ix,iy,z.1,z.2,q⟩
 .cases e
def Lh:OpB X neB (Hg X.K O):=by
 intro F H dx dy x y b Q ix iy e q;unfold neB at e;split at e
 .rename_i z;rw[Gai] at z;cases e;exact⟨F,dx,dy,ix,iy,z.1,z.2,q⟩
 .cases e
def Hh{A:Xx}(hr:cD k A):A.units+20<cLine:=Nat.lt_of_le_of_lt (Nat.add_le_add_left (by decide:20<=64) _) hr.units
def Li:bootBuiltins "len"=U (.builtin "len"):=by decide+kernel
def Lj:bootBuiltins "min"=U (.builtin "min"):=by decide+kernel
def Lk:bootBuiltins "max"=U (.builtin "max"):=by decide+kernel
def Ll:bootBuiltins "all"=U (.builtin "all"):=by decide+kernel
def CQ:bootBuiltins "int"=U (.type "int"):=by decide+kernel
def Hj:bootBuiltins "bool"=U (.type "bool"):=by decide+kernel
def CT:bootBuiltins "str"=U (.type "str"):=by decide+kernel
def sV:bootBuiltins "tuple"=U (.type "tuple"):=by decide+kernel
def wu:bootBuiltins "list"=U (.type "list"):=by decide+kernel
def r8:bootBuiltins "enumerate"=U (.type "enumerate"):=by decide+kernel
def Hk{K:ag}:om K "int":=by
 intro t ht;simp only[Gae,Gao,GaQ] at ht;rcases ht with rfl|rfl|rfl|rfl|rfl|rfl|rfl<;>rfl
def Hl{K:ag}:om K "str":=by
 intro t ht;simp only[Gae,Gao,GaQ] at ht;rcases ht with rfl|rfl|rfl|rfl|rfl|rfl|rfl<;>rfl
def kit_tuple{K:ag}:om K "tuple":=by
 intro t ht;simp only[Gae,Gao,GaQ] at ht;rcases ht with rfl|rfl|rfl|rfl|rfl|rfl|rfl<;>rfl
def CU{K:ag}:om K "list":=by
 intro t ht;simp only[Gae,Gao,GaQ] at ht;rcases ht with rfl|rfl|rfl|rfl|rfl|rfl|rfl<;>rfl
def CV{K:ag}:om K "bool":=by
 intro t ht;simp only[Gae,Gao,GaQ] at ht;rcases ht with rfl|rfl|rfl|rfl|rfl|rfl|rfl<;>rfl
end
theorem kB{env:PySem.Env}:∀(names:List (Str×XD)),(∀y∈names,y.2= .free->∃c,env.cells.lookup y.1=U c)->∀(cs:List (Str×Xo)),(∀n c,cs.lookup n=U c->env.cells.lookup n=U c)->
  ∃cl:List (Str×Xo),(forIn names cs λx r=>(do
    if(x.2==NameKind.free)=O then pure (ForInStep.yield ((x.1,<-cellOf env x.1)::r)) else pure (ForInStep.yield r):Sem (ForInStep (List (Str×Xo)))))=pure cl/\
   (∀n c,cl.lookup n=U c->env.cells.lookup n=U c)/\(∀y∈names,y.2= .free->∃c,cl.lookup y.1=U c)/\∀n c,cs.lookup n=U c->∃c',cl.lookup n=U c'
 |[],_,cs,h=>by
  refine⟨cs,rfl,h, ?_,λn c e=> ⟨c,e⟩⟩;intro y hy;cases hy
 |(x,k)::names,hf,cs,h=>by
  by_cases hk:k= .free
  .subst hk;obtain⟨c,hc⟩:=hf _ GaO rfl;have xq:cellOf env x=pure c:=by unfold cellOf;rw[hc]<;>rfl
   obtain⟨cl,h1,h2,h3,h4⟩:=kB names (λy hy=>hf y (Gaw _ hy)) ((x,c)::cs) (λn c' e=>by
    by_cases z:n=x
    .simp_all
    .have z' :(n==x)=M:=by simpa using z
     simp[GaE,z'] at e;exact h n c' e)
   refine⟨cl, ?_,h2,λy hy zS=> ?_,λn c' e=> ?_⟩
   .rw[GcR];simp only[xq];exact h1
   .rcases Gae.mp hy with rfl|hy
    .exact h4 x c ?E
    .exact h3 y hy zS
   .by_cases z:n=x
    .subst z;exact h4 n c ?E
    .have z' :(n==x)=M:=by simpa using z
     exact h4 n c' (by simp[GaE,z',e])
  .have yk :(k==NameKind.free)=M:=by simpa using hk
   obtain⟨cl,h1,h2,h3,h4⟩:=kB names (λy hy=>hf y (Gaw _ hy)) cs h;refine⟨cl, ?_,h2,λy hy zS=> ?_,h4⟩
   .rw[GcR];simp only[yk];exact h1
   .rcases Gae.mp hy with rfl|hy
    .exact absurd zS hk
    .exact h3 y hy zS
def ka{env:PySem.Env}{scope:Xy}(hf:∀y∈scope.names,y.2= .free->∃c,env.cells.lookup y.1=U c):
  ∃cl,closureFor scope env=pure cl/\(∀n c,cl.lookup n=U c->env.cells.lookup n=U c)/\∀y∈scope.names,y.2= .free->∃c,cl.lookup y.1=U c:=by
 obtain⟨cl,h1,h2,h3,_⟩:=kB _ hf [] (λn c e=>by simp at e);exact⟨cl,((congrArg (λm=>m>>=pure) h1).trans rfl),h2,h3⟩
theorem mem_of_lookup:∀{l:List (Str×XD)},l.lookup x=U k->(x,k)∈l
 |[],h=>by simp at h
 |(n,k')::r,h=>by
  rw[GaE] at h;cases hx:x==n with
  |true=>rw[hx] at h;cases h;rw[GaU] at hx;subst hx;exact GaO
  |false=>rw[hx] at h;exact Gaw _ (mem_of_lookup h)
theorem kC{env:PySem.Env}:∀{names:List (Str×XD)},(∀y∈names,y.2≠ .cell)->((names.map λ(n,k)=>if(k==NameKind.free&&env.scope.kind== .function&&env.kindOf n==U .cell) then(n,NameKind.cell) else(n,k)).lookup x=U .cell\/
   (names.map λ(n,k)=>if(k==NameKind.free&&env.scope.kind== .function&&env.kindOf n==U .cell) then(n,NameKind.cell) else(n,k)).lookup x=U .free)->(x,NameKind.free)∈names
 |[],_,h=>by simp at h
 |(n,k)::r,hc,h=>by
  have hk:=hc _ GaO;rw[GaI] at h;dsimp only at h;split at h
  .rename_i q;have q1:k= .free:=by
    simp_all
   subst q1;rw[GaE] at h;cases hx:x==n with
   |true=>rw[GaU] at hx;subst hx;exact GaO
   |false=>rw[hx] at h;exact Gaw _ (kC (λy hy=>hc y (Gaw _ hy)) h)
  .rw[GaE] at h;cases hx:x==n with
   |true=>
    simp_all
   |false=>rw[hx] at h;exact Gaw _ (kC (λy hy=>hc y (Gaw _ hy)) h)
theorem fu{env:PySem.Env}:∀{names:List (Str×XD)},names.lookup x=U .free->((names.map λ(n,k)=>if(k==NameKind.free&&env.scope.kind== .function&&env.kindOf n==U .cell) then(n,NameKind.cell) else(n,k)).lookup x=U .cell\/
   (names.map λ(n,k)=>if(k==NameKind.free&&env.scope.kind== .function&&env.kindOf n==U .cell) then(n,NameKind.cell) else(n,k)).lookup x=U .free)
 |[],h=>by simp at h
 |(n,k)::r,h=>by
  rw[GaE] at h;rw[GaI];dsimp only;cases hx:x==n with
  |true=>
   rw[hx] at h;cases h
   split
   .left;rw[GaE,hx]
   .right;rw[GaE,hx]
  |false=>
   rw[hx] at h;split
   .rw[GaE,hx];exact fu h
   .rw[GaE,hx];exact fu h
noncomputable def blk(X:Cx)(scope:Xy)(cl:List (Str×Xo))(C:Xo)(N:List Str)(s:Xr)(H:Hp)(ex:List Xo):Cx:=
 {X with N:=N,s₀:=s,H0:=H,env:=compEnvC scope cl C X.env,outer:=X.stack,ex:=ex,fn:=λ_=>M,pn:=[],xe:=λ_ _=>False}
def sX:Option XD->Bool
 |some .cell=>O
 |some .free=>O
 |_=>M
structure iS(X:Cx)(scope:Xy)(N:List Str)(n:Nat)(eF:List Nat):Prop where
 cell:(scope.names.all λy=>y.2 != .cell)=O
 kind:scope.kind= .function
 names:(scope.names.all λy=>y.2 != .local||scope.names.lookup y.1==U .local)=O
 free:(scope.names.all λy=>y.2 != .free||sX (X.env.kindOf y.1))=O
 cap:N.drop n=eF.map λi=>(X.N[i]?).getD ("":Str)
 le:n<=N.length
 lt:(eF.all λi=>decide (i<X.N.length))=O
 fr:((N.drop n).all λx=>scope.names.lookup x==U .free)=O
def nP(X:Cx)(ifs:List Xp)(tt:TT):Prop:=∀(ef:LAO) (s:Xr) (Z:St) (H:Hp) (Q:Bool->Hp->Prop),Inv X ef Z H s->tt Z H Q->
 wpAny (model X.prog X.w) X.A (forIn ifs O λc r=>if r=O then do let ok<-isTrue c X.env (eval c X.env);pure (ForInStep.yield ok) else pure (ForInStep.yield r)) (TP X ef Z Q) X.xe s
def AZ:nP X [] (tT X bc):=λef s Z H Q I ⟨_,_,_,_,_,e,k⟩=>by
 cases e;exact wpAny_tests_nil ⟨H,I,k H bw⟩
def B0(h:PTd X c t):nP X [c] (tT X t):=λef s Z H Q I q=>wpAny_tests_one (h ef s Z H Q I q)
def nQ{eF:List Nat}{n j:Nat}{α:Type}{f:Nat->Option α}{y:α}(h:(List.replicate n (J:Option α)++eF.map f)[j]? =U (U y)):∃i,eF[j -n]? =U i/\n<=j/\f i=U y:=by
 by_cases hj:j<n
 .rw[GaM ?H,GbC] at h;lia
 .rw[GaK (by simp;lia),GcK,Gam] at h;cases q:eF[j -n]? with
  |none=>rw[q] at h;cases h
  |some i=>rw[q] at h;simp only[Gcq,Gdg] at h;exact⟨i,rfl,by lia,h⟩
def CW{eF:List Nat}{j:Nat}{α:Type}{f:Nat->Option α}(h1:eF[j -n]? =U i)(h2:n<=j):(List.replicate n (J:Option α)++eF.map f)[j]? =U (f i):=by
 rw[GaK (by simp;lia),GcK,Gam,h1];rfl
noncomputable def kb(n:Nat)(eF:List Nat)(Z:St):St:=List.replicate n J++eF.map λi=>Z[i]?.getD J
def ke(eg:Xo->Prop)(env:Env)(Z:St)(p:Xo):Xo->Prop:=λa=>a=p\/¬Cln eg env Z a
theorem getD_some{α:Type}{o:Option (Option α)}{y:α}(h:o.getD J=U y):o=U (U y):=by
 cases o with
 |none=>cases h
 |some z=>simp only[Option.getD_some] at h;rw[h]
def sY(e:(Xk n eF env)[j]? =U (U sl)):∃i,eF[j -n]? =U i/\n<=j/\dG (env[i]?.getD J)=U sl:=nQ e
def wx{j:Nat}(t:bJ (Xk n eF env)[j]?)(e:(kb n eF Z)[j]? =U (U (.ref a))):∃i:Nat,bJ env[i]? /\Z[i]? =U (U (.ref a)):=by
 cases q:(Xk n eF env)[j]? with
 |none=>rw[q] at t;exact t.elim
 |some z=>
  cases z with
  |none=>rw[q] at t;exact t.elim
  |some sl=>
   obtain⟨i,e1,e2,e3⟩:=sY q;obtain⟨i',VM,_,WU⟩:=nQ e;rw[e1] at VM;cases VM
   refine⟨i, ?_,getD_some WU⟩;rw[q] at t;cases r:env[i]? with
   |none=>rw[r] at e3;cases e3
   |some z=>cases z with
    |none=>rw[r] at e3;cases e3
    |some z=>
     rw[r] at e3;cases z with
     |sh d=>cases e3;exact t.elim
     |own d=>trivial
     |lok d=>trivial
     |bor d=>trivial
theorem Hm{j:Nat}:¬isO (Xk n eF env)[j]? :=λt=>by
 match q:_[j]?,t with
 |some (U (.own d)),_=>
  obtain⟨i,_,_,e3⟩:=sY q;cases q:env[i]?.getD J with
  |none=>rw[q] at e3;cases e3
  |some z=>rw[q] at e3;cases z<;>cases e3
section
variable{H:Hp}
def az.block{K:ag}(E:az K H0 eg env Z H)(n:Nat)(eF:List Nat)(hp:H p=J):
  az K H (ke eg env Z p) (Xk n eF env) (kb n eF Z) (upd H p (.lst [])):=by
 have sm:bp H (upd H p (.lst [])):=bh hp;have slot:∀(j) (sl),_[j]? =U _->∃i,eF[j -n]? =U i/\n<=j/\dG (env[i]?.getD J)=U sl:=λj sl e=>nQ e;have noO:∀(j:Nat) d,(Xk n eF env)[j]? ≠U (U (.own d))/\(Xk n eF env)[j]? ≠U (U (.lok d)):=λj d=>by
  constructor<;>
  .intro e;obtain⟨i,_,_,e3⟩:=slot j _ e;cases q:env[i]?.getD J with
   |none=>rw[q] at e3;cases e3
   |some z=>rw[q] at e3;cases z<;>cases e3
 have cln:∀b,Cln eg env Z b->H b≠J->Cln (ke eg env Z p) _ (kb n eF Z) b:=λb h hb=>by
  refine⟨λz=> ?_,λj t e=> ?_⟩
  .rcases z with z|z
   .subst z;exact hb hp
   .exact z h
  .obtain⟨i,t',e'⟩:=(λj a t e=>wx t e) j b t e;exact h.2 i t' e'
 refine⟨sm, ?_, ?_, ?_, ?_, ?_, ?_⟩
 .simp[Xk,kb]
 .intro a ha;rcases ha with ha|ha
  .subst ha;rw[aB];simp
  .intro z;refine ha ⟨λb=>E.bad a b (sm.free z),λi t e=>E.jo t e (sm.free z)⟩
 .intro j d e;obtain⟨i,e1,e2,e3⟩:=slot j _ e;have q:env[i]? =U (U (.sh d)):=by
   cases r:env[i]? with
   |none=>rw[r] at e3;cases e3
   |some z=>cases z with
    |none=>rw[r] at e3;cases e3
    |some z=>rw[r] at e3;cases z<;>cases e3;rfl
  obtain⟨v,h1,h2⟩:=E.sh i d q;refine⟨v, ?_,h2.gen (.Xl sm) cln⟩;unfold kb;rw[CW e1 e2,h1]
  rfl
 .intro j d e;rcases e with e|e
  .exact absurd e (noO j d).1
  .exact absurd e (noO j d).2
 .intro j d e;obtain⟨i,e1,e2,e3⟩:=slot j _ e;have q:bJ env[i]? /\(env[i]? =U (U (.own d))\/env[i]? =U (U (.lok d))\/env[i]? =U (U (.bor d))):=by
   cases r:env[i]? with
   |none=>rw[r] at e3;cases e3
   |some z=>cases z with
    |none=>rw[r] at e3;cases e3
    |some z=>
     rw[r] at e3;cases z with
     |sh d=>cases e3
     |own d=>cases e3;exact⟨trivial,.inl rfl⟩
     |lok d=>cases e3;exact⟨trivial,.inr (.inl rfl)⟩
     |bor d=>cases e3;exact⟨trivial,.inr (.inr rfl)⟩
  have fact:∃a,Z[i]? =U (U (.ref a))/\Wb H a/\d.top=O/\Inn K (Cln eg env Z) H d (.ref a):=by
   rcases q.2 with q|q|q
   .obtain⟨a,h1,_,_,h4,h5,h6⟩:=E.ow i d (.inl q);exact⟨a,h1,h4.wb,h5,h6⟩
   .obtain⟨a,h1,_,_,h4,h5,h6⟩:=E.ow i d (.inr q);exact⟨a,h1,h4.wb,h5,h6⟩
   .exact E.bo i d q
  obtain⟨a,h1,h4,h5,h6⟩:=fact;refine⟨a, ?_,h4.same sm,h5,h6.gen (.Xl sm) cln λ_ _ _ o e=>sm _ o e⟩;unfold kb;rw[CW e1 e2,h1]
  rfl
 .intro j k a t;exfalso;cases q:(Xk n eF env)[j]? with
  |none=>rw[q] at t;exact t
  |some z=>cases z with
   |none=>rw[q] at t;exact t
   |some z=>cases z with
    |sh d=>rw[q] at t;exact t
    |own d=>exact(noO j d).1 q
    |lok d=>exact(noO j d).2 q
    |bor d=>rw[q] at t;exact t
def az.grow{K:ag}{H0:Hp}{eg:Xo->Prop}(E:az K H0 eg env Z H)(hb:eg p)(h0:H0 p=J)(hp:H p=U (.lst vs))(hl:∀i:Nat,pC env[i]? ->Z[i]? ≠U (U (.ref p))):az K H0 eg env Z (upd H p (.lst us)):=by
 have iD:jg (Cln eg env Z) H (upd H p (.lst us)):=λb o e q=>by
  refine(aq ?_).trans e;rintro rfl;rcases q with q|q
  .exact q.1 hb
  .rw[hp] at e;cases e;exact q
 have wr:∀{a},Wr H a->Wr (upd H p (.lst us)) a:=λ{a} ⟨o,h1,h2⟩=>by
  by_cases z:a=p
  .subst z;exact⟨_,aB,trivial⟩
  .exact⟨o,(aq z).trans h1,h2⟩
 refine⟨λb o e=>(aq λz=>by subst z;rw[h0] at e;cases e).trans (E.same b o e),E.len,λa ha=> ?_,λi d e=> ?_,λi d e=> ?_,λi d e=> ?_,E.dj⟩
 .by_cases z:a=p
  .subst z;rw[aB];simp
  .rw[aq z];exact E.bad a ha
 .obtain⟨v,h1,h2⟩:=E.sh i d e;exact⟨v,h1,h2.gen iD λ_ f _=>f⟩
 .obtain⟨a,h1,h2,h3,h4,h5,h6⟩:=E.ow i d e;refine⟨a,h1,h2,h3,wr h4,h5,h6.gen iD (λ_ f _=>f) λb eb _ o q=> ?_⟩;cases eb;exact(aq (λz:a=p=>h3 (by rw[z];exact hb))).trans q
 .obtain⟨a,h1,h4,h5,h6⟩:=E.bo i d e;refine⟨a,h1,let⟨o,g1,g2⟩:=h4;⟨o,(aq λz:a=p=>hl i (by rw[e];trivial) (by rw[<-z];exact h1)).trans g1,g2⟩,h5,h6.gen iD (λ_ f _=>f) λb eb _ o q=> ?_⟩;cases eb;exact(aq (λz:a=p=>hl i (by rw[e];trivial) (by rw[<-z];exact h1))).trans q
end
def ex7{a b c d e f g:Type}{P:a->b->c->d->e->f->g->Prop}{G:Prop}(h:∀x1 x2 x3 x4 x5 x6 x7,P x1 x2 x3 x4 x5 x6 x7->G):(∃x1 x2 x3 x4 x5 x6 x7,P x1 x2 x3 x4 x5 x6 x7)->G:=λ⟨x1,x2,x3,x4,x5,x6,x7,q⟩=>h x1 x2 x3 x4 x5 x6 x7 q
structure CoI(X:Cx)(scope:Xy)(cl:List (Str×Xo))(C:Xo)(N:List Str)(s:Xr)(H:Hp)(fp:List Xo)(tn:Nat->Xs->Prop)(eg:Xo->Prop)(env:Env)(Z:St)(p:Xo)(gd:DG)(t:DT)(f:DE)(ds rs:List D)(m:Nat)(s' :Xr)(i:Nat)(Zi:St)(Hi:Hp)(eV:Env)(vs:List V)(done rest:List D):Prop where
 em:m=ds.length -i
 hi:i<=ds.length
 Ii:Inv (blk X scope cl C N s H fp) [] Zi Hi s'
 sti:tn i s'.heap
 fri:∀b∈fp,Hi b=J
 Ei:az X.K H (ke eg env Z p) eV Zi Hi
 hpi:Hi p=U (.lst vs)
 ri:aP X.K (λb=>Cln eg env Z b/\b≠p) Hi done vs
 owi:∀j:Nat,¬isO eV[j]?
 lbi:∀(j:Nat) a,pC eV[j]? ->Zi[j]? =U (U (.ref a))->¬Cln eg env Z a
 dl:done.length<=i
 ci:cq gd t f (ds.drop i) eV=U rest
 eqi:done++rest=rs
section
def gU{scope:Xy}(h:scope.names.lookup x=U .local):(relabel scope env).names.lookup x=U .local:=lookup_relabel_local h
def B1{scope:Xy}(h:scope.names.lookup x=U .local):Vis (blk X scope cl C N s H ex).env.scope x:= .inl (gU h)
def B3{scope:Xy}(h:scope.names.lookup x=U .local):Loc (blk X scope cl C N s H ex).env.scope x:= .inl (gU h)
def CY{scope:Xy}(h:scope.names.lookup x=U .free):Vis (blk X scope cl C N s H ex).env.scope x:= .inr (fu h)
variable{Z:St}
def B4{X:Cx}{scope:Xy}{cl:List (Str×Xo)}{s:Xr}{h₁:Xs}{C:Xo}(S:iS X scope N n eF)(I:Inv X ef Z H s)
  (yJ:∀x c,cl.lookup x=U c->X.env.cells.lookup x=U c)(yc:∀y∈scope.names,y.2= .free->∃c,cl.lookup y.1=U c)(hf:∀b∈fp,je X ef H b)(zV:∀b∈fp,b<s.heap.objs.size)
  (hC:s.heap.objs.size+1=C)(yi:h₁.Ns C λ_=>J)(old:∀b o,s.heap.get? b=U o->h₁.get? b=U o)(yV:h₁.get? s.heap.objs.size=U {cls:= .type "list",data:= .seq ([]:List Xq).toArray}):
  Inv (blk X scope cl C N s H fp) [] (kb n eF Z) (upd H s.heap.objs.size (.lst [])) {s with heap:=h₁,toks:=tk}:=by
 have xS:C≠_:=λz=>by rw[z] at hC;exact Nat.succ_ne_self _ hC
 have xq:∀y∈scope.names,y.2≠ .cell:=λy hy z=>by
  have:=Gan.mp S.cell y hy;rw[z] at this;simp at this
 have cells:∀x c,cl.lookup x=U c->∃v,s.heap.IsCell c v:=λx c e=>I.cell x c (yJ x c e);have cNe:∀x c,cl.lookup x=U c->c≠_:=λx c e z=>by
  obtain⟨v,q⟩:=cells x c e;exact absurd q.lt (by rw[z];exact GaY _)
 refine⟨⟨I.ok.mod,S.kind,I.ok.glob,I.ok.blt,by show s.heap.objs.size<=C;lia,λx y c e1 e2=>I.ok.inj x y c (yJ x c e1) (yJ y c e2),λx hx=> ?_,λx c e=>(by cases e),I.ok.hd,I.ok.frames,.inl rfl,λb hb=> ⟨?_,λx c e=>(hf b hb).2.2.2.2.1 x c (yJ x c e)⟩,
  I.bs,GaH I.ok.bsz I.sz,λb o e hb=> ?_,λb hb hs=> ?_,I.stack,I.kW⟩,rfl,I.bare,Un.laid old (Gap _) I.fresh,⟨_,yi,λj x v e1 e2 e3=> ?_⟩,λx c e=> ?_,(aq xS).trans (I.hok.fresh ?B),λx c e=>(aq (cNe x c e)).trans (I.iC x c (yJ x c e)),λp hp=> ?_, ?_, ?_⟩
 .obtain⟨c,hc⟩:=yc _ (kC xq hx) rfl;exact⟨c,hc⟩
 .intro z;have:=zV b hb;rw[z,<-hC] at this;exact GaY _ (Nat.lt_of_succ_lt this)
 .rcases(hf b hb).2.2.2.1 with z|z
  .exact I.ok.vS b o e z
  .exact absurd (Gah (Gak e) (GaH I.ok.bsz z)) (GaY _)
 .rcases Gae.mp (I.nX b hs) with z|z
  .exact(hf b hb).2.1 z
  .exact(hf b hb).2.2.1 z
 .obtain⟨i,f1,f2,f3⟩:=nQ e2;have hd:(N.drop n)[j -n]? =U x:=by rw[List.getElem?_drop];rw[show n+_=j by lia];exact e1
  have hxf:scope.names.lookup x=U .free:=by
   have:=Gan.mp S.fr x (GaC hd)
   simpa using this
  rw[S.cap,Gam,f1] at hd;have hXN:X.N[i]? =U x:=by
   simp only[Gcq,Gdg] at hd;rw[Gag (Gar (Gan.mp S.lt i (GaC f1)))] at hd⊢
   simpa using hd
  have hk:sX (X.env.kindOf x)=O:=by
   have:=Gan.mp S.free _ (mem_of_lookup hxf)
   simpa using this
  have yk :X.env.kindOf x=U .cell\/X.env.kindOf x=U .free:=by
   cases q:X.env.kindOf x with
   |none=>rw[q] at hk;cases hk
   |some z=>rw[q] at hk;cases z<;>first|(cases hk;done)|exact .inl rfl|exact .inr rfl
  obtain⟨m,hm,look⟩:=I.loc;obtain⟨u,ru,l⟩:=look i x v hXN (getD_some f3) (.inr yk);refine⟨u,ru,.inr ⟨?_, ?_⟩⟩
  .exact fu hxf
  .rcases l with⟨l,_⟩| ⟨_,c,hc,o,ho,V7⟩
   .rcases yk with z|z<;>rw[l] at z<;>cases z
   .obtain⟨c',yU⟩:=yc _ (mem_of_lookup hxf) rfl;have:=yJ x c' yU;rw[hc] at this;cases this;exact⟨c,yU,o,old _ _ ho,V7⟩
 .obtain⟨v,o,ho,V7⟩:=cells x c e;exact⟨v,o,old _ _ ho,V7⟩
 .cases hp
 .exact I.hok.laid old (Gap _) ⟨Nat.zero_le _,[],0,.nil,yV⟩
 .show(kb n eF Z).length=N.length;have:=congrArg List.length S.cap;rw[Gck,Gav] at this;have:=S.le;simp[kb];lia
def Hn{Z' :St}(I:Inv X ef Z H s)(hf:∀b∈fp,je X ef H b)
  (I' :Inv (blk X scope cl C N s H fp) pins' Z' H' s'):Inv X ef Z H' s' :=
 I.sr I'.os I'.base I'.hok I'.bare λb hb=> ⟨(hf b hb).2.2.2.1,(hf b hb).2.1,(hf b hb).2.2.2.2.1,(hf b hb).2.2.2.2.2⟩
def Pa(K:ag)(H H' :Hp)(F:Xo->Prop)(p:Xo)(rs:List D):Prop:=bp H H' /\H p=J/\∃vs,H' p=U (.lst vs)/\aP K (λb=>F b/\b≠p) H' rs vs
def q9(gd:DG):Prop:=∀d e e',gd d e=U e' ->(∀j:Nat,¬isO e[j]?)->∀j:Nat,¬isO e'[j]?
def wz{e:Env}(h:∀j:Nat,¬isO e[j]?):∀j:Nat,¬isO (e.set i (U (.sh d)))[j]? :=λj z=>by
 by_cases q:i=j
 .subst q;by_cases hl:i<e.length
  .rwa[GaD hl] at z
  .rwa[Gbs (by simp;lia)] at z
 .simp_all
def CZ:q9 (gN i):=λd e e' h n=>by cases h;exact wz n
theorem qa:∀(is:List Nat) (ds:List D) e e',gNs is ds e=U e' ->(∀j:Nat,¬isO e[j]?)->∀j:Nat,¬isO e'[j]?
 |[],[],e,e',h,n=>by cases h;exact n
 |i::is,d::ds,e,e',h,n=>qa is ds _ e' h (wz n)
 |[],_::_,_,_,h,_=>by cases h
 |_::_,[],_,_,h,_=>by cases h
def D0:q9 (gT is):=λd e e' h n=>by
 unfold gT at h;split at h
 .exact qa is _ e e' h n
 .cases h
def qb{X:Cx}{scope:Xy}{cl:List (Str×Xo)}{H:Hp}{s:Xr}{fp:List Xo}{tn:Nat->Xs->Prop}{f:DE}{ds:List D}{RR:Xq->Xo->Result->Xr->Prop}
      (hc:X.calm=O)(S:iS X scope N n eF)(I:Inv X ef Z H s)
  (yJ:∀x c,cl.lookup x=U c->X.env.cells.lookup x=U c)(yc:∀y∈scope.names,y.2= .free->∃c,cl.lookup y.1=U c)(hf:∀b∈fp,je X ef H b)(T:Turn X.prog X.w X.K tg Xd fp it tn)(st:tn 0 s.heap)
  (hg:∀C s' H',PGd (blk X scope cl C N s' H' fp) tg gd)(ht:∀C s' H',nP (blk X scope cl C N s' H' fp) ifs (tT X t))(he:∀C s' H',PEd (blk X scope cl C N s' H' fp) elt f)
  (EE:az X.K H0 eg env Z H)(io:CL X.K (λb=>Cln eg env Z b/\H b≠J) (λb=>¬Ow env Z b) Xd ds H)(zB:q9 gd)(hz:ds.length<=a7)(hl:cq gd t f ds (Xk n eF env)=U rs)
  (WK:∀p C s' H' m,Inv X ef Z H' s' ->s'.heap.Ns C m->s.heap.objs.size<=C->je X ef H' C->Pa X.K H H' (Cln eg env Z) p rs->RR (.ref p) C (.ok .next) s'):
  wpAny (model X.prog X.w) X.A (newList []) (λacc s₃=>wpAny (model X.prog X.w) X.A (newFunctionEnv scope X.env.globals cl [] X.env.qual J .none (U X.env)) (λzK s₄=>
   codeAny (model X.prog X.w) X.A (.compStart (.ListComp elt [⟨tg,iter,ifs,0⟩] scope pos) 0 (.ref it) acc {zK with scope:=relabel scope X.env}) (RR acc zK.locals) s₄) E s₃) E s:=by
 have xq:∀y∈scope.names,y.2≠ .cell:=λy hy z=>by
  have:=Gan.mp S.cell y hy;rw[z] at this;simp at this
 refine Gby (wpAny_newFunctionEnv xq ?E (λh₁ hns₁ hsb₁=> ?_) S.kind);dsimp only at hns₁ hsb₁⊢;generalize yB:s.heap.push {cls:= .type "list",dict:=J,data:= .seq ([]).toArray}=H2 at hns₁ hsb₁⊢;have hC:s.heap.objs.size+1=H2.objs.size:=by rw[<-yB,Gbj]
 have hCle:s.heap.objs.size<=H2.objs.size:=by rw[<-hC];exact Gbi _
 have old:∀b o,s.heap.get? b=U o->h₁.get? b=U o:=λb o e=>hsb₁.extBut b o (by rw[<-hC];exact Gas (GbL (Gak e))) (Gaf _ (yB▸Gaf _ e));have yV:h₁.get? s.heap.objs.size=U {cls:= .type "list",data:= .seq ([]:List Xq).toArray}:=hsb₁.extBut _ _ (by rw[<-hC];exact Gas (GbR _)) (Gaf _ (yB▸Gat _ rfl));have zV:∀b∈fp,b<s.heap.objs.size:=λb hb=>by obtain⟨o,e,_⟩:=T.obj 0 _ st b hb;exact Gak e
 have st₁:tn 0 h₁:=T.keep 0 _ _ st λb _ o e=>old b o e;have zy:=I.fresh;have I1:Inv (blk X scope cl (H2.objs.size) N s H fp) [] (kb n eF Z) (upd H s.heap.objs.size (.lst [])) {s with heap:=h₁,toks:=s.toks+([]:List (Str×Xq)).length}:=B4 S I yJ yc hf zV hC (by
  have z:(λx:Str=>([]:List (Str×Xq)).reverse.lookup x)=λ_=>J:=by funext x;rfl
  rw[z] at hns₁;exact hns₁) old yV
 have loop:codeAny (model X.prog X.w) X.A (.compLoop (.ListComp elt [⟨tg,iter,ifs,0⟩] scope pos) 0 (.ref it) (.ref (s.heap.objs.size)) (compEnvC scope cl (H2.objs.size) X.env)) (RR (.ref (s.heap.objs.size)) (H2.objs.size)) {s with heap:=h₁,toks:=s.toks+([]:List (Str×Xq)).length}:=by
  refine codeAny_loop rfl (λm s' =>∃i Zi Hi eV vs done rest,CoI X scope cl (H2.objs.size) N s H fp tn eg env Z (s.heap.objs.size) gd t f ds rs m s' i Zi Hi eV vs done rest) ?_ ds.length ?_
  .refineλm s' =>ex7 λi Zi Hi eV vs done rest J0=> ?_
   have e0:=J0.em;subst e0;have hi:=J0.hi;have Ii:=J0.Ii;have sti:=J0.sti;have fri:=J0.fri;have Ei:=J0.Ei;have hpi:=J0.hpi;have ri:=J0.ri;have owi:=J0.owi;have lbi:=J0.lbi;have dl:=J0.dl;have ci:=J0.ci;have eqi:=J0.eqi;have hfi:∀{H' :Hp},(∀b∈fp,H' b=J)->∀b∈fp,je (blk X scope cl (H2.objs.size) N s H fp) [] H' b:=λhn b hb=>by
    refine⟨hn b hb,(Ii.ok.exf b hb).1,Ii.ok.vT b hb,.inl hb,(Ii.ok.exf b hb).2,λq hq=>(by cases hq)⟩
   have xP:∀b o,H b=U o->Hi b=U o:=Ei.same;obtain⟨items,stop⟩:=io Hi λb o hb _=>xP b o hb;show wpAny _ X.A ((compTurn (.ListComp elt [⟨tg,iter,ifs,0⟩] scope pos) 0 (.ref it) (.ref (s.heap.objs.size)) (compEnvC scope cl (H2.objs.size) X.env)).onRaise (λx=>do noteFrame x (compEnvC scope cl (H2.objs.size) X.env);theTreesLotGoes x)) _ _ s';refine wpAny_noted ?_;rw[compTurn_list];refine Gab (wpAny_standAt (Gab ?_));by_cases xa:i<ds.length
   .obtain⟨go,yld⟩:=items i ds[i] (by simp[xa]);refine thn (T.item (blk X scope cl (H2.objs.size) N s H fp) rfl rfl rfl hc i [] s' Zi Hi _ Ii (hfi fri) sti go) λr s4 ⟨u,hr,h4⟩=> ?_;subst hr;refine Gab (thn h4 λ_ s5 q0=> ?_);obtain⟨x,H5,I5,r5,y5,ye,zH⟩:=q0;obtain⟨s2,rep⟩:=yld x H5 y5;rw[(List.drop_eq_getElem_cons xa)] at ci;unfold cq at ci;refine a9 ci λe2 yo ci=>a9 ci λbb xj ci=> ?_;have clnIn:∀b,Cln eg env Z b/\H b≠J->Cln (ke eg env Z (s.heap.objs.size)) eV Zi b:=λb ⟨q1,q2⟩=>by
     refine⟨λz=>z.elim (λz=>q2 (by rw[z];exact zy)) λz=>z q1,λj tj ej=> ?_⟩;rcases pW tj with o|o
     .exact owi j o
     .exact lbi j b o ej q1
    refine Gab (thn (Gba (hg (H2.objs.size) s H _ s5 Zi H5 x u (λZ6 H6=>az X.K H (ke eg env Z (s.heap.objs.size)) e2 Z6 H6/\Stp eV Zi H5 e2 Z6 H6) (I5.pinned (hfi zH) (T.obj _ _ ye)) r5 ⟨H,ke eg env Z (s.heap.objs.size),eV,ds[i],e2,Ei.mono s2,yo,rep.imp clnIn,λZ' H' E' p' => ⟨E',p'⟩⟩) (λ_ _ q=>q) λ_ _ q=>q.elim) λ_ s6 q0=> ?_);obtain⟨Z6,H6,I6,E6,p6⟩:=q0;have s56:bp H5 H6:=λb o e=>p6.keep b o e λ⟨j,z,_⟩=>owi j z;have Vr:∀(j:Nat) a,pC e2[j]? ->Z6[j]? =U (U (.ref a))->¬Cln eg env Z a:=λj a z ej=>by
     obtain⟨q1,q2⟩:=p6.lk j z;rw[q1] at z;rw[q2] at ej;exact lbi j a z ej
    have again:∀{H7:Hp} {s7:Xr} {yZ :List V} {xG xE :List D},Inv (blk X scope cl (H2.objs.size) N s H fp) ([]++qL fp s5.heap) Z6 H7 s7->az X.K H (ke eg env Z (s.heap.objs.size)) e2 Z6 H7->H7 (s.heap.objs.size)=U (.lst yZ)->aP X.K (λb=>Cln eg env Z b/\b≠(s.heap.objs.size)) H7 xG yZ ->
      xG.length<=i+1->cq gd t f (ds.drop (i+1)) e2=U xE ->xG ++xE =rs->
      ∃m,m<ds.length -i/\∃i Zi Hi eV vs done rest,CoI X scope cl (H2.objs.size) N s H fp tn eg env Z (s.heap.objs.size) gd t f ds rs m s7 i Zi Hi eV vs done rest:=by
     intro H7 s7 yZ xG xE I7 E7 zU r7 WV c7 q7;refine⟨ds.length -(i+1),by lia,i+1,Z6,H7,e2,yZ,xG,xE,⟨rfl,xa,I7.gM,T.keep _ _ _ ye λb hb o e=>(I7.pin (b,o) (GaJ _ (GaJ _ (fJ hb e)))).1,λb hb=> ?_,E7,zU,r7,(zB _ _ _ yo owi),Vr,WV,c7,q7⟩⟩;obtain⟨o,e,d⟩:=T.obj _ _ ye b hb;exact(I7.pin (b,o) (GaJ _ (GaJ _ (fJ hb e)))).2.1
    refine Gab (thn (Gba (ht (H2.objs.size) s H _ s6 Z6 H6 (λb' H7=>b' =bb/\bp H6 H7) I6 ⟨H,ke eg env Z (s.heap.objs.size),e2,bb,E6,xj,λH' s' => ⟨rfl,s'⟩⟩) (λ_ _ q=>q) λ_ _ q=>q.elim) λok s7 ⟨H7,I7,hok,Vj⟩=> ?_);subst hok;have sAll:bp Hi H7:=s2.trans (s56.trans Vj);have E7:=E6.mono Vj;have zU:H7 (s.heap.objs.size)=U (.lst vs):=sAll _ _ hpi;have r7:=ri.gen (F' :=λb=>Cln eg env Z b/\b≠(s.heap.objs.size)) (.Xl sAll) λ_ q _=>q;cases ok with
    |false=>
     rw[Gau Gaq] at ci;exact Gal ⟨rfl,again I7 E7 zU r7 (Nat.le_succ_of_le dl) ci eqi⟩
    |true=>
     rw[Gaj rfl] at ci;refine a9 ci λr hr ci=> ?_;split at ci
     .rename_i xx;obtain⟨xE,c8,rfl⟩:=Gaa.mp ci;refine Gab (Gab (thn (Gba (he (H2.objs.size) s H _ s7 Z6 H7 (λv H8=>bp H7 H8/\fU X.K H (ke eg env Z (s.heap.objs.size)) e2 Z6 H7 H8 r v) I7 ⟨H,ke eg env Z (s.heap.objs.size),e2,r,E7,hr,λv H' s' R=> ⟨s',R⟩⟩) (λ_ _ q=>q) λ_ _ q=>q.elim) λy s8 q0=> ?_));obtain⟨v,H8,I8,ry,Uz,R⟩:=q0;have US:H8 (s.heap.objs.size)=U (.lst vs):=Uz _ _ zU;have eO:vs.length<sizeLine:=by
       rw[<-eW,<-ri.1];lia
      refine Gab (thn (Gba (mj (X:=blk X scope cl (H2.objs.size) N s H fp) _ s8 Z6 H8 (.ref (s.heap.objs.size)) [v] (.ref (s.heap.objs.size)) [y] (λ_ H9=>H9=upd H8 (s.heap.objs.size) (.lst (vs++[v]))) I8 rfl (.cons ry .nil) ⟨(s.heap.objs.size),vs,v,rfl,rfl,US,eO,rfl⟩) (λ_ _ q=>q) λ_ _ q=>q.elim) λ_ s9 q0=> ?_);obtain⟨_,H9,I9,_,rfl⟩:=q0;have iD:jg (λb=>Cln eg env Z b/\b≠(s.heap.objs.size)) H8 (upd H8 (s.heap.objs.size) (.lst (vs++[v]))):=λb o e q=>by
       refine(aq ?_).trans e;rintro rfl;rcases q with q|q
       .exact q.2 rfl
       .rw[US] at e;cases e;exact q
      refine Gal (Gal ⟨rfl,again I9 ((E7.mono Uz).grow (.inl rfl) zy US (λj z ej=>Vr j (s.heap.objs.size) z ej (EE.kz zy))) aB ((((r7.gen (F' :=λb=>Cln eg env Z b/\b≠(s.heap.objs.size)) (.Xl Uz) λ_ q _=>q)).append (aP.cons ((R.rep E7 xx).imp λb q=> ⟨Classical.byContradiction λz=>q.1 (.inr z),λz=>q.1 (.inl z)⟩) .nil)).gen iD λ_ q _=>q) (by simp;lia) c8 ?_⟩);rw[<-eqi,GaT]
      rfl
     .cases ci
   .have xB :i=ds.length:=by lia
    subst xB;rw[List.drop_length] at ci;cases ci;rw[GaP] at eqi;subst eqi;refine thn (T.done (blk X scope cl (H2.objs.size) N s H fp) rfl rfl rfl hc ds.length [] s' Zi Hi _ Ii (hfi fri) sti stop) λr s4 ⟨hr,I4⟩=> ?_;subst hr;obtain⟨m,hm,_⟩:=I4.loc;exact Gal (WK (s.heap.objs.size) (H2.objs.size) s4 Hi m (Hn I hf I4) hm hCle ⟨I4.free,(I.uG hCle (I.hok.fresh hCle)).2⟩ ⟨xP,zy,vs,hpi,ri⟩)
  .exact⟨0,_,_,_,[],[],rs,⟨by simp,Nat.zero_le _,I1,st₁,λb hb=>(aq (by rintro rfl;exact GaY _ (zV _ hb))).trans (hf b hb).1,(EE.block n eF zy),aB,aP.nil,λj=>Hm,λj a z e=>by
    obtain⟨i,t1,t2⟩:=wx z.top e
    exactλq=>q.2 i t1 t2,Gap _,by simpa using hl,rfl⟩⟩
 exact codeAny_compStart_list loop (T.self X.A 0 _ _ _ st₁ loop)
end
section
variable{X:Cx}
def lB:Xk n eF (bM l env)=Xk n eF env:=by
 cases l with
 |none=>rfl
 |some j=>
  unfold bM;dsimp only;split
  .rename_i d q;unfold Xk;congr 1;apply List.map_congr_left;intro i _;by_cases z:j=i
   .subst z;rw[GaD (Gac.mp q).1,q]
    rfl
   .simp_all
  .rfl
theorem iS.cells{scope:Xy}{Z:St}(S:iS X scope N n eF)(I:Inv X ef Z H s):∀y∈scope.names,y.2= .free->∃c,X.env.cells.lookup y.1=U c:=λy hy hf=>by
 have hk:=Gan.mp S.free y hy;rw[hf] at hk;refine I.ok.has _ ?_;cases q:X.env.kindOf _ with
 |none=>rw[q] at hk;cases hk
 |some z=>rw[q] at hk;cases z<;>first|(cases hk;done)|exact .inl rfl|exact .inr rfl
def iS.D3{scope:Xy}(S:iS X scope N n eF):∀y∈scope.names,y.2= .local->scope.names.lookup y.1=U .local:=λy hy hl=>by
 have:=Gan.mp S.names y hy;simp_all
structure Blk(X:Cx)(scope:Xy)(N:List Str)(tg elt:Xp)(ifs:List Xp)(gd:DG)(t:DT)(f:DE):Prop where
 g:∀cl C s H ex,PGd (blk X scope cl C N s H ex) tg gd
 t:∀cl C s H ex,nP (blk X scope cl C N s H ex) ifs (tT X t)
 e:∀cl C s H ex,PEd (blk X scope cl C N s H ex) elt f
def _root_.L2.Inv.Jp{s:Xr}(I:Inv X ef Z H s)(F:je X ef H C)(hs:Heap.SameBut C s.heap h'):Inv X ef Z H {s with heap:=h' }:=
 I.turned (λb o hb e=>(hs.2 b hb).trans e) F.1 F.2.1 F.2.2.2.1 F.2.2.2.2.1 F.2.2.2.2.2
def Ho(hc:X.calm=O)(S:iS X scope N n eF)(hi:PId X tg iter src)(zB:q9 gd)(B:Blk X scope N tg elt ifs gd t f)
  (hs:∀x,foldedSetIterable iter X.env x=pure x:=by intro _;rfl):PEd X (.ListComp elt [⟨tg,iter,ifs,0⟩] scope pos) (bu l n eF src gd t f):=by
 intro ef s Z H Q I hw;obtain⟨H0,eg,env,r,E,e,k⟩:=hw;refine a9 e λds hds e=> ?_;split at e
 .rename_i hz;obtain⟨rs,xK,rfl⟩:=Gaa.mp e;obtain⟨EL,lo,hU⟩:=E.lock l;obtain⟨cl,h1,h2,h3⟩:=ka (S.cells I);refine wpAny_comprehension_free rfl hs h1 S.kind S.D3 (thn (hi ef s Z H (λXd H' =>bp H H' /\CL _ _ _ Xd ds H') I ⟨H0,eg,bM l env,ds,EL,hds,λXd H' s' io=> ⟨s',io⟩⟩) λv s1 q1=>thn q1 λzx s2 q2=> ?_);obtain⟨it,fp,tn,Xd,H2,rfl,I2,T,st2,f2,sH,io⟩:=q2;refine qb hc S I2 h2 h3 f2 T st2 (λC s' H' =>B.g cl C s' H' fp) (λC s' H' =>B.t cl C s' H' fp) (λC s' H' =>B.e cl C s' H' fp) (EL.mono sH) io zB hz (by rw[lB];exact xK) ?_;intro p C s' H' m IX hm hC hF G;refine⟨m,hm,λh' zc => ⟨.ref p,H',IX.Jp hF zc,rfl, ?_⟩⟩;obtain⟨g1,g2,vs,g3,g4⟩:=G;exact k _ H' (sH.trans g1) ⟨p,rfl,sH.free g2,⟨_,g3,trivial⟩,rfl,.lst (.inl g3) (g4.gen (.Xl bw) λb q _=> ⟨⟨q.1.1,λi ti ei=>q.1.2 i ((hU i).mpr ti) ei⟩,q.2⟩)⟩
 .cases e
def Hq{pos:Pos}(hN:X.N.Nodup)(xB :X.N[i]? =U x)(hx:Loc X.env.scope x)(hc:X.calm=O)(S:iS X scope N n eF)
  (hi:PId X tg iter src)(zB:q9 gd)(B:Blk X scope N tg elt ifs gd t f)
  (We:autoParam (swapsWith (.ListComp elt [⟨tg,iter,ifs,0⟩] scope lpos) (U (.Name x pos')) pos.line X.env=pure O) Za1._auto_1)(hs:∀x,foldedSetIterable iter X.env x=pure x:=by intro _;rfl)
  (hf:autoParam (X.fn x=O\/X.env.scope.names.lookup x=U .local) Za3._auto_1):PSd X (.Assign [.Name x pos'] (.ListComp elt [⟨tg,iter,ifs,0⟩] scope lpos) pos) (au i (bu l n eF src gd t f)):=by
 intro ef s Z H D I hw;obtain⟨H0,eg,env,o,E,e,k⟩:=hw;refine a9 e λr hr e=> ?_;obtain⟨e',xw,rfl⟩:=Gaa.mp e;have hie:=CK E I.len xB;refine a9 hr λds hds hr=> ?_;split at hr
 .rename_i hz;obtain⟨rs,xK,rfl⟩:=Gaa.mp hr;cases xw;obtain⟨EL,lo,hU⟩:=E.lock l;obtain⟨cl,h1,h2,h3⟩:=ka (S.cells I);rw[exec_Assign_Name_used _ _ _ _ We];refine Gab (wpAny_standAt (Gab (Gab (Gba (wpAny_comprehension_free rfl hs h1 S.kind S.D3 (thn (hi ef s Z H (λXd H' =>bp H H' /\CL _ _ _ Xd ds H') I ⟨H0,eg,bM l env,ds,EL,hds,λXd H' s' io=> ⟨s',io⟩⟩) λv s1 q1=>thn q1 λzx s2 q2=> ?_)) (λ_ s' hq=>Gal (Gal hq)) λ_ _ e=>e))));obtain⟨it,fp,tn,Xd,H2,rfl,I2,T,st2,f2,sH,io⟩:=q2;refine qb hc S I2 h2 h3 f2 T st2 (λC s' H' =>B.g cl C s' H' fp) (λC s' H' =>B.t cl C s' H' fp) (λC s' H' =>B.e cl C s' H' fp) (EL.mono sH) io zB hz (by rw[lB];exact xK) ?_;intro p C s' H' m IX hm hC hF G;obtain⟨g1,g2,vs,g3,g4⟩:=G;refine wpAny_assign_Name (pO IX hN xB hx (v:= .ref p) rfl (λyC I'' ⟨a,Wh,ha⟩=> ?_) hf);have hCa:C≠a:=by
   rcases ha with ha|ha
   .rw[ha];exact hF.2.1
   .exactλz=>hF.2.2.2.2.1 x a ha z.symm
  exact⟨m,hm.sameBut Wh hCa,λh' zc => ⟨_,H',I''.Jp hF zc,(k _ H' (E.mz (sH.trans g1) hie (sH.free g2) ⟨_,g3,trivial⟩ rfl (.lst (.inl g3) (g4.gen (.Xl bw) λb q _=> ⟨⟨q.1.1,λi ti ei=>q.1.2 i ((hU i).mpr ti) ei⟩,q.2⟩))) (.mz (sH.trans g1) hie E.len (sH.free g2)))⟩⟩
 .cases hr
end
theorem kF{env:PySem.Env}:∀{names:List (Str×XD)},names.lookup x=U .globalImplicit->(names.map λ(n,k)=>if(k==NameKind.free&&env.scope.kind== .function&&env.kindOf n==U .cell) then(n,NameKind.cell) else(n,k)).lookup x=U .globalImplicit
 |[],h=>by simp at h
 |(n,k)::r,h=>by
  rw[GaE] at h;rw[GaI];dsimp only;cases hx:x==n with
  |true=>
   simp_all
  |false=>
   rw[hx] at h;split
   .rw[GaE,hx];exact kF h
   .rw[GaE,hx];exact kF h
section
variable{scope:Xy}
def Lm(h:scope.names.lookup x=U .globalImplicit):Gl (blk X scope cl C N s H ex) x:=kF h
def Lo(h:scope.names.lookup x=U .local):(blk X scope cl C N s H ex).fn x=O\/(blk X scope cl C N s H ex).env.scope.names.lookup x=U .local:= .inr (gU h)
end
section
variable{X:Cx}
def tO(X:Cx)(o:DO):TO:=λZ H Q=>∃H0 eg env i,az X.K H0 eg env Z H/\o env=U i/\∀H',bp H H' ->Q i H'
def _root_.L2.PO.aA(h:PO X e t')(i:∀Z H Q,t Z H Q->t' Z H Q):PO X e t:=λef s Z H Q I q=>h ef s Z H Q I (i Z H Q q)
def B5:PO X J (tO X noO):=w6.aA λZ H Q ⟨_,_,_,_,_,e,k⟩=>by cases e;exact k H bw
def B6(he:PEd X e f):PO X (U e) (tO X (aV f)):=by
 refine(w8 he).aA (λZ H Q q0=>bP q0 λH0 eg env o E ho k=>a9 ho λr hr ho=> ?_);split at ho
 .rename_i i hd;cases ho;refine⟨H0,eg,env,r,E,hr,λv H1 s1 R=> ?_⟩;have q:=R.inn;rw[hd] at q;cases q;exact⟨i,rfl,k H1 s1⟩
 .cases ho
def oq{K:ag}{F:Xo->Prop}{ds:List D}{vs:List V}{lo hi:Option Int}(r:aP K F H ds vs):aP K F H (cutD ds lo hi) (AN vs lo hi):=by
 unfold cutD AN;rw[<-r.1];exact(r.drop _).take _
theorem sZ{K:ag}:∀{ns:List Int},aP K F H (ns.map .int) (ns.map V.int)
 |[]=> .nil
 |n::ns=> .cons (.int n) sZ
def D4{e:Xp}{f:DE}{pos:Pos}{lo hi:Option Xp}{p2:Pos}(he:PEd X e f)(hl:PO X lo (tO X l))(hu:PO X hi (tO X u)):PEd X (.Subscript e (.Slice lo hi J p2) pos) (slE f l u):=by
 refine(o9 (Gw.or Kq) he hl hu).aA (λZ H Q q0=>bP q0 λH0 eg env rv E hf k=>a9 hf λr hr hf=>a9 hf λlv V0 hf=>a9 hf λuv UP hf=> ⟨H0,eg,env,r,E,hr,λv H1 s1 R=> ⟨H0,eg,env,lv,E.mono s1,V0,λH2 s2=> ⟨H0,eg,env,uv,(E.mono s1).mono s2,UP,λH3 s3=> ?_⟩⟩⟩);have i3:=(R.inn.same s2).same s3;have s13:=s1.trans (s2.trans s3);unfold slD at hf;split at hf
 .rename_i xs hd;cases hf;rw[hd] at i3;cases i3 with
  |lst hh rr=>exact .inl ⟨_,_,rfl,.inl hh,λp n=>k _ _ (s13.trans (bh n)) ⟨p,rfl,s13.free n,kA,rfl,fK n (oq rr)⟩⟩
 .rename_i xs hd;split at hf
  .cases hf
  .rename_i hw;cases hf;rw[hd] at i3;cases i3 with
   |tup hh rr=>exact .inr ⟨_,_,rfl,SqT.of hh,by rw[<-rr.1];exact hw,λp n=>k _ _ (s13.trans (bh n)) (dX n (oq rr))⟩
 .rename_i ns hd;cases hf;rw[hd] at i3;cases i3 with
  |scr hh=>exact .inl ⟨_,_,rfl,hh.sq,λp n=>k _ _ (s13.trans (bh n)) ⟨p,rfl,s13.free n,kA,rfl,fK n (oq sZ)⟩⟩
 .cases hf
def tf{Z:St}{ys:List V}(hc:X.calm=O)(I:Inv X ef Z H s)(h:SqL X.K H p ys\/SqT X.K H p ys)
  (k:∀It fp wr P St s₂,Walks X.prog X.w X.A.in1 It fp wr ys.length P St->St 0 s₂.heap->(∀b∈fp,b<s₂.heap.objs.size)->(∀i v,P i v->∃y,ys[i]? =U y/\Xg y v)->
   (∀h' tk,(∀b o,b∉wr->s₂.heap.get? b=U o->h'.get? b=U o)->Inv X ef Z H {s₂ with heap:=h',toks:=tk})->Q (.ref It) s₂):wpAny (model X.prog X.w) X.A.in1 (pyIter (.ref p)) Q E s:=by
 have hh:X.A.in1.handled=J:=I.ok.hd hc;have kept:∀{oi:Xw} {h' :Xs} {tk:Nat},(∀b o,b∉[s.heap.objs.size]->(s.heap.push oi).get? b=U o->h'.get? b=U o)->Inv X ef Z H {s with heap:=h',toks:=tk}:=λ{oi h' tk} hk=>
  I.kept λb o e=>hk b o (by simp only[Gbb];exact Gas (Gak e)) (Gaf _ e)
 have get:∀{eh:List Xq},Xh ys eh->∀(i:Nat) v,eh.toArray[i]? =U v->∃y,ys[i]? =U y/\Xg y v:=λ{eh} r i v e=>by
  obtain⟨hi,_⟩:=Gac.mp (by simpa using e);have xB :i<ys.length:=by rw[r.length];exact hi
  obtain⟨u,hu,ru⟩:=r.get (x:=ys[i]) (i:=i) ?E;simp_all
 have lts:∀{oi:Xw},p<_->∀b∈[s.heap.objs.size,p],b<(s.heap.push oi).objs.size:=λ{oi} hp b hb=>by
  rw[Gbj];rcases Gae.mp hb with rfl|hb
  .exact GbR _
  .rcases Gae.mp hb with rfl|hb
   .exact GbL hp
   .cases hb
 rcases h with hq|hq
 .obtain⟨eh,rv,pl,hz⟩:=I.list hq;have xa:p<s.heap.objs.size:=by obtain⟨_,e,_⟩:=pl.isList;exact Gak e
  have W:=Walks.list (prog:=X.prog) (w:=X.w) hh _ p (Gas xa) eh.toArray;have ya:eh.toArray.size=ys.length:=by rw[GaA,rv.length]
  rw[ya] at W;exact Gcz pl.isList (k _ _ _ _ _ _ W ⟨⟨_,Gat _ rfl,rfl,rfl⟩,pl.isList.push _⟩ (lts xa) (get rv) λh' tk hk=>kept hk)
 .obtain⟨eh,rv,pl,hz⟩:=I.tuple hq;have pl' :s.heap.IsTuple p _:=pl;have xa:p<s.heap.objs.size:=by obtain⟨_,e,_⟩:=pl';exact Gak e
  have W:=Walks.tuple (prog:=X.prog) (w:=X.w) hh _ p (Gas xa) eh.toArray;have ya:eh.toArray.size=ys.length:=by rw[GaA,rv.length]
  rw[ya] at W;exact GbZ pl' (k _ _ _ _ _ _ W ⟨⟨_,Gat _ rfl,rfl,rfl⟩,pl'.at λo e=>Gaf _ e⟩ (lts xa) (get rv) λh' tk hk=>kept hk)
def range_all(bs:List Bool):(List.range bs.length).all (λi=>bs[i]?.getD M)=bs.all id:=by
 rw[Gca];simp only[Gan,GaZ];constructor
 .intro h b hb;obtain⟨i,hi,rfl⟩:=List.getElem_of_mem hb;have:=h i hi
  rwa[Gag hi] at this
 .intro h i hi;rw[Gag hi];exact h _ (GaN hi)
def tm{bs:List Bool}(hP:∀i v,P i v->∃y,(bs.map V.bl)[i]? =U y/\Xg y v):TruthOf X.prog X.w A P (λi=>bs[i]?.getD M):=by
 intro i v s Q E p q;obtain⟨y,hy,r⟩:=hP i v p;rw[Gam] at hy;cases hb:bs[i]? with
 |none=>rw[hb] at hy;cases hy
 |some b=>
  rw[hb] at hy;cases hy;cases r;refine Gbc ?_;simp_all
def B7(hc:X.calm=O):dJ X (.builtin "all") (λxs H Q=>∃(p:Xo) (bs:List Bool),xs=[.ref p]/\(SqL X.K H p (bs.map V.bl)\/SqT X.K H p (bs.map V.bl))/\Q (.bl (bs.all id)) H):=by
 intro ef s Z H xs us Q I rv h;obtain⟨p,bs,rfl,hq,q⟩:=h;obtain⟨u,rfl,ru⟩:=rv.one;cases ru;refine call_all_walk (tf hc I hq λIt fp wr P St s₂ W st lt hP kept=> ⟨It,fp,wr,_,P,St,_,rfl,W,st,tm hP,λh' tk hk=> ?_⟩);rw[Gav,range_all];exact⟨.bl _,H,kept h' tk hk,rfl,q⟩
def tq(ns:List Int)(i:Nat):Int:=ns[i]?.getD 0
def tw{P:Nat->Xq->Prop}{ns:List Int}(hP:∀i v,P i v->∃y,(ns.map V.int)[i]? =U y/\Xg y v):∀i v,P i v->∃t,v= .int (tq ns i) t:=by
 intro i v p;obtain⟨y,hy,r⟩:=hP i v p;rw[Gam] at hy;cases hb:ns[i]? with
 |none=>rw[hb] at hy;cases hy
 |some n=>
  rw[hb] at hy;cases hy
  obtain⟨t,rfl⟩:=r;exact⟨t,by unfold tq;rw[hb];rfl⟩
def B8{f:Int->Int->Int}{i:Int}{ns:List Int}(hk:k<ns.length):(ns.take (k+1)).foldl f i=f ((ns.take k).foldl f i) (ns[k]):=by
 rw[List.take_succ_eq_append_getElem hk,List.foldl_append];rfl
theorem D5{n:Int}{ns:List Int}:∀k,k<=ns.length->tq (n::ns) (argBest (λi j=>decide (tq (n::ns) i>tq (n::ns) j)) k)=(ns.take k).foldl (λa b=>if b>a then b else a) n
 |0,_=>by simp[argBest,tq]
 |k+1,hk=>by
  have ih:= @D5 n ns k ?B;rw[B8 _,argBest];have e:tq (n::ns) (k+1)=ns[k]:=by simp[tq,show k<ns.length by lia]
  rw[ih,e];simp only[GbM];split
  .exact e
  .exact ih
def B9(hc:X.calm=O):dJ X (.builtin "max") (λxs H Q=>∃(p:Xo) (n:Int) (ns:List Int),xs=[.ref p]/\(SqL X.K H p ((n::ns).map V.int)\/SqT X.K H p ((n::ns).map V.int))/\Q (.int (sJ n ns)) H):=by
 intro ef s Z H xs us Q I rv h;obtain⟨p,n,ns,rfl,hq,q⟩:=h;obtain⟨u,rfl,ru⟩:=rv.one;cases ru;refine call_max_walk (tf hc I hq λIt fp wr P St s₂ W st lt hP kept=> ⟨It,fp,wr,_,P,St,_,rfl,W,st,lt,by simp,CmpOf.ints_gt _ (tw hP),λv h' tk hv hk=> ?_⟩);obtain⟨t,rfl⟩:=tw hP _ _ hv;rw[show((n::ns).map _).length -1=ns.length by simp,D5 _ (Gap _),List.take_length];exact⟨.int _,H,kept h' tk hk,⟨t,rfl⟩,q⟩
theorem tx{K:ag}:∀{ds vs bs},aP K F H ds vs->qU ds=U bs->vs=bs.map V.bl
 |[],vs,bs,r,e=>by cases e;exact r.fm
 |d::ds,vs,bs,r,e=>by
  obtain⟨v,w,rfl,h1,h2⟩:=r.cons_inv;cases d<;>try (cases e;done)
  obtain⟨xu,e',rfl⟩:=Gaa.mp e;cases h1;rw[tx h2 e'];rfl
theorem wA{K:ag}:∀{ds vs bs},aP K F H ds vs->sF ds=U bs->vs=bs.map V.int
 |[],vs,bs,r,e=>by cases e;exact r.fm
 |d::ds,vs,bs,r,e=>by
  obtain⟨v,w,rfl,h1,h2⟩:=r.cons_inv;cases d<;>try (cases e;done)
  obtain⟨xu,e',rfl⟩:=Gaa.mp e;cases h1;rw[wA h2 e'];rfl
def D6{K:ag}(i:Inn K F H d v)(e:sG d=U ds):∃p vs,v= .ref p/\(SqL K H p vs\/SqT K H p vs)/\aP K F H ds vs:=by
 unfold sG at e;split at e
 .cases e;cases i with
  |lst h r=>exact⟨_,_,rfl,.inl (.inl h),r⟩
 .cases e;cases i with
  |tup h r=>exact⟨_,_,rfl,.inr (SqT.of h),r⟩
 .rename_i ns;cases e;cases i with
  |scr h=>
   refine⟨_,_,rfl,.inl h.sq,by simp,λi d v e1 e2=> ?_⟩;rw[Gam] at e1 e2;cases q:ns[i]? with
   |none=>rw[q] at e1;cases e1
   |some n=>rw[q] at e1 e2;cases e1;cases e2;exact .int n
 .cases e
def D7(h:one o ds=U rv):∃d xs,ds=[d]/\sG d=U xs/\o xs=U rv:=by
 unfold one at h;split at h
 .exact a9 h λxs h1 h2=> ⟨_,xs,rfl,h1,h2⟩
 .cases h
def Ba:CallD X sI (λxs H Q=>∃(p:Xo) (bs:List Bool),xs=[.ref p]/\(SqL X.K H p (bs.map V.bl)\/SqT X.K H p (bs.map V.bl))/\Q (.bl (bs.all id)) H):=by
 intro F H ds vs rv Q ps e k;obtain⟨d,xs,rfl,h1,h2⟩:=D7 e;obtain⟨bs,hb,rfl⟩:=Gaa.mp h2;obtain⟨v,rfl,i⟩:=cH ps;obtain⟨p,vs,rfl,hs,r⟩:=D6 i h1;rw[tx r hb] at hs;exact⟨p,bs,rfl,hs,k _ H bw (.bl _)⟩
def uX:CallD X pV (λxs H Q=>∃(p:Xo) (n:Int) (ns:List Int),xs=[.ref p]/\(SqL X.K H p ((n::ns).map V.int)\/SqT X.K H p ((n::ns).map V.int))/\Q (.int (sJ n ns)) H):=by
 intro F H ds vs rv Q ps e k;obtain⟨d,xs,rfl,h1,h2⟩:=D7 e;refine a9 h2 λbs hb h2=> ?_;cases bs with
 |nil=>cases h2
 |cons n ns=>
  cases h2;obtain⟨v,rfl,i⟩:=cH ps;obtain⟨p,vs,rfl,hs,r⟩:=D6 i h1;rw[wA r hb] at hs;exact⟨p,n,ns,rfl,hs,k _ H bw (.int _)⟩
def D8(ho:OpR X (compareOp op) r)(hd:OpB X o r)(xJ :OpR X (compareOp xO) r')(xp :OpB X p r')(ha:PEd X a f)(hb:PEd X b g)(hc:PEd X c h)
  (hm:lastMarks [op,xO] [b,c]=M:=by with_unfolding_all rfl):PEd X (.Compare a [op,xO] [b,c] pos) (bE (my o p f g h)):=by
 refine(C8 ho xJ ha hb hc hm).aA (λZ H Q q0=>bP q0 λH0 eg env rv E e k=> ?_);obtain⟨bb,e',rfl⟩:=Gaa.mp e;have e:=e';refine a9 e λx hx e=>a9 e λy hy e=>a9 e λb1 h1 e=> ⟨H0,eg,env,x,E,hx,λvx H1 s1 R1=> ⟨H0,eg,env,y,E.mono s1,hy,λvy H2 s2 R2=>hd _ H2 _ _ vx vy b1 _ (R1.inn.same s2) R2.inn h1 ⟨b1,rfl, ?_⟩⟩⟩;cases b1 with
 |true=>
  exact a9 e λz hz e=> ⟨H0,eg,env,z,(E.mono s1).mono s2,hz,λvz H3 s3 R3=>xp _ H3 _ _ vy vz bb _ (R2.inn.same s3) R3.inn e (k _ H3 (s1.trans (s2.trans s3)) (.bl bb))⟩
 |false=>
  cases e;exact k _ H2 (s1.trans s2) (.bl M)
end
section
def RP(td ty tv:TE):TS:=λD Z H=>tv Z H λv H1=>td Z H1 λx H2=>ty Z H2 λy H3=>Jj x y v H3 λH4=>D.nx Z H4
variable{pos:Pos}{X:Cx}
def D9(hu:X.A.units+1<cLine)(ho:PE X o td)(hi:PE X i ty)(hv:PE X value tv)(hs:swapsWith value (U (.Subscript o i pos')) pos.line X.env=pure M):PS X (.Assign [.Subscript o i pos'] value pos) (RP td ty tv):=by
 intro ef s Z H D I h;refine wpAny_Assign_Subscript (thn (hv ef s Z H _ I h) λr s1 ⟨v,H1,I1,rv,q1⟩=>thn (ho ef s1 Z H1 _ I1 q1) λu s2 ⟨x,H2,I2,rx,q2⟩=>thn (hi ef s2 Z H2 _ I2 q2) λiv s3 q0=> ?_) hs;obtain⟨y,H3,I3,ry,q3⟩:=q0;exact thn (set_list ef s3 Z H3 x y v u iv r _ I3 rx ry rv q3) λ_ s4 ⟨H4,I4,q4⟩=> ⟨Z,H4,I4,q4⟩
def tD{H:Hp}{i:Nat}(q:env[i]? =U (U (.own d)))(h1:Z[i]? =U (U (.ref a)))(hH:H a=U o')(hw:isW o'):jg (Cln eg env Z) H (upd H a o):=λb x hb w=>by
 have:b≠a:=by
  rintro rfl;rcases w with w|w
  .exact w.2 i (by rw[q];trivial) h1
  .rw[hH] at hb;cases hb;cases o' <;>simp[isT] at w<;>exact hw
 rwa[aq this]
def Lp(hu:X.A.units+1<cLine)(hN:X.N[i]? =U x)(hv:Vis X.env.scope x)(hk:PEd X k fk)(he:PEd X value fv)(hd:autoParam ((x==("__debug__":Str))=M) Za2._auto_1)(xf:autoParam ((x==("__classdict__":Str))=M) Za2._auto_1)
  (hs:autoParam (swapsWith value (U (.Subscript (.Name x px) k pos')) pos.line X.env=pure M) Za1._auto_1):PSd X (.Assign [.Subscript (.Name x px) k pos'] value pos) (nF i fk fv):=by
 refine(D9 hu (fi hN hv hd xf) hk he hs).aA ?_
 refineλD Z H q0=>bP q0 λH0 eg env o E e kk=> ?_
 refine a9 e λr hr e=> ?_;refine a9 e λy hy e=> ?_;refine a9 e λd hd e=> ?_;have q:=ly hd;split at e
 .rename_i xx;obtain⟨d',hp,rfl⟩:=Gaa.mp e;refine⟨H0,eg,env,r,E,hr,λv H1 s1 R=> ?_⟩;have E1:=E.mono s1;obtain⟨a,h1,h2,h3,h4,h5,h6⟩:=E1.ow i _ (.inl q);refine⟨_,h1,H0,eg,env,y,E1,hy,λvy H3 s3 Ry=> ?_⟩;have E3:=E1.mono s3;have rep:=(R.rep E xx).same s3;have i6:=h6.same s3;have iy:=Ry.inn;have fin:∀(o' :HO) (UD :HO),H3 a=U UD ->isW UD ->isW o' ->d'.top=O->Inn X.K (Cln eg env Z) (upd H3 a o') d' (.ref a)->D.nx Z (upd H3 a o'):=λo' UD hH hw Vv ht inn=>by
   obtain⟨E4,p4⟩:=E3.change (d' :=d') (o:=o') q h1 Vv ht inn;exact kk Z _ E4 (((Stp.Xl s1).trans (.Xl s3)).trans p4)
  unfold putD at hp;split at hp
  .rename_i xs;split at hp
   .rename_i j hj;rw[hj] at iy;cases iy;obtain⟨vs,hH,rp⟩:=nO (h4.same s3) i6;split at hp
    .rename_i hb;cases hp;refine⟨a,vs,j,j.toNat,rfl,rfl,hH, ?_,fin _ _ hH trivial trivial rfl ?_⟩
     .unfold ixN;rw[Gaj hb.1,Gaj (by rw[<-rp.1];exact hb.2)]
     .exact .lst (.inl aB) ((rp.set rep j.toNat).gen (tD q h1 hH trivial) λ_ f _=>f)
    .split at hp
     .rename_i hb;cases hp;refine⟨a,vs,j,(j+xs.length).toNat,rfl,rfl,hH, ?_,fin _ _ hH trivial trivial rfl ?_⟩
      .unfold ixN;rw[Gau ?B,Gaj (by rw[<-rp.1];lia),rp.1]
      .exact .lst (.inl aB) ((rp.set rep _).gen (tD q h1 hH trivial) λ_ f _=>f)
     .cases hp
   .cases hp
  .cases hp
 .cases e
end
inductive mB where
 |nx (e:Env)
 |bk (e:Env)
 |ct (e:Env)
 |ret (d:D) (e:Env)
 |ex (C:Nat) (n:Str) (d:D)
abbrev DW:=Env->Option mB
noncomputable def mB.of:Out->Option mB
 | .nx e=>U (.nx e)
 | .bk e=>U (.bk e)
 | .ct e=>U (.ct e)
 | .ret _=>J
@[simp] def bf(f:DS):DW:=λenv=>(f env).bind mB.of
@[simp] def aQ(f g:DW):DW:=λenv=>(f env).bind λo=>match o with
 | .nx e=>g e
 |o=>U o
@[simp] def ifW(t:DT)(f g:DW):DW:=λenv=>(t env).bind λb=>if b then f env else g env
@[simp] def Lq(f:DE):DW:=λenv=>(f env).bind λr=>if r.d.imm then U (.ret r.d env) else J
def Pnd(Pn:Nat->V->Prop)(env:Env)(Z:St):Prop:=∀p v,Pn p v->pC env[p]? ->Z[p]? =U (U v)
def nH(H0 H:Hp)(env:Env)(Z:St):Prop:=∀(i:Nat) C ns ds,env[i]? =U (U (.lok (.obj C ns ds)))->∀a dx vs,Z[i]? =U (U (.ref a))->H a=U (.ins C dx (ns.zip vs))->ns.length=vs.length->∀(k:Nat) l g,ds[k]? =U (.kid l)->vs[k]? =U (.ref g)->H0 g=J
def bG(K:ag)(H0:Hp)(Pn:Nat->V->Prop)(env:Env)(Z:St)(H:Hp):Prop:=∃eg,az K H0 eg env Z H/\Pnd Pn env Z/\nH H0 H env Z
section
variable{env eD :Env}{d:D}
variable{i:Nat}
def az.mW{K:ag}{H0 H:Hp}{eg:Xo->Prop}{ns:List Str}(E:az K H0 eg env Z H)(e:env[i]? =U (U (.lok (.obj C ns ds)))):∃a dx vs,Z[i]? =U (U (.ref a))/\H0 a=J/\¬eg a/\H a=U (.ins C dx (ns.zip vs))/\ns.length=vs.length/\Kd ds vs/\aP K (Cln eg env Z) H ds vs:=by
 obtain⟨a,h1,h2,h3,h4,h5,h6⟩:=E.ow i _ (.inr e);cases h6 with
 |obj h ln kd r=>exact⟨a,_,_,h1,h2,h3,h,ln,kd,r⟩
def az.Lr{K:ag}(E:az K H0 eg env Z H)(e:env[i]? =U (U (.lok d)))(ea:Z[i]? =U (U (.ref a))):¬Ow env Z a:=λ⟨j,h,q⟩=>by
 have:=E.dj j i a h.ol (by rw[e];trivial) q ea;subst this
 rwa[e] at h
def Pnd.stp(h:Pnd Pn env Z)(s:Stp env Z H eD Z' H'):Pnd Pn eD Z' :=λp v z l=>by
 obtain⟨e1,e2⟩:=s.lk p l;rw[e2];rw[e1] at l;exact h p v z l
def zip_inj{ns:List Str}:∀{vs us:List V},ns.length=vs.length->ns.length=us.length->ns.zip vs=ns.zip us->vs=us:=by
 induction ns with
 |nil=>intro vs us h1 h2 _;rw[GbB h1.symm,GbB h2.symm]
 |cons n ns ih=>
  intro vs us h1 h2 h;cases vs with
  |nil=>cases h1
  |cons v vs=>
   cases us with
   |nil=>cases h2
   |cons u us=>
    simp only[Gbt,List.cons.injEq,Gbe,true_and] at h;rw[h.1,ih (by simpa using h1) (by simpa using h2) h.2]
theorem bG.stp{K:ag}(k:nH H0 H env Z)(p:Pnd Pn env Z)(E:az K H0 eg env Z H)(E' :az K H0 eg eD Z' H')(s:Stp env Z H eD Z' H'):bG K H0 Pn eD Z' H' :=by
 refine⟨eg,E',p.stp s,λi C ns ds e a dx vs ea h ln=> ?_⟩;obtain⟨e1,e2⟩:=s.lk i (by rw[e];trivial);rw[e1] at e;rw[e2] at ea
 obtain⟨a',zJ,yZ,q1,_,_,q4,q5,_⟩:=E.mW e;rw[ea] at q1;cases q1
 have:=s.keep a _ q4 (E.Lr e ea);rw[h] at this;injection this with this
 injection this with _ z1 z2
 rw[zip_inj ln q5 z2];exact k i C ns ds e a zJ yZ ea q4 q5
theorem bG.mono{K:ag}(E:bG K H0 Pn env Z H)(s:bp H H'):bG K H0 Pn env Z H' :=let⟨_,E,p,k⟩:=E;bG.stp k p E (E.mono s) (.Xl s)
def jt(Xd:List Nat)(env:Env):Bool:=(List.range env.length).all λj=>Xd.contains j||match env[j]? with
 |some (U (.sh d))=>d.imm
 |some (U (.own d))=>d.bI
 |some (U (.lok d))=>d.bI
 |some (U (.bor d))=>d.bI
 |_=>O
def lC(h:jt Xd env=O)(hj:j∉Xd)(e:env[j]? =U (U s)):(match s with
  | .sh d=>d.imm
  | .own d=>d.bI
  | .lok d=>d.bI
  | .bor d=>d.bI)=O:=by
 have:=Gan.mp h j (GaZ.mpr ((Gac.mp e).1));rw[GaW,e] at this;rcases this with q|q
 .simp_all
 .cases s<;>exact q
def aP.cI{K:ag}{H H' :Hp}(s:∀b o,H b=U o->isT o->H' b=U o)(r:aP K F H ds vs)(im:aj ds=O):aP K F' H' ds vs:=
 (r.imm im).gen (λb o e q=>s b o e (q.resolve_left λz=>z)) λ_ z _=>z.elim
def Rep.cI{K:ag}{H H' :Hp}(s:∀b o,H b=U o->isT o->H' b=U o)(r:Rep K F H d v)(im:d.imm=O):Rep K F' H' d v:=
 (r.imm im).gen (λb o e q=>s b o e (q.resolve_left λz=>z)) λ_ z _=>z.elim
theorem Inn.cI{K:ag}{H H' :Hp}(s:∀b o,H b=U o->isT o->H' b=U o)(h:Inn K F H d (.ref a))(t:d.top=O)(fl:d.bI=O)(e:H' a=H a):Inn K F' H' d (.ref a):=by
 cases h with
 |lst h r=>exact .lst (h.imp (λh=>by rw[e];exact h) λ⟨o,h⟩=> ⟨o,by rw[e];exact h⟩) (r.cI s fl)
 |obj h ln kd r=>simp[D.bI] at fl
 |_=>simp[D.top] at t
noncomputable def Slot.put(d:D):Slot->Slot
 | .sh _=> .sh d
 | .own _=> .own d
 | .lok _=> .lok d
 | .bor _=> .bor d
structure ReE(Xd:List Nat)(nw:Nat->D)(env eD :Env):Prop where
 len:eD.length=env.length
 old:∀j,j∉Xd->eD[j]? =env[j]?
 new:∀j∈Xd,∃d,(env[j]? =U (U (.own d))/\eD[j]? =U (U (.own (nw j))))\/(env[j]? =U (U (.lok d))/\eD[j]? =U (U (.lok (nw j))))
variable{nw:Nat->D}
def az.flat{K:ag}{H0 H H' :Hp}{A:Xo->Prop}{Xd:List Nat}(E:az K H0 eg env Z H)(fl:jt Xd env=O)(re:ReE Xd nw env eD)(hH:∀b o,H b=U o->H' b=U o\/A b)
  (hA:∀b,A b->H0 b=J/\((∃j∈Xd,Z[j]? =U (U (.ref b)))\/Cln eg env Z b)/\∀o,H b=U o->isW o)(hJ:∀j∈Xd,∀a,Z[j]? =U (U (.ref a))->Wr H' a/\(nw j).top=O/\Inn K (Cln eg env Z) H' (nw j) (.ref a)):az K H0 eg eD Z H' :=by
 have tj:∀j∈Xd,lq env[j]? :=λj hj=>by obtain⟨d,⟨q,_⟩| ⟨q,_⟩⟩:=re.new j hj<;>rw[q]<;>trivial
 have tj' :∀j∈Xd,lq eD[j]? :=λj hj=>by obtain⟨d,⟨_,q⟩| ⟨_,q⟩⟩:=re.new j hj<;>rw[q]<;>trivial
 have hU:∀j,bJ eD[j]? ->bJ env[j]? :=λj t=>by
  by_cases q:j∈Xd
  .exact(tj j q).top
  .rwa[re.old j q] at t
 have ols:∀j,lq eD[j]? ->lq env[j]? :=λj t=>by
  by_cases q:j∈Xd
  .exact tj j q
  .rwa[re.old j q] at t
 have isT' :∀b o,H b=U o->isT o->H' b=U o:=λb o eb t=>(hH b o eb).resolve_right λz=>by
  have:=(hA b z).2.2 o eb;cases o<;>first|exact t.elim|exact this
 have other:∀j b,j∉Xd->bJ env[j]? ->Z[j]? =U _->H' b=H b:=λj b hj t ej=>by
  obtain⟨o,ho,_⟩:=E.Jm t ej;rw[ho];refine(hH b o ho).resolve_right λz=> ?_;rcases(hA b z).2.1 with⟨i,hi,q⟩|q
  .have:=E.dj i j b (tj i hi) t q ej;subst this;exact hj hi
  .exact q.2 j t ej
 refine⟨λb o eb=>(hH b o (E.same b o eb)).resolve_right λz=>absurd ((hA b z).1.symm.trans eb) ?E,by rw[re.len];exact E.len,λb hb z=> ?_,λj dj ej=> ?_,λj dj ej=> ?_,λj dj ej=> ?_,λj k b t1 t2 e1 e2=>E.dj j k b (ols j t1) (hU k t2) e1 e2⟩
 .cases q:H b with
  |none=>exact E.bad b hb q
  |some o=>
   rcases hH b o q with y|y
   .rw[y] at z;cases z
   .rcases(hA b y).2.1 with⟨i,hi,w⟩|w
    .obtain⟨d,hd⟩:=re.new i hi;obtain⟨a,q1,_,q3,_⟩:=E.ow i d (hd.imp (λz=>z.1) λz=>z.1);rw[w] at q1;cases q1;exact q3 hb
    .exact w.1 hb
 .by_cases q:j∈Xd
  .have:=tj' j q;rw[ej] at this;exact this.elim
  .rw[re.old j q] at ej;obtain⟨v,v1,v2⟩:=E.sh j dj ej;exact⟨v,v1,v2.cI isT' (lC fl q ej)⟩
 .by_cases q:j∈Xd
  .obtain⟨d,hd⟩:=re.new j q;obtain⟨a,q1,q2,q3,_⟩:=E.ow j d (hd.imp (λz=>z.1) λz=>z.1);obtain⟨w,t,inn⟩:=hJ j q a q1;have:dj=nw j:=by
    rcases hd with⟨_,hd⟩| ⟨_,hd⟩<;>rcases ej with ej|ej<;>rw[hd] at ej<;>cases ej<;>rfl
   subst this;exact⟨a,q1,q2,q3,w,t,inn.imp (λb h=> ⟨h.1,λj t ej=>h.2 j (hU j t) ej⟩)⟩
  .rw[re.old j q] at ej;obtain⟨b,q1,q2,q3,q4,q5,q6⟩:=E.ow j dj ej;have eq:=other j b q (by rcases ej with q|q<;>rw[q]<;>trivial) q1;obtain⟨o,o1,o2⟩:=q4;exact⟨b,q1,q2,q3,⟨o,by rw[eq];exact o1,o2⟩,q5,q6.cI isT' q5 (ej.elim (λy=>lC fl q y) λy=>lC fl q y) eq⟩
 .by_cases q:j∈Xd
  .have:=tj' j q;rw[ej] at this;exact this.elim
  .rw[re.old j q] at ej;obtain⟨b,q1,q4,q5,q6⟩:=E.bo j dj ej;have eq:=other j b q (by rw[ej];trivial) q1;obtain⟨o,o1,o2⟩:=q4;exact⟨b,q1,⟨o,by rw[eq];exact o1,o2⟩,q5,q6.cI isT' q5 (lC fl q ej) eq⟩
def bG.flat{K:ag}{H0 H H' :Hp}{A:Xo->Prop}{Xd:List Nat}(E:az K H0 eg env Z H)(pn:Pnd Pn env Z)(kn:nH H0 H env Z)(E' :az K H0 eg eD Z H')(re:ReE Xd nw env eD)(hH:∀b o,H b=U o->H' b=U o\/A b)
  (hA:∀b,A b->(∃j∈Xd,Z[j]? =U (U (.ref b)))\/Cln eg env Z b)(hk:∀j∈Xd,∀C ns ds,nw j= .obj C ns ds->∀a dx vs,Z[j]? =U (U (.ref a))->H' a=U (.ins C dx (ns.zip vs))->ns.length=vs.length->∀(k:Nat) l g,ds[k]? =U (.kid l)->vs[k]? =U (.ref g)->H0 g=J):bG K H0 Pn eD Z H' :=by
 refine⟨eg,E',λp v z q=>pn p v z ?_,λj C ns ds ej a dx vs ea h ln=> ?_⟩
 .by_cases y:p∈Xd
  .obtain⟨d,⟨_,w⟩| ⟨w,_⟩⟩:=re.new p y
   .rw[w] at q;exact q.elim
   .rw[w]
    trivial
  .rwa[re.old p y] at q
 .by_cases y:j∈Xd
  .obtain⟨d,⟨_,w⟩| ⟨_,w⟩⟩:=re.new j y
   .rw[ej] at w;cases w
   .rw[ej] at w;injection w with w
    injection w with w
    injection w with w
    exact hk j y C ns ds w.symm a dx vs ea h ln
  .rw[re.old j y] at ej;obtain⟨a3,Uv,Vg,q1,_,_,q4,q5,_⟩:=E.mW ej;rw[ea] at q1;cases q1;have:H' a=U _:=(hH a _ q4).resolve_right λz=>by
    rcases hA a z with⟨i,hi,w⟩|w
    .have:=E.dj i j a (by obtain⟨d,⟨q,_⟩| ⟨q,_⟩⟩:=re.new i hi<;>rw[q]<;>trivial) (by rw[ej];trivial) w ea;subst this;exact y hi
    .exact w.2 j (by rw[ej];trivial) ea
   rw[h] at this;injection this with this
   injection this with _ _ this
   have:=zip_inj ln q5 this;subst this;exact kn j C ns ds ej a Uv vs ea q4 q5
end
def Ls:D->Option RV
 | .kid l=>U ⟨.c,.lst l⟩
 |d=>if d.imm then U ⟨.c,d⟩ else J
def uY(C:Nat)(n:Str):D->Option RV
 | .obj C' ns ds=>if C' =C then((ns.zip ds).lookup n).bind Ls else J
 |_=>J
@[simp] def dN(C:Nat)(n:Str)(f:DE):DE:=λenv=>(f env).bind λx=>uY C n x.d
def iH(ds:List D):Bool:=ds.all λd=>match d with
 | .kid l=>aj l
 |d=>d.imm
def gV(C:Nat)(n:Str)(g:List D->Option (List D)):D->Option D
 | .obj C' ns ds=>if C' =C/\iH ds=O then(ns.findIdx? λm=>m==n).bind λk=>match ds[k]? with
  |some (.kid l)=>(g l).bind λl' =>if aj l' =O then U (.obj C ns (ds.set k (.kid l'))) else J
  |_=>J
  else J
 |_=>J
noncomputable def kg(i:Nat)(env:Env):Option D:=match env[i]? with
 |some (U (.lok d))=>U d
 |_=>J
def kG(d:D)(l:List D):Option (List D):=if l.length<a7 then U (l++[d]) else J
noncomputable def ij(d:D)(l:List D):Option (List D):=if l.length=0 then J else U (l.set (l.length -1) d)
@[simp] def Hr(i:Nat)(p:D->D->Option D)(f:DE):DW:=λenv=>(f env).bind λr=>if r.d.imm=O/\jt [i] env=O then((kg i env).bind (p r.d)).map λd' => .nx (env.set i (U (.lok d'))) else J
@[simp] def Bb(i C:Nat)(n:Str)(f:DE):DW:=Hr i (λd=>gV C n (kG d)) f
@[simp] def mX(i C:Nat)(n:Str)(f:DE):DW:=Hr i (λd=>gV C n (ij d)) f
def Dc(X:Cx)(H0:Hp)(Pn:Nat->V->Prop)(E:XK)(D:Ends):mB->Prop
 | .nx e=>∀Z H,bG X.K H0 Pn e Z H->D.nx Z H
 | .bk e=>∀Z H,bG X.K H0 Pn e Z H->D.bk Z H
 | .ct e=>∀Z H,bG X.K H0 Pn e Z H->D.ct Z H
 | .ret d e=>∀v Z H,bG X.K H0 Pn e Z H->Rep X.K (λ_=>False) H d v->D.rt v H
 | .ex C n d=>∀v dx H,bp H0 H->H0 dx=J->H dx=U (.xd [(n,v)])->d.imm=O->Rep X.K (λ_=>False) H d v->E (.ref C) (U dx) H
def tW(X:Cx)(H0:Hp)(Pn:Nat->V->Prop)(E:XK)(f:DW):TS:=λD Z H=>∃env o,bG X.K H0 Pn env Z H/\f env=U o/\Dc X H0 Pn E D o
theorem _root_.L2.PS.nox{X:Cx}{st:Xu}(h:PS X.nox st t):PS X st t:=λef s Z H D I hw=>
 Gba (h ef s Z H D (I.dQ _) hw) (λ_ _ q=>q.dM) λ_ _ z=>False.elim z
section
def tF{X:Cx}{D:Ends}(EO:az X.K H0 eg env Z H)(p:Pnd Pn env Z)(k:nH H0 H env Z)(h2:mB.of o1=U o)(ok:Dc X H0 Pn E D o):Cr X H0 eg env Z H D o1:=by
 cases o1 with
 |nx e' =>cases h2;exactλZ' H' E' st=>ok Z' H' (bG.stp k p EO E' st)
 |bk e' =>cases h2;exactλZ' H' E' st=>ok Z' H' (bG.stp k p EO E' st)
 |ct e' =>cases h2;exactλZ' H' E' st=>ok Z' H' (bG.stp k p EO E' st)
 |ret d=>cases h2
variable{st:Xu}
def wB{X:Cx}{f:DS}(h:PSd X.nox st f):PS X st (tW X H0 Pn E (bf f)):=by
 refine(PS.nox h).aA ?_;rintro D Z H ⟨env,o,⟨eg,EO,p,k⟩,e,ok⟩;exact a9 e λo1 h1 h2=> ⟨H0,eg,env,o1,EO,h1,tF EO p k h2 ok⟩
def Dd{X:Cx}(h:nG X.nox sts f):PSs X sts (tW X H0 Pn E (bf f)):=by
 refine(PSs.nox h).aA ?_;rintro D Z H ⟨env,o,⟨eg,EO,p,k⟩,e,ok⟩;exact a9 e λo1 h1 h2=> ⟨H0,eg,env,o1,EO,h1,tF EO p k h2 ok⟩
def De{rest:List Xu}(h1:PS X st (tW X H0 Pn E g1))(h2:PSs X rest (tW X H0 Pn E g2)):PSs X (st::rest) (tW X H0 Pn E (aQ g1 g2)):=by
 refine(o6 h1 h2).aA ?_;rintro D Z H ⟨env,o,EW,e,ok⟩;refine a9 e λo1 h1 h2=> ⟨env,o1,EW,h1, ?_⟩;cases o1 with
 |nx e' =>exactλZ' H' E' => ⟨e',o,E',h2,ok⟩
 |bk e' =>cases h2;exact ok
 |ct e' =>cases h2;exact ok
 |ret d e' =>cases h2;exact ok
 |ex C n d=>cases h2;exact ok
def Hs{g:DW}(h1:PS X st (tW X H0 Pn E g)):PSs X [st] (tW X H0 Pn E g):=qH h1
def Pb{X:Cx}(hc:PTd X.nox c t)(ha:PSs X xs (tW X H0 Pn E g1))(hb:PSs X ys (tW X H0 Pn E g2)):PS X (.If c xs ys pos) (tW X H0 Pn E (ifW t g1 g2)):=by
 refine(C3 (PT.nox hc) ha hb).aA ?_;rintro D Z H ⟨env,o,⟨eg,EO,p,k⟩,e,ok⟩;refine a9 e λb h1 h2=> ⟨H0,eg,env,b,EO,h1,λH1 s1=> ?_⟩;have EW:=bG.mono ⟨eg,EO,p,k⟩ s1;dsimp only;cases b with
 |true=>rw[Gaj rfl];rw[Gaj rfl] at h2;exact⟨env,o,EW,h2,ok⟩
 |false=>rw[Gau Gaq];rw[Gau Gaq] at h2;exact⟨env,o,EW,h2,ok⟩
def Lu{X:Cx}(he:PEd X.nox e h):PS X (.Return (U e) pos) (tW X H0 Pn E (Lq h)):=by
 refine(qJ (PE.nox he)).aA ?_;rintro D Z H ⟨env,o,⟨eg,EO,p,k⟩,e,ok⟩;refine a9 e λr h1 h2=> ?_;split at h2
 .rename_i im;cases h2;exact⟨H0,eg,env,r,EO,h1,λv H1 s1 R=>ok v Z H1 (bG.mono ⟨eg,EO,p,k⟩ s1) (R.inn.imm im)⟩
 .cases h2
end
theorem ot{K:ag}:∀{ns:List Str} {ds:List D} {vs:List V} {d:D},aP K F H ds vs->(ns.zip ds).lookup n=U d->∃v,(ns.zip vs).lookup n=U v/\Rep K F H d v
 |[],ds,vs,d,_,e=>by simp at e
 |m::ns,[],vs,d,_,e=>by simp at e
 |m::ns,x::ds,vs,d,r,e=>by
  obtain⟨v,us,rfl,h1,h2⟩:=r.cons_inv;rw[Gbt,GaE] at e⊢;cases q:n==m with
  |true=>rw[q] at e;cases e;exact⟨v,rfl,h1⟩
  |false=>rw[q] at e;exact ot h2 e
theorem tH:∀{ns:List Str} {vs:List V} {k:Nat} {v:V},(ns.findIdx? λm=>m==n)=U k->vs[k]? =U v->(ns.zip vs).lookup n=U v
 |[],vs,k,v,h,_=>by simp at h
 |m::ns,[],k,v,_,e=>by simp at e
 |m::ns,u::us,k,v,h,e=>by
  rw[GbH] at h;rw[Gbt,GaE];cases q:m==n with
  |true=>
   rw[q] at h;cases h;simp_all
  |false=>
   rw[q] at h;have:(n==m)=M:=by rw[Gbg] at q⊢;exact GaG q
   rw[this];obtain⟨j,hj,rfl⟩:=Gaa.mp h;exact tH hj ?H
def Ht{K:ag}{r:RV}(h:Ls d=U r)(R:Rep K F H d v):r.k= .c/\Rep K F H r.d v:=by
 unfold Ls at h;split at h
 .cases h;cases R with
  |kid f h l r=>exact⟨rfl,.lst f (.inl h) l r⟩
 .split at h
  .cases h;exact⟨rfl,R⟩
  .cases h
def Lv{X:Cx}(cl:L2.Cls X.K C)(na:cC X.K C n)(he:PEd X e f)(hb:autoParam (attributeBase e n X.env (eval e X.env)=eval e X.env) Za1._auto_1):PEd X (.Attribute e n pos) (dN C n f):=by
 refine(uM he hb).aA (λZ H Q q0=>bP q0 λH0 eg env r EO h0 k=>a9 h0 λx hx h=> ⟨H0,eg,env,x,EO,hx,λv H1 s1 R=> ?_⟩);have ii:=R.inn;obtain⟨xk,xd⟩:=x;cases ii with
 | @obj _ _ C' _ _ _ h1 ln kd r1=>
  unfold uY at h;dsimp only at h;by_cases q:C' =C
  .rw[Gaj q] at h;subst q;refine a9 h λd hd hk=> ?_;obtain⟨v,hv,rv⟩:=ot r1 hd;obtain⟨k1,k2⟩:=Ht hk rv;refine⟨_,_,_,_,v,rfl,h1,cl,na,hv,k v H1 s1 ?_⟩;obtain⟨rk,rd⟩:=r;cases k1;exact k2
  .lia
 |_=>cases h
theorem bG.kid{H0:Hp}{Pn:Nat->V->Prop}{C:Xo}{n:Str}{K:ag}{H:Hp}{env:Env}{Z:St}{i:Nat}{d d' :D}{gl:List D->Option (List D)}{eg:Xo->Prop}(EO:az K H0 eg env Z H)(pn:Pnd Pn env Z)(kn:nH H0 H env Z)(fl:jt [i] env=O)(e:env[i]? =U (U (.lok d)))(hp:gV C n gl d=U d'):
  ∃a dx fs g us l l',Z[i]? =U (U (.ref a))/\H a=U (.ins C dx fs)/\fs.lookup n=U (.ref g)/\H g=U (.lst us)/\aP K (Cln eg env Z) H l us/\gl l=U l' /\aj l' =O/\∀xX,aP K (Cln eg env Z) H l' xX ->bG K H0 Pn (env.set i (U (.lok d'))) Z (upd H g (.lst xX)):=by
 unfold gV at hp;split at hp
 .rename_i C' ns ds;split at hp
  .rename_i q;obtain⟨rfl,hf⟩:=q;refine a9 hp λk hk hp=> ?_;split at hp
   .rename_i l hl;refine a9 hp λl' hg hp=> ?_;split at hp
    .rename_i im;cases hp;obtain⟨a,dx,vs,ea,z0,zb,ha,ln,kd,rs⟩:=EO.mW e;obtain⟨v,hv,rv⟩:=rs.get hl;cases rv with
     | @kid g us _ fg yI l1 r1=>
      refine⟨a,dx,_,g,us,l,l',ea,ha,tH hk hv,yI,⟨l1,r1⟩,hg,im,λxX R0=> ?_⟩;have ne:a≠g:=λz=>by subst z;rw[ha] at yI;cases yI
      have stT:∀b o,H b=U o->isT o->upd H g (.lst xX) b=U o:=λb o eb t=>by
       rwa[aq]
       rintro rfl;rw[yI] at eb;cases eb;exact t
      have R' :aP K (λ_=>False) _ l' xX :=R0.cI stT im;have inn:Inn K (Cln eg env Z) (upd H g (.lst xX)) (.obj C' ns (ds.set k (.kid l'))) (.ref a):=by
       refine .obj (vs:=vs) (by rw[aq ne];exact ha) ln (λx y l2 g2 e1 e2 e3=> ?_) ⟨by simpa using rs.1,λj dj vj e1 e2=> ?_⟩
       .by_cases q:k=x
        .subst q;rw[hv] at e2;cases e2;exact kd k y l g hl hv e3
        .rw[Gad q] at e1;exact kd x y l2 g2 e1 e2 e3
       .by_cases q:k=j
        .subst q;rw[GaD ((Gac.mp hl).1)] at e1;cases e1;rw[hv] at e2;cases e2;exact .kid fg aB R'.1 λi d v e1 e2=>(R'.2 i d v e1 e2).imp λ_ z=>z.elim
        .rw[Gad q] at e1;have fj:=Gan.mp hf dj (GaC e1);have rj:=rs.2 j dj vj e1 e2;cases rj with
         | @kid g2 us2 l2 f2 h2 ll r2=>
          have:=aP.cI (K:=K) (F:=Cln eg env Z) (F' :=Cln eg env Z) (ds:=l2) (vs:=us2) stT ⟨ll,r2⟩ fj;exact .kid f2 (by rw[aq (λz=>by subst z;exact q (kd k j l g2 hl hv e2))];exact h2) this.1 this.2
         |obj f h ln kd l r=>simp[D.imm] at fj
         |lst f h l r=>simp[D.imm] at fj
         |non=>exact .non
         |bl b=>exact .bl b
         |int i=>exact .int i
         |str x=>exact .str x
         |tup h l r=>exact(Rep.tup h l r).cI stT fj
         |scr h=>exact(Rep.scr (F:=Cln eg env Z) h).cI stT fj
         |kt h=>exact .kt h
         |exc h r=>exact(Rep.exc h r).cI stT fj
      have re:ReE [i] (λ_=> .obj C' ns _) env (env.set i (U (.lok (.obj C' ns (ds.set k (.kid l')))))):=⟨by simp,λj hj=>Gad (by rintro rfl;simp at hj),λj hj=>by
       obtain rfl:j=i:=by simpa using hj
       exact⟨_,.inr ⟨e,bZ ((Gac.mp e).1)⟩⟩⟩
      have hH:∀b o,H b=U o->upd H g (.lst xX) b=U o\/b=g:=λb o eb=>by
       by_cases z:b=g
       .exact .inr z
       .left
        rwa[aq z]
      refine bG.flat EO pn kn (EO.flat (A:=_) fl re hH (λb hb=> ?_) λj hj a' e' => ?_) re hH (λb hb=>by subst hb;exact .inr fg) λj hj C2 Vm xr z a' VN yY e' h2 ln2 k2 l2 g2 e3 e4=> ?_
      .subst hb;exact⟨kn i C' ns ds e a dx vs ea ha ln k l b hl hv,.inr fg,λo eo=>by rw[yI] at eo;cases eo;trivial⟩
      .obtain rfl:j=i:=by simpa using hj
       rw[ea] at e';cases e';exact⟨⟨.ins C' dx _,by rw[aq ne];exact ha,trivial⟩,rfl,inn⟩
      .obtain rfl:j=i:=by simpa using hj
       cases z;rw[ea] at e';cases e';rw[aq ne,ha] at h2;injection h2 with h2
       injection h2 with _ _ h2
       have:=zip_inj ln ln2 h2;subst this;by_cases q:k=k2
       .subst q;exact kn j C' ns ds e a dx vs ea ha ln k l _ hl e4
       .rw[Gad q] at e3;exact kn j C' ns ds e a dx vs ea ha ln k2 l2 g2 e3 e4
    .cases hp
   .cases hp
  .cases hp
 .cases hp
open PySem.W (KasT kas_rev kas_asc kas_desc kas_tail3 kas_descPart kas_count kas_place kas_bin kas_sort)
section
variable{N:Nat}
def Ord(N:Nat)(p:Array Nat):Prop:=p.toList.Perm (List.range N)
end
def FO(h:Xs)(a:Xo)(T:String)(vs:Array Xq):Prop:=∃o,h.get? a=U o/\o.cls= .type T/\o.data= .fields vs
def FO.ty{z:Xr}(x:FO z.heap a T vs):z.TypeIs (.ref a) T:=let⟨o,ho,hc,_⟩:=x;⟨o,ho,hc⟩
def Df{z:Xr}{vs:Array Xq}(f:FO z.heap a T vs)(h:∀h',FO h' a T (vs.setIfInBounds k x)/\Heap.SameBut a z.heap h' ->Q () {z with heap:=h' })(hk:k<vs.size):
  wpAny (model prog w) A (setField (.ref a) k x) Q E z:=by
 obtain⟨⟨c,dc,dt,sl⟩,ho,hc,hd⟩:=f;cases hc;cases hd
 exact wpAny_setField ho rfl hk (h _ ⟨⟨_,GbI _ ho rfl,rfl,rfl⟩,Heap.SameBut.update ..⟩)
def gX{z:Xr}(f:FO z.heap a T vs)(e:vs[i]? =U x)(h:Q x z):wpAny (model prog w) A (field (.ref a) i) Q E z:=let⟨_,ho,_,hd⟩:=f;wpAny_field ho hd e h
def Pc{A:Xx}{z:Xr}(hh:A.handled=J)(h:∀h' a,(∀b o,z.heap.get? b=U o->h'.get? b=U o)/\(∃o,h'.get? a=U o/\o.cls= .type "StopIteration")->E (.ref a) {z with heap:=h' }):
  wpAny (model prog w) A (newExc (.type "StopIteration") []>>=λe=>(raiseNew e:Sem α)) Q E z:=by
 .unfold raiseNew
  wp_walk
  exact h _ _ ⟨λb o e=>Gaf _ (Gaf _ e),_,Gat _ rfl,rfl⟩
 all_goals size_fits
def wC{z:Xr}(x:∃o,z.heap.get? e=U o/\o.cls= .type "StopIteration")(h:Q O z):wpAny (model prog w) A (isInstance (.ref e) (.type "StopIteration")) Q E z:=
 wpAny_isInstance x isSubtype_stop h
def on{α:Type}{t:Sem α}{Q Q' :α->Xr->Prop}(h:wpAny (model prog w) A t Q E z)(k:∀a s,Q a s->Q' a s):wpAny (model prog w) A t Q' E z:=Gba h k λ_ _ x=>x
noncomputable def Jq:D->List Int
 | .non=>[0]
 | .int i=>[1,i]
 | .str x=>2::x.cps.toList.map Int.ofNat
 |_=>[3]
def code:D->List (List Int)
 | .tup ds=>ds.map Jq
 |d=>[Jq d]
@[simp] noncomputable def ou:Nat->List D->List D
 |_,[]=>[]
 |i,x::xs=> .tup [.int i,x]::ou (i+1) xs
@[simp] def Dg(f:DE):DI:=λenv=>(f env).bind λr=>if r.k= .to then J else match r.d with
 | .lst xs=>U (ou 0 xs)
 | .tup xs=>U (ou 0 xs)
 |_=>J
theorem mC:∀i xs,(ou i xs).length=xs.length
 |_,[]=>rfl
 |i,x::xs=>by simp[mC _ xs]
theorem mD:∀(k:Nat) (xs:List D) (i:Nat),(ou k xs)[i]? =(xs[i]?).map λx=> .tup [.int ((k+i:Nat)),x]
 |_,[],i=>by simp
 |k,x::xs,i=>by
  cases i with
  |zero=>simp
  |succ i=>
   simp only[ou,Gcy];rw[mD _ xs i,show k+1+i=k+(i+1) by lia]
def tJ(x:D)(ds:List D):Option Bool:=if aY 10 x&&ds.all (aY 10) then U (ds.any λy=>eqD y x) else J
def inB(x y:D):Option Bool:=match y with
 | .lst ds=>tJ x ds
 | .tup ds=>tJ x ds
 |_=>J
noncomputable def pD:SpV
 |[.int i]=>U ⟨.c,.int i⟩
 |[.bl b]=>U ⟨.c,.int (if b then 1 else 0)⟩
 |_=>J
noncomputable def fH{α:Type}(xs:List α)(i:Int)(y:α):List α:=xs.take (if i<0 then(i+(xs.length:Int)).toNat else min i.toNat xs.length)++y::xs.drop (if i<0 then(i+(xs.length:Int)).toNat else min i.toNat xs.length)
def Bc(xs:List α)(i:Int)(y:α):(fH xs i y).length=xs.length+1:=by
 unfold fH
 grind
@[simp] def r9(i:Nat)(k v:DE):DS:=λenv=>(k env).bind λx=>(v env).bind λr=>(ownAt i env).bind λd=>match d,x.d with
 | .lst xs,.int j=>if r.free&&(decide (xs.length<a7)&&bt j) then U (.nx (env.set i (U (.own (.lst (fH xs j r.d)))))) else J
 |_,_=>J
noncomputable def isInt:D->Bool
 | .int _=>O
 |_=>M
noncomputable def unI:D->Int
 | .int i=>i
 |_=>0
noncomputable def kH(x:Str):List D:=x.cps.toList.map λc=> .str ⟨#[c]⟩
@[simp] def Lx(f:DE):DI:=λenv=>(f env).bind λr=>match r.d with
 | .str x=>U (kH x)
 |_=>J
noncomputable def Bd(x:Str):Option Nat:=match x.cps.toList with
 |[c]=>U c
 |_=>J
@[simp] theorem QY:Bd ⟨#[c]⟩=U c:=rfl
def wD(h:Bd x=U c):x=⟨#[c]⟩:=by
 unfold Bd at h;split at h
 .rename_i c' e;cases h;obtain⟨⟨l⟩⟩:=x;simp_all
 .cases h
def kJ:D->D->Option Bool
 | .str a,.str b=>(Bd a).map λc=>decide (c∈b.cps.toList)
 |_,_=>J
def ju:D->D->Option Bool
 | .str a,.str b=>(Bd a).map λc=> !decide (c∈b.cps.toList)
 |_,_=>J
@[simp] theorem Pd{b:Str}:kJ (.str a) (.str b)=(Bd a).map λc=>decide (c∈b.cps.toList):=rfl
@[simp] noncomputable def lF:List D->Option (List Str)
 |[]=>U []
 | .str x::ds=>(lF ds).map (x:: ·)
 |_=>J
noncomputable def lG:SpV
 |[.int i]=>if i.natAbs<1000000000000000000 then U ⟨.c,.str (Str.ofString (toString i))⟩ else J
 |_=>J
@[simp] theorem Pe{i:Int}:lG [.int i]=if i.natAbs<1000000000000000000 then U ⟨.c,.str (Str.ofString (toString i))⟩ else J:=rfl
noncomputable def gp(c:Nat):Bool:=decide (48<=c)&&decide (c<=57)
noncomputable def uZ(cs:List Nat):Nat:=cs.foldl (λacc c=>acc*10+(c -48)) 0
def lH:SpV
 |[.str x]=>if decide (x.length<=640)&&(decide (x.cps.toList≠[])&&x.cps.toList.all gp) then U ⟨.c,.int (uZ x.cps.toList)⟩ else J
 |_=>J
@[simp] theorem mF{x:Str}:lH [.str x]=if decide (x.length<=640)&&(decide (x.cps.toList≠[])&&x.cps.toList.all gp) then U ⟨.c,.int (uZ x.cps.toList)⟩ else J:=rfl
abbrev DN:=Env->List (List D)->Option (Env×List (List D))
abbrev Rws:=List (List Key×D)
abbrev DM:=Env->Rws->Option (Env×Rws)
open PySem.W (KatLex KatTups kas_sort kas_ask kat_kind kat_lt kat_one kat_run kat_snds BoolBack kat_lt_int)
section
variable{X:Cx}
def _root_.L2.Inv.oy{s s' :Xr}{ch:List Xo}(I:Inv X ef Z H s)(hf:∀b∈ch,je X ef H b)(yO:s'.os=s.os)(hg:s'.gens=s.gens)
  (k:∀b u,b∉ch->s.heap.get? b=U u->s'.heap.get? b=U u)(hT:s.heap.objs.size<=T)(new:bS X.prog X.w (upd H T o) s'.heap T o):Inv X ef Z (upd H T o) s' :=by
 have ne:∀{b u},H b=U u->b≠T:=λ{b u} q=>aX q (I.hok.fresh hT);refine I.sr (ch:=ch) yO ⟨λb ob q _ _ hx=>k b ob hx q,λb ob q _ _ hx=> ⟨_,k b ob hx q⟩,λb ob q n _=> ?_,λb ob q hx=> ⟨ob,k b ob hx q⟩,λb xs q=> ?_,λb ob u q=> ?_,λb ps q=> ⟨#[], ?_⟩⟩ ?_ (by rw[hg];exact I.bare) λb hb=> ⟨(hf b hb).2.2.2.1,(hf b hb).2.1,(hf b hb).2.2.2.2.1,(hf b hb).2.2.2.2.2⟩
 .rwa[aq (Gas (Gah (Gak q) hT))]
 .rwa[aq (ne q)]
 .rwa[aq (ne q)]
 .rw[aq (ne q),q];simp
 .intro b u q;by_cases hb:b=T
  .subst hb;rw[aB] at q;cases q;exact new
  .rw[aq hb] at q;have tr:∀{c v},H c=U v->c∉ch:=λ{c v} z hc=>by rw[(hf c hc).1] at z;cases z
   refine(I.hok b u q).iD (λc v hc z=>k c v ?_ z) (λc z=>by rw[aq (ne z)];exact z) λc xs z=>by rw[aq (ne z)];exact z
   rcases hc with hc|hc
   .rw[hc];exact tr q
   .exact tr hc
def Ite(K:ag)(l:Xo):It:=
 ⟨λi H=>∃xs x,SqL K H l xs/\xs[i]? =U x,λi H x H' =>∃p y,H p=J/\x= .ref p/\H' =upd H p (.tup [.int i,y])/\∀xs,SqL K H l xs->xs[i]? =U y,λi H=>∃xs,SqL K H l xs/\xs.length<=i⟩
theorem Be{K:ag}(en it l:Xo)(xS:en≠it):Turn P w K (.Tuple elts x1 tp) (Ite K l) [en,it] en (λi h=>(∃old,IsEnum h en it i old)/\h.IsListIter it l i) where
 mem:=by simp
 obj:=λi h st b hb=>by
  obtain⟨⟨old,he⟩,o,e,c,d⟩:=st;rcases Gae.mp hb with z|z
  .subst z;exact⟨_,he,λv z=>by
    cases z⟩
  .have z' :b=it:=by simpa using z
   subst z';exact⟨o,e,λv z=>by rw[d] at z;cases z⟩
 keep:=λi h h' st k=> ⟨let⟨old,he⟩:=st.1;⟨old,k en ?E _ he⟩,st.2.at λo e=>k it ?E o e⟩
 item:=by
  intro X hP hw hK hc i ef s Z H E I hf st hg;subst hP hw hK;obtain⟨⟨old,he⟩,hit⟩:=st;obtain⟨xs,x,hq,hx⟩:=hg;obtain⟨eh,rv,p,hz⟩:=I.list hq;obtain⟨u,hu,ru⟩:=rv.get hx;refine wpAny_pyNext_enum_item he hit p.isList (x:=u) ?H xS λh' ho yn hT ya kk=> ⟨_,rfl,(wpAny_letOwnedTupleGo_enum (s:={s with heap:=h',toks:=_+1}) ho λh2 V6 sb=> ?_)⟩;have kept:∀b o,b∉[en,it]->s.heap.get? b=U o->h2.get? b=U o:=λb o hb e=>by
   have b1:b≠en:=λz=>hb (by simp[z]);exact(sb.2 b b1).trans (kk b o b1 (λz=>hb (by simp[z])) e)
  have zF:h2.get? _=U {cls:= .type "tuple",data:= .seq #[.int i _,u]}:=(sb.2 _ (Gbd (Gak he))).trans hT;have I1:Inv X ef Z (upd H _ (.tup [.int i,x])) {s with heap:=h2,toks:=s.toks+1}:=I.oy (ch:=[en,it]) hf rfl rfl kept (Gap _) (by
   refine⟨by simp[Gco],[.int i _,u],.cons ⟨_,rfl⟩ (.cons ru .nil),_,zF,rfl,0,rfl⟩)
  refine⟨.ref _,_,I1,rfl,⟨_,x,I.fresh,rfl,rfl,λys hy=>by rw[I.nZ hy hq];exact hx⟩,⟨⟨u,by simpa using V6⟩,yn.at λo e=>(sb.2 it (GaG xS)).trans e⟩,λb hb=> ?_⟩;obtain⟨o,ob,_⟩:∃o,s.heap.get? b=U o/\True:=by
   rcases Gae.mp hb with z|z
   .subst z;exact⟨_,he,trivial⟩
   .have z' :b=it:=by simpa using z
    subst z';obtain⟨o,e,_⟩:=hit;exact⟨o,e,trivial⟩
  rw[aq (Gas (Gak ob))];exact(hf b hb).1
 done:=by
  intro X hP hw hK hc i ef s Z H E I hf st hg;subst hP hw hK;obtain⟨⟨old,he⟩,hit⟩:=st;obtain⟨xs,hq,hx⟩:=hg;obtain⟨eh,rv,p,hz⟩:=I.list hq;obtain⟨f0,f1,f2,f3,f4,f5⟩:=hf it ?E;have hl:=rv.length;exact wpAny_pyNext_enum_end (I.ok.hd hc) he hit p.isList (by simp;lia) λh' eb=> ⟨rfl,I.turned (t' :=_) (λb o hb e=>eb b o hb e) f0 f1 f3 f4 f5⟩
 self:=λ_ _ _ _ _ st h=>let⟨old,he⟩:=st.1;GcA he h
def oz{A:Xx}{z:Xr}(hh:A.handled=J)(hit:z.heap.IsTupleIter it t i)(ht:z.heap.IsTuple t eh)
  (hQ:∀x h',eh[i]? =U x->h'.IsTupleIter it t (i+1)->Heap.SameBut it z.heap h' ->Q x {z with heap:=h' })
  (hE:∀h' e,eh[i]? =J->Heap.ExtBut it z.heap h' ->(∃o,h'.get? e=U o/\o.cls= .type "StopIteration")->E (.ref e) {z with heap:=h' }):wpAny (model prog w) A (Builtin.SmallTypes.nextOf (.ref it)) Q E z:=by
 have f:FO z.heap it _ _:=hit;obtain⟨ol,Wk,_,nl,hdl⟩:=ht
 wp_walk using GbD f.ty F.slot_tuple_iterator_next,Gcl F.slot_tuple_iterator_next f.ty F.entry_tuple_iterator_next (ha:=F.args_tuple_iterator_next_1 _),gX (i:=0) (x:= .ref t) f rfl,gX (i:=1) (x:= .int i 0) f rfl,GbQ Wk hdl
 rw[show eh[(i:Int).toNat]? =eh[i]? by simp];cases h:eh[i]? with
 |some x=>
  wp_walk using Df f
  .exactλh' k=>Gal ⟨_,rfl,Gal (hQ x h' h k.1 k.2)⟩
  .show _<2;decide
 |none=>
  wp_walk using Df f
  .exactλh1 k=>Pc hh λh' a q=>hE h' a h (λb o n e=>q.1 b o (k.2.extBut b o n e)) q.2
  .show _<2;decide
theorem qe{A:Xx}(hh:A.handled=J)(it l:Xo)(xS:l≠it)(eh:Array Xq):Draws prog w A it [it,l] eh.size (λi v=>eh[i]? =U v) (λi h=>h.IsTupleIter it l i/\h.IsTuple l eh) where
 live:=λ_ _ st=>let⟨o,ho,_⟩:=st.1;⟨o,ho⟩
 frame:=λ_ _ _ st hk=> ⟨st.1.at λo e=>hk it ?E o e,let⟨o,ho,r⟩:=st.2;⟨o,hk l ?E _ ho,r⟩⟩
 item:=λi z Q E hi st hQ=>oz hh st.1 st.2 (λx h' hx yn zc =>hQ x h' _ hx ⟨yn,let⟨o,ho,r⟩:=st.2;⟨o,zc.extBut _ _ xS ho,r⟩⟩ zc) λ_ _ q=>absurd hi ?H
 done:=λz Q E st hE=>oz hh st.1 st.2 (λ_ _ q=>absurd (Gbr.mp q).1 (GaY _)) λh' e _=>hE h' e
def Pf(K:ag)(l:Xo):It:=
 ⟨λi H=>∃xs x,SqT K H l xs/\xs[i]? =U x,λi H x H' =>∃p y,H p=J/\x= .ref p/\H' =upd H p (.tup [.int i,y])/\∀xs,SqT K H l xs->xs[i]? =U y,λi H=>∃xs,SqT K H l xs/\xs.length<=i⟩
theorem v7{K:ag}(en it l:Xo)(xS:en≠it)(hle:l≠en)(Wq:l≠it):Turn P w K (.Tuple elts x1 tp) (Pf K l) [en,it] en (λi h=>(∃old,IsEnum h en it i old)/\h.IsTupleIter it l i) where
 mem:=by simp
 obj:=λi h st b hb=>by
  obtain⟨⟨old,he⟩,o,e,c,d⟩:=st;rcases Gae.mp hb with z|z
  .subst z;exact⟨_,he,λv z=>by
    cases z⟩
  .have z' :b=it:=by simpa using z
   subst z';exact⟨o,e,λv z=>by rw[d] at z;cases z⟩
 keep:=λi h h' st k=> ⟨let⟨old,he⟩:=st.1;⟨old,k en ?E _ he⟩,st.2.at λo e=>k it ?E o e⟩
 item:=by
  intro X hP hw hK hc i ef s Z H E I hf st hg;subst hP hw hK;obtain⟨⟨old,he⟩,hit⟩:=st;obtain⟨xs,x,hq,hx⟩:=hg;obtain⟨eh,rv,p,hz⟩:=I.tuple hq;obtain⟨u,hu,ru⟩:=rv.get hx;have hi:i<eh.toArray.size:=by
   have:=(Gac.mp hu).1
   simpa using this
  refine wpAny_pyNext_enum_itemD (qe (A:=X.A.in1) (I.ok.hd hc) it l Wq eh.toArray) he ⟨hit,p⟩ hi xS (by simp[xS,GaG hle]) λu' h' tk Vw ho yn hT ya kk=> ⟨_,rfl, ?_⟩;have eu:u' =u:=by
   have UQ:eh.toArray[i]? =U u:=by simpa using hu
   rw[UQ] at Vw;cases Vw
   rfl
  subst eu;refine wpAny_letOwnedTupleGo_enum (s:={s with heap:=h',toks:=tk+1}) ho λh2 V6 sb=> ?_;have kept:∀b o,b∉[en,it]->s.heap.get? b=U o->h2.get? b=U o:=λb o hb e=>by
   have b1:b≠en:=λz=>hb (by simp[z]);exact(sb.2 b b1).trans (kk b o b1 (λz=>hb (by simp[z])) e)
  have zF:h2.get? s.heap.objs.size=U {cls:= .type "tuple",data:= .seq #[.int i tk,u']}:=(sb.2 _ (Gbd (Gak he))).trans hT;have I1:Inv X ef Z (upd H s.heap.objs.size (.tup [.int i,x])) {s with heap:=h2,toks:=tk+1}:=I.oy (ch:=[en,it]) hf rfl rfl kept (Gap _) (by
   refine⟨by simp[Gco],[.int i tk,u'],.cons ⟨_,rfl⟩ (.cons ru .nil),_,zF,rfl,0,rfl⟩)
  refine⟨.ref s.heap.objs.size,_,I1,rfl,⟨_,x,I.fresh,rfl,rfl,λys hy=>by rw[I.mf hy hq];exact hx⟩,⟨⟨u',by simpa using V6⟩,yn.1.at λo e=>(sb.2 it (GaG xS)).trans e⟩,λb hb=> ?_⟩;obtain⟨o,ob,_⟩:∃o,s.heap.get? b=U o/\True:=by
   rcases Gae.mp hb with z|z
   .subst z;exact⟨_,he,trivial⟩
   .have z' :b=it:=by simpa using z
    subst z';obtain⟨o,e,_⟩:=hit;exact⟨o,e,trivial⟩
  rw[aq (Gas (Gak ob))];exact(hf b hb).1
 done:=by
  intro X hP hw hK hc i ef s Z H E I hf st hg;subst hP hw hK;obtain⟨⟨old,he⟩,hit⟩:=st;obtain⟨xs,hq,hx⟩:=hg;obtain⟨eh,rv,p,hz⟩:=I.tuple hq;obtain⟨f0,f1,f2,f3,f4,f5⟩:=hf it ?E;have hl:=rv.length;have fe:FO s.heap en "enumerate" _:=⟨_,he,rfl,rfl⟩
  have pt:s.heap.IsTuple l eh.toArray:=p
  wp_walk using GbD fe.ty F.slot_enumerate_next,Gcl F.slot_enumerate_next fe.ty F.entry_enumerate_next (ha:=F.args_enumerate_next_1 _),gX (i:=2) (x:= .ref it) fe rfl,oz (A:=X.A.in1) (I.ok.hd hc) hit pt
  .exactλx h' q=>absurd (Gbr.mp q).1 (by simp;lia)
  .exactλh' e _ eb q=>Gab (wC q (Gal ⟨rfl,I.turned (t' :=s.toks) (λb o hb e=>eb b o hb e) f0 f1 f3 f4 f5⟩))
 self:=λ_ _ _ _ _ st h=>let⟨old,he⟩:=st.1;GcA he h
def Dh{b:Bool}{Q:Bool->Xr->Prop}(h:∀b,Q b z):wpAny (model prog w) A (pure b) Q E z:=Gal (h b)
def tL(l:Xo)(items:Array Xq):
  Meets (Builtin.«enumerate.__new__» ⟨[.type "enumerate",.ref l],[]⟩) (λ_ R s=>s.heap.IsTuple l items/\
   R (.ok (.ret (.ref (s.heap.objs.size+1)))) {s with heap:=(s.heap.push {cls:= .type "tuple_iterator",data:= .fields #[.ref l,.int 0 0]}).push {cls:= .type "enumerate",data:= .fields #[.none,.bool M,.ref s.heap.objs.size,rawInt 0,.none,.none]}}):=by
 apply Meets.of_wp;rintro prog w A R s ⟨hl,h⟩;have sub:=sub_enumerate
 wp_walk using GbZ hl,wpAny_stack_any
 intro st;refine Dh λshort=> ?_;have sz:(s.heap.push {cls:= .type "tuple_iterator",data:= .fields #[.ref l,.int 0 0]}).objs.size=s.heap.objs.size+1:=Gbj ..;rw[<-sz] at h;cases short<;>wp_walk using GbZ hl<;>exact⟨_,rfl,h⟩
def v8{z:Xr}(hL:z.heap.IsTuple l items)
  (h:∀h',IsEnum h' (z.heap.objs.size+1) z.heap.objs.size 0 .none->h'.IsTupleIter z.heap.objs.size l 0->(∀b o,z.heap.get? b=U o->h'.get? b=U o)->Q (.ref (z.heap.objs.size+1)) {z with heap:=h' }):
  wpAny (model prog w) A (call (.type "enumerate") [.ref l]) Q E z:=by
 have sz:(z.heap.push {cls:= .type "tuple_iterator",data:= .fields #[.ref l,.int 0 0]}).objs.size=_+1:=Gbj ..;have en:IsEnum _ _ z.heap.objs.size 0 .none:=sz▸Gat _ rfl;exact callType_new F.called_enumerate rfl (F.typeCall_enumerate_1 _) (F.newCall_enumerate_1 _) (λ_=>F.args_object_init_2 _ _) F.entry_enumerate_new (tL l items) ⟨hL,⟨_,en,rfl⟩,h _ en ⟨_,Gaf _ (Gat _ rfl),rfl,rfl⟩ λb o q=>Gaf _ (Gaf _ q)⟩
def Pg(K:ag)(tl:TA):TI:=λZ H R=>tl Z H λvs H1=>∃l,vs=[.ref l]/\(((∃xs,SqL K H1 l xs)/\R (Ite K l) H1)\/((∃xs,SqT K H1 l xs)/\R (Pf K l) H1))
def wF(hg:Gl X "enumerate")(hm:X.mg "enumerate"=J)(ha:PA X [a] ta)(hs:autoParam (starEach [a] X.env=[(M,eval a X.env)]) Za1._auto_1):PI X (.Tuple elts x1 tp) (.Call (.Name "enumerate" p) [a] [] pos) (Pg X.K ta):=by
 intro ef s Z H R I h;refine Call_ (kq I hg hm r8 (Gbp (thn (ha pos ef s Z H _ I h) λus s1 q0=> ?_) hs rfl));obtain⟨vs,H1,I1,r1,q1⟩:=q0;obtain⟨l,rfl,q1⟩:=q1;cases r1 with
 |cons r rr=>
  cases rr;cases r;have zZ:∀b∈[s1.heap.objs.size+1,s1.heap.objs.size],je X ef H1 b:=λb hb=>by
   rcases Gae.mp hb with z|z
   .subst z;exact I1.uG (Gbi _) (I1.hok.fresh (Gbi _))
   .have z' :b=s1.heap.objs.size:=by simpa using z
    subst z';exact I1.uG (Gap _) (I1.hok.fresh (Gap _))
  rcases q1 with⟨⟨xs,hq⟩,q⟩| ⟨⟨xs,hq⟩,q⟩
  .obtain⟨eh,rv,pl,hz⟩:=I1.list hq;exact call_enumerate_list pl.isList λh' he hit ya kk=>GcA he (⟨_+1,[s1.heap.objs.size+1,s1.heap.objs.size],_,_,H1,rfl,I1.kept kk,Be _ _ l (Nat.succ_ne_self _),⟨⟨.none,he⟩,hit⟩,zZ,q⟩)
  .obtain⟨eh,rv,pl,hz⟩:=I1.tuple hq;have xa:=pl.lt;exact v8 (show s1.heap.IsTuple l _ from pl) λh' he hit kk=>GcA he (⟨_+1,[s1.heap.objs.size+1,s1.heap.objs.size],_,_,H1,rfl,I1.kept kk,v7 _ _ l (Nat.succ_ne_self _) (Gas (GbL xa)) (Gas xa),⟨⟨.none,he⟩,hit⟩,zZ,q⟩)
def Hu(hg:Gl X "enumerate")(hm:X.mg "enumerate"=J)(he:PEd X e f)(hs:autoParam (starEach [e] X.env=[(M,eval e X.env)]) Za1._auto_1):PId X (.Tuple elts x1 tp) (.Call (.Name "enumerate" p) [e] [] pos) (Dg f):=by
 refine(wF hg hm (dk he gP hs) hs).aA (λZ H R q0=>bP q0 λH0 eg env ds E hf k=>a9 hf λ⟨kd,d⟩ hr hf=> ?_);split at hf
 .cases hf
 rename_i hk;split at hf
 .rename_i xs hd;have xp :d= .lst xs:=hd;subst xp;cases hf;refine⟨H0,eg,env,[⟨kd,.lst xs⟩],E,by unfold ak aM;rw[hr];rfl,λvs H1 s1 Rs=> ?_⟩;cases Rs with
  |cons Rv tl=>
   cases tl;have hno:=qX E rfl hk Rv;have E1:=E.mono s1;cases Rv.inn with
   | @lst la lv _ h r=>
    refine⟨_,rfl,.inl ⟨⟨_,.inl h⟩,k _ H1 s1 λHi keep=> ?_⟩⟩;have hh:Rd Hi la (.lst lv):=by
     rcases h with h| ⟨o,h⟩
     .exact .inl (keep _ _ h (hno _ rfl))
     .exact .inr ⟨o,keep _ _ h (hno _ rfl)⟩
    refine⟨λi d hd=> ?_,⟨_,.inl hh,by rw[mC,r.1];exact Gap _⟩⟩;rw[mD] at hd;obtain⟨y,hy,rfl⟩:=Gaa.mp hd;obtain⟨v,h1,h2⟩:=r.get hy;refine⟨⟨_,v,.inl hh,h1⟩,λz H2 q0=> ?_⟩;obtain⟨p,w,hp,ez,eH,ew⟩:=q0;subst ez eH;have:=ew _ (.inl hh);rw[h1] at this;cases this;refine⟨bh hp, ?_⟩;rw[show(((0+i:Nat)))=(i) by simp];exact dX hp (.cons (.int _) (.cons (E1.gL keep h2) .nil))
 .rename_i xs hd;have xp :d= .tup xs:=hd;subst xp;cases hf;refine⟨H0,eg,env,[⟨kd,.tup xs⟩],E,by unfold ak aM;rw[hr];rfl,λvs H1 s1 Rs=> ?_⟩;cases Rs with
  |cons Rv tl=>
   cases tl;have ii:=Rv.inn;have E1:=E.mono s1;cases ii with
   | @tup la lv _ h r=>
    refine⟨_,rfl,.inr ⟨⟨_,SqT.of h⟩,k _ H1 s1 λHi keep=> ?_⟩⟩;have hh:Hi la=U _:=keep _ _ h λw=>E1.fL w h trivial;refine⟨λi d hd=> ?_,⟨_,SqT.of hh,by rw[mC,r.1];exact Gap _⟩⟩;rw[mD] at hd;obtain⟨y,hy,rfl⟩:=Gaa.mp hd;obtain⟨v,h1,h2⟩:=r.get hy;refine⟨⟨_,v,SqT.of hh,h1⟩,λz H2 q0=> ?_⟩;obtain⟨p,w,hp,ez,eH,ew⟩:=q0;subst ez eH;have:=ew _ (SqT.of hh);rw[h1] at this;cases this;refine⟨bh hp, ?_⟩;rw[show(((0+i:Nat)))=(i) by simp];exact dX hp (.cons (.int _) (.cons (E1.gL keep h2) .nil))
 .cases hf
end
section
def rb(K:ag)(neg:Bool):R2:=λx y H Q=>∃p xs dx ds,y= .ref p/\(SqL K H p xs\/SqT K H p xs)/\aY 10 dx=O/\ds.all (aY 10)=O/\Rep K (λ_=>True) H dx x/\aP K (λ_=>True) H ds xs/\Q (.bl (if neg then !ds.any (λy=>eqD y dx) else ds.any (λy=>eqD y dx))) H
variable{X:Cx}
def lJ{Z:L2.St}{eh:List Xq}{ds:List D}(I:Inv X ef Z H z)(hu:X.A.units+20<cLine)(r:Xh xs eh)(hx:aY 10 dx=O)(hs:ds.all (aY 10)=O)
  (rx:Rep X.K (λ_=>True) H dx x)(rs:aP X.K (λ_=>True) H ds xs)(rv:Xg x v):∃ev,(∀w∈eh,SeqAt.EqAt X.A.in1 z w v (ev w))/\eh.any ev=ds.any λy=>eqD y dx:=by
 classical
 have hll:=r.length;have tri:∀(i) (w),eh[i]? =U w->∃d u,ds[i]? =U d/\xs[i]? =U u/\Xg u w/\Rep _ _ H d u/\aY 10 d=O:=λi w hw=>by
  have hi:i<_:=(Gac.mp hw).1;have hd:ds[i]? =U (ds[i]'(by rw[rs.1,hll];exact hi)):=Gag _;obtain⟨u,hu1,UQ⟩:=rs.get hd;obtain⟨w',yE,UN⟩:=r.get hu1;rw[hw] at yE;cases yE;exact⟨_,u,hd,hu1,UN,UQ,Gan.mp hs _ (GaC hd)⟩
 refine⟨λw=>decide (∃(i:Nat) (d:D),eh[i]? =U w/\ds[i]? =U d/\eqD d dx=O),λw hw=> ?_, ?_⟩
 .obtain⟨i,hi⟩:=GaV hw;obtain⟨d,u,h1,h2,h3,h4,h5⟩:=tri i w hi;have key:decide (∃(i:Nat) (d:D),eh[i]? =U w/\ds[i]? =U d/\eqD d dx=O)=eqD d dx:=by
   cases q:eqD d dx with
   |true=>exact GbE ⟨i,d,hi,h1,q⟩
   |false=>
    refine Gbo ?_;rintro⟨j,d',g1,g2,g3⟩;obtain⟨d2,u2,k1,k2,k3,k4,k5⟩:=tri j w g1;rw[g2] at k1;cases k1;have eu:=Xg.inj h3 k3;subst eu;rw[qZ 10 h5 k5 h4 k4] at q;rw[q] at g3;cases g3
  show SeqAt.EqAt _ z w v (decide _);rw[key];exact oo I 10 h5 hx h4 rx h3 rv ?B
 .rw[Gca,GcI,GcI];constructor
  .rintro⟨w,hw,e⟩;obtain⟨i,d,_,h2,h3⟩:=Gar e;exact⟨d,GaC h2,h3⟩
  .rintro⟨d,hd,e⟩;obtain⟨i,hi⟩:=GaV hd;have hl:i<eh.length:=by rw[<-hll,<-rs.1];exact(Gac.mp hi).1
   exact⟨eh[i],GaN hl,GbE ⟨i,d,Gag hl,hi,e⟩⟩
def Ly(hu:X.A.units+20<cLine):OpR X (compareOp .In) (rb X.K M):=by
 intro ef z Z H x y v u Q I rx ry h;obtain⟨p,xs,dx,ds,rfl,hq,fx,fs,r1,r2,q⟩:=h;cases ry;rcases hq with hq|hq
 .obtain⟨eh,r,pl,hz⟩:=I.list hq;obtain⟨ev,e1,e2⟩:=lJ I hu r fx fs r1 r2 rx;refine SeqAt.in_listAt ev pl.isList (λw hw=>e1 w ?H) ⟨.bl _,H,I,rfl, ?_⟩;simp_all
 .obtain⟨eh,r,pl,hz⟩:=I.tuple hq;obtain⟨ev,e1,e2⟩:=lJ I hu r fx fs r1 r2 rx;refine SeqAt.in_tupleAt ev pl (λw hw=>e1 w ?H) ⟨.bl _,H,I,rfl, ?_⟩;simp_all
def Hw(hu:X.A.units+20<cLine):OpR X (compareOp .NotIn) (rb X.K O):=by
 intro ef z Z H x y v u Q I rx ry h;obtain⟨p,xs,dx,ds,rfl,hq,fx,fs,r1,r2,q⟩:=h;cases ry;rcases hq with hq|hq
 .obtain⟨eh,r,pl,hz⟩:=I.list hq;obtain⟨ev,e1,e2⟩:=lJ I hu r fx fs r1 r2 rx;refine SeqAt.notIn_listAt ev pl.isList (λw hw=>e1 w ?H) ⟨.bl _,H,I,rfl, ?_⟩;simp_all
 .obtain⟨eh,r,pl,hz⟩:=I.tuple hq;obtain⟨ev,e1,e2⟩:=lJ I hu r fx fs r1 r2 rx;refine SeqAt.notIn_tupleAt ev pl (λw hw=>e1 w ?H) ⟨.bl _,H,I,rfl, ?_⟩;simp_all
def Lz(hu:X.A.units+20<cLine):OpR X (compareOp .In) (rb X.K M):=Ly hu
def Hx(hu:X.A.units+20<cLine):OpR X (compareOp .NotIn) (rb X.K O):=Hw hu
def Hy(ix:Inn X.K F H dx x)(iy:Inn X.K F H dy y)(e:inB dx dy=U b)(q:Q (.bl (if neg then !b else b)) H):rb X.K neg x y H Q:=by
 have seq:∀{ds:List D} {p:Xo} {vs:List V},y= .ref p->(SqL _ H p vs\/SqT _ H p vs)->aP _ F H ds vs->tJ dx ds=U b->rb X.K neg x y H Q:=λ{ds p vs} ey hs r hb=>by
  unfold tJ at hb;split at hb
  .rename_i c;rw[Gai] at c;cases hb;exact⟨p,vs,dx,ds,ey,hs,c.1,c.2,ix.any,⟨r.1,λi d v e1 e2=>(r.2 i d v e1 e2).inn.any⟩,q⟩
  .cases hb
 unfold inB at e;split at e
 .cases iy with
  |lst h r=>exact seq rfl (.inl (.inl h)) r e
 .cases iy with
  |tup h r=>exact seq rfl (.inr (SqT.of h)) r e
 .cases e
end
namespace Fr
end Fr
def Bf:CallD X pD (λxs H Q=>(∃i,xs=[.int i]/\Q (.int i) H)\/∃k,xs=[.bl k]/\Q (.int (if k then 1 else 0)) H):=by
 intro F H ds vs rv Q ps e k;unfold pD at e;split at e
 .cases e;obtain⟨v,rfl,i⟩:=cH ps;cases i;exact .inl ⟨_,rfl,k _ H bw (.int _)⟩
 .cases e;obtain⟨v,rfl,i⟩:=cH ps;cases i;exact .inr ⟨_,rfl,k _ H bw (.int _)⟩
 .cases e
def Di(r:Xh xs eh)(hx:Xg x u)(j:Int):Xh (fH xs j x) (PySem.W.kl_ins eh j u):=by
 unfold fH PySem.W.kl_ins;rw[r.length];have tk:∀{xs:List V} {eh:List Xq} (r:Xh xs eh) (n),Xh (xs.take n) (eh.take n):=by
  intro xs eh r;induction r with
  |nil=>intro n;simp;exact .nil
  |cons h t ih=>intro n;cases n with
   |zero=>exact .nil
   |succ n=>exact .cons h (ih n)
 have dr:∀{xs:List V} {eh:List Xq} (r:Xh xs eh) (n),Xh (xs.drop n) (eh.drop n):=by
  intro xs eh r;induction r with
  |nil=>intro n;simp;exact .nil
  |cons h t ih=>intro n;cases n with
   |zero=>exact .cons h t
   |succ n=>exact ih n
 exact(tk r _).append (.cons hx (dr r _))
def Hz:V->List V->Hp->VK->Prop:=λx vs H Q=>∃l xs j y,x= .ref l/\vs=[.int j,y]/\H l=U (.lst xs)/\xs.length<sizeLine/\-(2^62)<=j/\j<2^62/\Q .non (upd H l (.lst (fH xs j y)))
def Bg:MtM X "list.insert" Hz:=by
 intro ef z Z H x vs v us Q I rx rv h;obtain⟨l,xs,j,y,rfl,rfl,hH,hz,h1,h2,q⟩:=h;cases rx;cases rv with
 |cons r1 t1=>
  cases t1 with
  |cons r2 t2=>
   cases t2;obtain⟨t,rfl⟩:=r1;rename_i u;obtain⟨_,eh,n,r,hl,e⟩:=I.Oq hH;have hfit:Builtin.List.listFitsIndex j=O:=by simp[Builtin.List.listFitsIndex];lia
   refine GcQ F.slot_list_insert ⟨_,e,rfl⟩ F.entry_list_insert (F.args_list_insert_3 _ _ _) (PySem.AutoSeq1.list_insert_list_int_val_1 l _ n j t u ?B ?H) ⟨e,(⟨.non,_,I.Om (its' :=PySem.W.kl_ins eh j u) hH e ?_ (Di r r2 j) ?_,rfl,q⟩)⟩
   .rw[PySem.W.kl_ins_eq]
    rfl
   .rw[Bc];lia
def Bh{X:Cx}{pos apos eJ:Pos}(hN:X.N[i]? =U x)(hv:Vis X.env.scope x)(he:PEd X e f)(ha:PEd X a g)(hd:autoParam ((x==("__debug__":Str))=M) Za2._auto_1)(xf:autoParam ((x==("__classdict__":Str))=M) Za2._auto_1)
  (eZ:autoParam (starEach [e,a] X.env=(M,eval e X.env)::starEach [a] X.env) Za1._auto_1)(hV:autoParam (starEach [a] X.env=[(M,eval a X.env)]) Za1._auto_1)
  (xh:autoParam (attributeBase (.Name x px) "insert" X.env (eval (.Name x px) X.env)=eval (.Name x px) X.env) Za1._auto_1)
  (yp:((backTo eJ (starEach [e,a] X.env)).all (λx=> !x.1)&&(backToKw eJ (keywordEach [] X.env)).all (λx=>x.1.isSome)
   &&decide (([e,a]:List Xp).length+([]:List Keyword).length+(if([]:List Keyword).isEmpty then 0 else 1)<30))=O:=by rfl)
  (eU:autoParam ((apos.endLine==eJ.line)=O) Za1._auto_1)(hs:autoParam (swapsWith (.Call (.Attribute (.Name x px) "insert" apos) [e,a] [] eJ) J pos.line X.env=pure M) Za1._auto_1):
  PSd X (.Expr (.Call (.Attribute (.Name x px) "insert" apos) [e,a] [] eJ) pos) (r9 i f g):=by
 refine(qI (sx Gcx PySem.F.slot_list_insert PySem.F.type_list_insert Bg (fi hN hv hd xf) (dk he (dk ha gP hV) eZ) xh yp eU eZ (by rw[hV];rfl)) hs).aA (λD Z H q0=>bP q0 λH0 eg env o E e k=>a9 e λr hr e=>a9 e λr2 xA e=>a9 e λd hd e=> ?_);have q:=ly hd;obtain⟨kd,rd⟩:=r;split at e
 .rename_i xs j hj;split at e
  .rename_i z;rw[Gai,Gai] at z;obtain⟨z1,z2,z3⟩:=z;cases e;subst hj;obtain⟨a,h1,h2,h3,h4,h5,h6⟩:=E.ow i _ (.inl q);obtain⟨vs,hH,rp⟩:=nO h4 h6;refine⟨_,h1,.inl ⟨rfl,vs,.inl (.inl hH)⟩,H0,eg,env,[⟨kd,.int j⟩,r2],E,by unfold ak aM;rw[hr,xA];rfl,λws H2 s2 Rs=> ?_⟩;cases Rs with
   | @cons _ v _ _ R1 tl=>
    cases tl with
    | @cons _ v2 _ _ R2 tl=>
    cases tl;cases R1.inn;have yB:=s2 _ _ hH;have sj:=dY z3;refine⟨a,vs,j,v2,rfl,rfl,yB,by rw[<-rp.1];exact Gar z2,sj.1,sj.2, ?_⟩;have rp1:=rp.gen (.Xl s2) λ_ f _=>f;have rp2:aP X.K (Cln eg env Z) H2 (fH xs j r2.d) (fH vs j v2):=by
     unfold fH;rw[<-rp1.1];exact(rp1.take _).append (.cons (R2.rep E z1) (rp1.drop _))
    obtain⟨E3,p3⟩:=(E.mono s2).change (o:= .lst _) q h1 trivial rfl (.lst (.inl aB) (rp2.gen (λb o hb w=>by
     have:b≠a:=by
      rintro rfl;rcases w with w|w
      .exact w.2 i (by rw[q];trivial) h1
      .rw[yB] at hb;cases hb;exact w
     rw[aq this];exact hb) λ_ f _=>f))
    exact k Z _ E3 ((Stp.Xl s2).trans p3)
  .cases e
 .cases e
open PySem.W (KatLex KatTups kas_sort kas_ask kat_kind kat_lt kat_one kat_run kat_snds BoolBack kat_lt_int)
noncomputable def Itx(x:Str):It:=⟨λi _=>i<x.length,λi H v H' =>H' =H/\∃c,x.cps[i]? =U c/\v= .str ⟨#[c]⟩,λi _=>x.length<=i⟩
theorem Dj{K:ag}(it:Xo)(x:Str)(t:Tok)(ty:String)(yv:ty="str_ascii_iterator"\/ty="str_iterator"):Turn P w K tg (Itx x) [it] it (λi h=>h.IsStrIter it ty x t i) where
 mem:=by simp
 obj:=λi h st b hb=>by
  have e:b=it:=by simpa using hb
  subst e;obtain⟨o,e,c,d⟩:=st;exact⟨o,e,λv z=>by rw[d] at z;cases z⟩
 keep:=λi h h' st k=>by
  obtain⟨o,e,r⟩:=st;exact⟨o,k it ?E o e,r⟩
 item:=by
  intro X hP hw hK hc i ef z Z H E I hf st hg;obtain⟨f0,f1,f2,f3,f4,f5⟩:=hf it ?E;have hx:x.cps[i]? =U x.cps[i]:=Array.getElem?_eq_getElem hg;rcases yv with rfl|rfl
  .refine wpAny_pyNext_ascii_item st hx λh' xH sb=> ?_;have I1:Inv X ef Z H {z with heap:=h',toks:=_+1}:=I.turned (t' :=z.toks+1) (λb o hb e=>(sb.2 b hb).trans e) f0 f1 f3 f4 f5;obtain⟨o,e,c,d⟩:=id xH;exact⟨_,rfl,su (s:={z with heap:=h',toks:=_+1}) e c d rfl ⟨.str _,H,I1,⟨_,rfl⟩,⟨rfl,_,hx,rfl⟩,xH,λb hb=>(hf b hb).1⟩⟩
  .refine wpAny_pyNext_wide_item st hx λh' xH sb=> ?_;have I1:Inv X ef Z H {z with heap:=h',toks:=_+1}:=I.turned (t' :=z.toks+1) (λb o hb e=>(sb.2 b hb).trans e) f0 f1 f3 f4 f5;obtain⟨o,e,c,d⟩:=id xH;exact⟨_,rfl,su (s:={z with heap:=h',toks:=_+1}) e c d rfl ⟨.str _,H,I1,⟨_,rfl⟩,⟨rfl,_,hx,rfl⟩,xH,λb hb=>(hf b hb).1⟩⟩
 done:=by
  intro X hP hw hK hc i ef z Z H E I hf st hg;obtain⟨f0,f1,f2,f3,f4,f5⟩:=hf it ?E;have hx:x.cps[i]? =J:=Array.getElem?_eq_none hg;rcases yv with rfl|rfl
  .exact wpAny_pyNext_ascii_end (I.ok.hd hc) st hx λh' eb=> ⟨rfl,I.turned (t' :=_) (λb o hb e=>eb b o hb e) f0 f1 f3 f4 f5⟩
  .exact wpAny_pyNext_wide_end (I.ok.hd hc) st hx λh' eb=> ⟨rfl,I.turned (t' :=_) (λb o hb e=>eb b o hb e) f0 f1 f3 f4 f5⟩
 self:=λ_ _ _ _ _ st h=>by
  rcases yv with rfl|rfl
  .exact wpAny_pyIter_striter_ascii st h
  .exact wpAny_pyIter_striter_wide st h
def RQ(tl:TE):TI:=λZ H R=>tl Z H λv H1=>∃x,v= .str x/\R (Itx x) H1
def LA(hl:PE X l tl):PI X tg l (RQ tl):=by
 intro ef z Z H R I h;refine thn (hl ef z Z H _ I h) λv s1 q0=> ?_;obtain⟨y,H1,I1,r1,q1⟩:=q0;obtain⟨x,rfl,q⟩:=q1;obtain⟨t,rfl⟩:=r1;have fin:∀ty,(ty="str_ascii_iterator"\/ty="str_iterator")->PIE X ef Z tg R (.ref s1.heap.objs.size) {s1 with heap:=s1.heap.push {cls:= .type ty,data:= .fields #[.str x t,.int 0 0]}}:=by
  intro ty yv;refine⟨_,[s1.heap.objs.size],_,_,H1,rfl,I1.kept λb o e=>Gaf _ e,Dj _ x t ty yv,⟨_,Gat _ rfl,rfl,rfl⟩,λb hb=> ?_,q⟩;have e:b=s1.heap.objs.size:=by simpa using hb
  subst e;exact I1.uG (Gap _) (I1.hok.fresh (Gap _))
 cases ha:x.cps.all _ with
 |true=>exact wpAny_pyIter_ascii ha (fin _ (.inl rfl))
 |false=>exact wpAny_pyIter_wide ha (fin _ (.inr rfl))
def LB(he:PEd X e f):PId X tg e (Lx f):=by
 refine(LA he).aA (λZ H R q0=>bP q0 λH0 eg env ds E hf k=>a9 hf λ⟨kd,d⟩ hr hf=> ?_);split at hf
 .rename_i x hd;subst hd;cases hf;refine⟨H0,eg,env,_,E,hr,λv H1 s1 Rv=> ?_⟩;have ii:=Rv.inn;cases ii;refine⟨x,rfl,k _ H1 s1 λHi keep=> ⟨λi d hd=> ?_, ?_⟩⟩
  .unfold kH at hd;rw[Gam] at hd;obtain⟨c,hc,rfl⟩:=Gaa.mp hd;have yU :x.cps[i]? =U c:=by simpa using hc
   have hi:i<x.cps.size:=by
    rcases Nat.lt_or_ge i _ with h|h
    .exact h
    .simp_all
   refine⟨hi,λy H2 ⟨e2,c2,h2,e3⟩=> ?_⟩;subst e2;rw[yU] at h2;cases h2;subst e3;exact⟨bw,.str _⟩
  .show _<=(kH x).length;simp[kH,Str.length]
 .cases hf
def LC:OpR X (compareOp .In) (λx y H Q=>∃c b,x= .str ⟨#[c]⟩/\y= .str b/\Q (.bl (decide (c∈b.cps.toList))) H):=by
 intro ef z Z H x y v u Q I rx ry h;obtain⟨c,b,rfl,rfl,q⟩:=h;obtain⟨t,rfl⟩:=rx;obtain⟨t2,rfl⟩:=ry;refine PySem.P.in_str ?_;rw[StrLaws.found_one];exact⟨.bl _,H,I,rfl,q⟩
def HA:OpR X (compareOp .NotIn) (λx y H Q=>∃c b,x= .str ⟨#[c]⟩/\y= .str b/\Q (.bl (!decide (c∈b.cps.toList))) H):=by
 intro ef z Z H x y v u Q I rx ry h;obtain⟨c,b,rfl,rfl,q⟩:=h;obtain⟨t,rfl⟩:=rx;obtain⟨t2,rfl⟩:=ry;refine PySem.P.notIn_str ?_;rw[StrLaws.found_one];exact⟨.bl _,H,I,rfl,q⟩
def HB:OpB X kJ (λx y H Q=>∃c b,x= .str ⟨#[c]⟩/\y= .str b/\Q (.bl (decide (c∈b.cps.toList))) H):=by
 intro F H dx dy x y b Q ix iy e q;unfold kJ at e;split at e
 .obtain⟨c,hc,rfl⟩:=Gaa.mp e;have:=wD hc;subst this;cases ix;cases iy
  exact⟨c,_,rfl,rfl,q⟩
 .cases e
def Dk:OpB X ju (λx y H Q=>∃c b,x= .str ⟨#[c]⟩/\y= .str b/\Q (.bl (!decide (c∈b.cps.toList))) H):=by
 intro F H dx dy x y b Q ix iy e q;unfold ju at e;split at e
 .obtain⟨c,hc,rfl⟩:=Gaa.mp e;have:=wD hc;subst this;cases ix;cases iy
  exact⟨c,_,rfl,rfl,q⟩
 .cases e
theorem mG:∀{ts us},Xh (ts.map V.str) us->∃l,l.map (·.1)=ts/\us=strValues l
 |[],us,h=>by
  cases h;exact⟨[],rfl,rfl⟩
 |x::ts,us,h=>by
  cases h with
  |cons r t=>
   obtain⟨k,rfl⟩:=r;obtain⟨l,h1,h2⟩:=mG t;exact⟨(x,k)::l,by rw[GaI,h1],by rw[h2];rfl⟩
theorem lL{K:ag}:∀{ds ts vs},lF ds=U ts->aP K F H ds vs->vs=ts.map V.str
 |[],ts,vs,e,r=>by
  cases e;exact r.fm
 |d::ds,ts,vs,e,r=>by
  obtain⟨v,w,rfl,h1,h2⟩:=r.cons_inv;cases d<;>simp only[lF] at e<;>try cases e
  obtain⟨l,hl,rfl⟩:=Gaa.mp e;cases h1;rw[lL hl h2]
  rfl
def Bj:CallD X lG (λxs H Q=>∃i,xs=[.int i]/\i.natAbs.log2<1920/\Q (.str (toString i)) H):=by
 intro F H ds vs rv Q ps e k;unfold lG at e;split at e
 .rename_i i;split at e
  .rename_i hz;cases e;obtain⟨v,rfl,ii⟩:=cH ps;cases ii;refine⟨_,rfl, ?_,k _ H bw (.str _)⟩;by_cases h0:i.natAbs=0
   .rw[h0];decide
   .exact Gah ((Nat.log2_lt (k:=60) h0).mpr (Gah hz (by decide))) (by decide)
  .cases e
 .cases e
def pE:dJ X (.type "int") (λxs H Q=>∃x,xs=[.str x]/\x.length<=640/\x.cps.toList≠[]/\x.cps.toList.all gp=O/\Q (.int (uZ x.cps.toList)) H):=by
 intro ef z Z H xs us Q I r h;obtain⟨x,rfl,h1,h2,h3,q⟩:=h;obtain⟨u,rfl,t,rfl⟩:=vals1 r;have ad:=λc hc=>by
  have:=Gan.mp h3 c hc
  simpa[gp] using this
 exact PySem.W.KIN.call_text (intText_digits ad h2 (GaH h1 ?E)) h1 ⟨.int _,H,I.tok _,⟨_,rfl⟩,q⟩
def v9:CallD X lH (λxs H Q=>∃x,xs=[.str x]/\x.length<=640/\x.cps.toList≠[]/\x.cps.toList.all gp=O/\Q (.int (uZ x.cps.toList)) H):=by
 intro F H ds vs rv Q ps e k;unfold lH at e;split at e
 .split at e
  .rename_i x hz;rw[Gai,Gai] at hz;cases e;obtain⟨v,rfl,ii⟩:=cH ps;cases ii;exact⟨_,rfl,Gar hz.1,Gar hz.2.1,hz.2.2,k _ H bw (.int _)⟩
  .cases e
 .cases e
def Dl{X:Cx}(hg:Gl X x)(hm:X.mg x=U (.int i t))(hd:autoParam ((x==("__debug__":Str))=M) Za2._auto_1):PEd X (.Name x pos) (kE (.int i)):=
 (qG (v:= .int i) hg hm ⟨t,rfl⟩ hd).aA λZ H Q ⟨_,_,_,_,_,e,k⟩=>by cases e;exact k _ H bw (.int i)
def Dm{X:Cx}(hg:Gl X x)(hm:X.mg x=U (.str y t))(hd:autoParam ((x==("__debug__":Str))=M) Za2._auto_1):PEd X (.Name x pos) (kE (.str y)):=
 (qG (v:= .str y) hg hm ⟨t,rfl⟩ hd).aA λZ H Q ⟨_,_,_,_,_,e,k⟩=>by cases e;exact k _ H bw (.str y)
abbrev SM:=StateT SortSt Sem
section
variable{n:Nat}{B:Nat->Bool}
def Cut(B:Nat->Bool)(n k:Nat):Prop:=k<=n/\(∀u,u<k->B u=O)/\∀u,k<=u->u<n->B u=M
end
open PySem.W (kas_item)
open PySem.W (kas_item kas_swaps_map)
structure SS(Y:SortKind)(it:Array Keyed)(z:SortSt)(p:Array Nat):Prop where
 kind:kindOf z=Y
 arr:arrOf z=p.map (kas_item it)
 fail:failedOf z=J
 ok:∀i∈p.toList,i<it.size
def Ris(xs:Array Nat):Prop:=∀i j:Nat,i<j->∀x y,xs[i]? =U x->xs[j]? =U y->x<y
theorem qf{A:Xx}(Xd:Nat->Xr->Prop)
  (step:∀i s Q E,i<n->Xd i s->(∀v s',(∀Q' E',(∀b y,Xd (i+1) y->Q' b y)->wpAny (model prog w) A.in1 (setAdd S v) Q' E' s')->Q (U v) s')->wpAny (model prog w) A.in1 (pyNext (.ref I)) Q E s)
  (stop:∀s Q E,Xd n s->(∀s',R (.ok (.ret .none)) s' ->Q J s')->wpAny (model prog w) A.in1 (pyNext (.ref I)) Q E s):
  ∀k i s,i+k=n->Xd i s->codeAny (model prog w) A (.builtin "set.update.loop" ⟨[.ref S,.ref I],[]⟩) R s
 |0,i,s,hk,j=>by
  subst hk;apply GcS Gct;exact Gab (stop s _ _ j λs' r=>Gal r)
 |k+1,i,s,hk,j=>by
  apply GcS Gct;exact Gab (step i s _ _ ?B j λv s' add=>Gab (Gbz (add _ _ λb y q=>Gal ⟨plainId_quiet PyProof.Rows.F.plain_set_update_loop _,qf Xd step stop k _ y ?B q⟩)))
noncomputable def LD(w:Xv):Bool:=w.params.followText "set-order"
section
variable{w:Xv}
abbrev oA(w:Xv):Xw:={cls:= .type "set",dict:=J,data:= .set #[] 0 (.fresh 0 0 (!LD w))}
def after(h:codeAny (model prog w) A c (wants Q E) z)(k:∀v s',Q v s' ->R (.ok (.ret v)) s')(e:∀x s',E x s' ->R (.error x) s'):codeAny (model prog w) A c R z:=by
 refine Gcg h ?_;rintro(x|(v|_|_|_)) s' q
 .exact e x s' q
 all_goals first|exact k _ s' q|exact q.elim
def Dn{z:Xr}(a:Xq)(h:R (.ref z.heap.objs.size) {z with heap:=z.heap.push (oA w)}):codeAny (model prog w) A (.call (.builtin "set.__new__") ⟨[.type "set",a],[]⟩) (wants R E) z:=by
 have sub:=PySem.sub_set_self;apply codeAny_of_tree;refine Gab (wpAny_of_eq (PySem.F.newCall_set_1 a) (Gal ⟨(plainId_quiet PySem.F.plain_set_new _),GcS PySem.F.entry_set_new ?_⟩));rw[Around.under_plainId PySem.F.plain_set_new]
 wp_walk using wpAny_askSetting
 exact h
def LF{A:Xx}{z:Xr}(hl:z.heap.IsList l items)
  (h:∀h1,h1.get? z.heap.objs.size=U (oA w)->h1.IsListIter (z.heap.objs.size+1) l 0->(∀b o,z.heap.get? b=U o->h1.get? b=U o)->
   codeAny (model prog w) A.in1.in1 (.builtin "set.update.loop" ⟨[.ref z.heap.objs.size,.ref (z.heap.objs.size+1)],[]⟩) (wants (λ_ s' =>R (.ref z.heap.objs.size) s') E) {z with heap:=h1}):
  wpAny (model prog w) A (call (.type "set") [.ref l]) R E z:=by
 obtain⟨c,tl,mro⟩:=Gbh.mro;have made:=Gbh.made;have sub:=Gbh.sub;have nt:=Gbh.notType;have cc:=Gbh.canCreate;have ct:=PySem.F.typeCall_set_1 (.ref l);apply GbN;apply codeAny_of_tree;refine Gal ⟨Code.quiet_builtin _ (by decide+kernel), ?_⟩;apply GcS PySem.F.entry_type_call;rw[Around.under_plain (weight_type_call_type "set" [.ref l] []) rfl]
 wp_walk
 refine after (Dn (.ref l) (R:=λo y=>o= .ref z.heap.objs.size/\y={z with heap:=z.heap.push (oA w)}) ⟨rfl,rfl⟩) ?_ λ_ _ q=>q;rintro _ _ ⟨rfl,rfl⟩;have eS:(z.heap.push (oA w)).get? z.heap.objs.size=U (oA w):=Gat _ rfl;have tS:Shared.TypeIs {z with heap:=z.heap.push (oA w)} (.ref z.heap.objs.size) "set":=⟨_,eS,rfl⟩
 have lo:=Gbh.init.lookup;have bi:=Gbh.init.bind (.ref z.heap.objs.size)
 wp_walk
 refine after (Q:=λr s' =>r= .none/\R (.ref z.heap.objs.size) s') (E:=E) ?_ (λv s' q=> ?_) λ_ _ q=>q
 .apply GbO Gbh.init.plain PySem.F.entry_set_init;apply PySem.check_set_init_1 tS;obtain⟨⟨oc,od,dt,sl⟩,ho,hc,n,hd⟩:=hl;cases hc;cases hd
  have el:=Gaf (oA w) ho;have s1:=PySem.F.sub_list_set;have s2:=PySem.F.sub_list_frozenset;have nd:(Value.type "list"==Value.type "dict")=M:=rfl;have il:(z.heap.push (oA w)).IsList l items:=⟨_,el,rfl,n,rfl⟩
  clear mro made nt cc ct lo bi
  wp_walk using Gcz il
  have sz:(z.heap.push (oA w)).objs.size=z.heap.objs.size+1:=Gbj ..;rw[show Shared.heap {z with heap:=z.heap.push (oA w)}=z.heap.push (oA w) from rfl,sz];exact after (h _ (Gaf _ eS) ⟨_,sz▸Gat _ rfl,rfl,rfl⟩ λb o q=>Gaf _ (Gaf _ q)) (λv s' q=>Gal (Gal ⟨rfl,q⟩)) λ_ _ q=>q
 .obtain⟨rfl,q⟩:=q
  wp_walk
  exact q
end
namespace Fr
end Fr
section
variable{w:Xv}
inductive Way(w:Xv)(a:Xo)(es:Array (Int×Xq))(ep:Nat)(t:SetTable)(h:Xs)(tp:Xo):Xq->Nat->List (Int×Xq)->Prop
 |text {i:Nat}:LD w=O->Way w a es ep t h tp (rawInt 0) i (pickOrder (w.params.setOrder a ep) es).toList
 |drawn {i:Nat} {ps:List Nat}:IsTup h tp (ps.map λ(j:Nat)=>rawInt j).toArray->ps.Perm (List.range es.size)->Way w a es ep t h tp (.ref tp) i (ps.map λj=>es.getD j (0,.none))
 |plain {i:Nat} {s:Nat}:LD w=M->¬(t.plain=M/\es.size>1)->Ris t.place->t.led=O->(s=if i=0 then 0 else t.place.getD (i -1) 0+1)->Way w a es ep t h tp (rawInt s) i es.toList
end
theorem mq:∀{ns us},Xh (ns.map V.int) us->IntsAre us ns
 |[],_,.nil=> .nil
 |n::ns,_,.cons h t=>by
  obtain⟨k,rfl⟩:=h;exact .cons n k (mq t)
namespace Fr
end Fr
def Dp{N P:List Str}{sc:Xy}(a:autoParam (sc.kind= .function) Za1._auto_1)(b:autoParam (sc.isCoroutine=M) Za1._auto_1)(c:autoParam (sc.isGenerator=M) Za1._auto_1)(d:N.Nodup:=by decide+kernel)(e:autoParam (N.take P.length=P) Za1._auto_1)(f:∀x∈P,sc.names.lookup x=U .local\/sc.names.lookup x=U .cell:=by decide+kernel)(g:∀y∈sc.names,y.2≠ .free:=by decide+kernel):dh N P sc:=⟨a,b,c,d,e,f,g⟩
def af:D->D->Option RV
 | .tup [],.tup y=>U ⟨.c,.tup y⟩
 |x,y=>sD x y
noncomputable def LG:Key->Option Int
 | .inl i=>U (hashInt i)
 | .inr _=>J
def wG:List Key->Option (List Int)
 |[]=>U []
 |k::ks=>match LG k,wG ks with
  |some h,U hs=>U (h::hs)
  |_,_=>J
def keyHash(ks:List Key):Option Int:=(wG ks).map λhs=>reduceHash (Builtin.Tuple.tupleHashOf hs)
section
variable{a b:Xp}
def Dq{z:Xr}{b:Xo}{ws:List Xq}(ht:IsTup z.heap t #[])(hb:IsTup z.heap b ws.toArray)(h:Q (.ref b) z):wpAny (model prog w) A (binaryOp .Add (.ref t) (.ref b)) Q E z:=by
 obtain⟨⟨cls,dd,data,sl⟩,ho,hc,n,hd⟩:=id ht;obtain⟨⟨Ve,Uw,data2,zO⟩,yy,zX,n2,hd2⟩:=id hb;subst hc hd zX hd2;exact concat_meets ⟨_,ho,rfl⟩ ⟨_,yy,rfl⟩ noFill_tuple_add seq_tuple_add GcC Gcw (Gcs _ _)
  (tuple_addW0 t b #[] _ n n2 dd Uw sl zO rfl) ⟨ho,yy,h⟩
def Jr(K:ag):R2:=λx y H Q=>∃a b ys,x= .ref a/\y= .ref b/\SqT K H a []/\SqT K H b ys/\Q (.ref b) H
def HC{X:Cx}:OpR X (binaryOp .Add) (Jr X.K):=by
 intro ef s Z H x y v u Q I rx ry h;obtain⟨a,b,ys,rfl,rfl,ha,hb,q⟩:=h;cases rx;cases ry;obtain⟨eh,r1,p1,_⟩:=I.tuple ha;obtain⟨eL,r2,p2,_⟩:=I.tuple hb;have e:=r1.fm.mpr rfl;subst e;exact Dq p1 p2 ⟨.ref b,H,I,rfl,q⟩
def Dr{X:Cx}:OpD X af (λx y H Q=>Jr X.K x y H Q\/Cw X.K x y H Q):=by
 intro F H dx dy x y rv Q ix iy e k;unfold af at e;split at e
 .cases e;cases ix with
  |tup hx rx=>
   cases iy with
   |tup hy ry=>
    have:=rx.ne.mpr rfl;subst this;exact .inl ⟨_,_,_,rfl,rfl,SqT.of hx,SqT.of hy,k _ H bw (.tup hy ry.1 ry.2)⟩
 .exact .inr (GR F H dx dy x y rv Q ix iy e k)
def HD(ha:PEd X a f)(hb:PEd X b g):PEd X (.BinOp a .Add b pos) (Xn af f g):=sM (HC.or GQ) Dr ha hb
end
section
def Ds{α:Type}{m:Sem α}{Q:α->Xr->Prop}(e:s=s')(h:wpAny (model prog w) A m Q E s'):wpAny (model prog w) A m Q E s:=e▸h
variable{us:List Xq}{h:Xs}
def Dt{A:Xx}{g:Array GenState}{os:OsState}{nm:Str}{bs zL:List Xq}{sn:List Str}{mN:Str->Option Xq}{oI:Xw}{Q:VSP}(Fn:ExcBaseFacts Bn newId inN bmN)(VJ:zL.contains (.type Bn)=O)(F:ExcBaseFacts B nid initId zL)(T:OwnTail h zL bm)
  (hC:h.get? C=U (excClassObj nm q C N bs bm hdct sn sub ab col dd k0 k1 k2 k3 k5 newId))(hn:h.Ns N mN)(hi:mN "__init__"=U (.ref fI))(Wz:h.get? fI=U oI)(V5:oI.cls= .type "function")
  (hq:∀h' e,Heap.MadeExcOf h h' e (.ref C) us->h.objs.size<e->wpAny (model prog w) (A.under (.builtin "type.__call__" ⟨.ref C::us,[]⟩)) (call (.ref fI) (.ref e::us)) (λr s' =>r= .none/\Q (.ref e) s') E ⟨h',g,d,t,os⟩)(hz:us.length<=sizeLine):
  wpAny (model prog w) A (call (.ref C) us) Q E ⟨h,g,d,t,os⟩:=by
 have f1:=tc_lookup;have f2:=tc_bind (.ref C);have tC:Shared.TypeIs ⟨h,g,d,t,os⟩ (.ref C) "type":=⟨_,hC,rfl⟩
 apply GbN;apply codeAny_of_tree
 wp_walk using Gce hC
 refine⟨rfl,codeAny_call_builtin_at (Code.quiet_builtin _ (by decide+kernel)) entry_typeCall (wpAny_check_type_call_sub hC ?_)⟩
 wp_walk using Gce hC,wpAny_madeBy_exc hC
 refine codeAny_call_builtin_code (Code.quiet_builtin _ Fn.quiet) (wpAny_check_new_subU Fn VJ T hC (codeAny_exc_new_subU Fn VJ F T hC ?_ hz));have old:∀b o,h.get? b=U o->((h.push {cls:= .type "tuple",data:= .seq us.toArray}).push {cls:= .ref C,data:= .fields #[.ref h.objs.size,.none,.none,.none,.bool M,.none]}).get? b=U o:=λb o e=>Gaf _ (Gaf _ e);have eE:((h.push {cls:= .type "tuple",data:= .seq us.toArray}).push {cls:= .ref C,data:= .fields #[.ref h.objs.size,.none,.none,.none,.bool M,.none]}).get? (h.objs.size+1)=U {cls:= .ref C,data:= .fields #[.ref h.objs.size,.none,.none,.none,.bool M,.none]}:=by heap_get
 have eT:((h.push {cls:= .type "tuple",data:= .seq us.toArray}).push {cls:= .ref C,data:= .fields #[.ref h.objs.size,.none,.none,.none,.bool M,.none]}).get? h.objs.size=U {cls:= .type "tuple",data:= .seq us.toArray}:=Gaf _ (Gat _ rfl);have mE:Heap.MadeExcOf h ((h.push {cls:= .type "tuple",data:= .seq us.toArray}).push {cls:= .ref C,data:= .fields #[.ref h.objs.size,.none,.none,.none,.bool M,.none]}) (h.objs.size+1) (.ref C) us:=⟨old,GcN (Gbi _),h.objs.size,eE,GcN (Gap _),eT⟩
 have run:=hq _ _ mE (GbR _);have T1:=T.keeps old;have eC:=old _ _ hC;have nN:Heap.Ns _ N mN:=let⟨o,es,ep,e,r⟩:=hn;⟨o,es,ep,old _ _ e,r⟩
 have eI:=old _ _ Wz;refine Ds (s' :=⟨(h.push {cls:= .type "tuple",data:= .seq us.toArray}).push {cls:= .ref C,data:= .fields #[.ref h.objs.size,.none,.none,.none,.bool M,.none]},g,d,t,os⟩) rfl ?_;generalize (h.push {cls:= .type "tuple",data:= .seq us.toArray}).push {cls:= .ref C,data:= .fields #[.ref h.objs.size,.none,.none,.none,.bool M,.none]}=h1 at*;have tI:Shared.TypeIs ⟨h1,g,d,t,os⟩ (.ref fI) "function":=⟨_,eI,V5⟩
 have inC:(Value.ref C::bm).contains (.ref C)=O:=by simp
 have sC:∀{P:Bool->Xr->Prop} {E' :VSP},P O ⟨h1,g,d,t,os⟩->wpAny (model prog w) (A.under (.builtin "type.__call__" ⟨.ref C::us,[]⟩)) (isSubtype (.ref C) (.ref C)) P E' ⟨h1,g,d,t,os⟩:=λq=>wpAny_isSubtype_exc eC (by rw[inC];exact q);have lI:∀{P:Option Xq->Xr->Prop} {E' :VSP},P (U (.ref fI)) ⟨h1,g,d,t,os⟩->wpAny (model prog w) (A.under (.builtin "type.__call__" ⟨.ref C::us,[]⟩)) (typeLookup (.ref C) (Str.ofString "__init__")) P E' ⟨h1,g,d,t,os⟩:=λq=>wpAny_typeLookup_tail eC nN T1 F.mroIs F.init.lookup (by rw[hi];exact q);refine Gab (Gab (Gab (Gce eE (Gal (sC ?_)))))
 wp_walk using Gce eE
 refine lI (Gbz (Gab (Gab (wpAny_typeOf tI (Gbk (by decide) (Gal (Gab (on run ?_))))))));rintro _ s' ⟨rfl,q⟩
 wp_walk
 exact q
def Du{g:Array GenState}{os:OsState}{nm:Str}{bs:List Xq}{sn:List Str}{e t0:Xo}{Q:VSP}(F:ExcBaseFacts B nid initId zL)(T:OwnTail h zL bm)
  (hC:h.get? C=U (excClassObj nm q C N bs bm hdct sn sub ab col dd k0 k1 k2 k3 k5 newId))(he:h.get? e=U {cls:= .ref C,dict:=dx,data:= .fields #[.ref t0,x1,x2,x3,x4,x5],slots:=sl})
  (hq:∀h',h'.get? e=U {cls:= .ref C,dict:=dx,data:= .fields #[.ref h.objs.size,x1,x2,x3,x4,x5],slots:=sl}->h'.get? h.objs.size=U {cls:= .type "tuple",data:= .seq us.toArray}->(∀b o,b≠e->h.get? b=U o->h'.get? b=U o)->Q .none ⟨h',g,d,t,os⟩)(hz:us.length<=sizeLine):
  wpAny (model prog w) A (call (.builtin initId) (.ref e::us)) Q E ⟨h,g,d,t,os⟩:=by
 apply GbN;apply GbO F.init.plain F.initEntry;apply wpAny_check_init_subU F T hC he rfl
 wp_walk
 .refine hq _ ((GbI _ (Gaf {cls:= .type "tuple",data:= .seq _} he) rfl).trans rfl) ?_ λb o n k=> ?_
  .rw[Gbq _ _ (GaG (Gbd (Gak he)))];exact Gat _ rfl
  .rw[Gbq _ _ (GaG n)];exact Gaf _ k
end
def FX(h:Xs)(a:Xo)(cls:Xq)(dx:Option Xo)(vs:Array Xq):Prop:=∃sl,h.get? a=U {cls:=cls,dict:=dx,data:= .fields vs,slots:=sl}
section
variable{h:Xs}
def FX.at{h' :Xs}(x:FX h a cls dx vs)(k:∀o,h.get? a=U o->h'.get? a=U o):FX h' a cls dx vs:=let⟨sl,q⟩:=x;⟨sl,k _ q⟩
def FX.lt(x:FX h a cls dx vs):a<h.objs.size:=let⟨_,q⟩:=x;Gak q
def gY{z:Xr}(f:FX z.heap a cls dx vs)(e:vs[i]? =U x)(h:Q x z):wpAny (model prog w) A (field (.ref a) i) Q E z:=let⟨_,q⟩:=f;wpAny_field q rfl e h
def kK{z:Xr}{vs:Array Xq}(f:FX z.heap a cls dx vs)(h:∀h',FX h' a cls dx (vs.setIfInBounds k x)->Heap.SameBut a z.heap h' ->Q () {z with heap:=h' })(hk:k<vs.size):wpAny (model prog w) A (setField (.ref a) k x) Q E z:=by
 obtain⟨sl,q⟩:=f;exact wpAny_setField q rfl hk (h _ ⟨sl,GbI _ q rfl⟩ (Heap.SameBut.update ..))
def Trc(h:Xs)(e:Xo)(tb:Xq):Prop:=tb= .none\/∃T cls dx ts,tb= .ref T/\T≠e/\FX h T cls dx ts/\ts[3]? =U .none
def tM{A:Xx}{z:Xr}{env:PySem.Env}(yc:A.frames=U (env::outer))(hl:z.heap.FunFrames base (env::outer))(hf:env.frame=U L)
  (f:FX z.heap e cls dx #[a0,tb,x2,x3,x4,x5])(ht:Trc z.heap e tb)
  (hQ:∀h' T ts,FX h' e cls dx #[a0,.ref T,x2,x3,x4,x5]->T≠e->z.heap.objs.size<=T->FX h' T (.type "traceback") J ts->ts[3]? =U .none->
   (∀b o,b≠e->tb≠ .ref b->z.heap.get? b=U o->∃sl,h'.get? b=U {o with slots:=sl})->(∀b o,b≠e->tb≠ .ref b->b∉(env::outer).filterMap (·.frame)->z.heap.get? b=U o->h'.get? b=U o)->Q () {z with heap:=h' }):
  wpAny (model prog w) A (noteFrame (.ref e) env) (λ_ s' =>wpAny (model prog w) A (setFlight (.ref e) J) Q E s') E z:=by
 have ne:e∉(env::outer).filterMap _:=λm=>by
  obtain⟨_,o,ho,no⟩:=hl.mem m;obtain⟨sl,q⟩:=f;rw[q] at ho;cases ho;exact no _ rfl
 have make:∀(y) (P),y.heap.FunFrames base (env::outer)->FX y.heap e cls dx #[a0,tb,x2,x3,x4,x5]->(∀h' T ts,FX h' e cls dx #[a0,.ref T,x2,x3,x4,x5]->T≠e->y.heap.objs.size<=T->FX h' T (.type "traceback") J ts->3<ts.size->
   (∀b o,b≠e->y.heap.get? b=U o->∃sl,h'.get? b=U {o with slots:=sl})->(∀b o,b≠e->b∉(env::outer).filterMap (·.frame)->y.heap.get? b=U o->h'.get? b=U o)->P () {y with heap:=h' })->∀(hd:Xq) (n:Bool) E',
   wpAny (model prog w) A (do let a<-frameOf env;let pl<-entryPlaceOf L n;let b<-EntryCells.newEntry hd a .none (rawInt L) .none pl;setField (.ref e) 1 b) P E' y:=by
  intro y P hl f hP hd n E';refine Gab (wpAny_frameOf_fun yc hl hf λh1 s1=>Gab (wpAny_entryPlaceOf λpl xb=>Gab (Gby ?_ (xb.sizeOk5 _ _ _ _ _))));have e1:FX h1 e cls dx #[a0,tb,x2,x3,x4,x5]:=let⟨sl,q⟩:=f
  ⟨sl,(s1.2.1 e ne).trans q⟩
  have nT:_≠e:=Gbd e1.lt;refine kK (z:={y with heap:=h1.push _}) (e1.at λo=>Gaf _) (λh' fx sb=>hP h' _ _ fx nT (Gdk s1.1.symm) ⟨_,(sb.2 _ nT).trans (Gat _ rfl)⟩ ?_ (λb o n q=> ?_) λb o n m q=> ?_) (by simp)
  .simp only[GaA,Gax,GaF,Gcb];lia
  .obtain⟨sl,q⟩:=s1.2.2 b o q;exact⟨sl,(sb.2 b n).trans (Gaf _ q)⟩
  .exact(sb.2 b n).trans (Gaf _ ((s1.2.1 b m).trans q))
 have land:∀(h1) (T) (ts) {P:Unit->Xr->Prop} {E'},FX h1 e cls dx #[a0,.ref T,x2,x3,x4,x5]->T≠e->FX h1 T (.type "traceback") J ts->3<ts.size->(∀h' xY,FX h' e cls dx #[a0,.ref T,x2,x3,x4,x5]->FX h' T (.type "traceback") J xY ->xY[3]? =U .none->(∀b o,b≠T->h1.get? b=U o->h'.get? b=U o)->P () {z with heap:=h' })->
   wpAny (model prog w) A (setFlight (.ref e) J) P E' {z with heap:=h1}:=by
  intro h1 T ts P E' fe n ft sz hP;refine Gab (gY (z:={z with heap:=h1}) (i:=1) (x:= .ref T) fe rfl (Gbk (by simp) (kK (z:={z with heap:=h1}) ft (λh' yW sb=>hP h' _ (fe.at λo=>(sb.2 e (GaG n)).trans) yW ?_ λb o n q=>(sb.2 b n).trans q) sz)));rw[GbP];simp[sz]
 simp only[noteFrame,hf];rcases ht with rfl| ⟨T0,c0,d0,t0,rfl,n0,f0,q0⟩
 .refine Gab (gY (i:=1) (x:= .none) f rfl (Gbv rfl (make z _ hl f (λh1 T ts fe n le ft sz k1 k2=>land h1 T ts fe n ft sz λh' xY Va yW q k=>hQ h' T xY Va n le yW q (λb o nb _ e=> ?_) λb o nb _ nf e=> ?_) _ _ _)))
  .obtain⟨sl,e1⟩:=k1 b o nb e;exact⟨sl,k b _ (Gas (Gah (Gak e) le)) e1⟩
  .exact k b o (Gas (Gah (Gak e) le)) (k2 b o nb nf e)
 .refine Gab (gY (i:=1) (x:= .ref T0) f rfl (Gbk ?E (Gab (gY (i:=3) f0 q0 (Gbv (by simp[rawInt]) (Gab (kK f0 (λh0 X7 sb=> ?_) ((Gbr.mp q0).1))))))));have old:∀b o,b≠T0->z.heap.get? b=U o->h0.get? b=U o:=λb o n e=>(sb.2 b n).trans e;refine make {z with heap:=h0} _ (hl.of_keeps λb o e no=> ⟨o,old b o (λq=>by obtain⟨sl,q1⟩:=f0;rw[q,q1] at e;cases e;exact no _ rfl) e,rfl⟩) (f.at λo=>old e o (GaG n0)) (λh1 T ts fe n le ft sz k1 k2=>land h1 T ts fe n ft sz λh' xY Va yW q k=>hQ h' T xY Va n (sb.1▸le) yW q (λb o nb nt e=> ?_) λb o nb nt nf e=> ?_) _ _ _
  .have nT:b≠T0:=λq=>nt (by rw[q]);obtain⟨sl,e1⟩:=k1 b o nb (old b o nT e);exact⟨sl,k b _ (Gas (Gah (Gak (old b o nT e)) le)) e1⟩
  .have nT:b≠T0:=λq=>nt (by rw[q]);exact k b o (Gas (Gah (Gak (old b o nT e)) le)) (k2 b o nb nf (old b o nT e))
def Bk(h:wpAny (model prog w) A (noteFrame (.ref e) env) (λ_ s' =>wpAny (model prog w) A (setFlight (.ref e) J) Q E s') E z):wpAny (model prog w) A (leaving env (.ref e)) Q E z:=Gab h
end
open PySem.W (findIn clsIn mroIn looks_findIn looks_clsIn looks_mroIn InstAt set_plain check_slot osa_eq Looks)
section
variable{z:Xr}
def lk{α:Type}{t:Sem α}{r:α}{Q:α->Xr->Prop}(x:Looks (model prog w) z.heap t r)(q:Q r {z with toks:=n}):wpAny (model prog w) A t Q E {z with toks:=n}:=x _ _ _ _ (λ_ _ e=>e) q
def Bl{h:Xs}(n:h.Ns1 a λy=>if y=name then U v else J):∃o,h.get? a=U o/\o.data.pastItsLine=J:=by
 have one:Within (λy=>if y=name then U v else J) [name]:=λy e=>by
  simp_all
 obtain⟨o,es,ep,q,d,le⟩:=n.count one;have le:_<=1:=le;exact⟨o,q,d▸pastItsLine_dict ?B⟩
def tN{K:PySem.W.Frag}{cd:ClassData}(X:K.In z.heap)(hs:findIn K (.ref C) "__setattr__"=U (U (.builtin "object.__setattr__")))(ho:mroIn K C (.type "object")=U O)
  (hc:clsIn K C=U cd)(hm:cd.mro=[.ref C,.ref H,.type "ValueError",.type "Exception",.type "BaseException",.type "object"])(hd:cd.hasDict=O)(hn:findIn K (.ref C) name=U J)(f:FX z.heap e (.ref C) J vs)
  (hQ:∀h' Ux,FX h' e (.ref C) (U z.heap.objs.size) vs->h'.Ns1 z.heap.objs.size (λy=>if y=name then U v else J)->(∀b o,b≠e->z.heap.get? b=U o->h'.get? b=U o)->Q () {z with heap:=h',toks:=Ux }):
  wpAny (model prog w) A (setAttr (.ref e) name v) Q E z:=by
 have SF:=PySem.F.store_ValueError;obtain⟨sl,q⟩:=f;have I:InstAt _ e {cls:= .ref C,dict:=J,data:= .fields vs,slots:=sl} C J:=⟨q,rfl,rfl,trivial⟩
 have ne:e≠_:=Gas (Gak q);apply set_plain X I hs;apply GbO SF.slot.plain SF.entry;apply @check_slot _ _ _ {z with toks:=z.toks+1} "object.__setattr__" "object" "__setattr__" _ [.str name z.toks,v] [] _ SF.kind SF.split (I.type.andThen (looks_mroIn X ho)) (SF.args _ (.str name z.toks) v);rw[osa_eq,refuse_eq];refine Gab (Gab (lk I.type (Gab (lk ((looks_clsIn X hc).andThen .now) ?_))));rw[hm,refuseLoop_ref,refuseLoop_ref,SF.passes];refine Gal (Gab (lk I.type (Gab (lk (Gcu X hn) (Gab (Gal ?_))))));have nm:(Value.ref C==Value.type "module")=M:=rfl;have qd:((z.heap.push {cls:= .type "dict",data:= .dict #[]}).update e λo=>{cls:=o.cls,dict:=U z.heap.objs.size,data:=o.data,slots:=o.slots}).get? z.heap.objs.size=U {cls:= .type "dict",data:= .dict #[]}:=(Gbq _ _ ne).trans (Gat _ rfl);have n1:=Heap.Ns1.of_empty (h:=(z.heap.push {cls:= .type "dict",data:= .dict #[]}).update e λo=>{cls:=o.cls,dict:=U z.heap.objs.size,data:=o.data,slots:=o.slots}) (a:=z.heap.objs.size) ⟨_,#[],0,qd,rfl,λe he=>absurd he ?E,λ_=>rfl⟩
 wp_walk using lk (looks_clsIn (M:=model prog w) X hc),wpAny_nsSet1 (s:=⟨_,z.gens,z.drawn,z.toks+1,z.os⟩) n1
 intro h' n2 sb;obtain⟨oD,q2,small⟩:=Bl n2;exact Gab (wpAny_lookBehind q2 small (Gal (hQ h' _ ⟨sl,((sb.2 e ne).trans (GbI _ (Gaf _ q) rfl))⟩ n2 λb o nb k=>((sb.2 b (Gas (Gak k))).trans ((Gbq _ _ (GaG nb)).trans (Gaf _ k))))))
end
open PySem.W (findIn clsIn mroIn looks_findIn looks_clsIn looks_mroIn InstAt check_slot Looks handedIn handedOut_of)
def Dv{z:Xr}{K:PySem.W.Frag}{cd:ClassData}(X:K.In z.heap)(hg:findIn K (.ref C) "__getattribute__"=U (U (.builtin "BaseException.__getattribute__")))(hh:findIn K (.ref C) "__getattr__"=U J)
  (hb:mroIn K C (.type "BaseException")=U O)(hc:clsIn K C=U cd)(hd:cd.hasDict=O)(hn:findIn K (.ref C) name=U J)(f:FX z.heap e (.ref C) (U dx) vs)(n:z.heap.Ns1 dx m)(hm:m name=U v)(hv:handedIn v=O)(hQ:Q v {z with toks:=z.toks+1}):
  wpAny (model prog w) A (getAttr (.ref e) name expr) Q E z:=by
 obtain⟨sl,q⟩:=f;have tE:Looks (model prog w) z.heap (typeOf (.ref e)) (.ref C):=(Looks.ld q).andThen .now;have isB:Looks (model prog w) z.heap (isInstance (.ref e) (.type "BaseException")) O:=tE.andThen (looks_mroIn X hb);have lg:=Gcu (M:=model prog w) X hg;have lh:=Gcu (M:=model prog w) X hh;have ln:=Gcu (M:=model prog w) X hn;have lc:=looks_clsIn (M:=model prog w) X hc;have no:(Value.builtin "BaseException.__getattribute__"==Value.builtin "object.__getattribute__")=M:=by decide+kernel
 refine Gab (wpAny_mkText (Gbz (Gab (lk tE (Gab (lk lg ?_))))));dsimp only;rw[no,Gdc];refine Gbv rfl (Gab (Gbk rfl (lk lh (Gab (wpAny_attempt (Gbz ?_))))));have G:=PySem.F.attrBase_ValueError.ga;have bd:=G.bind (.ref e);have nh:(expr&&onTheHeap (Value.builtin "BaseException.__getattribute__"))=M:=by cases expr<;>rfl
 refine Gbv (by rw[nh];rfl) (Gab (wpAny_of_eq bd (GbN (GbO G.plain PySem.F.entry_bexc_ga (@check_slot (model prog w) _ _ {z with toks:=z.toks+1} "BaseException.__getattribute__" "BaseException" "__getattribute__" (.ref e) [.str name z.toks] [] _ (by decide+kernel) (by decide+kernel) isB (PySem.F.args_bexc_ga _ _) ?_)))))
 wp_walk using lk tE,lk ln,lk lc,wpAny_nsGet (s:=⟨z.heap,z.gens,z.drawn,z.toks+1,z.os⟩) n.ns
 rw[hm]
 wp_walk
 show wpAny _ _ (handedOut v) _ _ _;rw[handedOut_of hv];exact Gal hQ
open PySem.W (findIn clsIn mroIn looks_findIn looks_clsIn looks_mroIn InstAt check_slot Looks handedIn handedOut_of keepIn readsIn findCls specialIn cls_value method_cls)
noncomputable abbrev bmV:List Xq:=[.type "ValueError",.type "Exception",.type "BaseException",.type "object"]
structure XCl(K:PySem.W.Frag)(B C f:Xo)(n:Str):Prop where
 obj:∀h,K.In h->∃nm q N bs hd sn sub ab col dd k0 k1 k2 k3 k5 mN oI,h.get? C=U (excClassObj nm q C N bs (.ref B::bmV) hd sn sub ab col dd k0 k1 k2 k3 k5 "ValueError.__new__")/\OwnTail h bmV (.ref B::bmV)/\h.Ns N mN/\mN "__init__"=U (.ref f)/\h.get? f=U oI/\oI.cls= .type "function"
 st:findIn K (.ref C) "__setattr__"=U (U (.builtin "object.__setattr__"))
 ob:mroIn K C (.type "object")=U O
 cd:∃cd,clsIn K C=U cd/\cd.mro= .ref C:: .ref B::bmV/\cd.hasDict=O
 nf:findIn K (.ref C) n=U J
 ga:findIn K (.ref C) "__getattribute__"=U (U (.builtin "BaseException.__getattribute__"))
 gt:findIn K (.ref C) "__getattr__"=U J
 be:mroIn K C (.type "BaseException")=U O
 kp:keepIn K (.ref C)=O
structure XBs(K:PySem.W.Frag)(B:Xo):Prop where
 rd:readsIn K B (.type "type")=O
 fc:findCls K (.ref B) (.type "type") "__init__"=U (.val (.builtin "ValueError.__init__"))
 sp:specialIn K (.ref B) "__getattribute__"=U (U (.builtin "type.__getattribute__"))
def X0(a C:Xo):Xs->Prop:=λh=>∃t0,FX h a (.ref C) J #[.ref t0,.none,.none,.none,.bool M,.none]
def X1(a C dx:Xo):Xs->Prop:=λh=>∃t0,FX h a (.ref C) (U dx) #[.ref t0,.none,.none,.none,.bool M,.none]
theorem _root_.L2.Un.more{h:Xs}(u:Un fs ex H H1 h h1)(hd:h.objs.size<=d)(n:H1 d=J):Un fs ex H (upd H1 d o) h h1 where
 keep:=u.keep
 slot:=u.slot
 free:=λb ob q z x=>by rw[aq (Gas (Gah (Gak q) hd))];exact u.free b ob q z x
 there:=u.there
 k7:=λb xs q=>by rw[aq (aX (u.k7 b xs q) n)];exact u.k7 b xs q
 jM:=λb ob w q=>by rw[aq (aX (u.jM b ob w q) n)];exact u.jM b ob w q
 me:=λb ps q=>let⟨m,e⟩:=u.me b ps q;⟨m,by rw[aq (aX e n)];exact e⟩
def _root_.L2.HOk.more(x:HOk P w H h)(n:H d=J)(new:bS P w (upd H d o) h d o):HOk P w (upd H d o) h:=λb u e=>by
 by_cases c:b=d
 .subst c;rw[aB] at e;cases e;exact new
 .rw[aq c] at e;exact(x b u e).iD (λ_ _ _ q=>q) (λy q=>by rw[aq (aX q n)];exact q) λy xs q=>by rw[aq (aX q n)];exact q
def one_le:1<=sizeLine:=by decide
section
variable{B C f a:Xo}{n:Str}{H:Hp}
variable{X:Cx}
def Js(x:X0 a C h):bS X.prog X.w H h a (.ext (X0 a C)):=⟨x,let⟨_,_,q⟩:=x;⟨_,q⟩,λ_ _ ⟨t,y⟩ k=> ⟨t,y.at k⟩⟩
def Ph(x:X1 a C dx h):bS X.prog X.w H h a (.ext (X1 a C dx)):=⟨x,let⟨_,_,q⟩:=x;⟨_,q⟩,λ_ _ ⟨t,y⟩ k=> ⟨t,y.at k⟩⟩
def Dw(h:H a=U o):upd H a o=H:=by
 funext b
 simp_all[upd]
def RS(K:PySem.W.Frag)(B:Xo)(t:TA):TS:=λD Z H=>t Z H λvs H1=>∃a v C f n,vs=[.ref a,v]/\XCl K B C f n/\H1 a=U (.ext (X0 a C))/\D.nx Z H1
def LH{p2 p4:Pos}(bs:XBs X.K B)(hg:Gl X b)(hm:X.mg b=U (.ref B))(ha:PA X (e::es) t)
  (ht:eval (.Call (.Attribute (.Name b p1) "__init__" p2) (e::es) [] p3) X.env=(do
   let ov<-eval (.Name b p1) X.env
   standAt p2.atName
   let(f,first)<-holding [ov] (getMethod ov "__init__" pl)
   callWith p3 f first (backTo p3 (starEach (e::es) X.env)) (backToKw p3 (keywordEach [] X.env))))(hZ:autoParam ((b==("__debug__":Str))=M) Za2._auto_1)
  (xw:autoParam (starEach (e::es) X.env=(M,eval e X.env)::starEach es X.env) Za1._auto_1)(xb:autoParam ((backTo p3 (starEach es X.env)).any (·.1)=M) Za1._auto_1)(hs:autoParam (swapsWith (.Call (.Attribute (.Name b p1) "__init__" p2) (e::es) [] p3) J p4.line X.env=pure M) Za1._auto_1):
  PS X (.Expr (.Call (.Attribute (.Name b p1) "__init__" p2) (e::es) [] p3) p4) (RS X.K B t):=by
 intro ef s Z H D I h;refine wpAny_Expr_any (PySem.W.methodCall_KW (fQ I hg hm (method_cls I.kIn bs.sp (cls_value I.kIn bs.rd bs.fc rfl (GcP (thn (ha p3 ef _ Z H _ (I.tok _) h) λus s1 q0=> ?_) xw xb))) hZ) ht) I.quiet hs;obtain⟨vs,H1,I2,r,a,v,C,f,n,rfl,cl,ea,q⟩:=q0;cases r with
 |cons r0 r=>
  cases r with
  |cons r1 r=>
   cases r;obtain rfl:=(show _=Value.ref a from r0)
   obtain⟨⟨t0,sl,q0⟩,_,_⟩:=(show bS _ _ H1 _ a _ from I2.hok a _ ea)
   obtain⟨nm,qq,N,xu,hd,sn,sub,ab,col,dd,k0,k1,k2,k3,k5,mN,oI,hC,T,_⟩:=cl.obj _ I2.kIn;obtain⟨hh,g,d,tk,os⟩:=s1;refine Du Gcn T hC q0 (λh' e1 e2 k=>(⟨Z,H1, ?_,q⟩)) one_le;have W:=I2.write (t' :=tk) (by rw[ea];trivial) (.inl rfl) k ⟨_,e1⟩ (Js ⟨_,sl,e1⟩)
   rwa[Dw ea] at W
def Pj(K:PySem.W.Frag)(B:Xo)(n:Str)(ta tv:TE):TS:=λD Z H=>tv Z H λy H1=>ta Z H1 λx H2=>∃a C f,x= .ref a/\XCl K B C f n/\H2 a=U (.ext (X0 a C))/\∀dx,H2 dx=J->dx≠a->D.nx Z (upd (upd H2 a (.ext (X1 a C dx))) dx (.xd [(n,y)]))
def LI{pos:Pos}(ha:PE X o ta)(hv:PE X value tv)(hs:swapsWith value (U (.Attribute o n pos')) pos.line X.env=pure M):PS X (.Assign [.Attribute o n pos'] value pos) (Pj X.K B n ta tv):=by
 intro ef s Z H D I h;refine plainObj_wpAny_Assign_Attribute (thn (hv ef s Z H _ I h) λu s1 ⟨y,H1,I1,ry,q⟩=>thn (ha ef s1 Z H1 _ I1 q) λov s2 q0=> ?_) hs;obtain⟨x,H2,I2,rx,a,C,f,rfl,cl,ea,q2⟩:=q0;obtain rfl:ov=Value.ref a:=rx;obtain⟨⟨t0,fx⟩,_,_⟩:=(show bS _ _ H2 _ a _ from I2.hok a _ ea)
 obtain⟨cd,c1,c2,c3⟩:=cl.cd;refine tN I2.kIn cl.st cl.ob c1 c2 c3 cl.nf fx λh' Ux e1 e2 k=> ?_;have ne:=Gbd fx.lt;have fr:=I2.hok.fresh (Gap _);refine⟨Z,_, ?_,q2 _ fr ne⟩;have n3:upd H2 a (.ext (X1 a C s2.heap.objs.size)) s2.heap.objs.size=J:=by rw[aq ne];exact fr
 refine I2.un ((Un.write (by rw[ea];trivial) (.inl rfl) k (let⟨_,q⟩:=e1;⟨_,q⟩)).more (Gap _) n3) ((I2.write (t' :=Ux) (by rw[ea];trivial) (.inl rfl) k (let⟨_,q⟩:=e1;⟨_,q⟩) (Ph ⟨_,e1⟩)).hok.more n3 ⟨_,e2,λy' => ?_⟩);by_cases c:y' =n
 .subst c;simp only[GaE,beq_self_eq_true];exact ry
 .have c' :(y' ==n)=M:=by simpa using c
  simp only[GaE,c',Gau c];exact True.intro
end
open PySem.W (findIn clsIn mroIn looks_findIn looks_clsIn looks_mroIn InstAt check_slot Looks)
def lM(K:PySem.W.Frag)(B C:Xo)(n:Str):Sp:=λvs H Q _=>∃a v,vs=[.ref a,v]/\H a=U (.ext (X0 a C))/\∀dx,H dx=J->dx≠a->Q .non (upd (upd H a (.ext (X1 a C dx))) dx (.xd [(n,v)]))
section
variable{X:Cx}
def HE{Z:L2.St}{s:Xr}(cl:XCl X.K B C f n)(F:cp X.prog X.w X.K X.mg X.base CX k f fd ps (lM X.K B C n))(hr:cD (k+1) X.A)(hb:Binds X.K fd ps [])(hx:Passes CX X E)(I:Inv X ef Z H s)(ru:Xg v u)
  (h:∀a dx,s.heap.objs.size<=a->H a=J->H dx=J->dx≠a->Q (.ref a) (upd (upd H a (.ext (X1 a C dx))) dx (.xd [(n,v)]))):wpAny (model X.prog X.w) X.A (call (.ref C) [u]) (EP X ef Z Q) X.xe s:=by
 obtain⟨hh,g,d,tk,os⟩:=s;obtain⟨nm,qq,N,bs,hd,sn,sub,ab,col,dd,k0,k1,k2,k3,k5,mN,oI,hC,T,hn,hi,hf,V5⟩:=cl.obj _ I.kIn;refine Dt Gcn rfl Gcn T hC hn hi hf V5 (λh' e m lt=> ?_) one_le;obtain⟨t0,q0,_⟩:=m.there;have le:=Gdj lt;have I2:Inv X ef Z _ ⟨h',g,d,tk,os⟩:=I.laid m.keeps le (Js ⟨t0,_,q0⟩);have sp:lM X.K B C n [.ref e,v] _ (λv H2=>v= .non/\Q _ H2) E:=⟨e,v,rfl,aB,λdx z ne=> ⟨rfl,by
  rw[Ga];exact(h e dx le (I.hok.fresh le) (by rw[aq ne] at z;exact z) ne)⟩⟩
 have r2:Xh [V.ref e,v] [Value.ref e,u]:= .cons rfl (.cons ru .nil);refine GbN (Gcg (F.run _ _ _ _ ⟨[.ref e,u],[]⟩ [.ref e,u] _ _ E (hr.make C [u] []) (I2.Gq.make C [u] []) (by have:=hb ⟨h',g,d,tk,os⟩ [.ref e,u] I2.kIn (by rw[GaP];exact(F.len _ _ _ _ sp));rw[GaP] at this;exact this) r2 sp) λr s' yh => ?_);cases r with
 |error e=>exact hx ef Z _ _ e s' I2 yh
 |ok fl=>
  cases fl with
  |ret u=>
   obtain⟨v',H',I3,rv,rfl,q3⟩:=I2.after yh;exact⟨rv,⟨V.ref e,H',I3,rfl,q3⟩⟩
  |next=>exact False.elim yh
  |brk=>exact False.elim yh
  |cont=>exact False.elim yh
def va{A:Xx}(hh:A.handled=J)(h:wpAny (model X.prog X.w) A x (λv s1=>∃a C B f n dx,v= .ref a/\X.K.In s1.heap/\XCl X.K B C f n/\X1 a C dx s1.heap/\E' (.ref a) s1) E' s):
  wpAny (model X.prog X.w) A (raiseStmt env (U x) J) Q E' s:=by
 unfold raiseStmt;refine Gab (Gba h (λv s1 ⟨a,C,B,f,n,dx,ev,kin,cl,⟨t0,sl,q⟩,hE⟩=> ?_) λ_ _ y=>y);subst ev;have tE:Looks (model X.prog X.w) _ (typeOf (.ref a)) (.ref C):=(Looks.ld q).andThen .now;have isB:Looks _ _ (isInstance _ _) O:=tE.andThen (looks_mroIn kin cl.be);obtain⟨nm,qq,N,bs,hd,sn,sub,ab,col,dd,k0,k1,k2,k3,k5,mN,oI,hC,_⟩:=cl.obj _ kin;obtain⟨hp,g,d,tk,os⟩:=s1
 wp_walk using lk (z:=⟨hp,g,d,tk,os⟩) isB,lk (z:=⟨hp,g,d,tk,os⟩) tE,lk _ ((Looks.ld hC).andThen .now),Gce q
 exact wpAny_raiseNew_none hh hE
end
def X2(a C dx T:Xo):Xs->Prop:=λh=>∃t0,FX h a (.ref C) (U dx) #[.ref t0,.ref T,.none,.none,.bool M,.none]
structure LJ(P:Xz)(w:Xv)(outer:List PySem.Env)(H:Hp)(s:Xr)(a C dx T:Xo)(n:Str)(v:V)(H' :Hp)(s' :Xr):Prop where
 os:s'.os=s.os
 bare:AllBare s'.gens
 un:Un (frs outer) [] H H' s.heap s'.heap
 hok:HOk P w H' s'.heap
 new:s.heap.objs.size<=a
 QJ:s.heap.objs.size<=T
 ne:T≠a
 obj:H' a=U (.ext (X2 a C dx T))
 dct:H' dx=U (.xd [(n,v)])
 trc:∃ts,FX s'.heap T (.type "traceback") J ts/\ts[3]? =U .none
 trf:H' T=J
def CXE(P:Xz)(w:Xv)(K:PySem.W.Frag):CXT:=λouter H s E e s' =>∃a B C f dx T n v H',e= .ref a/\XCl K B C f n/\LJ P w outer H s a C dx T n v H' s' /\E (.ref C) (U dx) H'
def Loose:Option HO->Prop
 |some (.ext _)=>True
 |some (.xd _)=>True
 |_=>False
def fV{H:Hp}{a b:Xo}(l:Loose (H a))(e:H b=U o)(n:¬Loose (U o)):b≠a:=λq=>by subst q;rw[e] at l;exact n l
def _root_.L2.HOk.lN{h h1:Xs}(ok:HOk P w H h)(l:Loose (H a))(k:∀b u,b≠a->H b≠J->h.get? b=U u->h1.get? b=U u)(new:bS P w (upd H a o) h1 a o):HOk P w (upd H a o) h1:=λb u q=>by
 by_cases hb:b=a
 .subst hb;rw[aB] at q;cases q;exact new
 .rw[aq hb] at q;refine(ok b u q).iD (λc v hc r=> ?_) (λc r=>by rw[aq (fV l r λz=>z)];exact r) λc xs r=>by rw[aq (fV l r λz=>z)];exact r
  rcases hc with rfl|hc
  .exact k c v hb (by rw[q];simp) r
  .exact k c v (fV l hc λz=>z) (by rw[hc];simp) r
theorem _root_.L2.Un.lN(u:Un fs [] H H1 h h1)(l:Loose (H1 a)):Un fs [] H (upd H1 a o) h h1 where
 keep:=u.keep
 slot:=u.slot
 free:=λb ob q z x=>by
  have e:=u.free b ob q z x
  rwa[aq λc=>by subst c;rw[e] at l;exact l]
 there:=u.there
 k7:=λb xs q=>by rw[aq (fV l (u.k7 b xs q) λz=>z)];exact u.k7 b xs q
 jM:=λb ob w q=>by rw[aq (fV l (u.jM b ob w q) λz=>z)];exact u.jM b ob w q
 me:=λb ps q=>let⟨m,e⟩:=u.me b ps q;⟨m,by rw[aq (fV l e λz=>z)];exact e⟩
theorem _root_.L2.Un.past{h h1 h2:Xs}(u:Un fs ex H H1 h h1)(k1:∀b ob,b<h.objs.size->h1.get? b=U ob->∃sl,h2.get? b=U {ob with slots:=sl})(k2:∀b ob,b<h.objs.size->b∉fs->h1.get? b=U ob->h2.get? b=U ob):Un fs ex H H1 h h2 where
 keep:=λb ob q z m x=>k2 b ob (Gak q) m (u.keep b ob q z m x)
 slot:=λb ob q z m x=>by
  obtain⟨sl,e⟩:=u.slot b ob q z m x;obtain⟨zP,e'⟩:=k1 b _ (Gak q) e;exact⟨zP,e'⟩
 free:=u.free
 there:=λb ob q x=>by
  obtain⟨o',e⟩:=u.there b ob q x;obtain⟨zP,e'⟩:=k1 b _ (Gak q) e;exact⟨_,e'⟩
 k7:=u.k7
 jM:=u.jM
 me:=u.me
def Jt(x:X2 a C dx T h):bS P w H h a (.ext (X2 a C dx T)):=⟨x,let⟨_,_,q⟩:=x;⟨_,q⟩,λ_ _ ⟨t,y⟩ k=> ⟨t,y.at k⟩⟩
def Dx{K:PySem.W.Frag}{f:Xo}{s:Xr}{H1:Hp}{E:XK}{ef:LAO}{Z:L2.St}{a:Xo}(I:Inv (gf (CXE P w K) P w K mg base N qual scope f cd A outer s H E) ef Z H1 s1)(cl:XCl K B C fI n)(ha:s.heap.objs.size<=a)(ea:H1 a=U (.ext (X1 a C dx)))(ed:H1 dx=U (.xd [(n,v)]))
  (hE:∀T,E (.ref C) (U dx) (upd H1 a (.ext (X2 a C dx T)))):(gf (CXE P w K) P w K mg base N qual scope f cd A outer s H E).xe (.ref a) s1:=by
 obtain⟨⟨t0,fx⟩,_,_⟩:=(show bS P w H1 _ a _ from I.hok a _ ea)
 have lo:Loose (H1 a):=by rw[ea];trivial
 have big:∀b,b<_->b∉frs outer->b∉(gf _ P w K mg base N qual scope f cd A outer s H E).stack.filterMap _:=λb lt m z=>by
  rcases Gae.mp (I.nX b z) with e|z
  .exact absurd (Gah lt I.ok.above) ?H
  .exact m z
 refine Bk (tM I.ok.frames I.stack rfl fx (.inl rfl) λh' T ts fe n1 le ft q3 k1 k2=> ⟨a,B,C,fI,dx,T,n,v,upd H1 a _,rfl,cl,⟨I.os,I.bare,((show Un _ [] H H1 s.heap _ from I.base).past (λb ob lt q=>k1 b ob (Gas (Gah lt ha)) (λz=>by cases z) q) λb ob lt m q=>k2 b ob (Gas (Gah lt ha)) (λz=>by cases z) (big b lt m) q).lN lo,I.hok.lN lo (λb u nb z q=>k2 b u nb (λz=>by cases z) (λm=>z (I.kW b m)) q) (Jt ⟨t0,fe⟩),ha,GaH I.sz le,n1,aB,by rw[aq (BX ed ea (λz=>by cases z))];exact ed,⟨ts,ft,q3⟩, ?_⟩,hE T⟩);rw[aq n1];exact I.hok.fresh le
inductive RX where
 |ok (d:D)
 |exc (C:Nat) (n:Str) (d:D)
inductive OX where
 |o (x:Out)
 |x (C:Nat) (n:Str) (d:D)
abbrev DX:=Env->Option OX
@[simp] def rzX(C:Nat)(n:Str)(f:DE):DX:=λenv=>(f env).bind λr=>if r.d.imm then U (.x C n r.d) else J
noncomputable def RT(cs:List (Nat×Bool)):D->Option Bool
 | .exc C _ _=>cs.lookup C
 |_=>J
@[simp] def kh(cs:List (Nat×Bool))(f:DE):DT:=λenv=>(f env).bind λx=>RT cs x.d
noncomputable def Pk(cs:List Nat)(m:Str):D->Option RV
 | .exc C n d=>if cs.contains C=O/\n=m then U ⟨.c,d⟩ else J
 |_=>J
@[simp] def LK(cs:List Nat)(m:Str)(f:DE):DE:=λenv=>(f env).bind λx=>match x.k with
 | .c=>Pk cs m x.d
 |_=>J
def XW(K:ag)(H0:Hp)(E:XK)(C:Nat)(n:Str)(d:D):Prop:=∀v dx H',bp H0 H' ->H0 dx=J->H' dx=U (.xd [(n,v)])->Rep K (λ_=>True) H' d v->E (.ref C) (U dx) H'
def tX(X:Cx)(E:XK)(f:DX):TS:=λD Z H=>∃H0 eg env o,az X.K H0 eg env Z H/\f env=U o/\match o with
 | .o o=>Cr X H0 eg env Z H D o
 | .x C n d=>XW X.K H0 E C n d
theorem _root_.L2.PA.nox{X:Cx}(h:PA X.nox es t):PA X es t:=λpos ef s Z H Q I hw=>
 Gba (h pos ef s Z H Q (I.dQ _) hw) (λ_ _ ⟨v,H',I',r,q⟩=> ⟨v,H',I'.dM,r,q⟩) λ_ _ z=>False.elim z
section
variable{X:Cx}{E:XK}{f:DS}
def XL(X:Cx)(E:XK):Prop:=∀(ef:LAO) (Z:L2.St) (H:Hp) (s:Xr) (a B C f dx:Xo) (n:Str) (v:V),Inv X ef Z H s->XCl X.K B C f n->X.s₀.heap.objs.size<=a->H a=U (.ext (X1 a C dx))->H dx=U (.xd [(n,v)])->(∀T,E (.ref C) (U dx) (upd H a (.ext (X2 a C dx T))))->X.xe (.ref a) s
def Rep.told{K:ag}{H H' :Hp}{d:D}(r:Rep K F H d v)(hd:d.imm=O)(s:∀b o,H b=U o->isT o->H' b=U o):Rep K F' H' d v:=
 (r.imm hd).gen (λb o e z=>s b o e (z.resolve_left λq=>q)) λ_ q _=>q.elim
def Dy{f:DE}(cl:XCl X.K B C fI n)(F:cp X.prog X.w X.K X.mg X.base CX0 k fI fd ps (lM X.K B C n))(hr:cD (k+1) X.A)(hb:Binds X.K fd ps [])
  (hL:XL X E)(hg:Gl X cn)(hm:X.mg cn=U (.ref C))(he:PEd X.nox e f)(hZ:autoParam ((cn==("__debug__":Str))=M) Za2._auto_1)(hs:autoParam (starEach [e] X.env=(M,eval e X.env)::starEach [] X.env) Za1._auto_1):
  PS X (.Raise (U (.Call (.Name cn p1) [e] [] p2)) J p3) (tX X E (rzX C n f)):=by
 intro ef s Z H D I h;obtain⟨H0,eg,env,o,EO,eo,k⟩:=h;refine a9 eo λr hf eo=> ?_;split at eo
 .rename_i im;cases eo;refine Gab (wpAny_standAt (va hr.hd (Gab (thn (GbG (fQ I hg hm ?_ hZ)) λv s1 q=>Gab (wpAny_standAt (Gal q))))));have h0:Jh (tE X f) Kn Z H λvs H1=>∃v,vs=[v]/\bp H H1/\fU _ H0 eg env Z H H1 r v:=⟨H0,eg,env,r,EO,hf,λv H1 s1 R=> ⟨v,rfl,s1,R⟩⟩
  refine Gdd I.ok.mod.kin cl.kp (thn ((cM (PE.nox he) gO hs) p2 ef s Z H _ I h0) λus s1 ⟨vs,H1,I1,rr,v,ev,sm,R⟩=> ⟨I1.kIn, ?_⟩) hs rfl;subst ev;cases rr with
  |cons ru rr=>
   cases rr;refine thn (HE (Q:=λv2 H2=>∃a dx,_<=a/\H1 a=J/\H1 dx=J/\dx≠a/\v2= .ref a/\H2=upd (upd H1 a (.ext (X1 a C dx))) dx _) cl F hr hb wc I1 ru λa dx q1 q2 q3 q4=> ⟨a,dx,q1,q2,q3,q4,rfl,rfl⟩) λw s2 q0=> ?_;obtain⟨v2,H2,I2,rv,a,dx,q1,q2,q3,q4,e1,e2⟩:=q0;subst e1 e2;obtain rfl:w=Value.ref a:=rv;have ea:upd (upd H1 a (.ext (X1 a C dx))) dx (.xd [(n,v)]) a=U (.ext (X1 a C dx)):=by rw[aq (GaG q4)];exact aB
   obtain⟨x1,_,_⟩:=(show bS _ _ _ _ a _ from I2.hok a _ ea)
   refine⟨a,C,B,fI,n,dx,rfl,I2.kIn,cl,x1,hL ef Z _ s2 a B C fI dx n v I2 cl (GaH I1.sz q1) ea aB λT=> ?_⟩;have hS:bp H1 (upd (upd (upd H1 a (.ext (X1 a C dx))) dx (.xd [(n,v)])) a (.ext (X2 a C dx T))):=λb ob q=>by
    rw[aq (aX q q2),aq (aX q q3),aq (aX q q2)];exact q
   refine k v dx _ ((EO.same.trans sm).trans hS) ((EO.same.trans sm).free q3) (by rw[aq q4];exact aB) (((R.inn.imm im).same hS))
 .cases eo
end
def Pl{X:Cx}:Passes (CXE X.prog X.w X.K) X E0:=λ_ _ _ _ _ _ _ q=>by
 obtain⟨_,_,_,_,_,_,_,_,_,_,_,_,h⟩:=q;exact False.elim h
def nH.mono{K:ag}(k:nH H0 H env Z)(EO:az K H0 eg env Z H)(s:bp H H'):nH H0 H' env Z:=λj C ns ds ej a dx vs ea h ln=>by
 obtain⟨a3,Uv,Vg,q1,_,_,q4,q5,_⟩:=EO.mW ej;rw[ea] at q1;cases q1
 have:=s _ _ q4;rw[h] at this;injection this with this;injection this with _ _ this
 have:=zip_inj ln q5 this;subst this;exact k j C ns ds ej a Uv vs ea q4 q5
section
def fM(h:kg i env=U d):env[i]? =U (U (.lok d)):=by
 unfold kg at h;split at h
 .simp_all
 .cases h
variable{X:Cx}
def HF{apos eJ:Pos}(cl:L2.Cls X.K C)(na:cC X.K C n)(hN:X.N[i]? =U x)(hv:Vis X.env.scope x)(hd:(x==("__debug__":Str))=M)(xf:(x==("__classdict__":Str))=M)(he:PEd X.nox e f)(eZ:starEach [e] X.env=[(M,eval e X.env)])(eU:(apos.endLine==eJ.line)=O):
  PS X (.Expr (.Call (.Attribute (.Attribute (.Name x px) n fp) "append" apos) [e] [] eJ) pos) (tW X H0 Pn E (Bb i C n f)):=by
 refine(qI (sx Gcx PySem.F.slot_list_append PySem.F.type_list_append mj (uM (fi hN hv hd xf) rfl) (PA.nox (dk he gP eZ)) rfl (by rw[eZ];rfl) eU eZ rfl) rfl).aA ?_;rintro D Z H ⟨env,o,⟨eg,EO,p,k⟩,e,ok⟩;refine a9 e λr hr e=> ?_;split at e
 .rename_i q;obtain⟨d',xp,rfl⟩:=Gaa.mp e;refine a9 xp λd hl hp=> ?_;have el:=fM hl;obtain⟨a,dx,fs,g0,us,l,l',ea,ha,hg,yI,_⟩:=bG.kid EO p k q.2 el hp;refine⟨_,ea,a,C,dx,fs,.ref g0,rfl,ha,cl,na,hg,.inl ⟨rfl,us,.inl (.inl yI)⟩,H0,eg,env,[r],EO,by unfold ak aM;rw[hr];rfl,λws H2 s2 Rs=> ?_⟩;cases Rs with
  | @cons _ v _ _ R1 tl=>
   cases tl;obtain⟨a',zJ,WR,g',xX,l2,W4,yX,zE,yS,yR,rs,yA,im,fin⟩:=bG.kid (EO.mono s2) p (k.mono EO s2) q.2 el hp;rw[ea] at yX;cases yX;have:=s2 _ _ ha;rw[zE] at this;cases this;rw[hg] at yS;cases yS;unfold kG at yA;split at yA
   .rename_i sz;cases yA;exact⟨g0,xX,v,rfl,rfl,yR,by rw[<-rs.1];exact sz,(ok Z _ (fin _ (rs.append (.cons (R1.inn.imm q.1) .nil))))⟩
   .cases yA
 .cases e
def Dz{pos:Pos}(cl:L2.Cls X.K C)(na:cC X.K C n)(hu:X.A.units+1<cLine)(hN:X.N[i]? =U x)(hv:Vis X.env.scope x)(hd:(x==("__debug__":Str))=M)(xf:(x==("__classdict__":Str))=M)(he:PEd X.nox e f)(hk:PEd X.nox k (kE (.int (-1))))(hs:swapsWith e (U (.Subscript (.Attribute (.Name x px) n fp) k p2)) pos.line X.env=pure M):
  PS X (.Assign [.Subscript (.Attribute (.Name x px) n fp) k p2] e pos) (tW X H0 Pn E (mX i C n f)):=by
 refine(D9 hu (uM (fi hN hv hd xf) rfl) (PE.nox hk) (PE.nox he) hs).aA ?_;rintro D Z H ⟨env,o,⟨eg,EO,p,kn⟩,e,ok⟩;refine a9 e λr hr e=> ?_;split at e
 .rename_i q;obtain⟨d',xp,rfl⟩:=Gaa.mp e;refine a9 xp λd hl hp=> ?_;have el:=fM hl;refine⟨H0,eg,env,r,EO,hr,λv H2 s2 R1=> ?_⟩;have E2:=EO.mono s2;have k2:=kn.mono EO s2;obtain⟨a,dx,fs,g0,us,l,l',ea,ha,hg,yI,_⟩:=bG.kid (Pn:=Pn) E2 p k2 q.2 el hp;refine⟨_,ea,a,C,dx,fs,.ref g0,rfl,ha,cl,na,hg,H0,eg,env,_,E2,rfl,λw H3 s3 R3=> ?_⟩;have E3:=E2.mono s3;have k3:=k2.mono E2 s3;obtain⟨a',zJ,WR,g',xX,l2,W4,yX,zE,yS,yR,rs,yw,im,fin⟩:=bG.kid (Pn:=Pn) E3 p k3 q.2 el hp;rw[ea] at yX;cases yX
  have:=s3 _ _ ha;rw[zE] at this;cases this
  rw[hg] at yS;cases yS
  have iw:=R3.inn;cases iw;unfold ij at yw;split at yw
  .cases yw
  .rename_i nz;cases yw;have lz:=rs.1;refine⟨g0,xX,-1,xX.length -1,rfl,rfl,yR, ?_, ?_⟩
   .unfold ixN;rw[Gau ?B,Gaj ?B];exact congrArg U ?B
   .have:=fin _ (rs.set (Rep.imp (λ_ z=>z.elim) ((R1.inn.same s3).imm (F' :=λ_=>False) q.1)) (l2.length -1));rw[lz] at this;exact ok Z _ (lz▸this)
 .cases e
end
def rf(C:Nat)(n:Str)(d:D):D->Option D
 | .obj C' ns ds=>if C' =C/\iH ds=O/\ns.length<1000/\l9 d=M then(ns.findIdx? λm=>m==n).bind λk=>match ds[k]? with
  |some (.kid _)=>J
  |some _=>U (.obj C ns (ds.set k d))
  |none=>J
  else J
 |_=>J
@[simp] def HG(i C:Nat)(n:Str)(f:DE):DW:=Hr i (rf C n) f
theorem tP:∀{ns:List Str} {vs:List V} {k:Nat},ns.length=vs.length->(ns.findIdx? λm=>m==n)=U k->iE n y (ns.zip vs)=ns.zip (vs.set k y)
 |[],vs,k,_,h=>by simp at h
 |m::ns,[],k,l,_=>by simp at l
 |m::ns,v::vs,k,l,h=>by
  rw[GbH] at h;rw[Gbt];unfold iE;cases q:m==n with
  |true=>rw[q] at h;cases h;rw[Gaj (GaU.mp q)];rfl
  |false=>
   rw[q] at h;obtain⟨j,hj,rfl⟩:=Gaa.mp h;rw[Gau (Gbg.mp q),tP ?H hj]
   rfl
def bG.fld{K:ag}{H:Hp}{env:Env}{i:Nat}{x:D}(EO:az K H0 eg env Z H)(pn:Pnd Pn env Z)(kn:nH H0 H env Z)(fl:jt [i] env=O)(e:env[i]? =U (U (.lok d)))(im:x.imm=O)(rx:Rep K (Cln eg env Z) H x v)(hp:rf C n x d=U d'):
  ∃a dx fs,Z[i]? =U (U (.ref a))/\H a=U (.ins C dx fs)/\fs.length<1000/\bG K H0 Pn (env.set i (U (.lok d'))) Z (upd H a (.ins C dx (iE n v fs))):=by
 unfold rf at hp;split at hp
 .rename_i C' ns ds;split at hp
  .rename_i q;obtain⟨rfl,hf,hn,sc⟩:=q;refine a9 hp λk hk hp=> ?_;have:∃d0,ds[k]? =U d0/\(∀l,d0≠ .kid l)/\d' = .obj C' ns (ds.set k x):=by
    split at hp
    .cases hp
    .rename_i d0 nk e0;cases hp;exact⟨d0,e0,λl z=>nk l z,rfl⟩
    .cases hp
   obtain⟨d0,hl,nk,rfl⟩:=this;obtain⟨a,dx,vs,ea,z0,zb,ha,ln,kd,rs⟩:=EO.mW e;refine⟨a,dx,_,ea,ha,by rw[List.length_zip,<-ln];lia, ?_⟩;rw[tP ln hk];have yk :k<_:=(Gac.mp hl).1;have hkv:k<vs.length:=by rw[<-rs.1];exact yk
   generalize hu:HO.ins C' dx _=u;have stT:∀b o,H b=U o->isT o->upd H a u b=U o:=λb o eb t=>by
    rwa[aq]
    rintro rfl;rw[ha] at eb;cases eb;exact t
   have xim:∀l,x≠ .kid l:=λl z=>by subst z;simp[D.imm] at im
   have inn:Inn K (Cln eg env Z) (upd H a u) (.obj C' ns (ds.set k x)) (.ref a):=by
    refine .obj (vs:=vs.set k v) (by rw[aB,hu]) ?H (λy z l2 g2 e1 e2 e3=> ?_) ⟨by simpa using rs.1,λj dj vj e1 e2=> ?_⟩
    .have ny:k≠y:=λw=>by subst w;rw[GaD yk] at e1;cases e1;exact xim _ rfl
     rw[Gad ny] at e1 e2;by_cases w:k=z
     .subst w;rw[GaD hkv] at e3;cases e3;exfalso;cases rx with
      |tup h l r=>obtain⟨vv,q1,q2⟩:=rs.get e1;rw[e2] at q1;cases q1;cases q2 with|kid f h2 l2 r2=>rw[h] at h2;cases h2
      |scr h=>cases sc
      |kt h=>cases sc
      |exc h r=>cases sc
      |lst f h l r=>simp[D.imm] at im
      |obj f h ln kd l r=>simp[D.imm] at im
      |kid f h l r=>simp[D.imm] at im
     .rw[Gad w] at e3;exact kd y z l2 g2 e1 e2 e3
    .by_cases w:k=j
     .subst w;rw[GaD yk] at e1;cases e1;rw[GaD hkv] at e2;cases e2;exact rx.cI stT im
     .rw[Gad w] at e1 e2;have fj:=Gan.mp hf dj (GaC e1);have rj:=rs.2 j dj vj e1 e2;cases rj with
      | @kid g2 us2 l2 f2 h2 ll r2=>
       have:=aP.cI (K:=K) (F:=Cln eg env Z) (F' :=Cln eg env Z) (ds:=l2) (vs:=us2) stT ⟨ll,r2⟩ fj;exact .kid f2 (by rw[aq (λz=>by subst z;rw[ha] at h2;cases h2)];exact h2) this.1 this.2
      |obj f h ln kd l r=>simp[D.imm] at fj
      |lst f h l r=>simp[D.imm] at fj
      |non=>exact .non
      |bl b=>exact .bl b
      |int i=>exact .int i
      |str x=>exact .str x
      |tup h l r=>exact(Rep.tup h l r).cI stT fj
      |scr h=>exact(Rep.scr (F:=Cln eg env Z) h).cI stT fj
      |kt h=>exact .kt h
      |exc h r=>exact(Rep.exc h r).cI stT fj
   have re:ReE [i] (λ_=> .obj C' ns _) env (env.set i (U (.lok (.obj C' ns (ds.set k x))))):=⟨by simp,λj hj=>Gad (by rintro rfl;simp at hj),λj hj=>by
    obtain rfl:j=i:=by simpa using hj
    exact⟨_,.inr ⟨e,bZ ((Gac.mp e).1)⟩⟩⟩
   have hH:∀b o,H b=U o->upd H a u b=U o\/b=a:=λb o eb=>by
    by_cases z:b=a
    .exact .inr z
    .left
     rwa[aq z]
   refine bG.flat EO pn kn (EO.flat (A:=_) fl re hH (λb hb=> ?_) λj hj a' e' => ?_) re hH (λb hb=> .inl ⟨i,by simp,by rw[hb];exact ea⟩) λj hj C2 Vm xr z a' VN yY e' h2 ln2 k2 l2 g2 e3 e4=> ?_
   .subst hb;exact⟨z0,.inl ⟨i,by simp,ea⟩,λo eo=>by rw[ha] at eo;cases eo;trivial⟩
   .obtain rfl:j=i:=by simpa using hj
    rw[ea] at e';cases e';exact⟨⟨u,aB,by rw[<-hu];trivial⟩,rfl,inn⟩
   .obtain rfl:j=i:=by simpa using hj
    cases z;rw[ea] at e';cases e';rw[aB,<-hu] at h2;injection h2 with h2
    injection h2 with _ _ h2
    have:=zip_inj ?H ln2 h2;subst this;have ny:k≠k2:=λw=>by subst w;rw[GaD yk] at e3;cases e3;exact xim _ rfl
    rw[Gad ny] at e3 e4;exact kn j C' ns ds e a dx vs ea ha ln k2 l2 g2 e3 e4
  .cases hp
 .cases hp
def HH{X:Cx}{pos:Pos}(cl:L2.Cls X.K C)(na:cC X.K C n)(hN:X.N[i]? =U x)(hv:Vis X.env.scope x)(hd:(x==("__debug__":Str))=M)(xf:(x==("__classdict__":Str))=M)(he:PEd X.nox e f)(hs:swapsWith e (U (.Attribute (.Name x px) n fp)) pos.line X.env=pure M):
  PS X (.Assign [.Attribute (.Name x px) n fp] e pos) (tW X H0 Pn E (HG i C n f)):=by
 refine(uN (fi hN hv hd xf) (PE.nox he) hs).aA ?_;rintro D Z H ⟨env,o,⟨eg,EO,p,kn⟩,e,ok⟩;refine a9 e λr hr e=> ?_;split at e
 .rename_i q;obtain⟨d',xp,rfl⟩:=Gaa.mp e;refine a9 xp λd hl hp=> ⟨H0,eg,env,r,EO,hr,λv H2 s2 R1=> ?_⟩;obtain⟨a,dx,fs,ea,ha,hz,fin⟩:=bG.fld (EO.mono s2) p (kn.mono EO s2) q.2 (fM hl) q.1 (R1.inn.imm q.1) hp;exact⟨_,ea,a,C,dx,fs,rfl,ha,cl,na,hz,ok Z _ fin⟩
 .cases e
def lO(Xd:List Nat)(k:Nat)(d:D):Slot:=if Xd.contains k then .lok d else if d.top then .bor d else .sh d
def cO(Xd:List Nat)(n:Nat)(ds:List D):Env:=(ds.mapIdx λk d=>U (lO Xd k d))++List.replicate (n -ds.length) J
def argsOk(Xd:List Nat)(ds:List D):Bool:=(List.range ds.length).all λk=>Xd.contains k||match ds[k]? with
 |some d=>d.bI
 |none=>O
def flK:D->Bool
 | .obj _ _ ds=>iH ds
 |d=>d.bI
def ki(e:Env):List Nat->Option (List D)
 |[]=>U []
 |j::Xd=>(kg j e).bind λd=>if flK d then(ki e Xd).map λls=>d::ls else J
def tQ(Xd:List Nat):mB->Option (D×List D)
 | .ret d e=>(ki e Xd).map λls=>(d,ls)
 | .nx e=>(ki e Xd).map λls=>(.non,ls)
 |_=>J
def gZ(n np:Nat)(Xd:List Nat)(body:DW):SpX:=λds=>if ds.length=np/\argsOk Xd ds=O then(body (cO Xd n ds)).bind (tQ Xd) else J
def vb(K:ag)(A:Xo->Prop)(Xd:List Nat)(vs:List V)(H:Hp)(d:D)(v:V):Prop:=∃a,v= .ref a/\A a/\Wr H a/\d.top=O/\Inn K (λb=>A b/\∀j∈Xd,vs[j]? ≠U (.ref b)) H d v
def DB(K:ag)(A:Xo->Prop)(H:Hp)(d:D)(v:V):Prop:=(d.top=O/\∃a,v= .ref a/\¬A a/\Wb H a/\Inn K (λb=>¬A b) H d v)\/(d.top=M/\Rep K (λb=>¬A b) H d v)
def DC(K:ag)(A:Xo->Prop)(Xd:List Nat)(vs:List V)(H H' :Hp)(ls:List D):Prop:=∀(m j:Nat) l,Xd[m]? =U j->ls[m]? =U l->∃a,vs[j]? =U (.ref a)/\Wr H' a/\l.top=O/\flK l=O/\Inn K (λb=>(A b\/H b=J)/\∀j∈Xd,vs[j]? ≠U (.ref b)) H' l (.ref a)
noncomputable def spW(K:ag)(np:Nat)(Xd:List Nat)(sp:SpX):Sp:=λvs H Q _=>∃ds d ls A,ds.length=np/\ds.length=vs.length/\sp ds=U (d,ls)/\(∀b,A b->H b≠J)/\
 (∀(k:Nat) d v,ds[k]? =U d->vs[k]? =U v->(k∈Xd/\vb K A Xd vs H d v)\/(k∉Xd/\DB K A H d v))/\(∀i∈Xd,∀j∈Xd,∀v,vs[i]? =U v->vs[j]? =U v->i=j)/\
 ∀v H',(∀b o,H b=U o->¬A b->H' b=U o)->Rep K (λ_=>False) H' d v->ls.length=Xd.length->DC K A Xd vs H H' ls->Q v H'
open Classical in
noncomputable def hole(A:Xo->Prop)(H:Hp):Hp:=λb=>if A b then J else H b
def wH(h:A b):hole A H b=J:=by unfold hole;rw[Gaj h]
def oB(h:¬A b):hole A H b=H b:=by unfold hole;rw[Gau h]
def DD(e:hole A H b=U o):H b=U o:=by
 unfold hole at e;split at e
 .cases e
 .exact e
theorem oC:∀{Xd:List Nat} {ls:List D},ki e Xd=U ls->ls.length=Xd.length/\∀(m j:Nat) l,Xd[m]? =U j->ls[m]? =U l->e[j]? =U (U (.lok l))/\flK l=O
 |[],ls,h=>by cases h;exact⟨rfl,λm j l q=>by simp at q⟩
 |j::Xd,ls,h=>by
  unfold ki at h;refine a9 h λd hd h=> ?_;split at h
  .rename_i fk;obtain⟨r,hr,rfl⟩:=Gaa.mp h;obtain⟨a1,a2⟩:=oC hr;refine⟨by simp[a1],λm i l q1 q2=> ?_⟩;cases m with
   |zero=>simp at q1 q2;subst q1;subst q2;exact⟨fM hd,fk⟩
   |succ m=>exact a2 m i l (by simpa using q1) (by simpa using q2)
  .cases h
def Bm(e:(cO Xd n ds)[k]? =U (U s)):∃d,ds[k]? =U d/\s=lO Xd k d:=by
 unfold cO at e;by_cases hk:k<ds.length
 .rw[GaM ?H,List.getElem?_mapIdx] at e;obtain⟨d,h1,h2⟩:=Gaa.mp e;exact⟨d,h1,by injection h2 with h2;exact h2.symm⟩
 .rw[GaK ?H,GbC] at e;split at e<;>cases e
def tR{k:Nat}(h:vs[k]? =U v):(start N vs)[k]? =U (U v):=by
 unfold L2.start;rw[GaM (by simpa using((Gac.mp h).1)),Gam,h]
 rfl
def oE{K:ag}{A:Xo->Prop}{N:List Str}{ds:List D}{vs:List V}{H:Hp}(hl:ds.length<=N.length)(l:ds.length=vs.length)(ha:argsOk Xd ds=O)(hA:∀b,A b->H b≠J)
  (zf:∀k d v,ds[k]? =U d->vs[k]? =U v->(k∈Xd/\vb K A Xd vs H d v)\/(k∉Xd/\DB K A H d v))(hd:∀i∈Xd,∀j∈Xd,∀v,vs[i]? =U v->vs[j]? =U v->i=j):
  az K (hole A H) (λ_=>False) (cO Xd N.length ds) (start N vs) H/\nH (hole A H) H (cO Xd N.length ds) (start N vs):=by
 have okr:∀{k d},ds[k]? =U d->k∉Xd->d.bI=O:=λ{k d} e nj=>by
  have hk:=(Gac.mp e).1;have:=Gan.mp ha k (GaZ.mpr hk);rw[GaW,e] at this;exact this.resolve_left λz=>nj (by simpa using z)
 have at_:∀{k s},(cO Xd N.length ds)[k]? =U (U s)->∃d v,ds[k]? =U d/\vs[k]? =U v/\(start N vs)[k]? =U (U v)/\s=lO Xd k d/\((k∈Xd/\s= .lok d/\vb K A Xd vs H d v)\/(k∉Xd/\d.top=O/\s= .bor d/\∃a,v= .ref a/\¬A a/\Wb H a/\Inn K (λb=>¬A b) H d v)\/(k∉Xd/\d.top=M/\s= .sh d/\Rep K (λb=>¬A b) H d v)):=λ{k s} e=>by
  obtain⟨d,h1,rfl⟩:=Bm e;have hk:=(Gac.mp h1).1;have hv:vs[k]? =U vs[k]:=Gag (by rw[<-l];exact hk);refine⟨d,_,h1,hv,tR hv,rfl, ?_⟩;rcases zf k d _ h1 hv with⟨h,z⟩| ⟨h,⟨t,z⟩| ⟨t,z⟩⟩
  .exact .inl ⟨h,by unfold lO;rw[Gaj (by simpa using h)],z⟩
  .exact .inr (.inl ⟨h,t,by unfold lO;rw[Gau (by simpa using h),Gaj t],z⟩)
  .exact .inr (.inr ⟨h,t,by unfold lO;rw[Gau (by simpa using h),Gau (by rw[t];simp)],z⟩)
 have hU:∀{j b},bJ (cO Xd N.length ds)[j]? ->(start N vs)[j]? =U (U (.ref b))->vs[j]? =U (.ref b)/\((j∈Xd/\A b)\/¬A b):=λ{j b} t ej=>by
  match e:(cO Xd N.length ds)[j]?,t with
  |some (U s),t=>
   obtain⟨d,v,_,q2,q3,_,q⟩:=at_ e;rw[q3] at ej;cases ej
   refine⟨q2, ?_⟩;rcases q with⟨h,_,a,z,aa,_⟩| ⟨_,_,_,a,z,aa,_⟩| ⟨_,_,rfl,_⟩
   .cases z;exact .inl ⟨h,aa⟩
   .cases z;exact .inr aa
   .exact t.elim
 have cln:∀b,A b/\(∀j∈Xd,vs[j]? ≠U (.ref b))->Cln (λ_=>False) (cO Xd N.length ds) (start N vs) b:=λb h=> ⟨λz=>z,λj t ej=>by
  obtain⟨q1,⟨q2,_⟩|q2⟩:=hU t ej
  .exact h.2 j q2 q1
  .exact q2 h.1⟩
 refine⟨⟨λb o e=>DD e,by simp[DL.cO,L2.start,l],λ_ h=>h.elim,λk d e=> ?_,λk d e=> ?_,λk d e=> ?_,λi j b t1 t2 e1 e2=> ?_⟩,λk C ns ks e a dx us ea h ln m l g e1 e2=> ?_⟩
 .obtain⟨d0,v,q1,q2,q3,_,q⟩:=at_ e;rcases q with⟨_,z,_⟩| ⟨_,_,z,_⟩| ⟨nj,t,z,r⟩
  .cases z
  .cases z
  .cases z;have:=okr q1 nj;have im:d.imm=O:=by cases d<;>first|exact this|cases t
   exact⟨v,q3,r.imm im⟩
 .have e' :∃s,(cO Xd N.length ds)[k]? =U (U s)/\(s= .own d\/s= .lok d):=e.elim (λe=> ⟨_,e,.inl rfl⟩) λe=> ⟨_,e,.inr rfl⟩;obtain⟨s,e',hs⟩:=e';obtain⟨d0,v,q1,q2,q3,_,q⟩:=at_ e';rcases q with⟨_,z,a,rfl,aa,w,t,i⟩| ⟨_,_,z,_⟩| ⟨_,_,z,_⟩
  .rcases hs with hs|hs
   .rw[z] at hs;cases hs
   .rw[z] at hs;cases hs
    exact⟨a,q3,wH aa,λz=>z,w,t,i.imp cln⟩
  .rcases hs with hs|hs<;>rw[z] at hs<;>cases hs
  .rcases hs with hs|hs<;>rw[z] at hs<;>cases hs
 .obtain⟨d0,v,q1,q2,q3,_,q⟩:=at_ e;rcases q with⟨_,z,_⟩| ⟨nj,t,z,a,rfl,na,w,i⟩| ⟨_,_,z,_⟩
  .cases z
  .cases z;exact⟨a,q3,w,t,i.cI (λ_ _ q _=>q) t (okr q1 nj) rfl⟩
  .cases z
 .obtain⟨q1,z1⟩:=hU t1.top e1;obtain⟨q2,z2⟩:=hU t2 e2
  match e:(cO Xd N.length ds)[i]?,t1 with
  |some (U s),t1=>
   obtain⟨d,v,p1,p2,_,_,q⟩:=at_ e;rcases q with⟨h,_,a,z,aa,_⟩| ⟨_,_,rfl,_⟩| ⟨_,_,rfl,_⟩
   .rw[q1] at p2;cases p2;cases z
    rcases z2 with⟨hj,_⟩|na
    .exact hd i h j hj _ q1 q2
    .exact absurd aa na
   .exact t1.elim
   .exact t1.elim
 .obtain⟨d0,v,q1,q2,q3,_,q⟩:=at_ e;rcases q with⟨_,z,a',rfl,aa,w,t,i⟩| ⟨_,_,z,_⟩| ⟨_,_,z,_⟩
  .cases z;rw[q3] at ea;cases ea
   cases i with
   |obj h' ln' kd r=>
    rw[h] at h';injection h' with h';injection h' with _ _ h'
    have:=zip_inj ln ln' h';subst this;obtain⟨vv,w1,w2⟩:=r.get e1;rw[e2] at w1;cases w1
    cases w2 with
    |kid f _ _ _=>exact wH f.1
  .cases z
  .cases z
def oF{K:ag}{F F' :Xo->Prop}{H:Hp}{l:D}(h:Inn K F H l (.ref a))(t:l.top=O)(fk:flK l=O)(hk:∀C ns ds,l= .obj C ns ds->∀dx vs,H a=U (.ins C dx (ns.zip vs))->ns.length=vs.length->∀(k:Nat) q g,ds[k]? =U (.kid q)->vs[k]? =U (.ref g)->F g->H g≠J->F' g):Inn K F' H l (.ref a):=by
 cases h with
 |lst h r=>exact .lst h (r.imm fk)
 | @obj _ dx C ns vs ds h ln kd r=>
  refine .obj h ln kd ⟨r.1,λj dj vj e1 e2=> ?_⟩;have fj:=Gan.mp fk dj (GaC e1);have rj:=r.2 j dj vj e1 e2;cases rj with
  | @kid g us l2 f2 h2 ll r2=>exact .kid (hk C ns ds rfl dx vs h ln j l2 g e1 e2 f2 ?B) h2 ll λi d v q1 q2=>(r2 i d v q1 q2).imm (qV fj i d q1)
  |obj f h ln kd l r=>simp at fj
  |lst f h l r=>simp at fj
  |non=>exact .non
  |bl b=>exact .bl b
  |int i=>exact .int i
  |str x=>exact .str x
  |tup h l r=>exact(Rep.tup h l r).imm fj
  |scr h=>exact .scr h
  |kt h=>exact .kt h
  |exc h r=>exact(Rep.exc h r).imm fj
 |_=>simp[D.top] at t
def LL{K:ag}{fd:XA}{N ps:List Str}{k:Nat}(F:Fun K x qual sd fa fd)(S:dh N ps (av sd))(yj:ps.length=np)(hJ:∀j∈Xd,j<np)
  (xg:∀eQ A outer s H E,cD k (A.deeper (envOfC qual (av sd) s.heap.objs.size fa eQ))->∀H0 Pn E',
   PSs (gf CX0 P w K mg base N qual (av sd) fa eQ A outer s H E) (bY sd) (tW (gf CX0 P w K mg base N qual (av sd) fa eQ A outer s H E) H0 Pn E' body)):cp P w K mg base CX0 (k+1) fa fd ps (spW K np Xd (gZ N.length np Xd body)):=by
 obtain⟨oc,od,kV,doc,pm,an,eQ,ct,yD,rfl,lk,xf⟩:=F.ex;refine Cg lk xf S (λvs H Q E h=> ?_) λA outer s H vs Q E hr h=> ?_
 .obtain⟨ds,_,_,_,h1,h2,_⟩:=h;rw[<-h2,h1,yj]
 .obtain⟨ds,d,ls,AA,h1,h2,h3,h4,h5,h6,fin⟩:=h;unfold gZ at h3;split at h3
  .rename_i q;refine a9 h3 λo ho h3=> ?_;have hl:ds.length<=N.length:=by
    have:=congrArg List.length S.pre;rw[GaS] at this;lia
   obtain⟨EO,kn⟩:=oE hl h2 q.2 h4 h5 h6;refine⟨_,xg eQ A outer s H E hr _ (λk v=>k∈Xd/\vs[k]? =U v) (λ_ _ _=>False),cO Xd _ ds,o,⟨_,EO,λp v z _=>tR z.2,kn⟩,ho, ?_⟩;have back:∀{e:Env} {Z:L2.St} {H' :Hp} {ls:List D},bG K (hole AA H) (λk v=>k∈Xd/\vs[k]? =U v) e Z H' ->ki e Xd=U ls->_/\_=_/\DC K AA Xd vs H H' ls:=λ{e Z H' ls} EW yG=>by
    obtain⟨eg,E1,pn,kn⟩:=EW;obtain⟨z1,z2⟩:=oC yG;refine⟨λb o eb na=>E1.same b o (by rw[oB na];exact eb),z1,λm j l e1 e2=> ?_⟩;obtain⟨z3,z4⟩:=z2 m j l e1 e2;have Vu:=GaC e1;obtain⟨a,q1,_,_,q4,q5,q6⟩:=E1.ow j l (.inr z3);have pin:∀i∈Xd,∀b,vs[i]? =U _->pC e[i]? /\Z[i]? =U (U (.ref b)):=λi hi b hb=>by
     obtain⟨m',hm⟩:=GaV hi;obtain⟨z5,_⟩:=z2 m' i _ hm (Gag (by rw[z1];exact(Gac.mp hm).1));have lb:pC e[i]? :=by rw[z5];trivial
     exact⟨lb,pn i _ ⟨hi,hb⟩ lb⟩
    have hjl:j<vs.length:=by rw[<-h2,h1];exact hJ j Vu
    have hv:vs[j]? =U vs[j]:=Gag hjl;have:=pn j _ ⟨Vu,hv⟩ (by rw[z3];trivial);rw[q1] at this;injection this with this
    rw[<-this] at hv;refine⟨a,hv,q4,q5,z4,oF q6 q5 z4 λC ns ds z dx us ha ln k q g w1 w2 cg _=> ⟨?_,λi hi y=> ?_⟩⟩
    .subst z;have:=kn j C ns ds z3 a dx us q1 ha ln k q g w1 w2;by_cases y:AA g
     .exact .inl y
     .rw[oB y] at this;exact .inr this
    .obtain⟨y1,y2⟩:=pin i hi g y;exact cg.2 i y1.top y2
   cases o with
   |ret d' e=>
    obtain⟨W3,yG,z⟩:=Gaa.mp h3;cases z
    exactλv Z H' EW r=>let⟨b1,b2,b3⟩:=back EW yG;fin v H' b1 r b2 b3
   |nx e=>
    obtain⟨W3,yG,z⟩:=Gaa.mp h3;cases z
    exactλZ H' EW=>let⟨b1,b2,b3⟩:=back EW yG;fin .non H' b1 .non b2 b3
   |bk e=>cases h3
   |ct e=>cases h3
   |ex C n d=>cases h3
  .cases h3
inductive AW where
 |lent (j:Nat)
 |name (j:Nat)
 |val (f:DE)
noncomputable def k9(j:Nat)(env:Env):Option D:=match env[j]? with
 |some (U (.own d))=>U d
 |some (U (.lok d))=>U d
 |some (U (.bor d))=>U d
 |_=>J
def iT(j:Nat)(env:Env):Option D:=match env[j]? with
 |some (U (.own d))=>if d.bI then U d else J
 |some (U (.lok d))=>if flK d then U d else J
 |_=>J
def Bo(env:Env):AW->Option D
 | .lent j=>iT j env
 | .name j=>(k9 j env).bind λd=>if d.bI then U d else J
 | .val f=>(f env).bind λr=>if r.d.imm then U r.d else J
def mY(env:Env):List AW->Option (List D)
 |[]=>U []
 |a::as=>(Bo env a).bind λd=>(mY env as).map λds=>d::ds
noncomputable def dK(k:Nat):List AW->List Nat
 |[]=>[]
 | .lent _::as=>k::dK (k+1) as
 |_::as=>dK (k+1) as
noncomputable def c9:List AW->List Nat
 |[]=>[]
 | .lent j::as=>j::c9 as
 |_::as=>c9 as
noncomputable def kj:List AW->List Nat
 |[]=>[]
 | .name j::as=>j::kj as
 |_::as=>kj as
def pF:List Nat->List D->Env->Env
 |j::js,l::ls,env=>pF js ls (env.set j ((env[j]?.getD J).map (Slot.put l)))
 |_,_,env=>env
def dR(sp:SpX)(as:List AW)(env:Env):Option (D×Env):=if jt (c9 as) env=O/\(c9 as).Nodup/\∀j∈kj as,j∉c9 as then
  (mY env as).bind λds=>(sp ds).bind λr=>if r.1.imm then U (r.1,pF (c9 as) r.2 env) else J
 else J
abbrev DXW:=Env->Option (D×Env)
def tXw(X:Cx)(H0:Hp)(Pn:Nat->V->Prop)(m:DXW):TE:=λZ H Q=>∃env d eD,bG X.K H0 Pn env Z H/\m env=U (d,eD)/\∀v H',bG X.K H0 Pn eD Z H' ->d.imm=O->Rep X.K (λ_=>False) H' d v->Q v H'
def Po(K:ag)(Z:St)(H:Hp)(d:D)(v:V):AW->Prop
 | .lent j=>Z[j]? =U (U v)
 | .name j=>Z[j]? =U (U v)
 | .val _=>d.imm=O/\Rep K (λ_=>False) H d v
def DF(K:ag)(Z:St)(H:Hp):List AW->List D->List V->Prop
 |[],[],[]=>True
 |a::as,d::ds,v::vs=>Po K Z H d v a/\DF K Z H as ds vs
 |_,_,_=>False
def tAw(X:Cx)(as:List AW):TA:=λZ H Q=>∃H0 eg env ds,az X.K H0 eg env Z H/\mY env as=U ds/\∀vs H',bp H H' ->DF X.K Z H' as ds vs->Q vs H'
def LM:PA X [] (tAw X []):=gO.aA λZ H Q ⟨_,_,_,ds,_,h,k⟩=>by cases h;exact k [] H bw trivial
def LN{X:Cx}(he:PEd X.nox e f)(hr:PA X es (tAw X as))(hs:starEach (e::es) X.env=(M,eval e X.env)::starEach es X.env):PA X (e::es) (tAw X (.val f::as)):=by
 refine(cM (PE.nox he) hr hs).aA (λZ H Q q0=>bP q0 λH0 eg env ds EO h k=>a9 h λd hd h=> ?_);obtain⟨r,hr,rfl⟩:=Gaa.mp h;refine a9 hd λu hu hd=> ?_;split at hd
 .rename_i im;cases hd;refine⟨H0,eg,env,u,EO,hu,λv H1 s1 R=> ⟨H0,eg,env,r,EO.mono s1,hr,λvs H2 s2 A=>k _ H2 (s1.trans s2) ⟨⟨im,(R.inn.same s2).imm im⟩,A⟩⟩⟩
 .cases hd
def DH{X:Cx}(ha:a= .lent j\/a= .name j)(hN:X.N[j]? =U x)(hv:Vis X.env.scope x)(hd:(x==("__debug__":Str))=M)(xf:(x==("__classdict__":Str))=M)(hr:PA X es (tAw X as))(hs:starEach (.Name x p::es) X.env=(M,eval (.Name x p) X.env)::starEach es X.env):PA X (.Name x p::es) (tAw X (a::as)):=by
 refine(cM (fi hN hv hd xf) hr hs).aA ?_
 refineλZ H Q q0=>bP q0 λH0 eg env ds EO h k=> ?_
 refine a9 h λd hd h=> ?_;obtain⟨r,hr,rfl⟩:=Gaa.mp h;have:∃v,Z[j]? =U (U v):=by
  have top:bJ env[j]? :=by
   rcases ha with rfl|rfl
   .have hd:iT j env=U d:=hd;unfold iT at hd;split at hd
    .rename_i q;rw[q];trivial
    .rename_i q;rw[q];trivial
    .cases hd
   .refine a9 hd λd' xp _=> ?_;unfold k9 at xp;split at xp
    .rename_i q;rw[q];trivial
    .rename_i q;rw[q];trivial
    .rename_i q;rw[q];trivial
    .cases xp
  obtain⟨_,a,_,h,_⟩:=EO.k9 top;exact⟨_,h⟩
 obtain⟨v,hv⟩:=this;refine⟨v,hv,H0,eg,env,r,EO,hr,λvs H2 s2 A=>k _ H2 s2 ⟨?_,A⟩⟩;rcases ha with rfl|rfl<;>exact hv
theorem wI{K:ag}:∀{as:List AW} {ds:List D} {vs:List V},DF K Z H as ds vs->mY env as=U ds->as.length=ds.length/\ds.length=vs.length/\∀(k:Nat) d v,ds[k]? =U d->vs[k]? =U v->∃a,as[k]? =U a/\Po K Z H d v a/\Bo env a=U d
 |[],[],[],_,_=> ⟨rfl,rfl,λk d v e=>by simp at e⟩
 |a::as,d::ds,v::vs,h,q=>by
  refine a9 q λd' hd q=> ?_;obtain⟨r,hr,z⟩:=Gaa.mp q;cases z;obtain⟨a1,a2,a3⟩:=wI h.2 hr;refine⟨by simp[a1],by simp[a2],λk d v e1 e2=> ?_⟩;cases k with
  |zero=>simp at e1 e2;subst e1;subst e2;exact⟨a,rfl,h.1,hd⟩
  |succ k=>exact a3 k d v ?H (by simpa using e2)
theorem jN:∀{as o k},k∈dK o as↔∃i j,k=o+i/\as[i]? =U (.lent j)
 |[],o,k=>by simp[dK]
 |a::as,o,k=>by
  have ih:= @jN as (o+1) k;have st:(∃i j,k=o+1+i/\as[i]? =U (.lent j))↔∃i j,k=o+(i+1)/\(a::as)[i+1]? =U (.lent j):=by
   constructor
   .rintro⟨i,j,h1,h2⟩;exact⟨i,j,by lia,by simpa using h2⟩
   .rintro⟨i,j,h1,h2⟩;exact⟨i,j,by lia,by simpa using h2⟩
  cases a with
  |lent j0=>
   unfold dK;rw[Gae,ih,st];constructor
   .rintro(rfl| ⟨i,j,h1,h2⟩)
    .exact⟨0,j0,rfl,rfl⟩
    .exact⟨i+1,j,h1,h2⟩
   .rintro⟨i,j,h1,h2⟩;cases i with
    |zero=>exact .inl h1
    |succ i=>exact .inr ⟨i,j,h1,h2⟩
  |name j0=>
   unfold dK;rw[ih,st];constructor
   .rintro⟨i,j,h1,h2⟩;exact⟨i+1,j,h1,h2⟩
   .rintro⟨i,j,h1,h2⟩;cases i with
    |zero=>simp at h2
    |succ i=>exact⟨i,j,h1,h2⟩
  |val f=>
   unfold dK;rw[ih,st];constructor
   .rintro⟨i,j,h1,h2⟩;exact⟨i+1,j,h1,h2⟩
   .rintro⟨i,j,h1,h2⟩;cases i with
    |zero=>simp at h2
    |succ i=>exact⟨i,j,h1,h2⟩
theorem jv:∀{as:List AW} {o m k:Nat},(dK o as)[m]? =U k->∃i j,k=o+i/\as[i]? =U (.lent j)/\(c9 as)[m]? =U j
 |[],o,m,k,h=>by simp[dK] at h
 |a::as,o,m,k,h=>by
  cases a with
  |lent j0=>
   unfold dK at h;cases m with
   |zero=>simp at h;exact⟨0,j0,by lia,rfl,rfl⟩
   |succ m=>
    obtain⟨i,j,h1,h2,h3⟩:=jv (by simpa using h);exact⟨i+1,j,by lia,by simpa using h2,by unfold c9;simpa using h3⟩
  |name j0=>
   obtain⟨i,j,h1,h2,h3⟩:=jv (by simpa[dK] using h);exact⟨i+1,j,by lia,by simpa using h2,by unfold c9;exact h3⟩
  |val f=>
   obtain⟨i,j,h1,h2,h3⟩:=jv (by simpa[dK] using h);exact⟨i+1,j,by lia,by simpa using h2,by unfold c9;exact h3⟩
theorem iI:∀{as o},(dK o as).length=(c9 as).length
 |[],o=>rfl
 | .lent j::as,o=>by unfold dK c9;rw[GaF,GaF,iI]
 | .name j::as,o=>by unfold dK c9;exact iI
 | .val f::as,o=>by unfold dK c9;exact iI
theorem iJ:∀{as:List AW} {i j:Nat},as[i]? =U (.lent j)->j∈c9 as
 |a::as,0,j,h=>by simp at h;subst h;unfold c9;exact GaO
 |a::as,i+1,j,h=>by
  have:=iJ (by simpa using h);cases a<;>unfold c9<;>first|exact this|exact Gaw _ this
theorem qg:∀{as:List AW} {i j:Nat},as[i]? =U (.name j)->j∈kj as
 |a::as,0,j,h=>by simp at h;subst h;unfold kj;exact GaO
 |a::as,i+1,j,h=>by
  have:=qg (by simpa using h);cases a<;>unfold kj<;>first|exact this|exact Gaw _ this
theorem wJ:∀{js ls env},js.Nodup->ls.length=js.length->(∀j∈js,lq env[j]?)->ReE js (λj=>((js.zip ls).lookup j).getD .non) env (pF js ls env)
 |[],ls,env,_,_,_=>by
  exact⟨rfl,λ_ _=>rfl,λj h=>by simp at h⟩
 |j::js,[],env,_,l,_=>by simp at l
 |j::js,d::ls,env,nd,l,h=>by
  have nd' :=GaX.mp nd;have:∃s,env[j]? =U (U s)/\∃d0,s= .own d0\/s= .lok d0:=by
   match e:env[j]?,(h j GaO) with
   |some (U (.own d0)),_=>exact⟨_,rfl,d0,.inl rfl⟩
   |some (U (.lok d0)),_=>exact⟨_,rfl,d0,.inr rfl⟩
  obtain⟨s,es,d0,hs⟩:=this;have e1:pF (j::js) (d::ls) env=pF js ls (env.set j (U (s.put d))):=by
   conv=>lhs;unfold pF
   rw[es]
   rfl
  have ih:=wJ (env:=env.set j (U (s.put d))) nd'.2 (by simpa using l) λi hi=>by
   rw[Gad ((λi hi z=>by subst z;exact nd'.1 hi) i hi)];exact h i (Gaw _ hi)
  rw[e1];refine⟨by rw[ih.len];simp,λi hi=> ?_,λi hi=> ?_⟩
  .rw[Gae,GbS] at hi;rw[ih.old i hi.2,Gad (GaG hi.1)]
  .by_cases q:i=j
   .subst q;rw[ih.old i nd'.1,bZ ((Gac.mp es).1),es];refine⟨d0, ?_⟩;have:(((i::js).zip (d::ls)).lookup i).getD .non=d:=by simp
    rw[this];rcases hs with rfl|rfl
    .exact .inl ⟨rfl,rfl⟩
    .exact .inr ⟨rfl,rfl⟩
   .have:(((j::js).zip (d::ls)).lookup i).getD .non=((js.zip ls).lookup i).getD .non:=by
     rw[Gbt,GaE,Gbg.mpr q]
    rw[this];obtain⟨d1,z⟩:=ih.new i ((Gae.mp hi).resolve_left q);rw[Gad (GaG q)] at z;exact⟨d1,z⟩
theorem wK:∀{js:List Nat} {ls:List D} {m j:Nat} {l:D},js.Nodup->js[m]? =U j->ls[m]? =U l->((js.zip ls).lookup j).getD .non=l
 |[],ls,m,j,l,_,h,_=>by simp at h
 |i::js,[],m,j,l,_,_,h=>by simp at h
 |i::js,d::ls,0,j,l,_,h1,h2=>by simp at h1 h2;subst h1;subst h2;simp
 |i::js,d::ls,m+1,j,l,nd,h1,h2=>by
  have nd' :=GaX.mp nd;have zG :js[m]? =U j:=by simpa using h1
  rw[Gbt,GaE,Gbg.mpr (λz=>by subst z;exact nd'.1 (GaC zG))];exact wK nd'.2 zG (by simpa using h2)
def qh(S:List Nat)(env:Env)(Z:St)(H:Hp)(b:Xo):Prop:=∃j∈S,∃(C:Nat) (ns:List Str) (ds:List D) (a dx:Xo) (us:List V) (k:Nat) (l:List D),env[j]? =U (U (.lok (.obj C ns ds)))/\Z[j]? =U (U (.ref a))/\H a=U (.ins C dx (ns.zip us))/\ns.length=us.length/\ds[k]? =U (D.kid l)/\us[k]? =U (.ref b)
section
def qh.cln{K:ag}{H:Hp}(E:az K H0 eg env Z H)(h:qh S env Z H b):Cln eg env Z b/\∃us,H b=U (.lst us):=by
 obtain⟨j,_,C,ns,ds,a,dx,us,k,l,e,ea,ha,ln,h1,h2⟩:=h;obtain⟨a3,Uv,Vg,q1,_,_,q4,q5,_,r⟩:=E.mW e;rw[ea] at q1;cases q1
 rw[ha] at q4;injection q4 with q4;injection q4 with _ _ q4
 have:=zip_inj ln q5 q4;subst this;obtain⟨v,w1,w2⟩:=r.get h1;rw[h2] at w1;cases w1
 cases w2 with
 |kid f hb _ _=>exact⟨f,_,hb⟩
def qh.none(kn:nH H0 H env Z)(h:qh S env Z H b):H0 b=J:=by
 obtain⟨j,_,C,ns,ds,a,dx,us,k,l,e,ea,ha,ln,h1,h2⟩:=h;exact kn j C ns ds e a dx us ea ha ln k l b h1 h2
variable{d:D}
def Bp(h:iT j env=U d):(env[j]? =U (U (.own d))/\d.bI=O)\/(env[j]? =U (U (.lok d))/\flK d=O):=by
 unfold iT at h;split at h
 .rename_i q;split at h
  .rename_i z;cases h;exact .inl ⟨q,z⟩
  .cases h
 .rename_i q;split at h
  .rename_i z;cases h;exact .inr ⟨q,z⟩
  .cases h
 .cases h
def Bq(h:d.bI=O):flK d=O:=by
 cases d<;>first|exact h|simp[D.bI] at h
def DJ{K:ag}{H0 H:Hp}{eg:Xo->Prop}{Z:St}{j:Nat}(h:k9 j env=U d):bJ env[j]? /\∀(E:az K H0 eg env Z H),∃a,Z[j]? =U (U (.ref a))/\Wb H a/\d.top=O/\Inn K (Cln eg env Z) H d (.ref a):=by
 unfold k9 at h;split at h
 .rename_i q;cases h
  exact⟨by rw[q];trivial,λE=>let⟨a,h1,_,_,h4,h5,h6⟩:=E.ow j d (.inl q);⟨a,h1,h4.wb,h5,h6⟩⟩
 .rename_i q;cases h
  exact⟨by rw[q];trivial,λE=>let⟨a,h1,_,_,h4,h5,h6⟩:=E.ow j d (.inr q);⟨a,h1,h4.wb,h5,h6⟩⟩
 .rename_i q;cases h
  exact⟨by rw[q];trivial,λE=>E.bo j d q⟩
 .cases h
end
theorem tU:∀{as:List AW} {i j n:Nat},(c9 as).Nodup->as[i]? =U (.lent n)->as[j]? =U (.lent n)->i=j
 |[],i,j,n,_,h,_=>by simp at h
 |a::as,0,0,n,_,_,_=>rfl
 |a::as,0,j+1,n,nd,h1,h2=>by
  simp at h1;subst h1;exact absurd (iJ (by simpa using h2)) (GaX.mp nd).1
 |a::as,i+1,0,n,nd,h1,h2=>by
  simp at h2;subst h2;exact absurd (iJ (by simpa using h1)) (GaX.mp nd).1
 |a::as,i+1,j+1,n,nd,h1,h2=>by
  have nd' :(c9 as).Nodup:=by
   cases a<;>unfold c9 at nd<;>first|exact nd|exact(GaX.mp nd).2
  rw[tU nd' (i:=i) (by simpa using h1) (by simpa using h2)]
def HI{X:Cx}{as:List AW}(F:cp X.prog X.w X.K X.mg X.base CX0 k fa fd ps (spW X.K np (dK 0 as) sp))(hr:cD k X.A)(hg:Gl X x)(hm:X.mg x=U (.ref fa))(hk:PySem.W.keepIn X.K (.ref fa)=O)(hb:Binds X.K fd ps [])(ha:PA X (e::es) (tAw X as))(hl:as.length=np)(hZ:(x==("__debug__":Str))=M)(he:starEach (e::es) X.env=(M,eval e X.env)::starEach es X.env)(xb:(backTo pos (starEach es X.env)).any (·.1)=M):
  PE X (.Call (.Name x p) (e::es) [] pos) (tXw X H0 Pn (dR sp as)):=by
 refine(qP (dvs:=[]) F hr hg hm hk hb .nil wc ha hZ he xb).aA ?_;rintro Z H Q ⟨env,d,eD,⟨eg,EO,pn,kn⟩,h,fin⟩;unfold dR at h;split at h
 .rename_i q;obtain⟨fl,nd,nn⟩:=q;refine a9 h λds hds h=>a9 h λ⟨d',ls⟩ xI h=> ?_;split at h
  .rename_i im;cases h;refine⟨H0,eg,env,ds,EO,hds,λvs H1 s1 R=> ?_⟩;show spW _ np _ sp _ H1 Q E0;rw[GaP];have E1:=EO.mono s1;have k1:=kn.mono EO s1;obtain⟨l1,l2,at_⟩:=wI R hds
   let A:Xo->Prop:=λb=>(∃j∈c9 as,Z[j]? =U (U (V.ref b)))\/qh (c9 as) env Z H1 b
   have lentV:∀{k j:Nat} {v:V},as[k]? =U (.lent j)->vs[k]? =U v->Z[j]? =U _/\∃d,ds[k]? =U d/\((env[j]? =U (U _)/\_=O)\/(env[j]? =U (U _)/\flK d=O)):=λ{k j v} ea ev=>by
    have hk:k<ds.length:=by rw[<-l1];exact(Gac.mp ea).1
    obtain⟨a,q1,q2,q3⟩:=at_ k ds[k] v (Gag hk) ev;rw[ea] at q1;cases q1;exact⟨q2,ds[k],Gag hk,Bp q3⟩
   have inJ:∀{k:Nat},k∈dK 0 as->∃j,as[k]? =U _:=λ{k} hk=>by
    obtain⟨i,j,q1,q2⟩:=jN.mp hk;exact⟨j,by rw[q1,GaR];exact q2⟩
   have olS:∀{k j:Nat} {v:V},as[k]? =U _->vs[k]? =U v->lq env[j]? :=λea ev=>by
    obtain⟨_,d,_,⟨q,_⟩| ⟨q,_⟩⟩:=lentV ea ev<;>rw[q]<;>trivial
   have vsAt:∀{k j:Nat},as[k]? =U (.lent j)->∃v,vs[k]? =U v:=λ{k j} ea=> ⟨_,Gag (by rw[<-l2,<-l1];exact(Gac.mp ea).1)⟩;have slotOf:∀{j:Nat},j∈c9 as->∃(k:Nat),as[k]? =U _:=λ{j} hj=>by
    obtain⟨m,hm⟩:=GaV hj;obtain⟨i,j',q1,q2,q3⟩:=jv (as:=as) (o:=0) (m:=m) (Gag (by rw[iI];exact(Gac.mp hm).1));rw[hm] at q3;cases q3;exact⟨i,q2⟩
   have olJ:∀j∈c9 as,lq env[j]? :=λj hj=>by
    obtain⟨k,hk⟩:=slotOf hj;obtain⟨v,hv⟩:=vsAt hk;exact olS hk hv
   have kidS:∀{k j:Nat} {d:D} {a:Xo},as[k]? =U _->(env[j]? =U (U (.own d))/\d.bI=O)\/(env[j]? =U (U (.lok d))/\flK d=O)->Z[j]? =U (U (.ref a))->∀C ns ks,d= .obj C ns ks->∀dx us,H1 a=U (.ins C dx (ns.zip us))->ns.length=us.length->∀(m:Nat) q g,ks[m]? =U (.kid q)->us[m]? =U (.ref g)->qh _ env Z H1 g:=λ{k j d a} ek hd ea C ns ks z dx us h ln m q g w1 w2=>by
    subst z;rcases hd with⟨_,y⟩| ⟨y,_⟩
    .simp[D.bI,D.imm] at y
    .exact⟨j,iJ ek,C,ns,ks,a,dx,us,m,q,y,ea,h,ln,w1,w2⟩
   have ndA:∀{b:Xo},A b->H0 b=J:=λ{b} h=>by
    rcases h with⟨j,hj,ej⟩|h
    .obtain⟨k,hk⟩:=slotOf hj;obtain⟨v,hv⟩:=vsAt hk;obtain⟨_,d,_,hd⟩:=lentV hk hv;obtain⟨a,q1,q2,_⟩:=E1.ow j d (hd.imp (λz=>z.1) λz=>z.1);rw[ej] at q1;cases q1;exact q2
    .exact h.none k1
   have notTop:∀{j:Nat} {b:Xo},bJ env[j]? ->j∉c9 as->Z[j]? =U _->¬A b:=λ{j b} t nj ej h=>by
    rcases h with⟨i,hi,ei⟩|h
    .have:=E1.dj i j b (olJ i hi) t ei ej;subst this;exact nj hi
    .exact(h.cln E1).1.2 j t ej
   refine⟨ds,d',ls,A,by rw[<-l1];exact hl,l2,xI,λb h=> ?_,λm dm vm e1 e2=> ?_,λi hi j hj v e1 e2=> ?_,λv H' keep rv len back=> ?_⟩
   .rcases h with⟨j,hj,ej⟩|h
    .exact E1.jo (olJ j hj).top ej
    .obtain⟨us,hb⟩:=(h.cln E1).2;rw[hb];simp
   .obtain⟨a,q1,q2,q3⟩:=at_ m dm vm e1 e2;cases a with
    |lent j=>
     obtain⟨_,d0,p1,hd⟩:=lentV q1 e2;rw[e1] at p1;cases p1;obtain⟨a,r1,r2,r3,r4,r5,r6⟩:=E1.ow j dm (hd.imp (λz=>z.1) λz=>z.1);have q2:Z[j]? =U _:=q2;rw[q2] at r1;cases r1;refine .inl ⟨jN.mpr ⟨m,j,(GaR m).symm,q1⟩,a,rfl,.inl ⟨j,iJ q1,q2⟩,r4,r5,oF r6 r5 (hd.elim (λz=>Bq z.2) λz=>z.2) λC ns ks z dx us h ln n q g w1 w2 cg _=> ⟨.inr (kidS q1 hd q2 C ns ks z dx us h ln n q g w1 w2),λi hi y=> ?_⟩⟩;obtain⟨j',yH⟩:=inJ hi;obtain⟨y1,_⟩:=lentV yH y;exact cg.2 j' (olS yH y).top y1
    |name j=>
     refine .inr ⟨λhi=> ?_, ?_⟩
     .obtain⟨j',yH⟩:=inJ hi;rw[q1] at yH;cases yH
     .refine a9 q3 λd0 WE q3=> ?_;split at q3
      .rename_i okr;cases q3;obtain⟨t,ff⟩:=DJ (K:=X.K) (H0:=H0) (H:=H1) (eg:=eg) (Z:=Z) WE;obtain⟨a,r1,r2,r3,r4⟩:=ff E1;have q2:Z[j]? =U (U vm):=q2;rw[q2] at r1;cases r1;exact .inl ⟨r3,a,rfl,notTop t (nn j (qg q1)) q2,r2,r4.cI (λ_ _ z _=>z) r3 okr rfl⟩
      .cases q3
    |val f=>
     refine .inr ⟨λhi=> ?_,.inr ⟨?_,q2.2.imp λ_ z=>z.elim⟩⟩
     .obtain⟨j',yH⟩:=inJ hi;rw[q1] at yH;cases yH
     .have:=q2.1;cases dm<;>first|rfl|simp[D.imm] at this
   .obtain⟨j1,h1⟩:=inJ hi;obtain⟨j2,h2⟩:=inJ hj;obtain⟨y1,d1,_⟩:=lentV h1 e1;obtain⟨y2,d2,_⟩:=lentV h2 e2;obtain⟨_,a,_,z,_⟩:=E1.k9 (olS h1 e1).top;rw[y1] at z;cases z;have ej:j1=j2:=E1.dj j1 j2 a (olS h1 e1) (olS h2 e2).top y1 y2;subst ej;exact tU nd h1 h2
   .have re:=wJ nd (by rw[len,iI]) olJ;have hH:∀b o,H1 b=U o->H' b=U o\/A b:=λb o eb=>by
     by_cases z:A b
     .exact .inr z
     .exact .inl (keep b o eb z)
    have backJ:∀j∈c9 as,∀a,Z[j]? =U (U (.ref a))->∃l,(((c9 as).zip ls).lookup j).getD .non=l/\Wr H' a/\l.top=O/\flK l=O/\Inn X.K (λb=>(A b\/H1 b=J)/\∀j∈dK 0 as,vs[j]? ≠U (.ref b)) H' l (.ref a):=λj hj a ea=>by
     obtain⟨m,hm⟩:=GaV hj;have xa:m<(dK 0 as).length:=by rw[iI];exact(Gac.mp hm).1
     obtain⟨i,j',q1,q2,q3⟩:=jv (as:=as) (o:=0) (m:=m) (Gag xa);rw[hm] at q3;cases q3;have yG:m<ls.length:=by rw[len];exact xa
     obtain⟨a',w1,w2,w3,w4,w5⟩:=back m _ ls[m] (Gag xa) (Gag yG);rw[q1,GaR] at w1;have:=(lentV q2 w1).1;rw[ea] at this;cases this;exact⟨ls[m],wK nd hm (Gag yG),w2,w3,w4,w5⟩
    have clnOf:∀{b:Xo},(A b\/H1 b=J)/\(∀j∈dK 0 as,vs[j]? ≠U (.ref b))->Cln eg env Z b/\H0 b=J:=λ{b} h=>by
     rcases h.1 with(⟨j,hj,ej⟩|z)|z
     .exfalso;obtain⟨k,hk⟩:=slotOf hj;obtain⟨v,hv⟩:=vsAt hk;have:=(lentV hk hv).1;rw[ej] at this;cases this;exact h.2 k (jN.mpr ⟨k,j,(GaR k).symm,hk⟩) hv
     .exact⟨(z.cln E1).1,z.none k1⟩
     .exact⟨E1.kz z,E1.same.free z⟩
    have hAc:∀b,A b->(∃j∈c9 as,Z[j]? =U (U (V.ref b)))\/Cln eg env Z b:=λb h=>h.imp id λz=>(z.cln E1).1;have EF:=E1.flat (A:=A) fl re hH (λb h=> ⟨ndA h,hAc b h,λo eo=>by
      rcases h with⟨j,hj,ej⟩|z
      .obtain⟨o',h1,h2⟩:=E1.OT (olJ j hj) ej;rw[eo] at h1;cases h1;exact h2
      .obtain⟨us,hb⟩:=(z.cln E1).2;rw[hb] at eo;cases eo;trivial⟩) λj hj a ea=>by
      obtain⟨l,z,w2,w3,w4,w5⟩:=backJ j hj a ea;rw[z];exact⟨w2,w3,oF w5 w3 w4 λ_ _ _ _ _ _ _ _ _ _ _ _ _ f _=>(clnOf f).1⟩
    refine fin v H' (bG.flat E1 pn k1 EF re hH hAc λj hj C ns ks z a dx us ea h ln m q g w1 w2=> ?_) im rv;obtain⟨l,y,_,w3,w4,w5⟩:=backJ j hj a ea;rw[y] at z;subst z;cases w5 with
    |obj h' ln' kd r=>
     rw[h] at h';injection h' with h'
     injection h' with _ _ h'
     have:=zip_inj ln ln' h';subst this;obtain⟨vv,y1,y2⟩:=r.get w1;rw[w2] at y1;cases y1;cases y2 with
     |kid f _ _ _=>exact(clnOf f).2
  .cases h
 .cases h
def jw(m:DXW):DW:=λenv=>(m env).map λr=> .ret r.1 r.2
abbrev DTW:=Env->Option (Bool×Env)
def vc(m:DXW):DTW:=λenv=>(m env).bind λr=>match r.1 with
 | .bl b=>U (b,r.2)
 |_=>J
def Bs(t:DTW):DTW:=λenv=>(t env).map λr=>(!r.1,r.2)
def ifC(t:DTW)(f g:DW):DW:=λenv=>(t env).bind λr=>if r.1 then f r.2 else g r.2
def rzW(C:Nat)(n:Str)(f:DE):DW:=λenv=>(f env).bind λr=>if r.d.imm then U (.ex C n r.d) else J
theorem bG.jq{K:ag}{env:Env}{Z:St}(E:bG K H0 Pn env Z H)(r:Rep K (λ_=>False) H d v)(i:Nat):bG K H0 Pn (env.set i (U (.sh d))) (Z.set i (U v)) H:=by
 obtain⟨eg,EO,p,k⟩:=E;exact bG.stp k p EO (EO.jq (r.imp λ_ z=>z.elim)) .jq
def tTw(X:Cx)(H0:Hp)(Pn:Nat->V->Prop)(t:DTW):TT:=λZ H Q=>∃env b eD,bG X.K H0 Pn env Z H/\t env=U (b,eD)/\∀H',bG X.K H0 Pn eD Z H' ->Q b H'
def HJ(h:PE X e (tXw X H0 Pn m)):PS X (.Return (U e) pos) (tW X H0 Pn E (jw m)):=by
 refine(qJ h).aA ?_;rintro D Z H ⟨env,o,EW,e,ok⟩;obtain⟨⟨d,e'⟩,hm,rfl⟩:=Gaa.mp e;exact⟨env,d,e',EW,hm,λv H' E' im r=>ok v Z H' E' r⟩
def wL{X:Cx}{e:Xp}(h:PE X e (tXw X H0 Pn m))(he:∀whole,isTrue e X.env whole=(do let v<-whole;standAt e.pos;holding [v] (truthy v))):PT X e (tTw X H0 Pn (vc m)):=by
 refine(BZ h he).aA ?_;rintro Z H Q ⟨env,b,eD,EW,e,k⟩;refine a9 e λ⟨d,e'⟩ hm h2=> ⟨env,d,e',EW,hm,λv H' E' im r=> ?_⟩;cases d<;>try cases h2
 cases r;exact⟨b,rfl,k H' E'⟩
def HK(h:PT X e (tTw X H0 Pn t)):PT X (.UnaryOp .Not e pos) (tTw X H0 Pn (Bs t)):=by
 refine(C0 h).aA ?_;rintro Z H Q ⟨env,b,eD,EW,e,k⟩;obtain⟨⟨b',e'⟩,hm,h2⟩:=Gaa.mp e;cases h2;exact⟨env,b',_,EW,hm,λH' E' =>k H' E'⟩
def LO(hc:PT X c (tTw X H0 Pn t))(ha:PSs X xs (tW X H0 Pn E g1))(hb:PSs X ys (tW X H0 Pn E g2)):PS X (.If c xs ys pos) (tW X H0 Pn E (ifC t g1 g2)):=by
 refine(C3 hc ha hb).aA ?_;rintro D Z H ⟨env,o,EW,e,ok⟩;refine a9 e λ⟨b,e'⟩ h1 h2=> ⟨env,b,e',EW,h1,λH1 E1=> ?_⟩;cases b with
 |true=>rw[Gaj rfl];rw[Gaj rfl] at h2;exact⟨e',o,E1,h2,ok⟩
 |false=>rw[Gau Gaq];rw[Gau Gaq] at h2;exact⟨e',o,E1,h2,ok⟩
def DK{X:Cx}(cl:XCl X.K B C fI n)(F:cp X.prog X.w X.K X.mg X.base CX0 k fI fd ps (lM X.K B C n))(hr:cD (k+1) X.A)(hb:Binds X.K fd ps [])
  (hL:XL X E)(hg:Gl X cn)(hm:X.mg cn=U (.ref C))(he:PEd X.nox e f)(hZ:(cn==("__debug__":Str))=M)(hs:starEach [e] X.env=(M,eval e X.env)::starEach [] X.env):
  PS X (.Raise (U (.Call (.Name cn p1) [e] [] p2)) J p3) (tW X H0 Pn E (rzW C n f)):=by
 refine(Dy cl F hr hb hL hg hm he hZ hs).aA ?_;rintro D Z H ⟨env,o,⟨eg,EO,pn,kn⟩,e,ok⟩;refine a9 e λr hr h2=> ?_;split at h2
 .rename_i im;cases h2;exact⟨H0,eg,env,.x C n _,EO,by simp[hr,im],λv dx H' s z1 z2 rd=>ok v dx H' s z1 z2 im (rd.imm im)⟩
 .cases h2
noncomputable def tY(l:Nat)(env:Env):Option (List D):=match env[l]? with
 |some (U (.bor (.lst xs)))=>U xs
 |_=>J
def ik(i j l:Nat)(g:DW):Nat->Nat->Env->Option mB
 |0,_,_=>J
 |f+1,n,env=>(tY l env).bind λxs=>match xs[n]? with
  |none=>U (.nx env)
  |some d=>if d.imm then(g ((env.set i (U (.sh (.int (n:Nat))))).set j (U (.sh d)))).bind λo=>match o with
   | .nx e=>ik i j l g f (n+1) e
   | .ct e=>ik i j l g f (n+1) e
   | .bk e=>U (.nx e)
   |o=>U o
   else J
def DP(i j l:Nat)(g:DW):DW:=λenv=>(tY l env).bind λxs=>ik i j l g (xs.length+1) 0 env
def mH(h:tY l env=U xs):env[l]? =U (U (.bor (.lst xs))):=by
 unfold tY at h;split at h
 .simp_all
 .cases h
def bG.pin{K:ag}{Pn xR :Nat->V->Prop}(E:bG K H0 Pn env Z H)(h:∀p v,xR p v->Pn p v\/Z[p]? =U (U v)):bG K H0 xR env Z H:=
 let⟨B,E,p,k⟩:=E
 ⟨B,E,λq v z l=>(h q v z).elim (λy=>p q v y l) id,k⟩
noncomputable def Pp:D->Bool
 | .scr _=>O
 | .kt _=>O
 | .exc _ _ _=>O
 |_=>M
def rh(C:Nat)(n:Str)(d:D):D->Option D
 | .obj C' ns ds=>if C' =C/\iH ds=O/\ns.length<1000/\Pp d=M/\ns.length=ds.length/\(ns.findIdx? λm=>m==n)=J then U (.obj C (ns++[n]) (ds++[d])) else J
 |_=>J
@[simp] def HL(i C:Nat)(n:Str)(f:DE):DW:=Hr i (rh C n) f
def Pq:D->Bool
 | .obj _ _ ds=>ds.all λd=> !Pp d
 |_=>M
@[simp] def vd(i C:Nat)(n:Str):DW:=λenv=>if jt [i] env=O then((kg i env).bind λd=>if Pq d=O then rh C n (.kid []) d else J).map λd' => .nx (env.set i (U (.lok d'))) else J
theorem tZ:∀{ns vs},ns.length=vs.length->(ns.findIdx? λm=>m==n)=J->iE n y (ns.zip vs)=(ns++[n]).zip (vs++[y])
 |[],[],_,_=>rfl
 |m::ns,[],l,_=>by simp at l
 |[],v::vs,l,_=>by simp at l
 |m::ns,v::vs,l,h=>by
  rw[GbH] at h;rw[Gbt];unfold iE;cases q:m==n with
  |true=>rw[q] at h;cases h
  |false=>
   rw[q] at h;rw[Gau (Gbg.mp q),tZ ?H (by simpa using h)]
   rfl
def bG.Pr{K:ag}{H0 H:Hp}{env:Env}{i:Nat}{x:D}(EO:az K H0 eg env Z H)(pn:Pnd Pn env Z)(kn:nH H0 H env Z)(fl:jt [i] env=O)(e:env[i]? =U (U (.lok d)))
  (hx:(x.imm=O/\Rep K (Cln eg env Z) H x v)\/(x= .kid []/\∃g,v= .ref g/\H g=U (.lst [])/\H0 g=J/\Cln eg env Z g/\∀a C dx fs,Z[i]? =U (U (.ref a))->H a=U (.ins C dx fs)->∀m,(m,.ref g)∉fs))(hp:rh C n x d=U d'):
  ∃a dx fs,Z[i]? =U (U (.ref a))/\H a=U (.ins C dx fs)/\fs.length<1000/\bG K H0 Pn (env.set i (U (.lok d'))) Z (upd H a (.ins C dx (iE n v fs))):=by
 unfold rh at hp;split at hp
 .rename_i C' ns ds;split at hp
  .rename_i q;obtain⟨rfl,hf,hn,sc,Vq,hk⟩:=q;cases hp;obtain⟨a,dx,vs,ea,z0,zb,ha,ln,kd,rs⟩:=EO.mW e;refine⟨a,dx,_,ea,ha,by rw[List.length_zip,<-ln];lia, ?_⟩;rw[tZ ln hk];generalize hu:HO.ins C' dx _=u;have stT:∀b o,H b=U o->isT o->upd H a u b=U o:=λb o eb t=>by
    rwa[aq]
    rintro rfl;rw[ha] at eb;cases eb;exact t
   have atL:∀{k:Nat} {d0:D},(ds++[x])[k]? =U d0->(k<_/\ds[k]? =U d0)\/(k=ds.length/\d0=x):=λ{k d0} h=>by
    by_cases z:k<ds.length
    .rw[GaM z] at h;exact .inl ⟨z,h⟩
    .rw[GaK ?B] at h;have:k -ds.length=0:=by
      cases w:k -_ with
      |zero=>rfl
      |succ m=>rw[w] at h;simp at h
     rw[this] at h;simp at h;exact .inr ⟨by lia,h.symm⟩
   have atV:∀{k:Nat} {v0:V},(vs++[v])[k]? =U v0->(k<ds.length/\vs[k]? =U v0)\/(k=ds.length/\v0=v):=λ{k v0} h=>by
    by_cases z:k<vs.length
    .rw[GaM z] at h;exact .inl ⟨by lia,h⟩
    .rw[GaK ?B] at h;have:k -vs.length=0:=by
      cases w:k -_ with
      |zero=>rfl
      |succ m=>rw[w] at h;simp at h
     rw[this] at h;simp at h;exact .inr ⟨by lia,h.symm⟩
   have ga:∀{g:Xo} {us:List V},H g=U (.lst us)->g≠a:=λh z=>by subst z;rw[ha] at h;cases h
   have newNot:∀{k:Nat} {l:List D} {g:Xo},ds[k]? =U (.kid l)->vs[k]? =U (.ref g)->v≠ .ref g:=λ{k l g} w1 w2 z=>by
    subst z;obtain⟨vv,y1,y2⟩:=rs.get w1;rw[w2] at y1;cases y1;rcases hx with⟨im,r⟩| ⟨rfl,g',z,hg,_,_,no⟩
    .cases y2 with
     |kid f h2 _ _=>
      cases r with
      |tup h l r=>rw[h] at h2;cases h2
      |scr h=>cases sc
      |kt h=>cases sc
      |exc h r=>cases sc
      |lst f h l r=>simp[D.imm] at im
      |obj f h ln kd l r=>simp[D.imm] at im
      |kid f h l r=>simp[D.imm] at im
    .cases z;have hkn:k<ns.length:=by rw[Vq];exact(Gac.mp w1).1
     refine no a C' dx _ ea ha ns[k] (GaC (i:=k) ?_);rw[Gcr];exact⟨Gag hkn,w2⟩
   have xk:∀{l:List D},x= .kid l->∃g,v= .ref g/\H g=U _/\H0 g=J:=λ{l} z=>by
    rcases hx with⟨im,_⟩| ⟨_,g,z1,z2,z3,_⟩
    .subst z;simp[D.imm] at im
    .exact⟨g,z1,z2,z3⟩
   have inn:Inn K (Cln eg env Z) (upd H a u) (.obj C' (ns++[n]) (ds++[x])) (.ref a):=by
    refine .obj (vs:=vs++[v]) (by rw[aB,hu]) (by simp[ln]) (λy z l2 g2 e1 e2 e3=> ?_) ⟨by simp[rs.1],λj dj vj e1 e2=> ?_⟩
    .rcases atL e1 with⟨y1,e1⟩| ⟨y1,e1⟩
     .rcases atV e2 with⟨_,e2⟩| ⟨y2,_⟩
      .rcases atV e3 with⟨_,e3⟩| ⟨_,e3⟩
       .exact kd y z l2 g2 e1 e2 e3
       .exact absurd e3.symm (newNot e1 e2)
      .lia
     .rcases atV e2 with⟨y2,_⟩| ⟨_,e2⟩
      .lia
      .rcases atV e3 with⟨y3,e3⟩| ⟨y3,_⟩
       .exfalso;obtain⟨g,q1,q2,_⟩:=xk e1.symm;rw[q1] at e2;cases e2;rcases hx with⟨im,_⟩| ⟨_,g',z1,_,_,_,no⟩
        .rw[<-e1] at im;simp[D.imm] at im
        .rw[q1] at z1;cases z1;have hkn:z<ns.length:=by rw[Vq];exact y3
         refine no a C' dx _ ea ha ns[z] (GaC (i:=z) ?_);rw[Gcr];exact⟨Gag hkn,e3⟩
       .lia
    .rcases atL e1 with⟨y1,e1⟩| ⟨y1,e1⟩
     .rcases atV e2 with⟨_,e2⟩| ⟨y2,_⟩
      .have fj:=Gan.mp hf dj (GaC e1);cases(rs.2 j dj vj e1 e2) with
       | @kid g2 us2 l2 f2 h2 ll r2=>
        have:=aP.cI (K:=K) (F:=Cln eg env Z) (F' :=Cln eg env Z) (ds:=l2) (vs:=us2) stT ⟨ll,r2⟩ fj;exact .kid f2 (by rw[aq (ga h2)];exact h2) this.1 this.2
       |obj f h ln kd l r=>simp[D.imm] at fj
       |lst f h l r=>simp[D.imm] at fj
       |non=>exact .non
       |bl b=>exact .bl b
       |int i=>exact .int i
       |str x=>exact .str x
       |tup h l r=>exact(Rep.tup h l r).cI stT fj
       |scr h=>exact(Rep.scr (F:=Cln eg env Z) h).cI stT fj
       |kt h=>exact .kt h
       |exc h r=>exact(Rep.exc h r).cI stT fj
      .lia
     .rcases atV e2 with⟨y2,_⟩| ⟨_,e2⟩
      .lia
      .subst e1 e2;rcases hx with⟨im,r⟩| ⟨e1,g,e2,hg,_,cl,_⟩
       .exact r.cI stT im
       .rw[e1,e2];exact .kid cl (by rw[aq (ga hg)];exact hg) rfl λi d v q=>by simp at q
   have re:ReE [i] (λ_=> .obj C' (ns++[n]) (ds++[x])) env (env.set i (U (.lok (.obj C' (ns++[n]) (ds++[x]))))):=⟨by simp,λj hj=>Gad (by rintro rfl;simp at hj),λj hj=>by
    obtain rfl:j=i:=by simpa using hj
    exact⟨_,.inr ⟨e,bZ ((Gac.mp e).1)⟩⟩⟩
   have hH:∀b o,H b=U o->upd H a u b=U o\/b=a:=λb o eb=>by
    by_cases z:b=a
    .exact .inr z
    .left
     rwa[aq z]
   refine bG.flat EO pn kn (EO.flat (A:=(· =a)) fl re hH (λb hb=> ?_) λj hj a' e' => ?_) re hH (λb hb=> .inl ⟨i,by simp,by rw[hb];exact ea⟩) λj hj C2 Vm xr z a' VN yY e' h2 ln2 k2 l2 g2 e3 e4=> ?_
   .subst hb;exact⟨z0,.inl ⟨i,by simp,ea⟩,λo eo=>by rw[ha] at eo;cases eo;trivial⟩
   .obtain rfl:j=i:=by simpa using hj
    rw[ea] at e';cases e';exact⟨⟨u,aB,by rw[<-hu];trivial⟩,rfl,inn⟩
   .obtain rfl:j=i:=by simpa using hj
    cases z;rw[ea] at e';cases e';rw[aB,<-hu] at h2;injection h2 with h2
    injection h2 with _ _ h2
    have:=zip_inj (by simp[ln]) ln2 h2;subst this;rcases atL e3 with⟨y1,e3⟩| ⟨y1,e3⟩
    .rcases atV e4 with⟨_,e4⟩| ⟨y2,_⟩
     .exact kn j C' ns ds e a dx vs ea ha ln k2 l2 g2 e3 e4
     .lia
    .rcases atV e4 with⟨y2,_⟩| ⟨_,e4⟩
     .lia
     .obtain⟨g,q1,_,q3⟩:=xk e3.symm;rw[q1] at e4;cases e4;exact q3
  .cases hp
 .cases hp
section
variable{pos:Pos}{X:Cx}
def HM(cl:L2.Cls X.K C)(na:cC X.K C n)(hN:X.N[i]? =U x)(hv:Vis X.env.scope x)(hd:(x==("__debug__":Str))=M)(xf:(x==("__classdict__":Str))=M)(he:PEd X.nox e f)(hs:swapsWith e (U (.Attribute (.Name x px) n fp)) pos.line X.env=pure M):
  PS X (.Assign [.Attribute (.Name x px) n fp] e pos) (tW X H0 Pn E (HL i C n f)):=by
 refine(uN (fi hN hv hd xf) (PE.nox he) hs).aA ?_;rintro D Z H ⟨env,o,⟨eg,EO,p,kn⟩,e,ok⟩;refine a9 e λr hr e=> ?_;split at e
 .rename_i q;obtain⟨d',xp,rfl⟩:=Gaa.mp e;refine a9 xp λd hl hp=> ⟨H0,eg,env,r,EO,hr,λv H2 s2 R1=> ?_⟩;obtain⟨a,dx,fs,ea,ha,hz,fin⟩:=bG.Pr (EO.mono s2) p (kn.mono EO s2) q.2 (fM hl) (.inl ⟨q.1,R1.inn.imm q.1⟩) hp;exact⟨_,ea,a,C,dx,fs,rfl,ha,cl,na,hz,ok Z _ fin⟩
 .cases e
def HP(cl:L2.Cls X.K C)(na:cC X.K C n)(hN:X.N[i]? =U x)(hv:Vis X.env.scope x)(hd:(x==("__debug__":Str))=M)(xf:(x==("__classdict__":Str))=M)(hs:swapsWith (.List [] lp) (U (.Attribute (.Name x px) n fp)) pos.line X.env=pure M):
  PS X (.Assign [.Attribute (.Name x px) n fp] (.List [] lp) pos) (tW X H0 Pn E (vd i C n)):=by
 refine(uN (fi hN hv hd xf) (Cd gO) hs).aA ?_;rintro D Z H ⟨env,o,⟨eg,EO,p,kn⟩,e,ok⟩;unfold vd at e;split at e
 .rename_i fl;obtain⟨d',xp,rfl⟩:=Gaa.mp e;refine a9 xp λd hl hp=> ?_;split at hp
  .rename_i nsc;have el:=fM hl;refine⟨by decide,λg hg=> ?_⟩;have s2:bp H (upd H g (.lst [])):=bh hg;have no:∀a C dx fs,Z[i]? =U (U (.ref a))->upd H g _ a=U (.ins C dx fs)->∀m,(m,.ref g)∉fs:=λa C2 dx fs e1 e2 m hm=>by
    cases d with
    |obj C' ns ds=>
     obtain⟨a',zJ,vs,ea,_,_,ha,ln,_,rs⟩:=EO.mW el;rw[ea] at e1;cases e1;rw[s2 _ _ ha] at e2;cases e2;obtain⟨z,hz⟩:=GaV hm;obtain⟨q1,q2⟩:=Gcr.mp hz;have hk:z<ds.length:=by rw[rs.1];exact(Gac.mp q2).1
     have r:=rs.2 z ds[z] _ (Gag hk) q2;have sc:=Gan.mp nsc ds[z] (GaN hk);generalize ds[z]=dz at r sc;cases r with
     |tup h l r=>rw[hg] at h;cases h
     |scr h=>cases sc
     |kt h=>cases sc
     |exc h r=>obtain⟨_,_,_,_,h,_⟩:=h;rw[hg] at h;cases h
     |lst f h l r=>rcases h with h| ⟨_,h⟩<;>rw[hg] at h<;>cases h
     |obj f h ln kd l r=>rw[hg] at h;cases h
     |kid f h l r=>rw[hg] at h;cases h
    |_=>cases nsc
   obtain⟨a,dx,fs,ea,ha,hz,fin⟩:=bG.Pr (EO.mono s2) p (kn.mono EO s2) fl el (.inr ⟨rfl,g,rfl,aB,EO.same.free hg,EO.kz hg,no⟩) hp;exact⟨_,ea,a,C,dx,fs,rfl,ha,cl,na,hz,ok Z _ fin⟩
  .cases hp
 .cases e
end
def mkO(i C:Nat)(sp:SpX):DW:=λenv=>(sp [.obj C [] []]).bind λr=>match r with
 |(.non,[l])=>U (.nx (env.set i (U (.lok l))))
 |_=>J
def bG.LP{K:ag}{H:Hp}{Pn:Nat->V->Prop}{env:Env}{Z:St}{l:D}(E:bG K H0 Pn env Z H)(s:bp H H')(n:H a=J)(w:Wr H' a)(t:l.top=O)(hP:∀v,¬Pn i v)(zf:Inn K (λb=>H b=J/\b≠a) H' l (.ref a)):bG K H0 Pn (env.set i (U (.lok l))) (Z.set i (U (.ref a))) H' :=by
 by_cases hi:i<env.length
 rotate_left
 .have:=E.mono s;obtain⟨eg,EO,_⟩:=E
  rwa[List.set_eq_of_length_le ?B,List.set_eq_of_length_le (by rw[<-EO.len];lia)]
 obtain⟨eg,EO,pn,kn⟩:=E;have hs:i<Z.length:=by rw[<-EO.len];exact hi
 have E1:=((EO.mz s hi n w t (zf.imp λb h=> ⟨EO.kz h.1,h.2⟩)).lock (U i)).1;have:bM (U i) (env.set i (U (.own l)))=env.set i (U (.lok l)):=by
  simp_all
 rw[this] at E1;refine⟨eg,E1,λp v z q=> ?_,λj C ns ds ej a' dx vs ea h ln k q g e1 e2=> ?_⟩
 .have ne:i≠p:=λw=>by subst w;exact hP v z
  rw[Gad ne] at q⊢;exact pn p v z q
 .by_cases y:i=j
  .subst y;rw[bZ hi] at ej;cases ej;rw[GaD hs] at ea;cases ea;cases zf with
   |obj h' ln' kd r=>
    rw[h] at h';injection h' with h'
    injection h' with _ _ h'
    have:=zip_inj ln ln' h';subst this;obtain⟨vv,y1,y2⟩:=r.get e1;rw[e2] at y1;cases y1;cases y2 with
    |kid f _ _ _=>exact EO.same.free f.1
  .rw[Gad y] at ej ea;exact kn.mono EO s j C ns ds ej a' dx vs ea h ln k q g e1 e2
def Pt{X:Cx}{pos' :Pos}(mk:Mk X.K C fa)(F:cp X.prog X.w X.K X.mg X.base CX0 k fa fd ps (spW X.K 1 [0] sp))(hr:cD (k+1) X.A)(hg:Gl X x)(hm:X.mg x=U (.ref C))(hb:Binds X.K fd ps [])(hN:X.N.Nodup)(hi:X.N[i]? =U y)(hx:Loc X.env.scope y)(hf:X.fn y=O\/X.env.scope.names.lookup y=U .local)(hP:∀v,¬Pn i v)
  (hZ:(x==("__debug__":Str))=M)(hs:swapsWith (.Call (.Name x p) [] [] pos) (U (.Name y q)) pos'.line X.env=pure M):PS X (.Assign [.Name y q] (.Call (.Name x p) [] [] pos) pos') (tW X H0 Pn E (mkO i C sp)):=by
 refine(C5 hN hi hx (Cf (dvs:=[]) mk F hr hg hm hb .nil wc hZ) hs hf).aA ?_;rintro D Z H ⟨env,o,EW,e,ok⟩;refine a9 e λ⟨d,ls⟩ xI e=> ?_;split at e
 .rename_i l z;cases z;cases e;intro a dx n1 n2 ne;have sm:bp H (upd (upd H dx (.own a)) a (.ins C dx [])):=λc q z=>by rw[aq (aX z n1),aq (aX z n2)];exact z
  refine⟨[.obj C [] []],.non,[l],(· =a),rfl,rfl,xI,λb hb=> ?_,λm d v e1 e2=> ?_,λi1 h1 j1 h2 v _ _=> ?_,λv H' keep rv len back=> ?_⟩
  .subst hb;rw[aB];simp
  .cases m with
   |zero=>
    cases e1;cases e2;exact .inl ⟨by simp,a,rfl,rfl,⟨_,aB,trivial⟩,rfl,.obj (vs:=[]) aB rfl (λi j l g q=>by simp at q) ⟨rfl,λi d v q=>by simp at q⟩⟩
   |succ m=>simp at e1
  .rw[Gbb] at h1 h2;rw[h1,h2]
  .refine⟨(by cases rv;rfl),ok _ H' ?_⟩;obtain⟨a',w1,w2,w3,w4,w5⟩:=back 0 0 l rfl rfl;cases w1;refine EW.LP (λc o h=>keep c o (sm c o h) λz=>by subst z;rw[n1] at h;cases h) n1 w2 w3 hP (w5.imp λb h=> ?_);have VG:b≠a:=λz=>h.2 0 ?E (by rw[z];rfl);refine⟨?_,VG⟩;rcases h.1 with z|z
   .exact absurd z VG
   .cases w:H b with
    |none=>rfl
    |some o=>rw[sm b o w] at z;cases z
 .cases e
open PySem.W (Looks exmOne exm_one)
noncomputable abbrev hdl (X:Cx) (e:Xq):Cx:={X with A:=X.A.mark (U e),calm:=M,xe:=λ_ _=>False}
def _root_.L2.Inv.mark(I:Inv X ef Z H s)(e:Xq):Inv (hdl X e) ef Z H s:=
 ⟨⟨I.ok.mod,I.ok.kind,I.ok.glob,I.ok.blt,I.ok.above,I.ok.inj,I.ok.has,I.ok.cab,λz=>(by cases z),I.ok.frames,I.ok.stk,I.ok.exf,I.ok.bs,I.ok.bsz,I.ok.vS,I.ok.vT,I.ok.kU,I.ok.frf⟩,I.os,I.bare,I.base,I.loc,I.cell,I.free,I.iC,I.pin,I.hok,I.len⟩
def _root_.L2.Inv.unmark{X:Cx}(I:Inv (hdl X e) ef Z H s)(hd:X.calm=O->X.A.handled=J):Inv X ef Z H s:=
 ⟨⟨I.ok.mod,I.ok.kind,I.ok.glob,I.ok.blt,I.ok.above,I.ok.inj,I.ok.has,I.ok.cab,hd,I.ok.frames,I.ok.stk,I.ok.exf,I.ok.bs,I.ok.bsz,I.ok.vS,I.ok.vT,I.ok.kU,I.ok.frf⟩,I.os,I.bare,I.base,I.loc,I.cell,I.free,I.iC,I.pin,I.hok,I.len⟩
def Bt{X:Cx}{Z:L2.St}(I:Inv X ef Z H s)(hN:X.N.Nodup)(hk:X.N[k]? =U x)(hx:X.env.scope.names.lookup x=U .local)(hv:Z[k]? =U (U v))
  (h:∀s',Inv X ef (Z.set k J) H s' ->Q () s'):wpAny Xf A (unbindName X.env x) Q E s:=by
 have kl:X.env.kindOf x=U .local:=hx;obtain⟨m,hn,names⟩:=I.loc;obtain⟨u,hm⟩:∃u,m x=U u:=by
  obtain⟨u,_,⟨_,e⟩| ⟨z|z,_⟩⟩:=names k x v hk hv (.inl hx)
  .exact⟨u,e⟩
  all_goals rw[kl] at z;cases z
 have far:∀b,b<_->b≠X.env.locals:=λb lt e=>absurd (Gah lt I.ok.above) ?H;refine wpAny_unbindName_local kl hn hm (by rw[I.ok.kind];rfl) λh' u' UY hs=>h _ {ok:=I.ok,os:=I.os,bare:=I.bare,base:= ?_,loc:=⟨_,UY,λj y v' e1 e2 e3=> ?_⟩,cell:=λy c e=> ?_,free:=I.free,iC:=I.iC,pin:=λp hp=> ?_,hok:=(λhs b ob e=>(I.hok b ob e).iD (λc _ hc q=>(hs.2 c λz=>by subst z;rcases hc with z|z;(rw[<-z,I.free] at e;cases e);(rw[I.free] at z;cases z)).trans q) (λ_ q=>q) λ_ _ q=>q) hs,len:=by simpa using I.len}
 .exact I.base.past (λb ob lt q=> ⟨_,(hs.2 b (far b lt)).trans q⟩) λb ob lt _ q=>(hs.2 b (far b lt)).trans q
 .rcases eG e2 with⟨_,z⟩| ⟨hj,e2⟩
  .cases z
  .obtain⟨w,zr,look⟩:=names j y v' e1 e2 e3;have ny:y≠x:=λe=>hj (nY hN hk (e▸e1));exact⟨w,zr,look.imp (λ⟨a,b⟩=> ⟨a,(Gau ny).trans b⟩) λ⟨a,c,b,z⟩=> ⟨a,c,b,z.sameBut hs (I.cne y c b)⟩⟩
 .exact(I.cell y c e).imp λ_ z=>z.sameBut hs (I.cne y c e)
 .obtain⟨q1,q2,q3,q4⟩:=I.pin p hp;exact⟨(hs.2 _ q3).trans q1,q2,q3,q4⟩
section
variable{env:Env}
def iL(h:bJ (env.set k J)[j]?):k≠j/\bJ env[j]? :=by
 by_cases q:k=j
 .subst q;by_cases z:k<env.length
  .rw[bZ z] at h;exact h.elim
  .rw[Gbs ?H] at h;exact h.elim
 .rw[Gad q] at h;exact⟨q,h⟩
variable{Z:St}
def az.clear{K:ag}(E:az K H0 eg env Z H)(k:Nat):az K H0 eg (env.set k J) (Z.set k J) H:=by
 have cln:∀b,Cln eg env Z b->Cln eg _ (Z.set k J) b:=λb ⟨h1,h2⟩=> ⟨h1,λj t e=>by
  obtain⟨q,t⟩:=iL t;rw[Gad q] at e;exact h2 j t e⟩
 have at' :∀{i:Nat} {s:Slot},(env.set k J)[i]? =U (U s)->k≠i/\env[i]? =U _:=λe=>by
  rcases eG e with⟨_,z⟩|z
  .cases z
  .exact z
 refine⟨E.same,by simpa using E.len,E.bad,λi d e=> ?_,λi d e=> ?_,λi d e=> ?_,λi j a t1 t2 e1 e2=> ?_⟩
 .obtain⟨q,e⟩:=at' e;obtain⟨v,h1,h2⟩:=E.sh i d e;exact⟨v,by rw[Gad q];exact h1,h2.imp cln⟩
 .obtain⟨q,e⟩:k≠i/\(env[i]? =U _\/env[i]? =U _):=by
   rcases e with e|e
   .exact⟨(at' e).1,.inl (at' e).2⟩
   .exact⟨(at' e).1,.inr (at' e).2⟩
  obtain⟨a,h1,h2,h3,h4,h5,h6⟩:=E.ow i d e;exact⟨a,by rw[Gad q];exact h1,h2,h3,h4,h5,h6.imp cln⟩
 .obtain⟨q,e⟩:=at' e;obtain⟨a,h1,h2,h3,h4⟩:=E.bo i d e;exact⟨a,by rw[Gad q];exact h1,h2,h3,h4.imp cln⟩
 .obtain⟨q1,_⟩:=iL t1.top;obtain⟨q2,zm⟩:=iL t2;rw[Gad q1] at t1 e1;rw[Gad q2] at e2;exact E.dj i j a t1 zm e1 e2
def Stp.clear:Stp env Z H (env.set k J) (Z.set k J) H:=⟨λ_ _ e _=>e,λb ⟨j,h,e⟩=>by
 obtain⟨q,_⟩:=iL h.ol.top;rw[Gad q] at h e;exact .inl ⟨j,h,e⟩,λj h=>by
 obtain⟨q,_⟩:=iL h.top;exact⟨Gad q,Gad q⟩⟩
end
def DQ:mB->Option RX
 | .ret d _=>if d.imm then U (.ok d) else J
 | .nx _=>U (.ok .non)
 | .ex C n d=>U (.exc C n d)
 |_=>J
def u0(n np:Nat)(body:DW):List D->Option RX:=λds=>if ds.length=np/\argsOk [] ds=O then(body (cO [] n ds)).bind DQ else J
def spR(K:ag)(np:Nat)(sp:List D->Option RX):Sp:=λvs H Q E=>∃ds r,ds.length=np/\aP K (λa=>Wb H a) H ds vs/\sp ds=U r/\match r with
 | .ok d=>∀v H',bp H H' ->d.imm=O->Rep K (λ_=>False) H' d v->Q v H'
 | .exc C n d=>∀v dx H',bp H H' ->H dx=J->H' dx=U (.xd [(n,v)])->d.imm=O->Rep K (λ_=>False) H' d v->E (.ref C) (U dx) H'
def Pu:hole (λ_=>False) H=H:=funext λb=>oB λz=>z
def DR{K:ag}{d:D}(r:Rep K (λa=>Wb H a) H d v)(ok:d.bI=O):DB K (λ_=>False) H d v:=by
 by_cases t:d.top=O
 .refine .inl ⟨t, ?_⟩;have ri:=r.inn;cases r with
  |lst f h l r=>exact⟨_,rfl,λz=>z,f,ri.imp λ_ _ z=>z⟩
  |obj f h ln kd l r=>exact⟨_,rfl,λz=>z,f,ri.imp λ_ _ z=>z⟩
  |_=>cases t
 .exact .inr ⟨by simpa using t,r.imp λ_ _ z=>z⟩
def LQ{K:ag}{fd:XA}{N ps:List Str}{k:Nat}(F:Fun K x qual sd fa fd)(S:dh N ps (av sd))(yj:ps.length=np)
  (xg:∀eQ A outer s H E,cD k (A.deeper (envOfC qual (av sd) s.heap.objs.size fa eQ))->XL (gf (CXE P w K) P w K mg base N qual (av sd) fa eQ A outer s H E) E->
   PSs (gf (CXE P w K) P w K mg base N qual (av sd) fa eQ A outer s H E) (bY sd) (tW (gf (CXE P w K) P w K mg base N qual (av sd) fa eQ A outer s H E) H (λ_ _=>False) E body)):cp P w K mg base (CXE P w K) (k+1) fa fd ps (spR K np (u0 N.length np body)):=by
 obtain⟨oc,od,kV,doc,pm,an,eQ,ct,yD,rfl,lk,xf⟩:=F.ex;refine Cg lk xf S (λvs H Q E h=> ?_) λA outer s H vs Q E hr h=> ⟨_,xg eQ A outer s H E hr (λef Z H s a B C f dx n v I cl ha ea ed hE=>Dx I cl ha ea ed hE), ?_⟩
 .obtain⟨ds,d,h1,h2,_⟩:=h;rw[<-h2.1,h1,yj]
 .obtain⟨ds,r,h1,h2,h3,k⟩:=h;unfold u0 at h3;split at h3
  .rename_i q;refine a9 h3 λo ho h3=> ?_;have hl:ds.length<=N.length:=by
    have:=congrArg List.length S.pre
    grind
   have okr:∀{k:Nat} {d},ds[k]? =U d->d.bI=O:=λ{k d} e=>by
    have:=Gan.mp q.2 k (GaZ.mpr ((Gac.mp e).1));rw[GaW,e] at this;exact this.resolve_left λz=>by simp at z
   obtain⟨EO,kn⟩:=oE hl h2.1 q.2 (λ_ z=>z.elim) (λk d v e1 e2=> .inr ⟨by simp,DR (h2.2 k d v e1 e2) (okr e1)⟩) (λ_ z=>by simp at z);rw[Pu] at EO kn;refine⟨cO [] _ ds,o,⟨_,EO,λ_ _ z=>z.elim,kn⟩,ho, ?_⟩;cases o with
   |ret d' e=>
    have h3:(if _ then U _ else J)=U r:=h3;split at h3
    .rename_i im;cases h3
     exactλv Z H' ⟨_,E',_⟩ r=>k v H' E'.same im r
    .cases h3
   |nx e=>cases h3;exactλZ H' ⟨_,E',_⟩=>k .non H' E'.same rfl .non
   |bk e=>cases h3
   |ct e=>cases h3
   |ex C n d=>cases h3;exact k
  .cases h3
open PySem.W (findIn clsIn mroIn looks_findIn looks_clsIn looks_mroIn looks_find InstAt check_slot Looks findObj findObj_data specialIn takesIn KitX kitOne kia_one class_get handed_on)
structure XIs(K:ag)(C:Xo):Prop where
 ga:findIn K (.ref C) "__getattribute__"=U (U (.builtin "BaseException.__getattribute__"))
 gt:findIn K (.ref C) "__getattr__"=U J
 be:mroIn K C (.type "BaseException")=U O
 ob:mroIn K C (.type "object")=U O
 cd:(clsIn K C).isSome=O
 c1:findIn K (.ref C) "__class__"=U (U (.builtin "object.__class__"))
 c2:specialIn K (.builtin "object.__class__") "__get__"=U (U (.builtin "getset_descriptor.__get__"))
 c3:takesIn K (.builtin "object.__class__")=U O
def Bu{z:Xr}{K:PySem.W.Frag}(X:K.In z.heap)(I:InstAt z.heap e ox C (U od))(x:XIs K C)(hQ:Q (U (.ref C)) {z with toks:=z.toks+1}):wpAny (model prog w) A (getAttr? (.ref e) "__class__") Q E z:=by
 have tE:=I.type (M:=model prog w);refine Gab (wpAny_mkText (Gab (wpAny_attempt (Gbz (Gab (lk tE (Gab (lk (Gcu (M:=model prog w) X x.ga) (Gbv rfl (Gab (Gbk rfl (lk (Gcu (M:=model prog w) X x.gt) (Gab (wpAny_attempt (Gbz ?_)))))))))))))));have G:=PySem.F.attrBase_ValueError.ga;exact Gbv rfl (Gab (wpAny_of_eq (G.bind _) (GbN (GbO G.plain PySem.F.entry_bexc_ga (@check_slot _ _ _ {z with toks:=_+1} "BaseException.__getattribute__" "BaseException" "__getattribute__" _ [.str "__class__" z.toks] [] _ rfl rfl (tE.andThen (looks_mroIn X x.be)) (PySem.F.args_bexc_ga _ _) (Gab (Gal (Gab (Gal (Gab (lk tE (Gab (lk (looks_find (M:=model prog w) X I (findObj_data x.cd x.c1 x.c2 x.c3)) (Gab (Gbz (GbN (class_get (s:={z with toks:=_+1}) (ox:=ox) (od:=U od) X I x.ob (Gal (handed_on rfl (Gal hQ))))))))))))))))))))
def wM{K:PySem.W.Frag}(h:(clsIn K C).isSome=O):∃c d cd sl,K.lookup C=U ⟨c,d,.cls cd,sl⟩:=by
 unfold clsIn at h;split at h
 .exact⟨_,_,_,_,by assumption⟩
 .cases h
theorem DU{K:PySem.W.Frag}{e:Xo}(x:XIs K C):KitX K (.ref e) (.ref C) (λh=>InstAt h e ox C (U od)) where
 ty:=λ_ _ _ I=>I.type
 it:=λ_ _ X _ _ _ _ _ k q=>let⟨_,_,_,_,l⟩:=wM x.cd;Gab (wpAny_loadPart (k _ _ (X _ _ l)) (Gal q))
 ne:=λ_ _ _ _ _ _ X at_=>Bool.eq_false_iff.mpr λq=>by
  obtain⟨_,_,_,_,l⟩:=wM x.cd;cases GaU.mp q;cases(X _ _ l).symm.trans at_
 ca:=λX I k=>Bu X I x k
def DV{cs:List (Nat×Bool)}(h:cs.lookup C=U b):(C,b)∈cs:=by
 induction cs with
 |nil=>cases h
 |cons q r ih=>
  rw[GaE] at h;split at h
  .rename_i z;cases h;simp_all
  .exact Gaw _ (ih h)
def ve(r:Xg v u):PySem.W.handedIn u=O:=by
 cases v<;>first|(obtain⟨t,q⟩:=r;cases q;rfl)|(cases(show u=_ from r);rfl)
def wN{Z:L2.St}{s:Xr}(I:Inv X ef Z H s)(h:Xc H a C n v):∃dx vs sl od,s.heap.get? a=U {cls:= .ref C,dict:=U dx,data:= .fields vs,slots:=sl}/\InstAt s.heap a {cls:= .ref C,dict:=U dx,data:= .fields vs,slots:=sl} C (U od)/\H dx=U (.frz od (.xd [(n,v)])):=by
 obtain⟨dx,vs,sl,od,h1,h2⟩:=h;obtain⟨q1,_⟩:=(show bS _ _ H _ a _ from I.hok a _ h1)
 obtain⟨q2,_⟩:=(show bS _ _ H _ dx _ from I.hok dx _ h2)
 exact⟨dx,vs,sl,od,q1,⟨q1,rfl,rfl,q2⟩,h2⟩
def DY(c:V)(u:Xq):Prop:=(∃Cn,c= .ref Cn/\u= .ref Cn)\/∃T,c= .ty T/\u= .type T
def RU(K:ag):List V->Hp->VK->Prop:=λxs H Q=>∃a C n v c u b,xs=[.ref a,c]/\DY c u/\Xc H a C n v/\XIs K C/\kitOne K (.ref C) u=U b/\Q (.bl b) H
def DZ{X:Cx}:dJ X (.builtin "isinstance") (RU X.K):=by
 intro ef s Z H xs us Q I r h;obtain⟨a,C,n,v,c,u,b,rfl,hc,hx,xi,hk,q⟩:=h;obtain⟨u1,u2,rfl,r1,r2⟩:=vals2 r;obtain rfl:u1=Value.ref a:=r1;have e2:u2=u:=by
  rcases hc with⟨Cn,rfl,rfl⟩| ⟨T,rfl,rfl⟩
  .exact r2
  .exact r2
 subst e2;obtain⟨dx,vs,sl,od,_,IA,_⟩:=wN I hx;exact kia_one (DU xi) I.kIn IA hk (λz=>nomatch z) λtk=> ⟨.bl b,H,I.tok _,rfl,q⟩
def LR{X:Cx}(yq:∀q∈cs,XIs X.K q.1/\kitOne X.K (.ref q.1) u=U q.2)(hc:DY c u)(he:PEd X e f)(hg:Gl X "isinstance")(hm:X.mg "isinstance"=J)(ht:PE X (.Name cn p2) (tC c))
  (eZ:autoParam (starEach [e,.Name cn p2] X.env=(M,eval e X.env)::starEach [.Name cn p2] X.env) Za1._auto_1)(hV:autoParam (starEach [.Name cn p2] X.env=(M,eval (.Name cn p2) X.env)::starEach [] X.env) Za1._auto_1)(xb:autoParam ((backTo pos (starEach [.Name cn p2] X.env)).any (·.1)=M) Za1._auto_1):
  PEd X (.Call (.Name "isinstance" p) [e,.Name cn p2] [] pos) (bE (kh cs f)):=by
 refine(kZ DZ hg hm rfl (cM he (cM ht gO hV) eZ) (by decide) rfl eZ xb).aA (λZ H Q q0=>bP q0 λH0 eg env rv E e k=> ?_);obtain⟨bb,e',rfl⟩:=Gaa.mp e;refine a9 e' λr hr e2=> ⟨H0,eg,env,r,E,hr,λv H1 s1 R=> ?_⟩;obtain⟨kd,d⟩:=r;have i:=R.inn;cases d with
 |exc C n d=>
  cases i with
  |exc hx _=>
   obtain⟨h1,h2⟩:=yq _ (DV e2);exact⟨_,C,n,_,c,u,bb,rfl,hc,hx,h1,h2,k _ H1 s1 (.bl _)⟩
 |_=>cases e2
def HQ{X:Cx}(yq:∀C∈cs,∃B fI,XCl X.K B C fI m)(he:PEd X e f)(hb:autoParam (attributeBase e m X.env (eval e X.env)=eval e X.env) Za1._auto_1):PEd X (.Attribute e m pos) (LK cs m f):=by
 intro ef s Z H Q I hw;obtain⟨H0,eg,env,rv,EO,e0,k⟩:=hw;refine a9 e0 λr hr eo=> ?_;have h0:tE X f Z H λv H1=>bp H H1/\fU _ H0 eg env Z H H1 r v:=⟨H0,eg,env,r,EO,hr,λv H1 s1 R=> ⟨s1,R⟩⟩
 refine vY hb (thn (he ef s Z H _ I h0) λu s1 q0=> ?_);obtain⟨v,H1,I1,rl,sm,R⟩:=q0;obtain⟨kd,d⟩:=r;cases kd with
 |c=>
  dsimp only at eo;cases d with
  |exc C n d=>
   replace eo:(if cs.contains C=O/\n=m then U ⟨.c,d⟩ else J)=U rv:=eo;by_cases q:cs.contains C=O/\n=m
   .rw[Gaj q] at eo;obtain⟨qc,rfl⟩:=q;have e9:=Option.some.inj eo;subst e9;cases R with
    |exc hx rd=>
     obtain⟨B,fI,cl⟩:=yq C (by simpa using qc);obtain rfl:u=Value.ref _:=rl;obtain⟨dx,vs,sl,od,q1,IA,h2⟩:=wN I1 hx;obtain⟨_,mA,ns,xA⟩:=(show bS _ _ H1 _ dx _ from I1.hok dx _ h2)
     have hv:=xA n;simp only[GaE,beq_self_eq_true] at hv;cases em:mA n with
     |none=>rw[em] at hv;exact hv.elim
     |some u2=>
      rw[em] at hv;obtain⟨cd,c1,_,c3⟩:=cl.cd;exact Dv I1.kIn cl.ga cl.gt cl.be c1 c3 cl.nf ⟨sl,q1⟩ ns em (ve hv) (⟨_,H1,I1.tok _,hv,k _ H1 sm rd⟩)
   .rw[Gau q] at eo;cases eo
  |_=>cases eo
 |_=>cases eo
def oG(rs:List RV):Bool:=rs.all λr=>r.d.bI
def E5{K:ag}{d:D}(i:Inn K F H d v)(ok:d.bI=O):Rep K (λa=>Wb H a) H d v:=by
 by_cases t:d.top=O
 .have i' :Inn K (λa=>Wb H a) H d v:=by
   cases i with
   |lst h r=>exact Inn.cI (λ_ _ z _=>z) (.lst h r) t ok rfl
   |obj h ln kd r=>exact Inn.cI (λ_ _ z _=>z) (.obj h ln kd r) t ok rfl
   |_=>cases t
  cases i' with
  |lst h r=>exact .lst (h.elim (λz=> ⟨_,z,trivial⟩) λ⟨_,z⟩=> ⟨_,z,trivial⟩) h r.1 r.2
  |obj h ln kd r=>exact .obj ⟨_,h,trivial⟩ h ln kd r.1 r.2
  |_=>cases t
 .exact i.imm (by cases d<;>first|exact ok|exact absurd rfl t)
def HR{K:ag}{rs:List RV}(p:Paired (fU K H0 eg env Z H H') rs vs)(h:oG rs=O):aP K (λa=>Wb H' a) H' (rs.map (·.d)) vs:=by
 induction p with
 |nil=>exact aP.nil
 | @cons r v _ _ R t ih=>
  have h' :(_&&oG _)=O:=h;rw[Gai] at h';exact aP.cons (E5 R.inn h'.1) (ih h'.2)
section
variable{Z:L2.St}{X:Cx}
def Bv(I1:Inv X ef Z H1 s1)(cx:LJ X.prog X.w X.stack H1 s1 a C dx T n v H' s')(cl:XCl X.K B C fI n)(xw:X.stack=X.env::X.outer)(yc:X.env.frame=U X.env.locals)
  (hm:exmOne X.K (.ref C) (.ref Cn)=U O)(hg:Gl X cn)(yQ:X.mg cn=U (.ref Cn))(hN:X.N.Nodup)(hk:X.N[k]? =U en)(xZ:X.env.scope.names.lookup en=U .local)
  (st:PSs (hdl X (.ref a)) (hb::zh) ts)(hZ:(cn==("__debug__":Str))=M)
  (ht:∀Hf,(∃vs sl od,Hf a=U (.frz {cls:= .ref C,dict:=U dx,data:= .fields vs,slots:=sl} (.own a))/\Hf dx=U (.frz od (.xd [(n,v)])))->(∀b,b≠a->b≠dx->Hf b=H' b)->ts {nx:=N,rt:=λ_ _=>False} (Z.set k (U (.ref a))) Hf)
  (hq:∀Z' Hf s2,N Z' Hf->Inv X ef (Z'.set k J) Hf s2->Q .next s2):
  wpAny (model X.prog X.w) X.A (noteFrame (.ref a) X.env) (λ_ s2=>wpAny (model X.prog X.w) X.A (setFlight (.ref a) J) (λ_ s3=>wpAny (model X.prog X.w) X.A (handleBy (.ref a) X.env [.ExceptHandler (U (.Name cn p5)) (U en) (hb::zh) p9]) Q X.xe s3) X.xe s2) X.xe s' :=by
 obtain⟨⟨t0,fx⟩,_,_⟩:=(show bS _ _ H' _ a _ from cx.hok a _ cx.obj)
 obtain⟨ts,ft,q3⟩:=cx.trc;obtain⟨mA,VZ,UA⟩:=(show bS _ _ H' _ dx _ from cx.hok dx _ cx.dct)
 obtain⟨od,WS,WT,Vz,zt⟩:=id VZ;have nd:dx≠a:=BX cx.dct cx.obj (λz=>by cases z);have I2:Inv X ef Z H' s' :=I1.sr (ch:=[]) cx.os cx.un cx.hok cx.bare (λ_ z=>nomatch z);have lo:Loose (H' a):=by rw[cx.obj];trivial
 refine tM (base:=_) (I1.ok.frames.trans (by rw[xw])) (xw▸I2.stack) yc fx (.inr ⟨T,_,_,ts,rfl,cx.ne,ft,q3⟩) λh' T' xY fe n1 le yW VW k1 k2=> ?_;have keep:∀b u,b≠a->H' b≠J->s'.heap.get? b=U u->h'.get? b=U u:=λb u nb z q=>k2 b u nb (λe=>by cases e;exact z cx.trf) (λm=>z ((xw▸I2.kW) b m)) q;have zA :h'.get? dx=U od:=keep dx od nd (by rw[cx.dct];simp) Vz;obtain⟨sl,oa⟩:=id fe;have un1:Un _ [] H1 H' _ h' :=cx.un.past (λb ob lt q=>k1 b ob (Gas (Gah lt cx.new)) (λe=>by cases e;exact absurd (Gah lt cx.QJ) (GaY _)) q)
  λb ob lt m q=>k2 b ob (Gas (Gah lt cx.new)) (λe=>by cases e;exact absurd (Gah lt cx.QJ) (GaY _)) (λz=>m (by rw[xw];exact z)) q
 obtain⟨Hf,fA,fD,fO,I3⟩:∃Hf:Hp,Hf a=U _/\Hf dx=U _/\(∀b,b≠a->b≠dx->Hf b=H' b)/\Inv X ef Z Hf {s' with heap:=h' }:=by
  have lod:∀o,Loose (upd H' a o dx):=λo=>by rw[aq nd,cx.dct];trivial
  refine⟨upd (upd H' a (.frz {cls:= .ref C,dict:=U dx,data:= .fields #[.ref t0,.ref T',.none,.none,.bool M,.none],slots:=sl} (.own a))) dx (.frz od (.xd [(n,v)])),by rw[aq (GaG nd)];exact aB,aB,λb h1 h2=>by rw[aq h2,aq h1], ?_⟩;have ok1:HOk _ _ (upd H' a (.frz {cls:= .ref C,dict:=U dx,data:= .fields #[.ref t0,.ref T',.none,.none,.bool M,.none],slots:=sl} (.own a))) h' :=cx.hok.lN lo keep (show _/\_ from⟨oa,_,oa⟩);have ok2:HOk _ _ (upd _ dx (.frz od (.xd [_]))) h' :=ok1.lN (lod _) (λ_ _ _ _ q=>q) (show _/\_ from⟨zA,mA,⟨od,WS,WT,zA,zt⟩,UA⟩);exact I1.sr (s' :={s' with heap:=h' }) (ch:=[]) cx.os ((un1.lN lo).lN (lod _)) ok2 cx.bare (λ_ z=>nomatch z)
 refine wpAny_handleBy_cons (codeAny_handlers_test (fQ (X:=hdl X _) (I3.mark _) hg yQ (exm_one (M:=model _ _) I3.kIn ((Looks.ld oa).andThen .now) hm _ _ _ _ (λ_ _ e=>e) (codeAny_handlers_suite_as (Gab (gY (z:={s' with heap:=h' }) (i:=1) (x:= .ref T') fe rfl (Gbk rfl (kK (z:={s' with heap:=h' }) yW (λh2 X6 sb=> ?_) ((Gbr.mp VW).1))))))) hZ)) (by intro q;cases q);have I4:Inv X ef Z Hf {s' with heap:=h2}:=I3.turned (s:={s' with heap:=h' }) (h' :=h2) (t' :=s'.toks) (it:=T') (λb o nb q=>(sb.2 b nb).trans q) (by rw[fO T' n1 (Gbd (Gah (Gak Vz) le))];exact cx.hok.fresh le) (Gbd (Gah I2.lt le)) (.inr (GaH I2.sz le))
  (λx c e z=>by obtain⟨_,o,ho,_⟩:=I2.cell x c e;exact absurd (Gah (Gak ho) le) (by rw[z];exact GaY _))
  λp hp z=>absurd (Gah (Gak (I2.pin p hp).1) le) (by rw[z];exact GaY _)
 refine kX I4 hN hk (.inl xZ) (v:= .ref a) rfl (λs5 I5=>(Gba (st ef s5 (Z.set k (U (.ref a))) Hf {nx:=N,rt:=λ_ _=>False} (I5.mark (.ref a)) (ht Hf ⟨_,_,_,fA,fD⟩ fO)) (λf s6 q=> ?_) λ_ _ z=>z.elim)) (.inr xZ);cases f with
 |brk=>obtain⟨_,_,_,z⟩:=q;exact z.elim
 |cont=>obtain⟨_,_,_,z⟩:=q;exact z.elim
 |ret u=>obtain⟨_,_,_,_,_,z⟩:=q;exact z.elim
 |next=>
  obtain⟨Z6,H6,I6,e1⟩:=q;have I6:=I6.unmark I1.ok.hd;refine Gab (wpAny_bindName (kX I6 hN hk (.inl xZ) (v:= .non) rfl (λs7 I7=>(GcH (Bt I7 hN hk xZ (v:= .non) (GaD (by simpa using(by rw[I6.len];exact(Gac.mp hk).1))) λs8 I8=> ?_))) (.inr xZ)));rw[List.set_set] at I8;exact hq _ _ s8 e1 I8
def Bw{rs:List RV}
  (F:cp X.prog X.w X.K X.mg X.base (CXE X.prog X.w X.K) k fa fd ps (spR X.K np sp))(hr:cD k X.A)(hg:Gl X x)(hm:X.mg x=U (.ref fa))(hk:PySem.W.keepIn X.K (.ref fa)=O)(hb:Binds X.K fd ps [])(ha:PAd X.nox (e::es) a)
  (I:Inv X ef Z H s)(EO:az X.K H0 eg env Z H)(xK:a env=U rs)(hl:rs.length=np)(hw:oG rs=O)(xI:sp (rs.map (·.d))=U r)
  (hok:∀d,r= .ok d->∀u s' v H1 H',Inv X ef Z H' s' ->Xg v u->bp H H1->bp H1 H' ->d.imm=O->Rep X.K (λ_=>False) H' d v->Q u s')
  (hex:∀C n d,r= .exc C n d->∀B f a dx T v s1 s' H1 H',Inv X ef Z H1 s1->bp H H1->XCl X.K B C f n->LJ X.prog X.w X.stack H1 s1 a C dx T n v H' s' ->bp H1 H' ->H1 dx=J->d.imm=O->Rep X.K (λ_=>False) H' d v->E (.ref a) s')
  (hZ:(x==("__debug__":Str))=M)(he:starEach (e::es) X.env=(M,eval e X.env)::starEach es X.env)(xb:(backTo pos (starEach es X.env)).any (·.1)=M):
  wpAny (model X.prog X.w) X.A (eval (.Call (.Name x p) (e::es) [] pos) X.env) Q E s:=by
 refine GbG (fQ I hg hm ?_ hZ);have zE :PA (X.dQ E) _ _:=PA.nox ha;have h0:tA X a Z H λvs H1=>bp H H1/\Paired _ rs vs:=⟨H0,eg,env,rs,EO,xK,λvs H1 s1 R=> ⟨s1,R⟩⟩
 refine Gdd I.ok.mod.kin hk (thn (zE pos ef s Z H _ (I.dQ E) h0) λus s1 ⟨vs,H1,I1,rv,sm,R⟩=> ⟨I1.kIn, ?_⟩) he xb;have I1:=I1.dM;have hsp' :spR X.K np sp vs H1 (λv H' =>bp H1 H' /\∃d,r= .ok d/\d.imm=O/\Rep X.K (λ_=>False) H' d v) (λc o H' =>∃C n d dx v,r= .exc C n d/\c= .ref C/\o=U dx/\bp H1 H' /\H1 dx=J/\H' dx=U (.xd [(n,v)])/\d.imm=O/\Rep X.K (λ_=>False) H' d v):=by
  refine⟨rs.map _,r,by rw[Gav];exact hl,HR R hw,xI, ?_⟩;cases r with
  |ok d=>exactλv H' s' im R' => ⟨s',d,rfl,im,R'⟩
  |exc C n d=>exactλv dx H' s' z e1 im e2=> ⟨C,n,d,dx,v,rfl,rfl,rfl,s',z,e1,im,e2⟩
 refine GbN (Gcg (F.run _ _ s1 H1 ⟨us,[]⟩ us vs _ _ hr I1.Gq (by have:=hb s1 us I1.kIn (by rw[GaP];exact(by rw[<-rv.length];exact F.len _ _ _ _ hsp'));rw[GaP] at this;exact this) rv hsp') λrr s2 hq=> ?_);cases rr with
 |error z=>
  obtain⟨a',B,C,f,dx,T,n,v,H',rfl,cl,cx,C',n',d,zJ,v',e1,e2,e3,zq,z,e4,im,rep⟩:=hq;cases e2;cases e3;have e5:=cx.dct.symm.trans e4;cases e5;exact hex _ _ _ e1 B f a' _ T _ s1 s2 H1 H' I1 sm cl cx zq z im rep
 |ok fl=>
  cases fl with
  |ret u=>
   obtain⟨v,H',I2,VV,zq,d,e1,im,R'⟩:=I1.after hq;exact hok d e1 u s2 v H1 H' I2 VV sm zq im R'
  |next=>exact False.elim hq
  |brk=>exact False.elim hq
  |cont=>exact False.elim hq
variable{k:Nat}{sp:List D->Option RX}{e:Xp}{a:DA}{cs:List Nat}{g:DS}
def HS(sp:List D->Option RX)(a:DA)(cs:List Nat)(k:Nat)(g:DS):DW:=λenv=>(a env).bind λrs=>if oG rs=O then(sp (rs.map (·.d))).bind λr=>match r with
 | .ok d=>U (.nx env)
 | .exc C n d=>if cs.contains C then(g (env.set k (U (.sh (.exc C n d))))).bind λo=>match o with
  | .nx e=>U (.nx (e.set k J))
  |_=>J
  else J
 else J
def LS{p4:Pos}(F:cp X.prog X.w X.K X.mg X.base (CXE X.prog X.w X.K) kk fa fd ps (spR X.K np sp))(hr:cD kk X.A)(hg:Gl X fn)(hm:X.mg fn=U (.ref fa))(hk:PySem.W.keepIn X.K (.ref fa)=O)(WH:Binds X.K fd ps [])(ha:PAd X.nox (e::es) a)(hl:∀env rs,a env=U rs->rs.length=np)
  (yq:∀C∈cs,exmOne X.K (.ref C) (.ref Cn)=U O)(Wx:Gl X cn)(UZ:X.mg cn=U (.ref Cn))(xw:X.stack=X.env::X.outer)(yc:X.env.frame=U X.env.locals)(hN:X.N.Nodup)(yk :X.N[k]? =U en)(xZ:X.env.scope.names.lookup en=U .local)
  (hh:∀a,nG (hdl X (.ref a)) (hb::zh) g)
  (hs:swapsWith (.Call (.Name fn p2) (e::es) [] p3) J p4.line X.env=pure M)
  (yT:(fn==("__debug__":Str))=M)(hZ:(cn==("__debug__":Str))=M)
  (he:starEach (e::es) X.env=(M,eval e X.env)::starEach es X.env)(xb:(backTo p3 (starEach es X.env)).any (·.1)=M):
  PS X (.Try [.Expr (.Call (.Name fn p2) (e::es) [] p3) p4] [.ExceptHandler (U (.Name cn p5)) (U en) (hb::zh) p9] [] [] UC) (tW X H0 Pn E (HS sp a cs k g)):=by
 rintro ef s Z H D I ⟨env,o,EW,eo,ok⟩;obtain⟨eg,EO,pn,kn⟩:=id EW;refine a9 eo λrs xK eo=> ?_;split at eo
 .rename_i hw;refine a9 eo λr xI eo=>wpAny_Try_except (wpAny_execs_cons (wpAny_Expr_any (Bw F hr hg hm hk WH ha I EO xK (hl env rs xK) hw xI (λd er u s' v H1 H' I' rv s1 s2 im R=> ?_) (λC n d er B f a' dx T v s1 s' H1 H' I1 sm cl cx s2 z im rep=> ?_) yT he xb) I.quiet hs))
  .subst er;cases eo;exact GbY (GbY ⟨Z,H',I',ok _ _ (EW.mono (s1.trans s2))⟩)
  .subst er;dsimp only at eo;split at eo
   .rename_i q;refine a9 eo λo1 UX eo=>Bv (N:=λZ' VO =>∃e',o1= .nx e' /\bG X.K H0 Pn e' Z' VO) I1 cx cl xw yc (yq C (by simpa using q)) Wx UZ hN yk xZ (hh a') hZ (λHf hx ho=> ?_) λZ' Hf s3 ⟨e',ee,E'⟩ I3=> ?_
    .have sf:bp H Hf:=λb o e=>by
      have e1:=sm b o e;rw[ho b (aX e1 (I1.hok.fresh cx.new)) (aX e1 z)];exact s2 b o e1
     obtain⟨vs,sl,od,h1,h2⟩:=hx;have nt:∀{b o},H' b=U o->isT o->¬Loose (U o):=λ{b o} _ t=>by cases o<;>first|exact t.elim|exactλz=>z
     have r2:Rep _ (λ_=>False) Hf d v:=rep.told im λb o e t=>by
      rwa[ho b (fV (show Loose _ by rw[cx.obj];trivial) e (nt e t)) (fV (show Loose _ by rw[cx.dct];trivial) e (nt e t))]
     obtain⟨B2,zM,UB,UJ⟩:=(EW.mono sf).jq (.exc ⟨dx,vs,sl,od,h1,h2⟩ r2) k;refine⟨H0,B2,_,o1,zM,UX, ?_⟩;cases o1 with
     |nx e1=>exactλZ' VO E' st=> ⟨e1,rfl,bG.stp UJ UB zM E' st⟩
     |bk e1=>cases eo
     |ct e1=>cases eo
     |ret d1=>cases eo
    .subst ee;cases eo;obtain⟨B2,zM,UB,UJ⟩:=E';exact⟨_,Hf,I3,ok _ _ (bG.stp UJ UB zM (zM.clear k) .clear)⟩
   .cases eo
 .cases eo
end
section
open PySem.Builtin PySem.Builtin.Str
def dO:D->D->Option RV
 | .str x,.str y=>if(y.length==0)=M/\x.length+2<=a7 then U ⟨.tn,.lst ((Txt.split x y).map .str)⟩ else J
 |_,_=>J
theorem qi:∀k xs,Xh (xs.map V.str) (strsFrom k xs)
 |_,[]=> .nil
 |k,x::xs=> .cons ⟨k,rfl⟩ (qi _ xs)
theorem qj{K:ag}:∀(xs:List Str),aP K F H (xs.map .str) (xs.map V.str)
 |[]=> .nil
 |x::xs=> .cons (.str x) (qj xs)
def E8:MtR X "str.split" (λx xs H Q=>∃a b,x= .str a/\xs=[.str b]/\(b.length==0)=M/\a.length+2<=sizeLine/\∀p,H p=J->Q (.ref p) (upd H p (.lst ((Txt.split a b).map V.str)))):=by
 intro ef s Z H x xs v us Q I rx rs h;obtain⟨a,b,rfl,rfl,hb,hz,q⟩:=h;obtain⟨t,rfl⟩:=rx;obtain⟨u,rfl,t2,rfl⟩:=vals1 rs;have fin:∀{l:List Xq} {ys:List Str} {k:Nat},Txt.split a b=ys->Xh (ys.map _) l->ys.length<=sizeLine->EP X ef Z Q _ {s with heap:=s.heap.push {cls:= .type "list",data:= .seq _},toks:=k}:=λ{l ys k} e hv z=>by
  subst e;exact⟨.ref _,_,I.Oo (t' :=k) hv ?H,rfl,q _ I.fresh⟩
 have one:Xh ([a].map V.str) [Value.str a t]:= .cons ⟨t,rfl⟩ .nil;by_cases h1:(decide (a.length<b.length)||decide (strKind a<strKind b))=O
 .exact GcQ F.slot_str_split (Gcv _ _ _) F.entry_str_split (F.args_str_split_2 _ _) (meets_str_split_cannot_occur a b t t2 h1) (fin (k:=_) (by unfold Txt.split;rw[Gaj h1]) one (by show 1<=sizeLine;lia))
 .by_cases hf:(occurrences a b 0 a.length (a.length+1)).isEmpty=O
  .exact GcQ F.slot_str_split (Gcv _ _ _) F.entry_str_split (F.args_str_split_2 _ _) (meets_str_split_not_found a b t t2 ?H hb hf) (fin (k:=_) (by unfold Txt.split;rw[Gau h1,Gaj hf]) one (by show 1<=sizeLine;lia))
  .have hn:(partsBetween a (occurrences a b 0 a.length (a.length+1)) b.length).length<=sizeLine:=by
    have:=StrLaws.occ_length_le a b 0 a.length (a.length+1);rw[length_partsBetween];lia
   exact GcQ F.slot_str_split (Gcv _ _ _) F.entry_str_split (F.args_str_split_2 _ _) (meets_str_split_sep a b t t2 (by simpa using h1) hb (by simpa using hf) ?B hn) (fin (by unfold Txt.split;rw[Gau h1,Gau hf]) (qi _ _) hn)
def E9{X:Cx}{apos eJ:Pos}(ho:PEd X o f)(he:PEd X a g)(eZ:autoParam (starEach [a] X.env=[(M,eval a X.env)]) Za1._auto_1)
  (xh:autoParam (attributeBase o "split" X.env (eval o X.env)=eval o X.env) Za1._auto_1)
  (eU:autoParam ((apos.endLine==eJ.line)=O) Za1._auto_1):PEd X (.Call (.Attribute o "split" apos) [a] [] eJ) (Xn dO f g):=by
 refine(sx GcE PySem.F.slot_str_split PySem.F.type_str_split E8 ho (dk he gP eZ) xh (by rw[eZ];rfl) eU eZ rfl).aA (λZ H Q q0=>bP q0 λH0 eg env rv E e k=>a9 e λ⟨kx,dx⟩ hx e=>a9 e λ⟨ky,dy⟩ hy e=> ?_);have e' :dO dx dy=U rv:=e;unfold dO at e';split at e'
 .split at e'
  .rename_i z;cases e';refine⟨H0,eg,env,_,E,hx,λvx H1 s1 R1=> ?_⟩;cases R1.inn;refine⟨rfl,H0,eg,env,[⟨ky,_⟩],E.mono s1,by unfold ak aM;rw[hy];rfl,λws H2 s2 Rs=> ?_⟩;cases Rs with
   | @cons _ v _ _ R2 tl=>
    cases tl;have i2:=R2.inn;cases i2;exact⟨_,_,rfl,rfl,z.1,by rw[<-eW];exact z.2,λp hp=>k _ _ ((s1.trans s2).trans (bh hp)) (⟨p,rfl,(s1.trans s2).free hp,kA,rfl,.lst (.inl aB) (qj _)⟩)⟩
  .cases e'
 .cases e'
end
noncomputable def kD:Key->D
 | .inl i=> .int i
 | .inr x=> .str x
def iG(x y:D):Option Bool:=match y with
 | .kt ks=>if aY 10 x=O then U ((ks.map kD).any λy=>eqD y x) else J
 |d=>inB x d
def ip(x y:D):Option Bool:=(iG x y).map (!·)
noncomputable def lkT(tbl:List (Key×List Key))(k:Key):Option (List Key):=(tbl.find? λp=>p.1=k).map (·.2)
@[simp] def kdE(tbl:List (Key×List Key))(f:DE):DE:=λenv=>(f env).bind λr=>(keyOf r.d).bind λk=>(lkT tbl k).map λks=> ⟨.c,.kt ks⟩
@[simp] def kdT(neg:Bool)(tbl:List (Key×List Key))(f:DE):DT:=λenv=>(f env).bind λr=>(keyOf r.d).map λk=>if neg then !(lkT tbl k).isSome else(lkT tbl k).isSome
theorem nR{K:ag}:∀ks:List Key,aP K F H (ks.map kD) (ks.map kV)
 |[]=> .nil
 | .inl i::ks=> .cons (.int i) (nR ks)
 | .inr x::ks=> .cons (.str x) (nR ks)
theorem oH:∀ks:List Key,(ks.map kD).all (aY 10)=O
 |[]=>rfl
 | .inl i::ks=>oH ks
 | .inr x::ks=>oH ks
def KDk(P:Xz)(w:Xv)(K:ag)(a:Xo)(tbl:List (Key×List Key)):Prop:=(a==sysModules)=M/\∃o vs,K.lookup a=U o/\o.IsDictOf (gw P w) vs/\Paired (λ(p:Key×List Key) (q:Key×Xq)=>p.1=q.1/\∃b,q.2= .ref b/\Kt K b p.2) tbl vs
def KDk.at{K:ag}(h:Paired (λ(p:Key×List Key) (q:Key×Xq)=>p.1=q.1/\∃b,q.2= .ref b/\Kt K b p.2) tbl vs)(k:Key):(lkT tbl k=J/\valueAt vs k=J)\/∃ks b,lkT tbl k=U ks/\valueAt vs k=U (.ref b)/\Kt K b ks:=by
 induction h with
 |nil=>exact .inl ⟨rfl,rfl⟩
 | @cons p q ps qs hq t ih=>
  obtain⟨e,b,e2,hb⟩:=hq;unfold lkT valueAt;rw[List.find?_cons,List.find?_cons,<-e];by_cases z:p.1=k
  .rw[GbE z];exact .inr ⟨_,b,rfl,by simp[e2],hb⟩
  .rwa[Gbo z]
section
variable{X:Cx}
def u3(ix:Inn X.K F H dx x)(iy:Inn X.K F H dy y)(e:iG dx dy=U b)(q:Q (.bl (if neg then !b else b)) H):rb X.K neg x y H Q:=by
 unfold iG at e;split at e
 .rename_i ks;split at e
  .rename_i pl;cases e;cases iy with
   | @kt p _ h=>exact⟨p,ks.map kV,dx,ks.map kD,rfl,.inr (.inr h),pl,oH ks,ix.any,nR ks,q⟩
  .cases e
 .exact Hy ix iy e q
def HU:OpB X iG (rb X.K M):=λF H dx dy x y b Q ix iy e q=>u3 ix iy e q
def Ea:OpB X ip (rb X.K O):=λF H dx dy x y b Q ix iy e q=>by
 obtain⟨b',e',rfl⟩:=Gaa.mp e;exact u3 ix iy e' q
variable{ad:Xo}
def Pw(hg:Gl X c)(hm:X.mg c=U (.ref ad))(hk:Kt X.K ad ks)(hZ:(c==("__debug__":Str))=M):PEd X (.Name c pos) (kE (.kt ks)):=by
 rintro ef s Z H Q I ⟨_,_,_,_,_,e,k⟩;cases e;exact fQ I hg hm ⟨.ref ad,H,I,rfl,k _ H bw (.kt hk)⟩ hZ
theorem KDk.heap{X:Cx}{Z:St}{s:Xr}{ad:Xo}(h:KDk X.prog X.w X.K ad tbl)(I:Inv X ef Z H s):(ad==sysModules)=M/\∃vs,s.heap.DictOf (gw X.prog X.w) ad vs/\Paired (λ(p:Key×List Key) (q:Key×Xq)=>p.1=q.1/\∃b,q.2= .ref b/\Kt X.K b p.2) tbl vs:=by
 obtain⟨h0,o,vs,h1,h2,h3⟩:=h;exact⟨h0,vs,Heap.dictOf_iff.mpr ⟨o,I.kIn ad o h1,h2⟩,h3⟩
def wO{K:ag}{k:Key}(h:keyOf d=U k)(i:Inn K F H d v):v=kV k:=by
 cases d<;>first|(cases h;cases i;rfl)|cases h
def Px{f:DE}(hu:X.A.units+1<cLine)(hg:Gl X c)(hm:X.mg c=U (.ref ad))(hk:KDk X.prog X.w X.K ad tbl)(hZ:(c==("__debug__":Str))=M)(he:PEd X a f)(hs:Kz a):PEd X (.Subscript (.Name c p) a pos) (kdE tbl f):=by
 refineλef s Z H Q I q0=>bP q0 λH0 eg env rv E e k=>a9 e λr hr e=>a9 e λky V2 e=> ?_
 obtain⟨ks,VD,rfl⟩:=Gaa.mp e;have h0:tE X f Z H λv H1=>bp H H1/\fU _ H0 eg env Z H H1 r v:=⟨H0,eg,env,r,E,hr,λv H1 s1 R=> ⟨s1,R⟩⟩
 refine Gy PySem.F.slot_dict_getitem.lookup hs (fQ I hg hm (thn (he ef s Z H _ I h0) λu s1 q0=> ?_) hZ);obtain⟨v,H1,I1,rl,sm,R⟩:=q0;obtain⟨_,vs,dd,pr⟩:=hk.heap I1;obtain⟨o,es,ep,ho,ed,_⟩:=id dd;refine⟨⟨o,ho,ed.1⟩, ?_⟩;have ev:=wO V2 R.inn;subst ev;rcases KDk.at pr ky with⟨z,_⟩| ⟨W5,b,z1,z2,z3⟩
 .rw[VD] at z;cases z
 .rw[VD] at z1;cases z1;exact wpAny_getItem_of (Ck rl) dd.mapOf z2 ⟨.ref b,H1,I1.tok _,rfl,k _ H1 sm (.kt z3)⟩
def Ju{f:DE}{op:XE}(ho:op=if neg then .NotIn else .In)(hg:Gl X c)(hm:X.mg c=U (.ref ad))(hk:KDk X.prog X.w X.K ad tbl)(hZ:(c==("__debug__":Str))=M)(he:PEd X a f):PTd X (.Compare a [op] [.Name c p] pos) (kdT neg tbl f):=by
 have h1:PC X op a (.Name c p) (λZ H Q=>tE X f Z H λv H1=>∃k,v=kV k/\Q (.bl (if neg then !(lkT tbl k).isSome else(lkT tbl k).isSome)) H1):=by
  intro ef s Z H Q I h;refine thn (he ef s Z H _ I h) λu s1 ⟨v,H1,I1,rl,k,ev,q⟩=>fQ I1 hg hm ?_ hZ;subst ev;obtain⟨h0,vs,dd,pr⟩:=hk.heap I1;have eq:(valueAt vs k).isSome=(lkT tbl k).isSome:=by
   rcases KDk.at pr k with⟨z,z'⟩| ⟨W5,b,z1,z2,z3⟩
   .rw[z,z']
    rfl
   .rw[z1,z2]
    rfl
  cases neg with
  |false=>subst ho;refine wpAny_in_of (Ck rl) h0 dd.mapOf ?_;rw[eq];exact⟨.bl _,H1,I1.tok _,rfl,q⟩
  |true=>subst ho;refine wpAny_notIn_of (Ck rl) h0 dd.mapOf ?_;rw[eq];exact⟨.bl _,H1,I1.tok _,rfl,q⟩
 refine(K6 h1 rfl).aA (λZ H Q q0=>bP q0 λH0 eg env bb E e k=>a9 e λr hr e=> ?_);obtain⟨ky,V2,rfl⟩:=Gaa.mp e;exact⟨H0,eg,env,r,E,hr,λv H1 s1 R=> ⟨ky,wO V2 R.inn,_,rfl,k H1 s1⟩⟩
end
structure Zp(z TI TO i1 i2:Xo)(yL yK:List Xo):Prop where
 nd:[z,TI,TO,i1,i2].Nodup
 f1:z∉yL/\TO∉yL/\i2∉yL
 f2:z∉yK/\TO∉yK/\i1∉yK
 m1:i1∈yL
 m2:i2∈yK
section
variable{s:Xr}
def HV{TI TO:Xo}{n1 k:Nat}{P1 P2:Nat->Xq->Prop}{S1 S2:Nat->Xs->Prop}{Q:VSP}(D1:Draws prog w A i1 yL n1 P1 S1)(D2:Draws prog w A i2 yK n2 P2 S2)(ap:Zp z TI TO i1 i2 yL yK)
  (hz:IsZip s.heap z TI TO .none)(xV:IsPair s.heap TI (.ref i1) (.ref i2))(yd:IsPair s.heap TO a b)(s1:S1 k s.heap)(s2:S2 k s.heap)(l1:k<n1)(l2:k<n2)
  (hQ:∀x y h' tk,P1 k x->P2 k y->IsZip h' z TI TO (rawInt s.heap.objs.size)->IsPair h' TO x y->S1 (k+1) h' ->S2 (k+1) h' ->IsPair h' s.heap.objs.size x y->h'.objs.size=s.heap.objs.size+1->
   (∀c o,c∉[z,TO,i1,i2]->s.heap.get? c=U o->h'.get? c=U o)->Q (.ref s.heap.objs.size) {s with heap:=h',toks:=tk}):
  wpAny (model prog w) A (Builtin.«zip.__next__» ⟨[.ref z],[]⟩) (λfin s' =>∃v,fin= .done (.ret v)/\Q v s') E s:=by
 have nd:=ap.nd;simp only[GaX,Gae,Gao,GaQ,GbS,Gdi,List.nodup_nil,and_true] at nd;obtain⟨⟨yu,xF,za,zu⟩,⟨yM,UH,UG⟩,⟨UE,Vn⟩,W0⟩:=nd;have nTOz:=GaG xF;have nTO1:=UE;have f:FO s.heap z _ _:=⟨_,hz,rfl,rfl⟩
 wp_walk using gX (i:=2) (x:= .bool M) f rfl,gX (i:=3) (x:= .ref TI) f rfl,GbQ xV rfl,gX (i:=0) (x:= .none) f rfl,gX (i:=4) (x:= .ref TO) f rfl,Gcc hz
 .show 0<5;decide
 .intro h1 z1 b1;rw[show(#[Value.ref i1,Value.ref i2].toList.zipIdx)=[(.ref i1,0),(.ref i2,1)] from rfl];simp only[GcR,List.forIn_nil];refine Gab (Gab (Gab (GcH ?_)));show wpAny _ _ (Builtin.SmallTypes.nextOf (.ref i1)>>=λx=>pure (U x)) _ _ _;refine Gab (D1.item k _ _ _ l1 (D1.frame k _ h1 s1 λc hc o e=>b1.extBut c o (λq=>ap.f1.1 (q▸hc)) e) λx h2 t2 px Vk b2=>Gal ?_);have o2:IsPair h2 TO a b:=b2.extBut _ _ nTO1 (b1.extBut _ _ nTOz yd)
  wp_walk using GbQ o2 rfl,GcT o2
  intro h3 o3 b3;replace o3:IsPair h3 TO x b:=o3;refine Gab (wpAny_letGo (Gal ?_));refine Gab (Gab (GcH ?_));show wpAny _ _ (Builtin.SmallTypes.nextOf (.ref i2)>>=λx=>pure (U x)) _ _ _;have up3:∀c o,c≠z->c≠TO->c≠i1->s.heap.get? c=U o->h3.get? c=U o:=λc o c1 c2 c3 e=>b3.extBut _ _ c2 (b2.extBut _ _ c3 (b1.extBut _ _ c1 e));refine Gab (D2.item k _ _ _ l2 (D2.frame k _ h3 s2 λc hc o e=>up3 c o (λq=>ap.f2.1 (q▸hc)) (λq=>ap.f2.2.1 (q▸hc)) (λq=>ap.f2.2.2 (q▸hc)) e) λy h4 t4 py zq b4=>Gal ?_);have o4:IsPair h4 TO x b:=b4.extBut _ _ Vn o3
  wp_walk using GbQ o4 rfl,GcT o4
  intro h5 o5 b5;replace o5:IsPair h5 TO x y:=o5;have z5:IsZip h5 z TI TO .ellipsis:=b5.extBut _ _ xF (b4.extBut _ _ zu (b3.extBut _ _ xF (b2.extBut _ _ za z1)));have z6:IsZip (h5.push {cls:= .type "tuple",data:= .seq #[x,y]}) z TI TO .ellipsis:=Gaf _ z5;have ya:h5.objs.size=s.heap.objs.size:=by rw[b5.1,b4.1,b3.1,b2.1,b1.1]
  wp_walk using wpAny_letGo,GbQ o5 rfl,Gcc z6
  .show 0<5;decide
  .intro h7 z7 b7
   wp_walk using Gcc z7
   .show 1<5;decide
   .intro h8 z8 b8;have up:∀c o,c≠z->h5.get? c=U o->h8.get? c=U o:=λc o c1 e=>b8.extBut _ _ c1 (b7.extBut _ _ c1 (Gaf _ e));have xa:z<h5.objs.size:=Gak z5;have p8:IsPair h8 h5.objs.size x y:=b8.extBut _ _ (Gbd xa) (b7.extBut _ _ (Gbd xa) (Gat _ rfl));have s8:h8.objs.size=h5.objs.size+1:=by rw[b8.1,b7.1,Gbj]
    refine Gal ⟨_,rfl, ?_⟩;rw[ya] at p8 s8 z8⊢;have f1:S1 (k+1) h8:=D1.frame (k+1) _ h8 Vk λc hc o e=>up c o (λq=>ap.f1.1 (q▸hc)) (b5.extBut _ _ (λq=>ap.f1.2.1 (q▸hc)) (b4.extBut _ _ (λq=>ap.f1.2.2 (q▸hc)) (b3.extBut _ _ (λq=>ap.f1.2.1 (q▸hc)) e)));have f2:S2 (k+1) h8:=D2.frame (k+1) _ h8 zq λc hc o e=>up c o (λq=>ap.f2.1 (q▸hc)) (b5.extBut _ _ (λq=>ap.f2.2.1 (q▸hc)) e);refine hQ x y h8 _ px py z8 (up _ _ nTOz o5) f1 f2 p8 s8 λc o hc e=> ?_;simp only[Gae,Gao,GaQ,GbS] at hc;exact up c o hc.1 (b5.extBut _ _ hc.2.1 (b4.extBut _ _ hc.2.2.2 (up3 c o hc.1 hc.2.1 hc.2.2.1 e)))
def LU{E:VSP}{TI TO:Xo}{n1 k:Nat}{S1 S2:Nat->Xs->Prop}(D1:Draws prog w A i1 yL n1 P1 S1)(D2:Draws prog w A i2 yK n2 P2 S2)(ap:Zp z TI TO i1 i2 yL yK)
  (hz:IsZip s.heap z TI TO .none)(xV:IsPair s.heap TI (.ref i1) (.ref i2))(yd:IsPair s.heap TO a b)(s1:S1 k s.heap)(s2:S2 k s.heap)(l:k=n1\/(k<n1/\k=n2))
  (hE:∀h' e tk,(∀c o,c∉[z,TO,i1,i2]->s.heap.get? c=U o->h'.get? c=U o)->(∃o,h'.get? e=U o/\o.cls= .type "StopIteration")->E (.ref e) {s with heap:=h',toks:=tk}):
  wpAny (model prog w) A (Builtin.«zip.__next__» ⟨[.ref z],[]⟩) Q E s:=by
 have nd:=ap.nd;simp only[GaX,Gae,Gao,GaQ,GbS,Gdi,List.nodup_nil,and_true] at nd;obtain⟨⟨yu,xF,za,zu⟩,⟨yM,UH,UG⟩,⟨UE,Vn⟩,W0⟩:=nd;have f:FO _ z _ _:=⟨_,hz,rfl,rfl⟩
 wp_walk using gX (i:=2) (x:= .bool M) f rfl,gX (i:=3) (x:= .ref TI) f rfl,GbQ xV rfl,gX (i:=0) (x:= .none) f rfl,gX (i:=4) (x:= .ref TO) f rfl,Gcc hz
 .show 0<5
  decide
 .intro h1 z1 b1;rw[show(#[Value.ref i1,Value.ref i2].toList.zipIdx)=[(.ref i1,0),(.ref i2,1)] from rfl];simp only[GcR,List.forIn_nil];refine Gab (Gab (Gab (GcH ?_)));show wpAny _ _ (Builtin.SmallTypes.nextOf (.ref i1)>>=λx=>pure (U x)) _ _ _;have g1:S1 k h1:=D1.frame k _ h1 s1 λc hc o e=>b1.extBut c o (λq=>ap.f1.1 (q▸hc)) e;have back:∀{h4:Xs} {t4:Nat} {e:Xo},IsZip h4 z TI TO .ellipsis->(∀c o,c∉[z,TO,i1,i2]->s.heap.get? c=U o->h4.get? c=U o)->(∃o,h4.get? e=U o/\o.cls= .type "StopIteration")->
    wpAny (model prog w) A (setField (.ref z) 0 .none) (λ_ yC =>E (.ref e) yC) E {s with heap:=h4,toks:=t4}:=λ{h4 t4 e} z4 k4 ⟨oe,UW,VF⟩=>by
   have hez:e≠z:=λq=>by subst q;rw[z4] at UW;cases UW;simp at VF
   refine Gcc z4 (by show 0<5;decide) λh5 _ b5=>hE h5 e t4 (λc o hc q=>b5.extBut _ _ (λr=>hc (by simp[r])) (k4 c o hc q)) ⟨oe,b5.extBut _ _ hez UW,VF⟩
  rcases l with rfl| ⟨l1,rfl⟩
  .refine Gab (D1.done _ _ _ g1 λh2 e x2 he=>back (x2 _ _ za z1) (λc o hc q=>x2 _ _ (λr=>hc (by simp[r])) (b1.extBut _ _ (λr=>hc (by simp[r])) q)) he)
  .refine Gab (D1.item k _ _ _ l1 g1 λx h2 t2 px Vk b2=>Gal ?_);have o2:IsPair h2 TO a b:=b2.extBut _ _ UE (b1.extBut _ _ (GaG xF) yd)
   wp_walk using GbQ o2 rfl,GcT o2
   intro h3 o3 b3;refine Gab (wpAny_letGo (Gal (Gab (Gab (GcH ?_)))));show wpAny _ _ (Builtin.SmallTypes.nextOf (.ref i2)>>=λx=>pure (U x)) _ _ _;have up3:∀c o,c≠z->c≠TO->c≠i1->s.heap.get? c=U o->h3.get? c=U o:=λc o c1 c2 c3 e=>b3.extBut _ _ c2 (b2.extBut _ _ c3 (b1.extBut _ _ c1 e));refine Gab (D2.done _ _ _ (D2.frame k _ h3 s2 λc hc o e=>up3 c o (λq=>ap.f2.1 (q▸hc)) (λq=>ap.f2.2.1 (q▸hc)) (λq=>ap.f2.2.2 (q▸hc)) e) λh4 e x4 he=>back (t4:=t2) (x4 _ _ zu (b3.extBut _ _ xF (b2.extBut _ _ za z1))) (λc o hc q=> ?_) he);simp only[Gae,Gao,GaQ,GbS] at hc;exact x4 _ _ hc.2.2.2 (up3 c o hc.1 hc.2.1 hc.2.2.1 q)
end
noncomputable def i7(xs ys:List D):List D:=List.zipWith (λx y=> .tup [x,y]) xs ys
section
end
noncomputable def T0(mask:Nat):SetTable:={SetTable.fresh 0 0 M with mask:=mask}
def _root_.L2.Inv.HW{s:Xr}{h' :Xs}{ch:List Xo}(I:Inv X ef Z H s)(hf:∀b∈ch,je X ef H b)(k:∀b o,b∉ch->s.heap.get? b=U o->h'.get? b=U o):Inv X ef Z H {s with heap:=h' }:=by
 have nit:∀b u,H b=U u->b∉ch:=λb u e z=>by rw[(hf b z).1] at e;cases e
 refine I.sr rfl ⟨λb ob q _ _ hx=>k b ob hx q,λb ob q _ _ hx=> ⟨_,k b ob hx q⟩,λb ob q n _=>n,λb ob q hx=> ⟨ob,k b ob hx q⟩,λb xs q=>q,λb ob u q=>q,λb ps q=> ⟨#[],by rw[q];simp⟩⟩ ?_ I.bare λb hb=> ⟨(hf b hb).2.2.2.1,(hf b hb).2.1,(hf b hb).2.2.2.2.1,(hf b hb).2.2.2.2.2⟩;intro b u q;refine(I.hok b u q).iD (λc v hc z=>k c v ?_ z) (λ_ z=>z) λ_ _ z=>z;rcases hc with hc|hc
 .rw[hc];exact nit b u q
 .exact nit c _ hc
def sqK:Bool->ag->Hp->Xo->List V->Prop
 |true,K,H,l,xs=>SqT K H l xs
 |false,K,H,l,xs=>SqL K H l xs
def itK:Bool->Xs->Xo->Xo->Nat->Prop
 |true,h,it,l,i=>h.IsTupleIter it l i
 |false,h,it,l,i=>h.IsListIter it l i
def oJ:Bool->Xs->Xo->Array Xq->Prop
 |true,h,l,eh=>h.IsTuple l eh
 |false,h,l,eh=>h.IsList l eh
theorem itK.at{h h' :Xs}(x:itK b h it l i)(e:∀o,h.get? it=U o->h'.get? it=U o):itK b h' it l i:=by
 cases b with
 |true=>exact Heap.IsTupleIter.at x e
 |false=>exact Heap.IsListIter.at x e
def itK.rec{h:Xs}(x:itK b h it l i):∃o vs,h.get? it=U o/\o.data= .fields vs:=by
 cases b with
 |true=>obtain⟨o,e,_,d⟩:=x;exact⟨o,_,e,d⟩
 |false=>obtain⟨o,e,_,d⟩:=x;exact⟨o,_,e,d⟩
def nS{A:Xx}(b:Bool)(hh:A.handled=J)(it l:Xo)(xS:l≠it)(eh:Array Xq):Draws prog w A it [it,l] eh.size (λi v=>eh[i]? =U v) (λi h=>itK b h it l i/\oJ b h l eh):=by
 cases b with
 |true=>exact qe hh it l xS eh
 |false=>exact Draws.list hh it l xS eh
section
variable{Z:St}{X:Cx}
def qk{s:Xr}(I:Inv X ef Z H s)(h:sqK b X.K H l xs):∃eh,Xh xs eh/\oJ b s.heap l eh.toArray/\l<s.heap.objs.size:=by
 cases b with
 |true=>obtain⟨eh,r,p,_⟩:=I.tuple h;exact⟨eh,r,p,p.lt⟩
 |false=>obtain⟨eh,r,p,_⟩:=I.list h;exact⟨eh,r,p.isList,let⟨_,ho,_⟩:=p.isList;Gak ho⟩
def Jv(I:Inv X ef Z H s)(h:sqK b X.K H l xs)(h' :sqK b X.K H l ys):xs=ys:=by
 cases b with
 |true=>exact I.mf h h'
 |false=>exact I.nZ h h'
end
def Itk(K:ag)(b1 b2:Bool)(l1 l2:Xo):It:=
 ⟨λi H=>∃xs ys x y,sqK b1 K H l1 xs/\sqK b2 K H l2 ys/\xs[i]? =U x/\ys[i]? =U y,λi H x H' =>∃p u v,H p=J/\x= .ref p/\H' =upd H p (.tup [u,v])/\(∀xs,sqK b1 K H l1 xs->xs[i]? =U u)/\∀ys,sqK b2 K H l2 ys->ys[i]? =U v,λi H=>∃xs ys,sqK b1 K H l1 xs/\sqK b2 K H l2 ys/\(i=xs.length\/(i<xs.length/\i=ys.length))⟩
theorem Bx{K:ag}(b1 b2:Bool)(z TI TO i1 i2 l1 l2:Xo)(ap:Zp z TI TO i1 i2 [i1,l1] [i2,l2])(n1:l1≠i1)(n2:l2≠i2):Turn P w K (.Tuple elts x1 tp) (Itk K b1 b2 l1 l2) [z,TI,TO,i1,i2] z (λi h=>IsZip h z TI TO .none/\IsPair h TI (.ref i1) (.ref i2)/\(∃a b,IsPair h TO a b)/\itK b1 h i1 l1 i/\itK b2 h i2 l2 i) where
 mem:=by simp
 obj:=λi h st b hb=>by
  obtain⟨hz,xV,⟨a,b',yd⟩,h1,h2⟩:=st;obtain⟨o1,v1,e1,d1⟩:=h1.rec;obtain⟨o2,v2,e2,d2⟩:=h2.rec;simp only[Gae,Gao,GaQ] at hb;rcases hb with rfl|rfl|rfl|rfl|rfl
  .exact⟨_,hz,λv q=>by cases q⟩
  .exact⟨_,xV,λv q=>by cases q⟩
  .exact⟨_,yd,λv q=>by cases q⟩
  .exact⟨_,e1,λv q=>by rw[d1] at q;cases q⟩
  .exact⟨_,e2,λv q=>by rw[d2] at q;cases q⟩
 keep:=λi h h' st k=>by
  obtain⟨hz,xV,⟨a,b,yd⟩,h1,h2⟩:=st;exact⟨k z ?E _ hz,k TI ?E _ xV,⟨a,b,k TO ?E _ yd⟩,h1.at λo e=>k i1 ?E o e,h2.at λo e=>k i2 ?E o e⟩
 item:=by
  intro X hP hw hK hc i ef s Z H E I hf st hg;subst hP hw hK;obtain⟨hz,xV,⟨a,b,yd⟩,h1,h2⟩:=st;obtain⟨xs,ys,x,y,zd,yb,hx,hy⟩:=hg;obtain⟨yg,zR,p1,_⟩:=qk I zd;obtain⟨eL,zQ,p2,_⟩:=qk I yb;obtain⟨u,hu,ru⟩:=zR.get hx;obtain⟨v,hv,rv⟩:=zQ.get hy;have fz:FO _ z "zip" _:=⟨_,hz,rfl,rfl⟩
  wp_walk using GbD fz.ty GcU,Gcl GcU fz.ty F.entry_zip_next (ha:=F.args_zip_next_1 _),HV (nS b1 (A:=X.A.in1) (I.ok.hd hc) i1 l1 n1 yg.toArray) (nS b2 (A:=X.A.in1) (I.ok.hd hc) i2 l2 n2 eL.toArray) ap hz xV yd ⟨h1,p1⟩ ⟨h2,p2⟩ (by simpa using(Gac.mp hu).1) (by simpa using(Gac.mp hv).1)
  intro u' v' h' tk eu ev a1 a2 a3 a4 a5 a6 kk;have eu' :u' =u:=by rw[show yg.toArray[i]? =U u by simpa using hu] at eu;cases eu;rfl
  have ev' :v' =v:=by rw[show eL.toArray[i]? =U v by simpa using hv] at ev;cases ev;rfl
  subst eu' ev';refine Gal ⟨_,rfl,wpAny_letOwnedTupleGo_zip (s:={s with heap:=h',toks:=tk}) a1 λh3 W9 sb=> ?_⟩;have xa:z<s.heap.objs.size:=Gak hz;have nd:=ap.nd;simp only[GaX,Gae,Gao,GaQ,GbS,Gdi,List.nodup_nil,and_true] at nd;obtain⟨⟨yu,xF,za,zu⟩,⟨yM,UH,UG⟩,_⟩:=nd;have kept:∀b o,b∉[z,TI,TO,i1,i2]->s.heap.get? b=U o->h3.get? b=U o:=λb o hb e=>by
   simp only[Gae,Gao,GaQ,GbS] at hb;exact sb.extBut _ _ hb.1 (kk b o (by simp[hb]) e)
  have zF:h3.get? s.heap.objs.size=U {cls:= .type "tuple",data:= .seq #[u',v']}:=sb.extBut _ _ (Gbd xa) a5;have I1:Inv X ef Z (upd H s.heap.objs.size (.tup [x,y])) {s with heap:=h3,toks:=tk}:=I.oy (ch:=[z,TI,TO,i1,i2]) hf rfl rfl kept (Gap _) ⟨by simp[Gco],[u',v'],.cons ru (.cons rv .nil),_,zF,rfl,0,rfl⟩;refine⟨.ref s.heap.objs.size,_,I1,rfl,⟨_,x,y,I.fresh,rfl,rfl,λzs q=>by rw[Jv I q zd];exact hx,λzs q=>by rw[Jv I q yb];exact hy⟩,⟨W9,sb.extBut _ _ (GaG yu) (kk _ _ (by simp[yM,UH,UG,GaG yu]) xV),⟨_,_,sb.extBut _ _ (GaG xF) a2⟩,a3.1.at λo e=>sb.extBut _ _ (GaG za) e,a4.1.at λo e=>sb.extBut _ _ (GaG zu) e⟩,λb hb=> ?_⟩;have lt:b<s.heap.objs.size:=by
   obtain⟨o1,_,e1,_⟩:=h1.rec;obtain⟨o2,_,e2,_⟩:=h2.rec;have hb' :=hb;simp only[Gae,Gao,GaQ] at hb';rcases hb' with rfl|rfl|rfl|rfl|rfl
   .exact xa
   .exact Gak xV
   .exact Gak yd
   .exact Gak e1
   .exact Gak e2
  rw[aq (Gas lt)];exact(hf b hb).1
 done:=by
  intro X hP hw hK hc i ef s Z H E I hf st hg;subst hP hw hK;obtain⟨hz,xV,⟨a,b,yd⟩,h1,h2⟩:=st;obtain⟨xs,ys,zd,yb,hl⟩:=hg;obtain⟨yg,zR,p1,_⟩:=qk I zd;obtain⟨eL,zQ,p2,_⟩:=qk I yb;have fz:FO s.heap z "zip" _:=⟨_,hz,rfl,rfl⟩
  wp_walk using GbD fz.ty GcU,Gcl GcU fz.ty F.entry_zip_next (ha:=F.args_zip_next_1 _),LU (nS b1 (A:=X.A.in1) (I.ok.hd hc) i1 l1 n1 yg.toArray) (nS b2 (A:=X.A.in1) (I.ok.hd hc) i2 l2 n2 eL.toArray) ap hz xV yd ⟨h1,p1⟩ ⟨h2,p2⟩ (by rw[GaA,GaA,<-zR.length,<-zQ.length];exact hl)
  exactλh' e tk kk q=>Gab (wC (z:={s with heap:=h',toks:=tk}) q (Gal ⟨rfl,Inv.tok (s:={s with heap:=h' }) (I.HW hf λb o hb e=>kk b o (λq=>hb (by simp only[Gae,Gao,GaQ] at q⊢;rcases q with q|q|q|q<;>simp[q])) e) tk⟩))
 self:=λ_ _ _ _ _ st h=>wpAny_pyIter_zip st.1 h
noncomputable def mZ(b:Bool)(l:Xo):Xw:={cls:= .type (if b then "tuple_iterator" else "list_iterator"),data:= .fields #[.ref l,.int 0 0]}
section
variable{s:Xr}
def Eb(hl:oJ b s.heap l eh)(h:Q (.ref s.heap.objs.size) {s with heap:=s.heap.push (mZ b l)}):wpAny (model prog w) A (pyIter (.ref l)) Q E s:=by
 cases b with
 |true=>exact GbZ hl h
 |false=>exact Gcz hl h
theorem oJ.push{h:Xs}(x:oJ b h l eh)(o:Xw):oJ b (h.push o) l eh:=by
 cases b with
 |true=>obtain⟨ob,e,r⟩:=x;exact⟨ob,Gaf _ e,r⟩
 |false=>exact Heap.IsList.push x o
def vf(b1 b2:Bool)(l1 l2:Xo)(xs ys:Array Xq):
  Meets (Builtin.«zip.__new__» ⟨[.type "zip",.ref l1,.ref l2],[]⟩) (λ_ R s=>oJ b1 s.heap l1 xs/\oJ b2 s.heap l2 ys/\
   R (.ok (.ret (.ref (s.heap.objs.size+4)))) {s with heap:=((((s.heap.push (mZ b1 l1)).push (mZ b2 l2)).push {cls:= .type "tuple",data:= .seq #[.ref s.heap.objs.size,.ref (s.heap.objs.size+1)]}).push {cls:= .type "tuple",data:= .seq #[.none,.none]}).push {cls:= .type "zip",data:= .fields #[.none,.bool M,.bool M,.ref (s.heap.objs.size+2),.ref (s.heap.objs.size+3)]}}):=by
 apply Meets.of_wp;rintro prog w A R s ⟨h1,h2,h⟩;have sub:=PySem.sub_zip;have zY :oJ b2 (s.heap.push (mZ b1 l1)) l2 ys:=h2.push _;have z1:(s.heap.push (mZ b1 l1)).objs.size=s.heap.objs.size+1:=Gbj ..
 wp_walk using Eb h1,Eb (s:={s with heap:=s.heap.push (mZ b1 l1)}) zY
 refine⟨_,rfl, ?_⟩;simp only[Gbj];exact h
def wQ{h:Xs}(e:h.get? it=U (mZ b l)):itK b h it l 0:=by
 cases b with
 |true=>exact⟨_,e,rfl,rfl⟩
 |false=>exact⟨_,e,rfl,rfl⟩
def By(Ws:oJ b1 s.heap l1 xs)(VC:oJ b2 s.heap l2 ys)
  (h:∀h',IsZip h' (s.heap.objs.size+4) (s.heap.objs.size+2) (s.heap.objs.size+3) .none->IsPair h' (s.heap.objs.size+2) (.ref s.heap.objs.size) (.ref (s.heap.objs.size+1))->
   IsPair h' (s.heap.objs.size+3) .none .none->itK b1 h' s.heap.objs.size l1 0->itK b2 h' (s.heap.objs.size+1) l2 0->
   (∀c o,s.heap.get? c=U o->h'.get? c=U o)->Q (.ref (s.heap.objs.size+4)) {s with heap:=h' }):
  wpAny (model prog w) A (call (.type "zip") [.ref l1,.ref l2]) Q E s:=by
 refine callType_new F.called_zip rfl (F.typeCall_zip_2 _ _) (F.newCall_zip_2 _ _) (λobj=>F.args_object_init_3 obj _ _) F.entry_zip_new (vf b1 b2 l1 l2 xs ys) ⟨Ws,VC, ?_⟩;generalize hh:Heap.push _ _=h';have at_:∀{g:Xs} {n:Nat} {o:Xw},g.objs.size=n->o.isFreed=M->(g.push o).get? n=U o:=λe f=>by subst e;exact Gat _ f
 have sz:∀{g:Xs} {n:Nat} {o:Xw},g.objs.size=n->(g.push o).objs.size=n+1:=λe=>by subst e;exact Gbj ..
 have k5:∀{c:Xo} {o o' :Xw} {g:Xs},g.get? c=U o->(g.push o').get? c=U o:=λe=>Gaf _ e;have fr:∀b l,(mZ b l).isFreed=M:=λb l=>by cases b<;>rfl
 have a5:IsZip h' (s.heap.objs.size+4) (s.heap.objs.size+2) (s.heap.objs.size+3) .none:=by subst hh;exact at_ (sz (sz (sz (sz rfl)))) rfl
 exact⟨⟨_,a5,rfl⟩,h h' a5 (by subst hh;exact k5 (k5 (at_ (sz (sz rfl)) rfl))) (by subst hh;exact k5 (at_ (sz (sz (sz rfl))) rfl)) (wQ (by subst hh;exact k5 (k5 (k5 (k5 (at_ rfl (fr _ _))))))) (wQ (by subst hh;exact k5 (k5 (k5 (at_ (sz rfl) (fr _ _)))))) λc o e=>by subst hh;exact k5 (k5 (k5 (k5 (k5 e))))⟩
def LV{n l1 l2:Nat}(h1:l1<n)(h2:l2<n):Zp (n+4) (n+2) (n+3) n (n+1) [n,l1] [n+1,l2]:=by
 have m:∀{i j:Nat},i≠j->n+i≠n+j:=λq z=>q (Nat.add_left_cancel z);have k:∀{l:Nat},l<n->∀i,n+i≠l:=λq i=>Gbd (Gah q (GcJ _ _));have two:∀{a b c:Nat},a≠b->a≠c->a∉[b,c]:=λp q z=>by rcases Gae.mp z with z|z;exact p z;exact q (Gbb.mp z)
 refine⟨?_,⟨two (m (j:=0) ?E) (k h1 4),two (m (j:=0) ?E) (k h1 3),two (m (j:=0) ?E) (k h1 1)⟩,⟨two (m ?E) (k h2 4),two (m ?E) (k h2 3),two (m (i:=0) ?E) (k h2 0)⟩,GaO,GaO⟩;simp_all
section
variable{f g:DE}
def Py(K:ag)(tl:TA):TI:=λZ H R=>tl Z H λvs H1=>∃b1 b2 l1 l2,vs=[.ref l1,.ref l2]/\(∃xs,sqK b1 K H1 l1 xs)/\(∃ys,sqK b2 K H1 l2 ys)/\R (Itk K b1 b2 l1 l2) H1
variable{X:Cx}
def HX(hg:Gl X "zip")(hm:X.mg "zip"=J)(ha:PA X [a,b] ta)(hs:starEach [a,b] X.env=(M,eval a X.env)::starEach [b] X.env)(hV:starEach [b] X.env=[(M,eval b X.env)]):PI X (.Tuple elts x1 tp) (.Call (.Name "zip" p) [a,b] [] pos) (Py X.K ta):=by
 intro ef s Z H R I h;refine Call_ (kq I hg hm boot_zip (Gbp (thn (ha pos ef s Z H _ I h) λus s1 q0=> ?_) hs (by rw[hV];rfl)));obtain⟨vs,H1,I1,r1,q1⟩:=q0;obtain⟨b1,b2,l1,l2,rfl,⟨xs,zd⟩,⟨ys,yb⟩,q⟩:=q1;cases r1 with
 |cons r rr=>
 cases rr with
 |cons r2 rr=>
  cases rr;cases r;cases r2;obtain⟨yg,zR,p1,Vp⟩:=qk I1 zd;obtain⟨eL,zQ,p2,Vo⟩:=qk I1 yb;refine By p1 p2 λh' a1 a2 a3 a4 a5 kk=>wpAny_pyIter_zip a1 ?_;have zZ:∀b∈[s1.heap.objs.size+4,s1.heap.objs.size+2,s1.heap.objs.size+3,s1.heap.objs.size,s1.heap.objs.size+1],je X ef H1 b:=λb hb=>by
   have le:s1.heap.objs.size<=b:=by
    simp only[Gae,Gao,GaQ] at hb;rcases hb with rfl|rfl|rfl|rfl|rfl<;>lia
   exact I1.uG le (I1.hok.fresh le)
  exact⟨_+4,_,_,_,H1,rfl,I1.kept kk,Bx b1 b2 _ _ _ _ _ l1 l2 (LV Vp Vo) (Gas Vp) (Gas (GbL Vo)),⟨a1,a2,⟨_,_,a3⟩,a4,a5⟩,zZ,q⟩
def nI:D->Option (Bool×List D)
 | .lst xs=>U (M,xs)
 | .tup xs=>U (O,xs)
 | .kt ks=>U (O,ks.map kD)
 |_=>J
@[simp] def Ec(f g:DE):DI:=λenv=>(f env).bind λr=>(g env).bind λq=>if r.k= .to\/q.k= .to then J else(nI r.d).bind λx=>(nI q.d).map λy=>i7 x.2 y.2
def wR{r:RV}(E:az X.K H0 eg env Z H)(s1:bp H H1)(hk:r.k≠ .to)(R:fU X.K H0 eg env Z H H1 r v)(e:nI r.d=U (bb,ds)):
  ∃l vs,v= .ref l/\sqK bb X.K H1 l vs/\aP X.K (Cln eg env Z) H1 ds vs/\∀Hi,(∀b o,H1 b=U o->¬Ow env Z b->Hi b=U o)->sqK bb X.K Hi l vs:=by
 obtain⟨kd,d⟩:=r;have ii:=R.inn;cases d with
 |lst xs=>
  cases e;have hno:=qX E rfl hk R;cases ii with
  | @lst la lv _ h r=>
   refine⟨la,lv,rfl,.inl h,r,λHi keep=> .inl ?_⟩;rcases h with h| ⟨o,h⟩
   .exact .inl (keep _ _ h (hno _ rfl))
   .exact .inr ⟨o,keep _ _ h (hno _ rfl)⟩
 |tup xs=>
  cases e;cases ii with
  | @tup la lv _ h r=>exact⟨la,lv,rfl,SqT.of h,r,λHi keep=>SqT.of (keep _ _ h λw=>(E.mono s1).fL w h trivial)⟩
 |kt ks=>
  cases e;cases ii with
  | @kt la _ h=>exact⟨la,_,rfl,.inr h,nR ks,λHi keep=> .inr h⟩
 |_=>cases e
def HY(hg:Gl X "zip")(hm:X.mg "zip"=J)(he:PEd X a f)(hd:PEd X b g)(hs:autoParam (starEach [a,b] X.env=(M,eval a X.env)::starEach [b] X.env) Za1._auto_1)(hV:autoParam (starEach [b] X.env=[(M,eval b X.env)]) Za1._auto_1):PId X (.Tuple elts x1 tp) (.Call (.Name "zip" p) [a,b] [] pos) (Ec f g):=by
 refine(HX hg hm (dk he (dk hd gP hV) hs) hs hV).aA (λZ H R q0=>bP q0 λH0 eg env ds E hf k=>a9 hf λr hr hf=>a9 hf λq hq hf=> ?_);split at hf
 .cases hf
 rename_i hk;refine a9 hf λ⟨b1,xs⟩ e1 hf=> ?_;obtain⟨⟨b2,ys⟩,e2,rfl⟩:=Gaa.mp hf;refine⟨H0,eg,env,[r,q],E,by unfold ak aM;rw[hr,hq];rfl,λvs H1 s1 Rs=> ?_⟩;cases Rs with
 |cons R1 tl=>
 cases tl with
 |cons R2 tl=>
  cases tl;have E1:=E.mono s1;obtain⟨l1,v1,rfl,q1,r1,g1⟩:=wR E s1 (λz=>hk (.inl z)) R1 e1;obtain⟨l2,v2,rfl,q2,r2,g2⟩:=wR E s1 (λz=>hk (.inr z)) R2 e2;refine⟨b1,b2,l1,l2,rfl,⟨_,q1⟩,⟨_,q2⟩,k _ H1 s1 λHi keep=> ?_⟩;have g1:=g1 Hi keep;have g2:=g2 Hi keep;refine⟨λi d hd=> ?_,⟨_,_,g1,g2, ?_⟩⟩
  .unfold i7 at hd;rw[List.getElem?_zipWith] at hd;split at hd
   .rename_i x y hx hy;cases hd;obtain⟨v,w1,w2⟩:=r1.get hx;obtain⟨v',w3,w4⟩:=r2.get hy;refine⟨⟨_,_,v,v',g1,g2,w1,w3⟩,λz H2 q0=> ?_⟩;obtain⟨p,u,u',hp,ez,eH,e1,e2⟩:=q0;subst ez eH;have q1:=e1 _ g1;have q2:=e2 _ g2;rw[w1] at q1;cases q1;rw[w3] at q2;cases q2;exact⟨bh hp,dX hp (.cons (E1.gL keep w2) (.cons (E1.gL keep w4) .nil))⟩
   .cases hd
  .unfold i7;rw[List.length_zipWith,r1.1,r2.1];lia
end
end
noncomputable def mI:SpV
 |[.str x]=>U ⟨.c,.str x⟩
 |_=>J
def cG(sep:Str):D->Option RV
 | .lst ds=>(lF ds).bind λxs=>if(xs.map (·.length)).sum+xs.length*sep.length<=a7 then U ⟨.c,.str (Str.join sep xs)⟩ else J
 |_=>J
@[simp] theorem jO{sep:Str}:cG sep (.lst ds)=(lF ds).bind λxs=>if(xs.map (·.length)).sum+xs.length*sep.length<=a7 then U ⟨.c,.str (Str.join sep xs)⟩ else J:=rfl
def Bz:dJ X (.type "str") (λxs H Q=>∃x,xs=[.str x]/\Q (.str x) H):=by
 intro ef z Z H xs us Q I r h;obtain⟨x,rfl,q⟩:=h;obtain⟨u,rfl,t,rfl⟩:=vals1 r;exact PySem.P.str_of_str ⟨.str _,H,I,⟨_,rfl⟩,q⟩
def vg:CallD X mI (λxs H Q=>∃x,xs=[.str x]/\Q (.str x) H):=by
 intro F H ds vs rv Q ps e k;unfold mI at e;split at e
 .cases e;obtain⟨v,rfl,ii⟩:=cH ps;cases ii;exact⟨_,rfl,k _ H bw (.str _)⟩
 .cases e
def Ed{X:Cx}(sep:Str):MtR X "str.join" (λx xs H Q=>∃a ts,x= .str sep/\xs=[.ref a]/\SqL X.K H a (ts.map V.str)/\(ts.map (·.length)).sum+ts.length*sep.length<=sizeLine/\Q (.str (Str.join sep ts)) H):=by
 intro ef z Z H x xs v us Q I rx rs h;obtain⟨a,ts,rfl,rfl,hq,hz,q⟩:=h;obtain⟨t,rfl⟩:=rx;obtain⟨u,rfl,r1⟩:=vals1 rs;cases r1;obtain⟨eh,rv,pl,WY⟩:=I.list hq;obtain⟨l,h1,h2⟩:=mG rv;subst h1 h2;have hl:PySem.Builtin.Str.tooLong ((l.map (·.1)).toArray.foldl (· + ·.length+sep.length) 0)=M:=by
  rw[StrLaws.joinTotal];exact Gbo ?B
 refine GcQ F.slot_str_join (Gcv _ _ _) F.entry_str_join (F.args_str_join_2 _ _) (meets_str_join_list sep t a l hl) ⟨pl.isList,(post_join l ⟨joinFit_length hl,λt' k=>(⟨.str _,H,I.tok _,⟨t',rfl⟩, ?_⟩)⟩)⟩
 rwa[show Txt.join sep _=Str.join sep _ from StrLaws.glued_eq_join _ _]
def Ee{X:Cx}{apos eJ:Pos}(he:PEd X a f)(eZ:autoParam (starEach [a] X.env=[(M,eval a X.env)]) Za1._auto_1)
  (eU:autoParam ((apos.endLine==eJ.line)=O) Za1._auto_1):PEd X (.Call (.Attribute (.Constant (.str sep) j p0) "join" apos) [a] [] eJ) (unE (cG sep) f):=by
 refine(sx GcE PySem.F.slot_str_join PySem.F.type_str_join (Ed sep) uF (dk he gP eZ) rfl (by rw[eZ];rfl) eU eZ rfl).aA (λZ H Q q0=>bP q0 λH0 eg env rv E e k=>a9 e λ⟨kx,dx⟩ hx e=> ?_);have e' :cG sep dx=U rv:=e;unfold cG at e';split at e'
 .refine a9 e' λts ht e' => ?_;split at e'
  .rename_i hz;cases e';refine⟨rfl,H0,eg,env,[⟨kx,_⟩],E,by unfold ak aM;rw[hx];rfl,λws H1 s1 Rs=> ?_⟩;cases Rs with
   | @cons _ v _ _ R2 tl=>
    cases tl;have i2:=R2.inn;cases i2 with
    |lst h r=>
     rw[lL ht r] at h;exact⟨_,ts,rfl,rfl,.inl h,by rw[<-eW];exact hz,k _ H1 s1 (.str _)⟩
  .cases e'
 .cases e'
noncomputable def ddS(xs:List Str):List Str:=xs.foldl (λks k=>if k∈ks then ks else ks++[k]) []
def u4(xs:List Str)(x:Str):ddS (xs++[x])=if x∈ddS xs then ddS xs else ddS xs++[x]:=by
 unfold ddS;simp_all
def LW(xs:List Str):(ddS xs).length<=xs.length:=by
 rw[<-List.reverse_reverse xs];induction xs.reverse with
 |nil=>simp[ddS]
 |cons x r ih=>
  rw[List.reverse_cons,u4];split<;>simp<;>simp at ih<;>lia
def Ef{xs:List Str}(h:xs[i]? =U x):ddS (xs.take (i+1))=if x∈ddS (xs.take i) then ddS (xs.take i) else ddS (xs.take i)++[x]:=by
 obtain⟨hi,rfl⟩:=Gac.mp h;rw[<-List.take_append_getElem hi,u4]
abbrev nJ(P:Xz)(w:Xv)(h:Xs)(a:Xo)(ks:List Str):Prop:=h.SetOf (PySem.strKind P w) a (λk=>decide (k∈ks)) ks.length
section
def nJ.at{g g' :Xs}(h:nJ prog w g a ks)(e:∀o,g.get? a=U o->g'.get? a=U o):nJ prog w g' a ks:=let⟨o,es,ep,t,ho,r⟩:=h;⟨o,es,ep,t,e o ho,r⟩
def nJ.grow{g:Xs}{ks:List Str}(h:g.SetOf (PySem.strKind prog w) a (λk' =>decide (k' ∈ks)||decide (k' =k)) (if decide (k∈ks) then ks.length else ks.length+1)):nJ prog w g a (if k∈ks then ks else ks++[k]):=by
 refine SetOf_congr h (λk' => ?_) ?_
 .by_cases q:k∈ks
  .simp_all
  .rw[Gau q];simp
 .by_cases q:k∈ks<;>simp[q]
variable{z:Xr}{A:Xx}
def BA{R:Result->Xr->Prop}{fp:List Xo}{P:Nat->Xq->Prop}{St:Nat->Xr->Prop}(W:WalksS prog w A.in1 I fp wr G n P St)(S:Xo)(VH:S∉fp)(xs:List Str)(yi:xs.length=n)(UO:∀i v,P i v->∃k t,xs[i]? =U k/\v= .str k t)(hb:n+1<scanBound)
  (st:St 0 z)(hS:nJ prog w z.heap S [])(hR:∀y,Moved (S::wr) G z y->nJ prog w y.heap S (ddS xs)->R (.ok (.ret .none)) y):codeAny (model prog w) A (.builtin "set.update.loop" ⟨[.ref S,.ref I],[]⟩) R z:=by
 have out:S∉wr:=λh=>VH (W.sub _ h);refine qf (n:=n) (λi y=>St i y/\Moved (S::wr) G z y/\nJ prog w y.heap S (ddS (xs.take i))) ?_ ?_ n 0 z ?B ⟨st,Moved.refl W.grefl,hS⟩
 .rintro i y Q E lt ⟨st,mv,hS⟩ up;refine W.item i y Q E lt st λv y' hP xH zv => ?_;obtain⟨k,t,hk,rfl⟩:=UO i v hP;have room:(ddS (xs.take i)).length+1<scanBound:=by
   have:=LW (xs.take i);rw[GaS] at this;lia
  have key:(PySem.strKind prog w).is k (.str k t)=O:=PySem.strKind_is _ _ _ _;refine up _ _ λQ' E' q=>Gbz (Gab ((PySem.strKind prog w).pyHash key (wpAny_setAddHashed_of (s:={y' with toks:=_+1}) key rfl (hS.at λo=>zv.heap S o out) room λg sb WJ=>q _ _ ⟨?_, ?_, ?_⟩)))
  .exact W.frame _ y' g _ xH (Gbi _) λb hb o e=>sb.extBut b o (λe=>VH (e▸hb)) e
  .have mg:Moved (S::wr) G y' {y' with heap:=g,toks:=_+1}:=⟨λb o nb e=>sb.extBut b o (λe=>nb (e▸.head _)) e,W.grefl _,rfl,rfl,Gbi _⟩
   exact(mv.trans W.gtrans (zv.mono λ_=> .tail _)).trans W.gtrans mg
  .rw[Ef hk];exact nJ.grow WJ
 .rintro y Q E ⟨st,mv,hS⟩ fin;refine W.done y Q E st λy' zv =>fin y' (hR y' ?_ ?_)
  .exact mv.trans W.gtrans (zv.mono λ_=> .tail _)
  .rw[<-yi,List.take_length] at hS;exact hS.at λo=>zv.heap S o out
def pG{eh:List Xq}{ls:List (Str×Tok)}(hh:A.handled=J)(hl:z.heap.IsList l eh.toArray)(hi:eh=strValues ls)(hb:eh.length+1<scanBound)
  (h:∀g tk,nJ prog w g z.heap.objs.size (ddS (ls.map (·.1)))->(∀b o,b<z.heap.objs.size->z.heap.get? b=U o->g.get? b=U o)->Q (.ref z.heap.objs.size) {z with heap:=g,toks:=tk}):
  wpAny (model prog w) A (call (.type "set") [.ref l]) Q E z:=by
 have ll:=let⟨_,q,_⟩:=hl
 Gak q
 refine LF hl λh1 eS it k=>BA (Walks.list (by simp[hh]) _ l (Gas (GbL ll)) _).toS _ (by simp[Gbd ll]) (ls.map (·.1)) (by subst hi;simp[strValues]) (λi v hv=> ?_) (by simpa using hb) ⟨it,let⟨o,q,r⟩:=hl;⟨o,k l o q,r⟩⟩ ?_ λy mv hS=> ?_
 .subst hi;have yF :(strValues ls)[i]? =U v:=by simpa using hv
  unfold strValues at yF;rw[Gam] at yF;obtain⟨p,hp,rfl⟩:=Gaa.mp yF;simp_all
 .exact⟨_,#[],0,_,eS,⟨rfl,rfl,rfl⟩,rfl,λe he=>(by cases he),λk=>by simp,by unfold scanBound;simp,rfl,rfl⟩
 .rw[Moved.eq_with mv];exact h _ _ hS λb o lt q=>mv.heap b o (by simp[Gas lt,Gas (GbL lt)]) (k b o q)
end
def lP:D->Option RV
 | .lst ds=>(lF ds).bind λxs=>if xs.length<4000 then U ⟨.c,.int (ddS xs).length⟩ else J
 |_=>J
@[simp] theorem BC:lP (.lst ds)=(lF ds).bind λxs=>if xs.length<4000 then U ⟨.c,.int (ddS xs).length⟩ else J:=rfl
section
variable{X:Cx}{h:DE}
noncomputable def Jw(X:Cx)(v:Xo)(ks:List Str):HO:= .ext λh=>nJ X.prog X.w h v ks
def BD(hc:X.calm=O):dJ X (.type "set") (λxs H Q=>∃p ts,xs=[.ref p]/\SqL X.K H p (ts.map V.str)/\ts.length<4000/\∀v,H v=J->Q (.ref v) (upd H v (Jw X v (ddS ts)))):=by
 intro ef s Z H xs us Q I rv h;obtain⟨p,ts,rfl,hq,hl,q⟩:=h;obtain⟨u,rfl,ru⟩:=rv.one;cases ru;obtain⟨eh,xN,pl,_⟩:=I.list hq;obtain⟨l,h1,h2⟩:=mG xN;have hle:eh.length=ts.length:=by rw[<-xN.length];simp
 have hsc:scanBound=4096:=rfl;refine pG (I.ok.hd hc) pl.isList h2 ?B λg tk hS hk=> ?_;rw[h1] at hS;refine⟨.ref _,_,I.laid (λb o e=>hk b o (Gak e) e) (Gap _) ?_,rfl,q _ I.fresh⟩;exact⟨hS,let⟨o,_,_,_,ho,_⟩:=hS;⟨o,ho⟩,λh1 h2 q k=>nJ.at q λo=>k o⟩
def BE:dJ X (.builtin "len") (λxs H Q=>∃v ks,xs=[.ref v]/\H v=U (Jw X v ks)/\Q (.int ks.length) H):=by
 intro ef s Z H xs us Q I rv h;obtain⟨p,ks,rfl,hv,q⟩:=h;obtain⟨u,rfl,ru⟩:=rv.one;cases ru;obtain⟨o,es,ep,t,ho,hex,hd,_,_,hb,hf,hn⟩:=((I.hok p _ hv).1)
 refine call_len_set ho hex hd hf (by unfold scanBound at hb;lia) ?_;rw[hn];exact⟨.int _,H,I.tok _,⟨_,rfl⟩,q⟩
def HZ(hc:X.calm=O)(hg:Gl X "len")(hm:X.mg "len"=J)(yo:Gl X "set")(xT:X.mg "set"=J)(he:PEd X e f)
  (eZ:autoParam (starEach [e] X.env=[(M,eval e X.env)]) Za1._auto_1)
  (hV:autoParam (starEach [.Call (.Name "set" p2) [e] [] eJ] X.env=[(M,eval (.Call (.Name "set" p2) [e] [] eJ) X.env)]) Za1._auto_1):
  PEd X (.Call (.Name "len" p) [.Call (.Name "set" p2) [e] [] eJ] [] pos) (unE lP f):=by
 refine(kZ BE hg hm rfl (cM (pT (BD hc) yo xT rfl (cM he gO eZ) (by decide) rfl eZ rfl) gO hV) (by decide) rfl hV rfl).aA (λZ H Q q0=>bP q0 λH0 eg env rv E e k=>a9 e λ⟨kx,dx⟩ hx e=> ?_);have e' :lP dx=U rv:=e;unfold lP at e';split at e'
 .refine a9 e' λts ht e' => ?_;split at e'
  .rename_i hz;cases e';refine⟨H0,eg,env,⟨kx,_⟩,E,hx,λv H1 s1 R1=> ?_⟩;cases R1.inn with
   | @lst a vs _ h r=>
    rw[lL ht r] at h;exact⟨_,ts,rfl,.inl h,hz,λv hv=> ⟨v,_,rfl,aB,k _ _ (s1.trans (bh hv)) (.int _)⟩⟩
  .cases e'
 .cases e'
end
def vh(y:Str)(f:DE):DE:=λenv=>(f env).bind λr=>match r.d with
 | .int i=>if y.length<=a7 then U ⟨.c,.str (Txt.slice y J (U i))⟩ else J
 |_=>J
def Eg:SlR X (λx lo hi H Q=>∃y,x= .str y/\y.length<=sizeLine/\Q (.str (Txt.slice y lo hi)) H):=by
 intro ef s Z H x v vl vu lo hi sl Q I rx hs pl pu h;obtain⟨y,rfl,hz,q⟩:=h;obtain⟨t,rfl⟩:=rx;refine⟨"str",_,F.slot_str_getitem.lookup,Gcv _ _ _, ?_⟩;have fin:∀t' k,EP X ef Z Q _ {s with toks:=k}:=λt' k=> ⟨.str _,H,I.tok _,⟨t',rfl⟩,q⟩;cases pl with
 |none=>cases pu with
  |none=>exact GbV (l:=J) (u:=J) (st:=J) hs rfl (GcV ⟨GaH (Gbf y _ _) hz,λt' k=>fin t' k⟩)
  |int j uj=>exact GbV (l:=J) (u:=U (j,uj)) (st:=J) hs rfl (GcV ⟨GaH (Gbf y _ _) hz,λt' k=>fin t' k⟩)
 |int i ui=>cases pu with
  |none=>exact GbV (l:=U (i,ui)) (u:=J) (st:=J) hs rfl (GcV ⟨GaH (Gbf y _ _) hz,λt' k=>fin t' k⟩)
  |int j uj=>exact GbV (l:=U (i,ui)) (u:=U (j,uj)) (st:=J) hs rfl (GcV ⟨GaH (Gbf y _ _) hz,λt' k=>fin t' k⟩)
def LX(he:PEd X e f):PEd X (.Subscript (.Constant (.str y) j p0) (.Slice J (U e) J p2) pos) (vh y f):=by
 refine(o9 Eg uF w6 (w8 he)).aA (λZ H Q q0=>bP q0 λH0 eg env rv E hf k=>a9 hf λr hr hf=> ?_);split at hf
 .rename_i i hi;split at hf
  .rename_i hz;cases hf;refine⟨H0,eg,env,r,E,hr,λv H1 s1 R=> ?_⟩;have i1:=R.inn;rw[hi] at i1;cases i1;exact⟨i,rfl,y,rfl,by rw[<-eW];exact hz,k _ _ s1 (.str _)⟩
  .cases hf
 .cases hf
def tsE(f:DE)(lo hi:DO):DE:=λenv=>(f env).bind λx=>(lo env).bind λl=>(hi env).bind λh=>match x.d with
 | .str y=>if y.length<=a7 then U ⟨.c,.str (Txt.slice y l h)⟩ else J
 |_=>J
noncomputable def upD:D->Option RV
 | .str x=>(["abcdegosty".toList.map λc=>(Str.ofString c.toString,Str.ofString c.toUpper.toString)].flatten.lookup x).map λy=> ⟨.c,.str y⟩
 |_=>J
def ql(i:Nat)(f:DE):DS:=λenv=>(ownAt i env).bind λd=>(f env).bind λr=>match d with
 | .lst xs=>if aj xs=O/\r.d.imm=O then U (.ret (.tup [.lst xs,r.d])) else J
 |_=>J
def rdE(sp:List D->Option RX)(f:DE):DE:=λenv=>(f env).bind λx=>if x.d.bI=O then(sp [x.d]).bind λr=>match r with
 | .ok d=>if d.imm=O then U ⟨.c,d⟩ else J
 |_=>J else J
def Pz{e:Xp}{f:DE}{lo:Option Xp}(he:PEd X e f)(hl:PO X lo (tO X l))(hu:PO X hi (tO X u)):PEd X (.Subscript e (.Slice lo hi J p2) pos) (tsE f l u):=by
 refine(o9 Eg he hl hu).aA (λZ H Q q0=>bP q0 λH0 eg env rv E hf k=>a9 hf λr hr hf=>a9 hf λlv V0 hf=>a9 hf λuv UP hf=> ⟨H0,eg,env,r,E,hr,λv H1 s1 R=> ⟨H0,eg,env,lv,E.mono s1,V0,λH2 s2=> ⟨H0,eg,env,uv,(E.mono s1).mono s2,UP,λH3 s3=> ?_⟩⟩⟩);have i3:=(R.inn.same s2).same s3;split at hf
 .rename_i y hd;split at hf
  .rename_i hz;cases hf;rw[hd] at i3;cases i3;exact⟨y,rfl,by rw[<-eW];exact hz,k _ _ (s1.trans (s2.trans s3)) (.str _)⟩
  .cases hf
 .cases hf
def PB(h:upD (.str x)=U rv):PySem.Builtin.Str.tooLong (Txt.upper x).length=M/\rv=⟨.c,.str (Txt.upper x)⟩:=by
 have all:∀q∈(["abcdegosty".toList.map λc=>(Str.ofString c.toString,Str.ofString c.toUpper.toString)].flatten),PySem.Builtin.Str.tooLong (Txt.upper q.1).length=M/\Txt.upper q.1=q.2:=by decide+kernel
 obtain⟨y,hy,rfl⟩:=Gaa.mp h;obtain⟨h1,h2⟩:=all (x,y) (by
  obtain⟨l1,l2,e,_⟩:=List.lookup_eq_some_iff.mp hy;rw[e];simp)
 exact⟨h1,by rw[h2]⟩
def Eh:MtR X "str.upper" (λx xs H Q=>∃a,x= .str a/\xs=[]/\PySem.Builtin.Str.tooLong (Txt.upper a).length=M/\Q (.str (Txt.upper a)) H):=by
 intro ef s Z H x xs v us Q I rx rs h;obtain⟨a,rfl,rfl,hb,q⟩:=h;obtain⟨t,rfl⟩:=rx;cases rs;exact SC.upper hb ⟨.str _,H,I.tok _,⟨_,rfl⟩,q⟩
def Ej{X:Cx}{apos eJ:Pos}(he:PEd X e f)(xh:attributeBase e "upper" X.env (eval e X.env)=eval e X.env)(eU:(apos.endLine==eJ.line)=O):PEd X (.Call (.Attribute e "upper" apos) [] [] eJ) (unE upD f):=by
 refine(Ky GcE PySem.F.slot_str_upper PySem.F.type_str_upper Eh he xh eU).aA (λZ H Q q0=>bP q0 λH0 eg env rv E e k=>a9 e λ⟨kx,dx⟩ hx e=> ?_);have e' :upD dx=U rv:=e;refine⟨H0,eg,env,_,E,hx,λvx H1 s1 R1=> ?_⟩;cases dx<;>try cases e'
 obtain⟨h1,rfl⟩:=PB e';cases R1.inn;exact⟨rfl,_,rfl,rfl,h1,k _ _ s1 (.str _)⟩
def PD{X:Cx}(F:cp X.prog X.w X.K X.mg X.base (CXE X.prog X.w X.K) k fa fd ps (spR X.K 1 sp))(hr:cD k X.A)(hg:Gl X x)
  (hm:X.mg x=U (.ref fa))(hk:PySem.W.keepIn X.K (.ref fa)=O)(hb:Binds X.K fd ps [])(he:PEd X e f)(hZ:(x==("__debug__":Str))=M)(hs:starEach [e] X.env=[(M,eval e X.env)]):
  PEd X (.Call (.Name x p) [e] [] pos) (rdE sp f):=by
 refine(qP F hr hg hm hk hb .nil Pl (dk he gP hs) hZ hs rfl).aA (λZ H Q q0=>bP q0 λH0 eg env rv E e k=>a9 e λx hx e=> ?_);split at e
 .rename_i ok;refine a9 e λd hd e=> ?_;split at e
  .rename_i d;split at e
   .cases e;refine⟨H0,eg,env,[x],E,by unfold ak aM;rw[hx];rfl,λvs H1 s1 Rs=> ?_⟩;cases Rs with
    | @cons _ v _ _ R2 tl=>
     cases tl;refine⟨[x.d],.ok d,rfl,aP.cons (E5 R2.inn ok) aP.nil,hd,λv H2 s2 _ r=>k v H2 (s1.trans s2) (r.imp λ_ z=>z.elim)⟩
   .cases e
  .cases e
 .cases e
def I0{X:Cx}(hi:X.N[i]? =U x)(hv:Vis X.env.scope x)(hd:(x==("__debug__":Str))=M)(xf:(x==("__classdict__":Str))=M)(he:PEd X e f)(hs:starEach [.Name x p,e] X.env=(M,eval (.Name x p) X.env)::starEach [e] X.env)(hV:starEach [e] X.env=(M,eval e X.env)::starEach [] X.env):
  PSd X (.Return (U (.Tuple [.Name x p,e] c pos)) pos') (ql i f):=by
 refine(qJ (Cc (cM (fi hi hv hd xf) (cM he gO hV) hs))).aA (λD Z H q0=>bP q0 λH0 eg env o E e k=>a9 e λd1 q1 e=>a9 e λr q2 e=> ?_);split at e
 .split at e
  .rename_i im;cases e;obtain⟨a,h1,h2,_,h4,_,h6⟩:=E.ow i _ (.inl (ly q1));refine⟨_,h1,H0,eg,env,r,E,q2,λv H1 s1 R=> ⟨(show 2<=sizeLine by decide),λt ht=>k _ _ ((E.same.trans s1).trans (bh ht)) ⟨λz=>(by cases z), ?_⟩⟩⟩;obtain⟨vs,hH,rp⟩:=nO h4 h6;have hH:=s1 _ _ hH;have sm:bp H1 (upd H1 t (.tup [.ref a,v])):=bh ht;have na:a≠t:=λz=>by subst z;rw[hH] at ht;cases ht
   have r1:=aP.cI (F' :=λb=>H0 b=J/\V.ref t≠ .ref b) (λb o e _=>sm b o (s1 b o e)) rp im.1;exact .tup aB (.cons (.lst ⟨h2,λz=>na ?B⟩ (.inl (sm _ _ hH)) r1.1 r1.2) (.cons (Rep.cI (F:=λ_=>True) (λb o e _=>sm b o e) (R.inn.imm im.2) im.2) .nil))
  .cases e
 .cases e
open PySem.W (findIn clsIn mroIn nsIn nsOkIn tailIn tail_of_in isNs_of_in keepIn readsIn findCls specialIn takesIn)
def Ia{K:ag}{h:Xs}(X:K.In h)(G:h.Ns N mN)(e:nsIn K N n=U (U v)):mN n=U v:=by
 obtain⟨o,es,ep,at_,hd,_,names⟩:=G;cases l:K.lookup N with
 |none=>simp[nsIn,l] at e
 |some o' =>
  obtain rfl:o' =o:=Option.some.inj ((X _ _ l).symm.trans at_);obtain⟨c,d,dt,sl⟩:=o';obtain rfl:dt= .dict es ep:=hd;simp only[nsIn,l] at e;refine(names n).symm.trans ?_;show(es.find? _).map _=_;rw[<-Array.find?_toList];cases q:es.toList.find? _ with
  |some x=>rw[q] at e;exact Option.some.inj e
  |none=>rw[q] at e;dsimp only at e;split at e<;>cases e
def LY{K:ag}{oI:Xw}
  (l:K.lookup C=U (excClassObj nm q C N bs (.ref B::bmV) O sn sub ab col dd k0 k1 k2 k3 k5 "ValueError.__new__"))(t:tailIn K bmV (.ref B::bmV)=O)(ok:nsOkIn K N=O)(i:nsIn K N "__init__"=U (U (.ref f)))(lf:K.lookup f=U oI)(fc:oI.cls= .type "function")
  (st:findIn K (.ref C) "__setattr__"=U (U (.builtin "object.__setattr__")))(nf:findIn K (.ref C) n=U J)(ga:findIn K (.ref C) "__getattribute__"=U (U (.builtin "BaseException.__getattribute__")))(gt:findIn K (.ref C) "__getattr__"=U J)(kp:keepIn K (.ref C)=O):XCl K B C f n:=by
 have hc:clsIn K C=U {name:=nm,bases:=bs,mro:= .ref C:: .ref B::bmV,ns:=N,qualname:=q,hasDict:=O,slotNames:=sn,subclasses:=sub,abstract:=ab,collection:=col,hasDel:=M}:=by
  unfold clsIn;rw[l]
 have inC:∀T:String,bmV.contains _=O->mroIn K C (.type T)=U O:=λT h=>by
  unfold mroIn;rw[hc];exact congrArg U (by rw[List.contains_cons,List.contains_cons,h,Bool.or_true,Bool.or_true])
 refine⟨λh X=> ?_,st,inC "object" rfl,⟨_,hc,rfl,rfl⟩,nf,ga,gt,inC "BaseException" rfl,kp⟩;have G:h.Ns N _:= .of_isNs (isNs_of_in X ok);exact⟨_,_,N,_,_,_,_,_,_,_,_,_,_,_,_,_,oI,X _ _ l,tail_of_in X t,G,Ia X G i,X _ _ lf,fc⟩
def LZ{K:ag}(c:XCl K B C fI n)(c1:findIn K (.ref C) "__class__"=U (U (.builtin "object.__class__")))(c2:specialIn K (.builtin "object.__class__") "__get__"=U (U (.builtin "getset_descriptor.__get__")))(c3:takesIn K (.builtin "object.__class__")=U O):XIs K C:=
 ⟨c.ga,c.gt,c.be,c.ob,let⟨_,h,_⟩:=c.cd;by rw[h];rfl,c1,c2,c3⟩
def Ib{K:ag}{mg:Str->Option Xq}{fd:XA}{p2 p6 UC:Pos}(F:Fun K "__init__" qual sd fa fd)(S:dh ["self",x] ["self",x] (av sd))(bs:XBs K B)(cl:XCl K B C fa n)
  (xg:bY sd=[.Expr (.Call (.Attribute (.Name b p1) "__init__" p2) [.Name "self" p3,.Name x p4] [] p5) p6,.Assign [.Attribute (.Name "self" p7) n p8] (.Name x p9) UC])
  (hm:mg b=U (.ref B))(hg:(av sd).names.lookup b=U .globalImplicit)(h1:(av sd).names.lookup ("self":Str)=U .local)(h2:(av sd).names.lookup x=U .local)
  (hZ:(b==("__debug__":Str))=M)(WB:(x==("__debug__":Str))=M)(WC:(x==("__classdict__":Str))=M)
  (ht:∀env,∃pl,eval (.Call (.Attribute (.Name b p1) "__init__" p2) [.Name "self" p3,.Name x p4] [] p5) env=(do
   let ov<-eval (.Name b p1) env
   standAt p2.atName
   let(f,first)<-holding [ov] (getMethod ov "__init__" pl)
   callWith p5 f first (backTo p5 (starEach [.Name "self" p3,.Name x p4] env)) (backToKw p5 (keywordEach [] env))))
  (eZ:∀env,swapsWith (.Call (.Attribute (.Name b p1) "__init__" p2) [.Name "self" p3,.Name x p4] [] p5) J p6.line env=pure M)(hV:∀env,swapsWith (.Name x p9) (U (.Attribute (.Name "self" p7) n p8)) UC.line env=pure M):
  cp P w K mg base CX0 1 fa fd ["self",x] (lM K B C n):=by
 refine F.ok S (λvs H Q E ⟨a,v,e,_⟩=>by rw[e];rfl) λeQ A outer s H vs Q E hr h=> ?_;rw[xg];generalize hX:(gf CX0 P w K mg base ["self",x] qual _ fa eQ A outer s H E).nox=X;have eK:X.K=K:=by rw[<-hX];rfl
 have eN:X.N=[("self":Str),x]:=by rw[<-hX];rfl
 have eM:X.mg=mg:=by rw[<-hX];rfl
 have eS:X.env.scope=av sd:=by rw[<-hX];rfl
 have v0:∀p,PE X (.Name "self" p) (K3 0):=λp=>fi (by rw[eN];rfl) (by rw[eS];exact .inl h1);have v1:∀p,PE X (.Name x p) (K3 1):=λp=>fi (by rw[eN];rfl) (by rw[eS];exact .inl h2) WB WC;obtain⟨pl,ht⟩:=ht _;have s2:PS X _ (Pj _ B n _ _):=LI (v0 p7) (v1 p9) (hV _);refine⟨_,o6 (LH (eK▸bs) (show X.env.kindOf b=_ by show X.env.scope.names.lookup b=_;rw[eS];exact hg) (eM▸hm) (cM (v0 p3) (cM (v1 p4) gO)) ht hZ) (qH s2), ?_⟩;obtain⟨a,v,rfl,ea,k⟩:=h;rw[eK];exact⟨.ref a,rfl,v,rfl,a,v,C,fa,n,rfl,cl,ea,v,rfl,.ref a,rfl,a,C,fa,rfl,cl,ea,λdx z ne=>k dx z ne⟩
open PySem.W (kitOne)
structure Gm where
 N:List Str
 kd:Str->Option XD
 fns:Str->Option (Nat×(SpF))
 bl:List Str
 top:Bool
 cs:Str->Option D
 ds:Str->Option (List (Key×List Key))
 C:Nat
 fs:List Str
 nv:Bool
 rd:Str->Option (Nat×(List D->Option RX))
 xi:Str->Option (List (Nat×Bool))
 fx:Str->Option Nat
structure Ev where
 E:Xp->Option DE
 V:Xp->Option DT
 T:Xp->Option DT
 W:Xp->Option DT
 S:Xu->Option DS
 B:List Xu->Option DS
noncomputable def ah{α:Type}(b:Bool)(x:Option α):Option α:=if b then x else J
def aD{α:Type}{x:Option α}{y:α}(h:ah b x=U y):b=O/\x=U y:=by
 unfold ah at h;simp_all
def nn{α:Type}{P:Prop}{x:Option α}{y:α}(h:x=U y)(e:x=J):P:=by rw[e] at h;cases h
noncomputable def alt{α:Type}(a b:Option α):Option α:=match a with
 |some x=>U x
 |none=>b
def c6{α:Type}{a b:Option α}{x:α}(h:alt a b=U x):a=U x\/b=U x:=by
 cases a with
 |none=>exact .inr h
 |some y=>exact .inl h
@[elab_as_elim] theorem bq{α β:Type}{P:β->Prop}{o:Option α}{k:α->β}{y:β}(h:o.map k=U y)(c:∀x,o=U x->P (k x)):P y:=by
 cases o<;>cases h
 exact c _ rfl
def ay{α:Type}{P:Prop}{b:Bool}{o:Option α}{y:α}(h:ah b o=U y)(c:b=O->o=U y->P):P:=let⟨a,b⟩:=aD h;c a b
@[elab_as_elim] theorem iq{α:Type}{P:Str->Prop}{o:Option α}{y:α}(h:ah (x==w) o=U y)(c:o=U y->P w):P x:=by
 obtain⟨a,h⟩:=aD h;rw[GaU.mp a];exact c h
def cP{α:Type}(e:Xp)(k:Xp->List Xp->Pos->Option α):Option α:=match e with
 | .Call f l [] p=>k f l p
 |_=>J
@[elab_as_elim] theorem bC{P:Xp->Prop}{e:Xp}{k:Xp->List Xp->Pos->Option α}(h:cP e k=U y)(c:∀f l p,k f l p=U y->P (.Call f l [] p)):P e:=by
 cases e<;>try exact nn h rfl
 case Call f l w p=>
  cases w<;>try exact nn h rfl
  exact c f l p h
noncomputable def dP{α:Type}(e:Xp)(k:Str->Pos->Option α):Option α:=match e with
 | .Name x p=>k x p
 |_=>J
@[elab_as_elim] theorem aZ{P:Xp->Prop}{e:Xp}{k:Str->Pos->Option α}(h:dP e k=U y)(c:∀x p,k x p=U y->P (.Name x p)):P e:=by
 cases e<;>try exact nn h rfl
 case Name x p=>exact c x p h
noncomputable def wU{α:Type}(e:Xp)(k:List Xp->Nat->Pos->Option α):Option α:=match e with
 | .Tuple l d p=>k l d p
 |_=>J
@[elab_as_elim] theorem oM{P:Xp->Prop}{e:Xp}{k:List Xp->Nat->Pos->Option α}(h:wU e k=U y)(c:∀l d p,k l d p=U y->P (.Tuple l d p)):P e:=by
 cases e<;>try exact nn h rfl
 case Tuple l d p=>exact c l d p h
noncomputable def lQ{α:Type}(e:Xp)(k:Xp->Str->Pos->Option α):Option α:=match e with
 | .Attribute a n p=>k a n p
 |_=>J
@[elab_as_elim] theorem fW{P:Xp->Prop}{e:Xp}{k:Xp->Str->Pos->Option α}(h:lQ e k=U y)(c:∀a n p,k a n p=U y->P (.Attribute a n p)):P e:=by
 cases e<;>try exact nn h rfl
 case Attribute a n p=>exact c a n p h
noncomputable def u5{α:Type}(e:Xp)(k:Xp->Xp->Option α):Option α:=match e with
 | .Subscript a b _=>k a b
 |_=>J
@[elab_as_elim] theorem lT{P:Xp->Prop}{e:Xp}{k:Xp->Xp->Option α}(h:u5 e k=U y)(c:∀a b p,k a b=U y->P (.Subscript a b p)):P e:=by
 cases e<;>try exact nn h rfl
 case Subscript a b p=>exact c a b p h
noncomputable def Jx{α:Type}(e:Xu)(k:Xp->Xp->List Xu->Option α):Option α:=match e with
 | .For a b l [] _=>k a b l
 |_=>J
@[elab_as_elim] theorem Ek{P:Xu->Prop}{e:Xu}{k:Xp->Xp->List Xu->Option α}(h:Jx e k=U y)(c:∀a b l p,k a b l=U y->P (.For a b l [] p)):P e:=by
 cases e<;>try exact nn h rfl
 case For a b l w p=>
  cases w<;>try exact nn h rfl
  exact c a b l p h
noncomputable def n6{α:Type}(e:Xu)(k:Xp->Xp->Option α):Option α:=match e with
 | .Assign [a] b _=>k a b
 |_=>J
@[elab_as_elim] theorem i8{P:Xu->Prop}{e:Xu}{k:Xp->Xp->Option α}(h:n6 e k=U y)(c:∀a b p,k a b=U y->P (.Assign [a] b p)):P e:=by
 cases e<;>try exact nn h rfl
 case Assign l b p=>
  cases l<;>try exact nn h rfl
  rename_i a l;cases l<;>try exact nn h rfl
  exact c a b p h
noncomputable def Ic{α:Type}(e:Xu)(k:Xp->Option α):Option α:=match e with
 | .Expr a _=>k a
 |_=>J
@[elab_as_elim] theorem rn{P:Xu->Prop}{e:Xu}{k:Xp->Option α}(h:Ic e k=U y)(c:∀a p,k a=U y->P (.Expr a p)):P e:=by
 cases e<;>try exact nn h rfl
 case Expr a p=>exact c a p h
noncomputable def PF{α:Type}(e:Xu)(k:Xp->Option α):Option α:=match e with
 | .Raise (U a) J _=>k a
 |_=>J
@[elab_as_elim] theorem Ie{P:Xu->Prop}{e:Xu}{k:Xp->Option α}(h:PF e k=U y)(c:∀a p,k a=U y->P (.Raise (U a) J p)):P e:=by
 cases e<;>try exact nn h rfl
 case Raise a b p=>
  cases a<;>try exact nn h rfl
  cases b<;>try exact nn h rfl
  exact c _ p h
noncomputable def onStr{α:Type}(e:Xp)(k:Str->Option α):Option α:=match e with
 | .Constant (.str x) _ _=>k x
 |_=>J
@[elab_as_elim] theorem u6{P:Xp->Prop}{e:Xp}{k:Str->Option α}(h:onStr e k=U y)(c:∀x d p,k x=U y->P (.Constant (.str x) d p)):P e:=by
 cases e<;>try exact nn h rfl
 case Constant a d p=>
  cases a<;>try exact nn h rfl
  exact c _ d p h
noncomputable def Jy{α:Type}(e:Xp)(k:Xp->XE->Xp->Option α):Option α:=match e with
 | .Compare a [o] [b] _=>k a o b
 |_=>J
@[elab_as_elim] theorem El{P:Xp->Prop}{e:Xp}{k:Xp->XE->Xp->Option α}(h:Jy e k=U y)(c:∀a o b p,k a o b=U y->P (.Compare a [o] [b] p)):P e:=by
 cases e<;>try exact nn h rfl
 case Compare a l m p=>
  cases l<;>try exact nn h rfl
  rename_i o l;cases l<;>try exact nn h rfl
  cases m<;>try exact nn h rfl
  rename_i b m;cases m<;>try exact nn h rfl
  exact c a o b p h
noncomputable def Jz{α:Type}(e:Xp)(k:Int->Option α):Option α:=match e with
 | .UnaryOp .USub (.Constant (.int i) _ _) _=>k i
 |_=>J
@[elab_as_elim] theorem Em{P:Xp->Prop}{e:Xp}{k:Int->Option α}(h:Jz e k=U y)(c:∀i d p q,k i=U y->P (.UnaryOp .USub (.Constant (.int i) d p) q)):P e:=by
 cases e<;>try exact nn h rfl
 case UnaryOp o a q=>
  cases o<;>try exact nn h rfl
  cases a<;>try exact nn h rfl
  rename_i a d p;cases a<;>try exact nn h rfl
  exact c _ d p q h
noncomputable def ir{α β:Type}(l:List β)(k:β->Option α):Option α:=match l with
 |[a]=>k a
 |_=>J
@[elab_as_elim] theorem cJ{P:List β->Prop}{k:β->Option α}(h:ir l k=U y)(c:∀a,k a=U y->P [a]):P l:=match l,h with
 |[a],h=>c a h
noncomputable def n9{α β:Type}(l:List β)(k:β->β->Option α):Option α:=match l with
 |[a,b]=>k a b
 |_=>J
@[elab_as_elim] theorem i9{P:List β->Prop}{k:β->β->Option α}(h:n9 l k=U y)(c:∀a b,k a b=U y->P [a,b]):P l:=match l,h with
 |[a,b],h=>c a b h
noncomputable def En{α β:Type}(l:List β)(k:Option α):Option α:=match l with
 |[]=>k
 |_=>J
@[elab_as_elim] theorem u7{P:List β->Prop}{k:Option α}(h:En l k=U y)(c:k=U y->P []):P l:=match l,h with
 |[],h=>c h
noncomputable def JA{α:Type}(e:Xu)(k:List Xu->ExceptHandler->Option α):Option α:=match e with
 | .Try b [a] [] [] _=>k b a
 |_=>J
@[elab_as_elim] theorem Eo{P:Xu->Prop}{e:Xu}{k:List Xu->ExceptHandler->Option α}(h:JA e k=U y)(c:∀b a p,k b a=U y->P (.Try b [a] [] [] p)):P e:=by
 cases e<;>try exact nn h rfl
 case Try b l m o p=>
  cases l<;>try exact nn h rfl
  rename_i a l;cases l<;>try exact nn h rfl
  cases m<;>try exact nn h rfl
  cases o<;>try exact nn h rfl
  exact c b a p h
noncomputable def PH{α:Type}(e:ExceptHandler)(k:Xp->Str->List Xu->Option α):Option α:=match e with
 | .ExceptHandler (U a) (U x) l _=>k a x l
 |_=>J
@[elab_as_elim] theorem Ig{P:ExceptHandler->Prop}{e:ExceptHandler}{k:Xp->Str->List Xu->Option α}(h:PH e k=U y)(c:∀a x l p,k a x l=U y->P (.ExceptHandler (U a) (U x) l p)):P e:=match e,h with
 | .ExceptHandler (U a) (U x) l p,h=>c a x l p h
noncomputable def rq{α β:Type}(l:List β)(k:β->List β->Option α):Option α:=match l with
 |a::l=>k a l
 |_=>J
@[elab_as_elim] theorem mJ{P:List β->Prop}{k:β->List β->Option α}(h:rq l k=U y)(c:∀a l,k a l=U y->P (a::l)):P l:=match l,h with
 |a::l,h=>c a l h
noncomputable def JB{α:Type}(e:Xu)(k:Xp->Option α):Option α:=match e with
 | .Return (U a) _=>k a
 |_=>J
@[elab_as_elim] theorem Ep{P:Xu->Prop}{e:Xu}{k:Xp->Option α}(h:JB e k=U y)(c:∀a p,k a=U y->P (.Return (U a) p)):P e:=by
 cases e<;>try exact nn h rfl
 case Return a p=>
  cases a<;>try exact nn h rfl
  exact c _ p h
noncomputable def PJ{α:Type}(e:Xu)(k:Xp->List Xu->List Xu->Option α):Option α:=match e with
 | .If a l m _=>k a l m
 |_=>J
@[elab_as_elim] theorem Ih{P:Xu->Prop}{e:Xu}{k:Xp->List Xu->List Xu->Option α}(h:PJ e k=U y)(c:∀a l m p,k a l m=U y->P (.If a l m p)):P e:=by
 cases e<;>try exact nn h rfl
 case If a l m p=>exact c a l m p h
noncomputable def JC{α:Type}(e:Xp)(k:Xp->Option α):Option α:=match e with
 | .UnaryOp .Not a _=>k a
 |_=>J
@[elab_as_elim] theorem Er{P:Xp->Prop}{e:Xp}{k:Xp->Option α}(h:JC e k=U y)(c:∀a p,k a=U y->P (.UnaryOp .Not a p)):P e:=by
 cases e<;>try exact nn h rfl
 case UnaryOp o a p=>
  cases o<;>try exact nn h rfl
  exact c a p h
noncomputable def M0{α:Type}(e:Xp)(k:Option Xp->Option Xp->Option α):Option α:=match e with
 | .Slice a b J _=>k a b
 |_=>J
@[elab_as_elim] theorem wW{P:Xp->Prop}{e:Xp}{k:Option Xp->Option Xp->Option α}(h:M0 e k=U y)(c:∀a b p,k a b=U y->P (.Slice a b J p)):P e:=by
 cases e<;>try exact nn h rfl
 case Slice a b d p=>
  cases d<;>try exact nn h rfl
  exact c a b p h
noncomputable def PK{α:Type}(e:Xp)(k:Xp->Comprehension->Xy->Option α):Option α:=match e with
 | .ListComp a [b] d _=>k a b d
 |_=>J
@[elab_as_elim] theorem Ij{P:Xp->Prop}{e:Xp}{k:Xp->Comprehension->Xy->Option α}(h:PK e k=U y)(c:∀a b d p,k a b d=U y->P (.ListComp a [b] d p)):P e:=by
 cases e<;>try exact nn h rfl
 case ListComp a l d p=>
  cases l<;>try exact nn h rfl
  rename_i b l;cases l<;>try exact nn h rfl
  exact c a b d p h
def fB{α:Type}{P:Prop}{a b:Option α}{y:α}(h:alt a b=U y)(c:a=U y->P)(d:b=U y->P):P:=by
 cases a with
 |some x=>exact c h
 |none=>exact d h
noncomputable def ixN(N:List Str)(x:Str):Option Nat:=N.findIdx? λy=>y==x
def vi(h:ixN N x=U i):N[i]? =U x:=by
 obtain⟨h1,h2,_⟩:=GcF.mp h;simp_all
def rdK:Option XD->Bool
 |some .local=>O
 |some .cell=>O
 |some .free=>O
 |_=>M
noncomputable def odd(x:Str):Bool:=x=="__debug__"||x=="__classdict__"
def vR(G:Gm)(x:Str):Option Nat:=ah (rdK (G.kd x)&& !odd x) (ixN G.N x)
def lR(G:Gm)(x:Str):Option Nat:=ah (G.kd x==U .local||(G.top&&G.kd x==U .cell)) (ixN G.N x)
def gR(G:Gm)(x:Str):Bool:=G.kd x==U .globalImplicit&& !odd x&&x !="__name__"
def bR(G:Gm)(x:Str):Bool:=gR G x&&G.bl.contains x
noncomputable def ns:Xp->Bool
 | .Starred _ _=>M
 |_=>O
def aR(f:Xp->Option DE):List Xp->Option (Nat×DA)
 |[]=>U (0,aM)
 |e::es=>ah (ns e) ((f e).bind λx=>(aR f es).map λr=>(r.1+1,ak x r.2))
structure GmO(G:Gm)(X:Cx):Prop where
 N:X.N=G.N
 nd:X.N.Nodup
 vis:∀x,rdK (G.kd x)=O->Vis X.env.scope x
 loc:∀x,(G.kd x==U .local||(G.top&&G.kd x==U .cell))=O->Loc X.env.scope x/\(X.fn x=O\/X.env.scope.names.lookup x=U .local)
 gl:∀x,G.kd x=U .globalImplicit->Gl X x
 cf:∀x,sX (G.kd x)=O->sX (X.env.kindOf x)=O
 sw:G.top=O->∀x,(X.env.blockKind== .function&&X.env.kindOf x==U .local)=(G.kd x==U .local)
 calm:X.calm=O
 own:X.xe=λ_ _=>False
 hu:X.A.units+20<cLine
 fns:∀x np sp,G.fns x=U (np,sp)->∃k fa fd ps,cp X.prog X.w X.K X.mg X.base CX0 k fa fd ps (spD X.K np sp)/\cD k X.A/\X.mg x=U (.ref fa)/\PySem.W.keepIn X.K (.ref fa)=O/\Binds X.K fd ps []
 no:∀x∈G.bl,X.mg x=J
def RW(X:Cx)(x:Str):D->Prop
 | .int i=>∃t,X.mg x=U (.int i t)
 | .str y=>∃t,X.mg x=U (.str y t)
 | .kt ks=>∃a,X.mg x=U (.ref a)/\Kt X.K a ks
 |_=>False
structure aT(G:Gm)(X:Cx):Prop extends GmO G X where
 cs:∀x d,G.cs x=U d->RW X x d
 ds:∀x t,G.ds x=U t->∃a,X.mg x=U (.ref a)/\KDk X.prog X.w X.K a t
 cl:G.fs≠[]->L2.Cls X.K G.C
 na:∀n∈G.fs,cC X.K G.C n
 rd:∀x np sp,G.rd x=U (np,sp)->∃k fa fd ps,cp X.prog X.w X.K X.mg X.base (CXE X.prog X.w X.K) k fa fd ps (spR X.K np sp)/\cD k X.A/\X.mg x=U (.ref fa)/\PySem.W.keepIn X.K (.ref fa)=O/\Binds X.K fd ps []
 xi:∀x cs,G.xi x=U cs->∃c u,DY c u/\(∀q∈cs,XIs X.K q.1/\kitOne X.K (.ref q.1) u=U q.2)/\(X.mg x=U u\/X.mg x=J/\bootBuiltins x=U u)
 fx:∀n C,G.fx n=U C->∃B fI,XCl X.K B C fI n
structure cz(v:Ev)(X:Cx):Prop where
 E:∀e f,v.E e=U f->PEd X e f
 V:∀e t,v.V e=U t->PEd X e (bE t)
 T:∀e t,v.T e=U t->PTd X e t
 W:∀e t,v.W e=U t->PWd X e t
 S:∀s f,v.S s=U f->PSd X s f
 B:∀b f,v.B b=U f->nG X b f
def bx(h:ns e=O):starEach (e::es) env=(M,eval e env)::starEach es env:=by
 cases e<;>first|rfl|cases h
def aT.hu1{X:Cx}(g:aT G X):X.A.units+1<cLine:=by have:=g.hu;lia
def km{X:Cx}(g:aT G X)(h:vR G x=U i):X.N[i]? =U x/\Vis X.env.scope x/\(x==("__debug__":Str))=M/\(x==("__classdict__":Str))=M:=by
 obtain⟨h1,h2⟩:=aD h;rw[Gai] at h1;have:=h1.2;unfold odd at this;simp only[Bool.not_eq_true',GcW] at this;exact⟨by rw[g.N];exact vi h2,g.vis x h1.1,this.1,this.2⟩
def ng{X:Cx}(g:aT G X)(h:lR G x=U i):X.N[i]? =U x/\Loc X.env.scope x/\(X.fn x=O\/X.env.scope.names.lookup x=U .local):=by
 obtain⟨h1,h2⟩:=aD h;exact⟨by rw[g.N];exact vi h2,g.loc x h1⟩
def jc(g:aT G X)(h:gR G x=O):Gl X x/\x≠"__name__"/\(x==("__debug__":Str))=M:=by
 unfold gR at h;simp only[Gai,bne_iff_ne,GaU] at h;have:=h.1.2;unfold odd at this;simp only[Bool.not_eq_true',GcW] at this;exact⟨g.gl x h.1.1,h.2,this.1⟩
def jx{X:Cx}(g:aT G X)(h:bR G x=O):Gl X x/\X.mg x=J/\x≠"__name__"/\(x==("__debug__":Str))=M:=by
 unfold bR at h;rw[Gai] at h;obtain⟨h1,h2,h3⟩:=jc g h.1;exact⟨h1,g.no x ?H,h2,h3⟩
theorem lU{X:Cx}(hf:∀e d,f e=U d->PEd X e d):∀{es n r},aR f es=U (n,r)->
  PAd X es r/\(∀env rs,r env=U rs->rs.length=n)/\(∀pos,(backTo pos (starEach es X.env)).any (·.1)=M)/\es.all ns=O
 |[],n,r,h=>by cases h;exact⟨gP,He,λ_=>rfl,rfl⟩
 |e::es,n,r,h=>by
  obtain⟨h1,h2⟩:=aD h;refine a9 h2 λx hx h2=> ?_;obtain⟨⟨m,q⟩,hq,h2⟩:=Gaa.mp h2;cases h2;obtain⟨a1,a2,a3,a4⟩:=lU hf hq;refine⟨dk (hf e x hx) a1 (bx h1),CP a2,λpos=> ?_,by rw[GbA,h1,a4];rfl⟩;rw[bx h1];exact a3 pos
def wX(h:aR f es=U (n,r))(hn:n≠0):∃e t,es=e::t/\ns e=O/\∃m q,aR f t=U (m,q):=by
 cases es with
 |nil=>cases h;exact absurd rfl hn
 |cons e t=>
  obtain⟨h1,h2⟩:=aD h;refine a9 h2 λx hx h2=> ?_;obtain⟨⟨m,q⟩,hq,h2⟩:=Gaa.mp h2;exact⟨e,t,rfl,h1,m,q,hq⟩
def orI(f g:DI):DI:=λenv=>match f env with
 |some r=>U r
 |none=>g env
def vk(f g:DS):DS:=λenv=>match f env with
 |some r=>U r
 |none=>g env
def orB(f g:D->D->Option Bool):D->D->Option Bool:=λx y=>match f x y with
 |some r=>U r
 |none=>g x y
def orS(f g:SpV):SpV:=λds=>match f ds with
 |some r=>U r
 |none=>g ds
def M1(h1:PId X tg e f)(h2:PId X tg e g):PId X tg e (orI f g):=λef s Z H R I ⟨H0,eg,env,r,E,e,k⟩=>by
 unfold orI at e;split at e
 .rename_i q;exact h1 ef s Z H R I ⟨H0,eg,env,r,E,by rw[q,e],k⟩
 .exact h2 ef s Z H R I ⟨H0,eg,env,r,E,e,k⟩
def M3{st:Xu}{f g:DS}(h1:PSd X st f)(h2:PSd X st g):PSd X st (vk f g):=λef s Z H D I ⟨H0,eg,env,r,E,e,k⟩=>by
 unfold vk at e;split at e
 .rename_i q;exact h1 ef s Z H D I ⟨H0,eg,env,r,E,by rw[q,e],k⟩
 .exact h2 ef s Z H D I ⟨H0,eg,env,r,E,e,k⟩
def Es(h1:OpB X f r)(h2:OpB X g r'):OpB X (orB f g) (λx y H Q=>r x y H Q\/r' x y H Q):=λF H dx dy x y b Q ix iy e q=>by
 unfold orB at e;split at e
 .rename_i z;exact .inl (h1 F H dx dy x y b Q ix iy (by rw[z,e]) q)
 .exact .inr (h2 F H dx dy x y b Q ix iy e q)
def u9(h1:CallD X f r)(h2:CallD X g r'):CallD X (orS f g) (λxs H Q=>r xs H Q\/r' xs H Q):=λF H ds vs rv Q p e k=>by
 unfold orS at e;split at e
 .rename_i z;exact .inl (h1 F H ds vs rv Q p (by rw[z,e]) k)
 .exact .inr (h2 F H ds vs rv Q p e k)
def Ik(op:XE)(b:Xp):Option (D->D->Option Bool):=ah (!behindInMarks op b) (match op,b with
 | .Is,.Constant .none _ _=>U gx
 | .IsNot,.Constant .none _ _=>U Cp
 | .Is,_=>J
 | .IsNot,_=>J
 | .Eq,_=>U eqB
 | .NotEq,_=>U neB
 | .Lt,_=>U ltB
 | .LtE,_=>U leB
 | .Gt,_=>U gtB
 | .GtE,_=>U geB
 | .In,_=>U (orB iG kJ)
 | .NotIn,_=>U (orB ip ju))
def M4(x:Str)(n:Nat):Option (SpV):=alt (ah (n==2) (ah (x=="min") (U jm))) (ah (n==1) (alt (ah (x=="len") (U cW))<|alt (ah (x=="max") (U pV))<|alt (ah (x=="all") (U sI))<|alt (ah (x=="int") (U (orS pD lH)))<|alt (ah (x=="str") (U (orS lG mI)))<|alt (ah (x=="tuple") (U bz)) (ah (x=="list") (U listS))))
noncomputable def M5(x:Str):Option String:=
 if x="int" then U "int" else if x="bool" then U "bool" else if x="str" then U "str" else if x="tuple" then U "tuple" else if x="list" then U "list" else J
noncomputable def Il:Xp->Bool
 | .Slice _ _ _ _=>M
 |_=>O
def Et(h:Il b=O):qR b:=by
 cases b<;>first|exactλ_ _=>rfl|cases h
noncomputable def plT:Xp->Bool
 | .UnaryOp _ _ _=>M
 | .BoolOp _ _ _=>M
 | .IfExp _ _ _ _=>M
 | .Compare _ _ _ _=>M
 |_=>O
def vo{e:Xp}(h:plT e=O):∀whole,isTrue e env whole=(do let v<-whole;standAt e.pos;holding [v] (truthy v)):=by
 cases e<;>first|exactλ_=>rfl|cases h
def rA(g:aT G X)(h:Ik op b=U o):behindInMarks op b=M/\∃r,OpR X (compareOp op) r/\OpB X o r:=by
 obtain⟨h1,h2⟩:=aD h;refine⟨by simpa using h1, ?_⟩;have hu:=g.hu;split at h2<;>cases h2
 .exact⟨_,Km,GV⟩
 .exact⟨_,Gj,Cz⟩
 .exact⟨_,Le hu,Lg⟩
 .exact⟨_,Lf hu,Lh⟩
 .exact⟨_,O8,KQ⟩
 .exact⟨_,O9,KR⟩
 .exact⟨_,Oa,KS⟩
 .exact⟨_,Ob,KU⟩
 .exact⟨_,(Lz hu).or LC,Es HU HB⟩
 .exact⟨_,(Hx hu).or HA,Es Ea Dk⟩
def Im{X:Cx}(g:aT G X)(h:M4 x n=U o)(hb:bR G x=O)(ha:PAd X (e::es) ra)(he:ns e=O)(xb:(backTo pos (starEach es X.env)).any (·.1)=M):PEd X (.Call (.Name x p) (e::es) [] pos) (jY o ra):=by
 obtain⟨b1,b2,b3,b4⟩:=jx g hb;have hc:=g.calm;have use:∀{w:Str} {s:SpV},ah _ _=U o->x=w/\o=s:=λz=>let⟨a,b⟩:=aD z;⟨GaU.mp a,(Option.some.inj b).symm⟩
 refine fB h (λh=>ay h λ_ h=> ?_) λh=>ay h λ_ h=>fB h (λh=> ?_) λh=>fB h (λh=> ?_) λh=>fB h (λh=> ?_) λh=>fB h (λh=> ?_) λh=>fB h (λh=> ?_) λh=>fB h (λh=> ?_) λh=> ?_
 all_goals (obtain⟨rfl,rfl⟩:=use h)
 .exact qW (AE hc) uU b1 b2 Lj ha b3 b4 (bx he) xb
 .exact qW Ca AU b1 b2 Li ha b3 b4 (bx he) xb
 .exact qW (B9 hc) uX b1 b2 Lk ha b3 b4 (bx he) xb
 .exact qW (B7 hc) Ba b1 b2 Ll ha b3 b4 (bx he) xb
 .exact lu (AF.or pE) (u9 Bf v9) b1 b2 CQ ha b3 b4 (bx he) xb
 .exact lu (qN.or Bz) (u9 Bj vg) b1 b2 CT ha b3 b4 (bx he) xb
 .exact lu pz sP b1 b2 sV ha b3 b4 (bx he) xb
 .exact lu qT uV b1 b2 wu ha b3 b4 (bx he) xb
def Io{X:Cx}(h:M5 x=U T):om X.K T/\bootBuiltins x=U (.type T):=by
 unfold M5 at h
 repeat' split at h
 all_goals first|cases h|skip
 all_goals (rename_i q;obtain rfl:=q)
 .exact⟨Hk,CQ⟩
 .exact⟨CV,Hj⟩
 .exact⟨Hl,CT⟩
 .exact⟨kit_tuple,sV⟩
 .exact⟨CU,wu⟩
abbrev Rc:=Gm->Ev
def cqR(v:Ev)(a:Xp)(l:List XE)(m:List Xp):Option DT:=alt (ir l λop=>ir m λb=>(Ik op b).bind λo=>(v.E a).bind λf=>(v.E b).map λg=>aw o f g) (n9 l λop xO =>n9 m λb c=>(Ik op b).bind λo=>(Ik xO c).bind λo' =>(v.E a).bind λf=>(v.E b).bind λg=>(v.E c).map λh=>my o o' f g h)
def cpR(v:Ev):Xp->Option DT
 | .Compare a ops bs _=>cqR v a ops bs
 |_=>J
noncomputable def nmO:Xp->Option Str
 | .Name x _=>U x
 |_=>J
def PL(e:Xp):Bool:=(cP e λf l _=>dP f λ_ _=>ah (l.length==1||l.length==2) (U ())).isSome
def Eu(v:Ev)(G:Gm)(e:Xp):Option DT:=cP e λf l _=>dP f λx _=>n9 l λa b=>dP b λy _=>ah (x=="isinstance") (ah (bR G "isinstance") (ah (bR G y) (ah (ns a) ((M5 y).bind λT=>(v.E a).map λf=>jZ T f))))
def bo(op:BoolOp)(t u:DT):DT:=match op with
 | .And=>gh t u
 | .Or=>orT t u
def bvR(v:Xp->Option DT)(p:Pos)(op:BoolOp)(w:Xp->Option DT):List Xp->Option DT
 |[]=>J
 |a::r=>(match r with
  |[]=>v a
  |_::_=>(v a).bind λt=>(w (.BoolOp op r p)).map λu=>bo op t u)
def vV(v:Ev)(G:Gm)(e:Xp):Option DT:=match e with
 | .Compare _ _ _ _=>cpR v e
 | .BoolOp op es p=>bvR v.V p op v.V es
 | .UnaryOp op a _=>(match op with
  | .Not=>(v.V a).map ku
  |_=>(v.E e).map dF)
 | .Call _ _ _ _=>(match Eu v G e with
  |some t=>U t
  |none=>(v.E e).map dF)
 |_=>(v.E e).map dF
def tV(v:Ev)(e:Xp):Option DT:=match e with
 | .Compare _ _ _ _=>cpR v e
 | .BoolOp _ _ _=>v.W e
 | .UnaryOp op a _=>(match op with
  | .Not=>(v.T a).map ku
  |_=>J)
 |_=>ah (plT e) ((v.E e).map dF)
def wV(v:Ev):Xp->Option DT
 | .BoolOp op es p=>bvR v.T p op v.W es
 |_=>J
def tgs(G:Gm):List Xp->Option (List Nat)
 |[]=>U []
 |e::r=>(nmO e).bind λx=>(lR G x).bind λi=>(tgs G r).map λis=>i::is
def tgR(G:Gm):Xp->Option DG
 | .Name x _=>(lR G x).map gN
 | .Tuple es _ _=>(tgs G es).map gT
 |_=>J
def tgN:Xp->List Str
 | .Name x _=>[x]
 | .Tuple es _ _=>es.filterMap nmO
 |_=>[]
noncomputable def M6:Xp->Bool
 | .Tuple _ _ _=>O
 |_=>M
noncomputable def M7:Xp->Bool
 | .Set _ _ _=>M
 |_=>O
def Ew:Xp->Bool
 | .Call f args kw _=>(nmO f).isNone|| !args.isEmpty|| !kw.isEmpty
 |_=>O
def M8(v:Ev)(G:Gm)(tg e:Xp):Option DI:=alt (cP e λf l _=>dP f λx _=>ir l λa=>ah (ns a) (alt (ah (x=="range") (ah (bR G "range") ((v.E a).map aS))) (ah (x=="enumerate") (ah (bR G "enumerate") (ah (M6 tg) ((v.E a).map Dg))))))
 (alt (cP e λf l _=>dP f λx _=>n9 l λa b=>ah (ns a) (ah (ns b) (alt (ah (x=="zip") (ah (bR G "zip") (ah (M6 tg) ((v.E a).bind λf=>(v.E b).map λg=>Ec f g)))) (ah (x=="range") (ah (bR G "range") ((v.E a).bind λf=>(v.E b).map λg=>gz f g))))))
  ((v.E e).map λf=>bif PL e then Cq f else orI (Cq f) (Lx f)))
def JD(G:Gm):Xp->Option Nat
 | .Name x _=>ixN G.N x
 | .Call f args _ _=>(match args with
  |[e]=>if nmO f=U "enumerate" then(nmO e).bind (ixN G.N) else J
  |_=>J)
 |_=>J
def inG(G:Gm)(scope:Xy)(tn:List Str):Gm:={G with N:=tn++G.N.filter λx=>scope.names.lookup x==U .free,kd:=λx=>scope.names.lookup x,top:=M}
def PM(G:Gm)(scope:Xy):List Nat:=(G.N.filter λx=>scope.names.lookup x==U .free).filterMap (ixN G.N)
def scB(G:Gm)(scope:Xy)(N:List Str)(n:Nat)(eF:List Nat):Bool:=
 (scope.names.all λy=>y.2 != .cell)&&scope.kind== .function&&(scope.names.all λy=>y.2 != .local||scope.names.lookup y.1==U .local)&&(scope.names.all λy=>y.2 != .free||sX (G.kd y.1))
  &&N.drop n==(eF.map λi=>(G.N[i]?).getD ("":Str))&&decide (n<=N.length)&&(eF.all λi=>decide (i<G.N.length))&&((N.drop n).all λx=>scope.names.lookup x==U .free)&&decide N.Nodup
def tsR(v:Ev):List Xp->Option DT
 |[]=>U bc
 |[c]=>v.T c
 |_=>J
def Ex(g:aT G X)(k:cz v X)(h:cpR v e=U t):PTd X e t/\PEd X e (bE t):=by
 cases e<;>try exact nn h rfl
 case Compare a ops bs p=>
  have h:cqR v a ops bs=U t:=h;refine fB h (λh=> ?_) λh=> ?_
  .refine cJ h λop h=>cJ h λb h=>a9 h λo ho h=>a9 h λf hf h=> ?_;obtain⟨m,r,h1,h2⟩:=rA g ho;exact bq h λq hq=> ⟨KO h1 h2 (k.E _ _ hf) (k.E _ _ hq) m,KP h1 h2 (k.E _ _ hf) (k.E _ _ hq) m⟩
  .refine i9 h λop xO h=>i9 h λb c h=>a9 h λo ho h=>a9 h λo' xJ h=>a9 h λf hf h=>a9 h λq hq h=> ?_;obtain⟨m,r,h1,h2⟩:=rA g ho;obtain⟨m',r',zG,zY⟩:=rA g xJ;exact bq h λu hu=> ⟨CC h1 h2 zG zY (k.E _ _ hf) (k.E _ _ hq) (k.E _ _ hu) m',D8 h1 h2 zG zY (k.E _ _ hf) (k.E _ _ hq) (k.E _ _ hu) m'⟩
def M9(h:nmO e=U x):∃p,e= .Name x p:=by
 cases e<;>first|exact nn h rfl|(cases h;exact⟨_,rfl⟩)
def wY(g:aT G X)(k:cz v X)(h:Eu v G e=U t):PEd X e (bE t):=by
 refine bC h λf l p h=>aZ h λx p h=>i9 h λa b h=>aZ h λy p h=>iq h λh=>ay h λc2 h=>ay h λc3 h=>ay h λc4 h=>a9 h λT hT h=> ?_;obtain⟨a1,a2,_,_⟩:=jx g c2;obtain⟨b1,b2,b3,b4⟩:=jx g c3;obtain⟨k1,k2⟩:=Io (X:=X) hT;exact bq h λf hf=>Lc k1 (k.E _ _ hf) a1 a2 b1 b2 k2 b3 b4 (bx c4) (bx rfl) rfl
def JE(g:aT G X)(k:cz v X)(h:vV v G e=U t):PEd X e (bE t):=by
 have ov:∀{e:Xp},(v.E e).map dF=U t->PEd X e (bE t):=λh=>by
  obtain⟨u,hu,rfl⟩:=Gaa.mp h;exact CA (k.E _ _ hu)
 cases e<;>try exact ov h
 case Compare=>exact(Ex (e:= .Compare _ _ _ _) g k h).2
 case BoolOp op es p=>
  match es,h with
  |[],h=>exact nn h rfl
  |[a],h=>exact L3 (k.V _ _ h)
  |a::b::r,h=>
   refine a9 h λa ha h=> ?_;obtain⟨u,hu,rfl⟩:=Gaa.mp h;cases op
   .exact L4 (k.V _ _ ha) (k.V _ _ hu)
   .exact OY (k.V _ _ ha) (k.V _ _ hu)
 case UnaryOp op a p=>
  cases op<;>try exact ov h
  obtain⟨u,hu,rfl⟩:=Gaa.mp h;exact L5 (k.V _ _ hu)
 case Call f args kw p=>
  change (match Eu v G _ with|some t=>U t|none=>(v.E _).map dF)=_ at h;cases q:Eu v G _ with
  |some u=>rw[q] at h;cases h;exact wY g k q
  |none=>rw[q] at h;exact ov h
def PN(g:aT G X)(k:cz v X)(h:tV v e=U t):PTd X e t:=by
 have ov:∀{e:Xp},ah (plT e) ((v.E e).map dF)=U t->PTd X e t:=λh=>by
  obtain⟨c,h⟩:=aD h;obtain⟨u,hu,rfl⟩:=Gaa.mp h;exact KV (k.E _ _ hu) (vo c)
 cases e<;>try exact ov h
 case Compare=>exact(Ex (e:= .Compare _ _ _ _) g k h).1
 case BoolOp=>exact(k.W _ _ h).pt
 case UnaryOp op a p=>
  cases op<;>try exact nn h rfl
  obtain⟨u,hu,rfl⟩:=Gaa.mp h;exact KZ (k.T _ _ hu)
def PQ(k:cz v X)(h:wV v e=U t):PWd X e t:=by
 cases e<;>try exact nn h rfl
 case BoolOp op es p=>
  match es,h with
  |[],h=>exact nn h rfl
  |[a],h=>
   cases op
   .exact GW (k.T _ _ h)
   .exact KW (k.T _ _ h)
  |a::b::r,h=>
   refine a9 h λa ha h=> ?_;obtain⟨u,hu,rfl⟩:=Gaa.mp h;cases op
   .exact KY (k.T _ _ ha) (k.W _ _ hu)
   .exact OW (k.T _ _ ha) (k.W _ _ hu)
theorem Ey{X:Cx}(g:aT G X):∀{es is},tgs G es=U is->PGs X es (tGs X is)/\(assignEach es X.env).length=is.length/\(assignEach es X.env).findIdx? (·.1)=J
 |[],is,h=>by cases h;exact⟨Hb,rfl,rfl⟩
 |e::r,is,h=>by
  refine a9 h λx hx h2=> ?_;clear h;obtain⟨p,rfl⟩:=M9 hx;refine a9 h2 λi hi h=> ?_;obtain⟨js,hj,rfl⟩:=Gaa.mp h;obtain⟨h1,h2,h3⟩:=ng g hi;obtain⟨a1,a2,a3⟩:=Ey g hj;refine⟨CN (wq g.nd h1 h2 h3) a1 rfl, ?_, ?_⟩
  .show(assignEach r _).length+1=_;rw[a2]
   rfl
  .show(_::assignEach r _).findIdx? _=J;rw[GbH,a3]
   rfl
def rB(g:aT G X)(h:tgR G e=U gd):PGd X e gd/\q9 gd:=by
 cases e<;>try exact nn h rfl
 case Name x p=>
  obtain⟨i,hi,rfl⟩:=Gaa.mp h;obtain⟨h1,h2,h3⟩:=ng g hi;exact⟨wq g.nd h1 h2 h3,CZ⟩
 case Tuple es p q=>
  obtain⟨is,hi,rfl⟩:=Gaa.mp h;obtain⟨a1,a2,a3⟩:=Ey g hi;exact⟨La g.calm a1 a2 a3 rfl,D0⟩
def rC(h:M7 e=O):∀x,foldedSetIterable e env x=pure x:=by
 cases e<;>first|exactλ_=>rfl|cases h
def nU(h:Ew o=O):attributeBase o m env (eval o env)=eval o env:=by
 unfold attributeBase;split
 .cases h
 .rfl
def JF(h:M6 e=O):∃a b c,e= .Tuple a b c:=by
 cases e<;>first|exact⟨_,_,_,rfl⟩|cases h
def wZ(g:aT G X)(k:cz v X)(h:M8 v G tg e=U src):PId X tg e src:=by
 refine fB h (λh=> ?_) λh=>fB h (λh=> ?_) λh=> ?_
 .refine bC h λf l p h=>aZ h λx p h=>cJ h λa h=>ay h λc1 h=>fB h (λh=> ?_) λh=> ?_
  .refine iq h λh=>ay h λc h=> ?_;obtain⟨b1,b2,_⟩:=jx g c;exact bq h λu hu=>AV b1 b2 (k.E _ _ hu) (bx c1)
  .refine iq h λh=>ay h λc h=>ay h λc2 h3=> ?_;obtain⟨b1,b2,_⟩:=jx g c;obtain⟨_,_,_,rfl⟩:=JF c2;exact bq h3 λu hu=>Hu b1 b2 (k.E _ _ hu) (bx c1)
 .refine bC h λf l p h=>aZ h λx p h=>i9 h λa b h=>ay h λc1 h=>ay h λc3 h=>fB h (λh=> ?_) λh=> ?_
  .refine iq h λh=>ay h λc h=>ay h λc2 h=>a9 h λf hf h3=> ?_;obtain⟨b1,b2,_⟩:=jx g c;obtain⟨_,_,_,rfl⟩:=JF c2;exact bq h3 λu hu=>HY b1 b2 (k.E _ _ hf) (k.E _ _ hu) (bx c1) (bx c3)
  .refine iq h λh=>ay h λc h=>a9 h λf hf h=> ?_;obtain⟨b1,b2,_⟩:=jx g c;exact bq h λu hu=>AX b1 b2 (k.E _ _ hf) (k.E _ _ hu) (by rw[bx c1,bx c3];rfl) (bx c3)
 .refine bq h λu hu=> ?_;cases PL e
  .exact M1 (CM (k.E _ _ hu)) (LB (k.E _ _ hu))
  .exact CM (k.E _ _ hu)
def lcR(r:Rc)(G:Gm)(elt tg iter:Xp)(ifs:List Xp)(scope:Xy):Option DE:=
 ah (scB G scope (inG G scope (tgN tg)).N (tgN tg).length (PM G scope)&&M7 iter) ((tgR (inG G scope (tgN tg)) tg).bind λgd=>(tsR (r (inG G scope (tgN tg))) ifs).bind λt=>((r (inG G scope (tgN tg))).E elt).bind λf=>(M8 (r G) G tg iter).map λsrc=>bu (JD G iter) (tgN tg).length (PM G scope) src gd t f)
def Ez{N:List Str}(g:aT G X)(h:scB G scope N n eF=O):iS X scope N n eF/\N.Nodup:=by
 unfold scB at h;simp only[Gai] at h;obtain⟨⟨⟨⟨⟨⟨⟨⟨h1,h2⟩,h3⟩,h4⟩,h5⟩,h6⟩,h7⟩,h8⟩,h9⟩:=h;refine⟨⟨h1,by simpa using h2,h3,Gan.mpr λy hy=> ?_,by rw[g.N];exact Gar (by simpa using h5),Gar h6,by rw[g.N];exact h7,h8⟩,Gar h9⟩;have:=Gan.mp h4 y hy;rw[GaW] at this⊢;exact this.imp id (g.cf _)
def rD(g:aT G X)(h:scB G scope (inG G scope tn).N n eF=O)(cl:List (Str×Xo))(C:Xo)(s:Xr)(H:Hp)(ex:List Xo):aT (inG G scope tn) (blk X scope cl C (inG G scope tn).N s H ex):=by
 have nc:∀x,scope.names.lookup x≠U .cell:=λx hx=>by
  unfold scB at h;simp only[Gai] at h;have h1:=h.1.1.1.1.1.1.1.1;have:(x,NameKind.cell)∈scope.names:=by
   clear h;generalize scope.names=l at*;induction l with
   |nil=>simp at hx
   |cons p l ih=>
    rw[GaE] at hx;cases q:x==_ with
    |true=>rw[q] at hx;obtain⟨a,b⟩:=p;injection hx with hx;subst hx;rw[GaU.mp q];exact GaO
    |false=>rw[q] at hx;rw[GbA,Gai] at h1;exact Gaw _ (ih hx h1.2)
  have:=Gan.mp h1 _ this;simp at this
 have nd:=(Ez g h).2;exact{
  N:=rfl
  nd:=nd
  vis:=λx hx=>by
   have hx:rdK (scope.names.lookup x)=O:=hx
   match q:scope.names.lookup x with
   |some .local=>exact B1 q
   |some .free=>exact CY q
   |some .cell=>exact absurd q (nc x)
   |none=>rw[q] at hx;cases hx
   |some .globalExplicit=>rw[q] at hx;cases hx
   |some .globalImplicit=>rw[q] at hx;cases hx
  loc:=λx hx=>by
   have hx:scope.names.lookup x=U .local:=by simpa[inG] using hx
   exact⟨B3 hx,Lo hx⟩
  gl:=λx hx=>Lm hx
  cf:=λx hx=>by
   have hx:sX (scope.names.lookup x)=O:=hx;have q:scope.names.lookup x=U .free:=by
    match q:scope.names.lookup x with
    |some .free=>rfl
    |some .cell=>exact absurd q (nc x)
    |some .local=>rw[q] at hx;cases hx
    |none=>rw[q] at hx;cases hx
    |some .globalExplicit=>rw[q] at hx;cases hx
    |some .globalImplicit=>rw[q] at hx;cases hx
   rcases(fu q) with z|z
   .exact(congrArg sX z).trans rfl
   .exact(congrArg sX z).trans rfl
  sw:=λz=>by cases z
  calm:=g.calm
  own:=rfl
  hu:=g.hu
  fns:=g.fns
  no:=g.no
  cs:=g.cs
  ds:=g.ds
  cl:=g.cl
  na:=g.na
  rd:=g.rd
  xi:=g.xi
  fx:=g.fx}
def EA(hr:∀G X,aT G X->cz (r G) X)(g:aT G X)(h:lcR r G elt tg iter ifs scope=U f):
  PEd X (.ListComp elt [⟨tg,iter,ifs,0⟩] scope pos) f/\(∀{x i p' p},lR G x=U i->swapsWith (.ListComp elt [⟨tg,iter,ifs,0⟩] scope pos) (U (.Name x p')) p.line X.env=pure O->PSd X (.Assign [.Name x p'] (.ListComp elt [⟨tg,iter,ifs,0⟩] scope pos) p) (au i f)):=by
 obtain⟨c,h⟩:=aD h;rw[Gai] at c;refine a9 h λgd hg h=>a9 h λt ht h=>a9 h λu hu h=> ?_;obtain⟨S,nd⟩:=Ez g c.1;have B:Blk X scope (inG G scope _).N tg elt ifs gd t u:=⟨λcl C s H ex=>(rB (rD g c.1 cl C s H ex) hg).1,λcl C s H ex=>by
  unfold tsR at ht;split at ht
  .cases ht;exact AZ
  .exact B0 ((hr _ _ (rD g c.1 cl C s H ex)).T _ _ ht)
  .exact(by cases ht),λcl C s H ex=>(hr _ _ (rD g c.1 cl C s H ex)).E _ _ hu⟩
 have no:=(rB (rD g c.1 [] 0 X.s₀ X.H0 []) hg).2;obtain⟨src,UR,rfl⟩:=Gaa.mp h;have I:=wZ g (hr G X g) UR;exact⟨Ho g.calm S I no B (rC c.2),λhx hs=>by
  obtain⟨l1,l2,l3⟩:=ng g hx;exact Hq g.nd l1 l2 g.calm S I no B hs (rC c.2) l3⟩
def opO:Operator->Option (D->D->Option RV)
 | .Add=>U af
 | .Sub=>U mw
 | .Mult=>U dq
 | .FloorDiv=>U l5
 | .Mod=>U gg
 |_=>J
def slO(v:Ev):Option Xp->Option DO
 |none=>U noO
 |some e=>(v.E e).map aV
def clR(v:Ev)(G:Gm)(x:Str)(args:List Xp):Option DE:=match G.fns x with
 |some (np,sp)=>ah (gR G x) ((aR v.E args).bind λa=>ah (a.1==np&&a.1 !=0) (U (bF sp a.2)))
 |none=>ah (bR G x) ((aR v.E args).bind λa=>(M4 x a.1).map λo=>jY o a.2)
def nmE(G:Gm)(x:Str):Option DE:=match vR G x with
 |some i=>U (vE i)
 |none=>ah (gR G x) ((G.cs x).map kE)
def kR:Const->Option DE
 | .int i=>U (kE (.int i))
 | .bool b=>U (kE (.bl b))
 | .none=>U (kE .non)
 | .str x=>U (kE (.str x))
 |_=>J
def unR(r:Rc)(G:Gm)(e a:Xp):UnaryOp->Option DE
 | .USub=>((r G).E a).map (unE jl)
 | .Not=>(vV (r G) G e).map bE
 |_=>J
def eR0(r:Rc)(G:Gm)(e:Xp):Option DE:=match e with
 | .Name x _=>nmE G x
 | .Constant c _ _=>kR c
 | .BinOp a op b _=>(opO op).bind λo=>((r G).E a).bind λf=>((r G).E b).map λg=>Xn o f g
 | .UnaryOp op a _=>unR r G e a op
 | .Compare _ _ _ _=>(vV (r G) G e).map bE
 | .BoolOp _ _ _=>(vV (r G) G e).map bE
 | .IfExp c a b _=>((r G).T c).bind λt=>((r G).E a).bind λf=>((r G).E b).map λg=>ifE t f g
 | .Tuple es _ _=>(aR (r G).E es).map λa=>gk a.2
 | .Attribute a n _=>ah (G.fs.contains n&&Ew a) (((r G).E a).map λf=>dN G.C n f)
 | .List es _=>(aR (r G).E es).map λa=>jf a.2
 |_=>J
def Ma(r:Rc)(G:Gm)(b:Xp)(x:Str):Option DE:=match ah (gR G x) (G.ds x) with
 |some t=>((r G).E b).map λg=>kdE t g
 |none=>(nmE G x).bind λf=>((r G).E b).map λg=>Xm f g
def ixB(r:Rc)(G:Gm)(a b:Xp):Option DE:=match a with
 | .Name x _=>Ma r G b x
 |_=>((r G).E a).bind λf=>((r G).E b).map λg=>Xm f g
def slB(r:Rc)(G:Gm)(a:Xp)(lo hi:Option Xp):Option Xp->Option DE
 |none=>((r G).E a).bind λf=>(slO (r G) lo).bind λl=>(slO (r G) hi).map λh=>slE f l h
 |some _=>J
def PR(r:Rc)(G:Gm)(a b:Xp):Option DE:=match b with
 | .Slice lo hi st _=>slB r G a lo hi st
 |_=>ah (Il b) (ixB r G a b)
def eR1(r:Rc)(G:Gm)(e:Xp):Option DE:=match e with
 | .Subscript a b _=>PR r G a b
 |_=>J
def eR2(r:Rc)(G:Gm)(e:Xp):Option DE:=cP e λf l q=>lQ f λo m p=>ir l λa=>ah (m=="split") (ah (Ew o) (ah (ns a) (ah (p.endLine==q.line) (((r G).E o).bind λf=>((r G).E a).map λg=>Xn dO f g))))
def eR3(r:Rc)(G:Gm)(e:Xp):Option DE:=PK e λa c s=>ah (c.is_async==0) (lcR r G a c.target c.iter c.ifs s)
def eR4(r:Rc)(G:Gm)(e:Xp):Option DE:=match e with
 | .Call (.Name x _) args [] _=>match Eu (r G) G e with
  |some t=>U (bE t)
  |none=>clR (r G) G x args
 |_=>J
def eR5(r:Rc)(G:Gm)(e:Xp):Option DE:=cP e λf l q=>lQ f λo m p=>onStr o λx=>ir l λa=>ah (m=="join") (ah (ns a) (ah (p.endLine==q.line) (((r G).E a).map (unE (cG x)))))
def eR6(r:Rc)(G:Gm)(e:Xp):Option DE:=cP e λf l _=>dP f λx _=>ir l λa=>cP a λf l _=>dP f λy _=>ir l λa=>ah (x=="len") (ah (y=="set") (ah (bR G "len") (ah (bR G "set") (ah (ns a) (((r G).E a).map (unE lP))))))
def eR7(r:Rc)(G:Gm)(e:Xp):Option DE:=u5 e λa b=>onStr a λy=>M0 b λl m=>ah l.isNone (m.bind λh=>((r G).E h).map (vh y))
def eR8(r:Rc)(G:Gm)(e:Xp):Option DE:=cP e λf l _=>dP f λx _=>ir l λa=>(G.rd x).bind λq=>ah (gR G x) (ah (ns a) (ah (q.1==1) (((r G).E a).map (rdE q.2))))
def eR9(r:Rc)(G:Gm)(e:Xp):Option DE:=cP e λf l _=>dP f λx _=>n9 l λa b=>dP b λy _=>ah (x=="isinstance") (ah (bR G "isinstance") (ah (gR G y) (ah (ns a) ((G.xi y).bind λcs=>((r G).E a).map λf=>bE (kh cs f)))))
def PU(r:Rc)(G:Gm)(e:Xp):Option DE:=match e with
 | .Attribute a n _=>ah (Ew a) ((G.fx n).bind λC=>((r G).E a).map λf=>LK [C] n f)
 |_=>J
noncomputable def txB:Xp->Bool
 | .Name x _=>x=="_law_line_here"||x=="_law_old"
 | .Subscript (.Name x _) _ _=>x=="_law_lines_here"
 |_=>M
def PV(r:Rc)(G:Gm)(e:Xp):Option DE:=u5 e λa b=>M0 b λlo hi=>ah (txB a) (((r G).E a).bind λf=>(slO (r G) lo).bind λl=>(slO (r G) hi).map λh=>tsE f l h)
def PX(r:Rc)(G:Gm)(e:Xp):Option DE:=cP e λf l q=>lQ f λo m p=>En l (ah (m=="upper") (ah (Ew o) (ah (p.endLine==q.line) (((r G).E o).map (unE upD)))))
def eR(r:Rc)(G:Gm)(e:Xp):Option DE:=alt (eR9 r G e)<|alt (PU r G e)<|alt (PV r G e)<|alt (PX r G e)<|alt (eR8 r G e) (alt (eR7 r G e) (alt (eR0 r G e) (alt (eR1 r G e) (alt (eR2 r G e) (alt (eR3 r G e) (alt (eR4 r G e) (alt (eR5 r G e) (eR6 r G e))))))))
def Mb(g:aT G X)(k:cz v X)(h:clR v G x args=U f):PEd X (.Call (.Name x p) args [] pos) f:=by
 unfold clR at h;split at h
 .rename_i np sp hf;obtain⟨c,h⟩:=aD h;refine a9 h λ⟨n,a⟩ ha h=> ?_;obtain⟨c2,h⟩:=aD h;cases h;simp only[Gai,GaU,bne_iff_ne] at c2;obtain⟨rfl,n0⟩:=c2;obtain⟨e,t,rfl,h1,m,q,hq⟩:=wX ha n0;obtain⟨kk,fa,fd,ps,F,hr,hm,hk,hb⟩:=g.fns x _ _ hf;obtain⟨g1,_,g3⟩:=jc g c;exact GX F hr g1 hm hk hb wc (lU k.E ha).1 (lU k.E ha).2.1 g3 (bx h1) ((lU k.E hq).2.2.1 pos)
 .obtain⟨c,h⟩:=aD h;refine a9 h λ⟨n,a⟩ ha h=> ?_;obtain⟨o,ho,rfl⟩:=Gaa.mp h;obtain⟨e,t,rfl,h1,m,q,hq⟩:=wX ha (λz=>by subst z;simp[M4,alt,ah] at ho);exact Im g ho c (lU k.E ha).1 h1 ((lU k.E hq).2.2.1 pos)
def rF(k:cz v X)(h:slO v e=U d):PO X e (tO X d):=by
 unfold slO at h;split at h
 .cases h;exact B5
 .obtain⟨u,hu,rfl⟩:=Gaa.mp h;exact B6 (k.E _ _ hu)
def EB(g:aT G X)(h:nmE G x=U f):PEd X (.Name x p) f:=by
 unfold nmE at h;split at h
 .rename_i i hi;cases h;obtain⟨v1,v2,v3,v4⟩:=km g hi;exact Cs i v1 v2 v3 v4
 .obtain⟨c,h⟩:=aD h;obtain⟨d,hd,rfl⟩:=Gaa.mp h;obtain⟨g1,_,g3⟩:=jc g c;have:=g.cs x d hd;cases d with
  |int i=>obtain⟨t,ht⟩:=this;exact Dl g1 ht g3
  |str y=>obtain⟨t,ht⟩:=this;exact Dm g1 ht g3
  |kt ks=>obtain⟨a,ha,hk⟩:=this;exact Pw g1 ha hk g3
  |_=>exact this.elim
def Ip(h:Il b=O):Kz b:=by
 cases b<;>first|exactλ_ _=>rfl|cases h
def Mc(hr:∀G X,aT G X->cz (r G) X)(g:aT G X)(h:eR0 r G e=U f):PEd X e f:=by
 have k:=hr G X g;have vv:∀{e:Xp} {f:DE},(vV _ G e).map bE=U f->PEd X e f:=λh=>by
  obtain⟨u,hu,rfl⟩:=Gaa.mp h;exact JE g k hu
 cases e<;>try exact nn h rfl
 case Name x p=>exact EB g h
 case Constant c j p=>
  have h:kR c=U f:=h;cases c<;>try exact nn h rfl
  case int i=>cases h;exact Ct
  case bool b=>cases h;exact OU
  case none=>cases h;exact KG
  case str x=>cases h;exact KH
 case BinOp a op b p=>
  refine a9 h λo ho h=>a9 h λa ha h=> ?_;obtain⟨b,hb,rfl⟩:=Gaa.mp h;cases op<;>try exact nn ho rfl
  .cases ho;exact HD (k.E _ _ ha) (k.E _ _ hb)
  .cases ho;exact KJ (k.E _ _ ha) (k.E _ _ hb)
  .cases ho;exact KL (k.E _ _ ha) (k.E _ _ hb)
  .cases ho;exact KN (k.E _ _ ha) (k.E _ _ hb)
  .cases ho;exact GU (k.E _ _ ha) (k.E _ _ hb)
 case UnaryOp op a p=>
  cases op<;>try exact nn h rfl
  case Not=>exact vv h
  case USub=>
   obtain⟨u,hu,rfl⟩:=Gaa.mp h;exact Cy (k.E _ _ hu)
 case Compare=>exact vv h
 case BoolOp=>exact vv h
 case IfExp=>
  refine a9 h λo ho h=>a9 h λa ha h=> ?_;obtain⟨b,hb,rfl⟩:=Gaa.mp h;exact CB (k.T _ _ ho) (k.E _ _ ha) (k.E _ _ hb)
 case Tuple=>
  obtain⟨⟨n,a⟩,ha,rfl⟩:=Gaa.mp h;exact L6 (lU k.E ha).1
 case Attribute=>
  obtain⟨c,h⟩:=aD h;obtain⟨u,hu,rfl⟩:=Gaa.mp h;rw[Gai] at c;have hn:=Gci.mp c.1;exact Lv (g.cl λz=>by rw[z] at hn;cases hn) (g.na _ hn) (k.E _ _ hu) (nU c.2)
 case List=>
  obtain⟨⟨n,a⟩,ha,rfl⟩:=Gaa.mp h;exact L7 (lU k.E ha).1
def Md(hr:∀G X,aT G X->cz (r G) X)(g:aT G X)(c:Il b=O)(h:ixB r G a b=U f):PEd X (.Subscript a b p) f:=by
 have k:=hr G X g;have pl:((r G).E a).bind (λf=>((r G).E b).map λg=>Xm f g)=U f->PEd X (.Subscript a b p) f:=λh=>by
  refine a9 h λa ha h=> ?_;obtain⟨b,hb,rfl⟩:=Gaa.mp h;exact Jo g.hu1 (k.E _ _ ha) (k.E _ _ hb) (Et c)
 cases a<;>try exact pl h
 case Name x p0=>
  have h:Ma r G b x=U f:=h;unfold Ma at h;split at h
  .rename_i t ht;obtain⟨c2,ht⟩:=aD ht;obtain⟨u,hu,rfl⟩:=Gaa.mp h;obtain⟨g1,_,g3⟩:=jc g c2;obtain⟨a,ha,hk⟩:=g.ds _ _ ht;exact Px g.hu1 g1 ha hk g3 (k.E _ _ hu) (Ip c)
  .refine a9 h λa ha h' => ?_;obtain⟨b,hb,rfl⟩:=Gaa.mp h';exact Jo g.hu1 (EB g ha) (k.E _ _ hb) (Et c)
def Me(hr:∀G X,aT G X->cz (r G) X)(g:aT G X)(h:eR1 r G e=U f):PEd X e f:=by
 have k:=hr G X g;cases e<;>try exact nn h rfl
 rename_i a b p;have h2:PR r G a b=U f:=h;clear h;cases b<;>try exact Md hr g rfl (aD h2).2
 case Slice lo hi st p2=>
  have h:=h2;cases st<;>try exact nn h rfl
  refine a9 h λo ho h=>a9 h λa ha h=> ?_;obtain⟨b,hb,rfl⟩:=Gaa.mp h;exact D4 (k.E _ _ ho) (rF k ha) (rF k hb)
def Mf(hr:∀G X,aT G X->cz (r G) X)(g:aT G X)(h:eR2 r G e=U f):PEd X e f:=by
 have k:=hr G X g;exact bC h λf l q h=>fW h λo m p h=>cJ h λa h=>iq h λh=>ay h λc2 h=>ay h λc3 h=>ay h λc4 h=>a9 h λo ho h=>bq h λu hu=>E9 (k.E _ _ ho) (k.E _ _ hu) (bx c3) (nU c2) c4
def Mg(hr:∀G X,aT G X->cz (r G) X)(g:aT G X)(h:eR3 r G e=U f):PEd X e f:=by
 refine Ij h λa c s p h=>ay h λz h=> ?_;obtain⟨t,i,l,n⟩:=c;have z:n=0:=GaU.mp z;rw[z];exact(EA hr g h).1
def Mh(hr:∀G X,aT G X->cz (r G) X)(g:aT G X)(h:eR4 r G e=U f):PEd X e f:=by
 have k:=hr G X g;cases e<;>try exact nn h rfl
 rename_i fe ar kw p1;cases fe<;>try exact nn h rfl
 rename_i x p2;cases kw<;>try exact nn h rfl
 unfold eR4 at h
 try dsimp only at h
 split at h
 .rename_i q;cases h;exact wY g k q
 .exact Mb g k h
def Mi(hr:∀G X,aT G X->cz (r G) X)(g:aT G X)(h:eR5 r G e=U f):PEd X e f:=by
 exact bC h λf l q h=>fW h λo m p h=>u6 h λx d p h=>cJ h λa h=>iq h λh=>ay h λc3 h=>ay h λc4 h=>bq h λu hu=>Ee ((hr G X g).E _ _ hu) (bx c3) c4
def Mj(hr:∀G X,aT G X->cz (r G) X)(g:aT G X)(h:eR6 r G e=U f):PEd X e f:=by
 exact bC h λf l q h=>aZ h λx p h=>cJ h λa h=>bC h λf l q h=>aZ h λy p h=>cJ h λa h=>iq h λh=>iq h λh=>ay h λc3 h=>ay h λc4 h=>ay h λc5 h=>bq h λu hu=>let⟨b1,b2,_⟩:=jx g c3
 let⟨d1,d2,_⟩:=jx g c4
 HZ g.calm b1 b2 d1 d2 ((hr G X g).E _ _ hu) (bx c5) (bx rfl)
def Ml(hr:∀G X,aT G X->cz (r G) X)(g:aT G X)(h:eR7 r G e=U f):PEd X e f:=by
 refine lT h λa b p h=>u6 h λy d p h=>wW h λl m p h=>ay h λc h=>a9 h λi hi h=> ?_;rw[Option.isNone_iff_eq_none.mp c,hi];exact bq h λu hu=>LX ((hr G X g).E _ _ hu)
def Mm(hr:∀G X,aT G X->cz (r G) X)(g:aT G X)(h:eR8 r G e=U f):PEd X e f:=by
 refine bC h λf l q h=>aZ h λx p h=>cJ h λa h=>a9 h λq hs h=>ay h λc1 h=>ay h λc2 h=>ay h λc3 h=>bq h λu hu=> ?_;obtain⟨np,sp⟩:=q;have c3:np=1:=GaU.mp c3;subst c3;obtain⟨j,fa,fd,ps,F,rm,hm,hk,hb⟩:=g.rd _ _ _ hs;obtain⟨g1,_,g3⟩:=jc g c1;exact PD F rm g1 hm hk hb ((hr G X g).E _ _ hu) g3 (bx c2)
def Mn(hr:∀G X,aT G X->cz (r G) X)(g:aT G X)(h:eR9 r G e=U f):PEd X e f:=by
 refine bC h λf l q h=>aZ h λx p h=>i9 h λa b h=>aZ h λy p h=>iq h λh=>ay h λc2 h=>ay h λc3 h=>ay h λc4 h=>a9 h λcs yq h=>bq h λu hu=> ?_;obtain⟨b1,b2,_⟩:=jx g c2;obtain⟨y1,y2,y3⟩:=jc g c3;obtain⟨cv,uv,q1,q2,q3⟩:=g.xi _ _ yq;have rl:Xg cv uv:=by
  rcases q1 with⟨_,rfl,rfl⟩| ⟨_,rfl,rfl⟩<;>rfl
 exact LR q2 q1 ((hr G X g).E _ _ hu) b1 b2 (q3.elim (λz=>qG y1 z rl y3) λz=>vW y1 z.1 z.2 rl y2 y3) (bx c4) rfl rfl
def Iq(hr:∀G X,aT G X->cz (r G) X)(g:aT G X)(h:PU r G e=U f):PEd X e f:=by
 cases e<;>try exact nn h rfl
 obtain⟨c,h⟩:=aD h;refine a9 h λC hC h=> ?_;obtain⟨u,hu,rfl⟩:=Gaa.mp h;exact HQ (λC' WN =>by rw[Gbb.mp WN];exact g.fx _ _ hC) ((hr G X g).E _ _ hu) (nU c)
def Ir(hr:∀G X,aT G X->cz (r G) X)(g:aT G X)(h:PV r G e=U f):PEd X e f:=by
 have k:=hr G X g;exact lT h λa b p h=>wW h λlo hi p h=>ay h λc h=>a9 h λu hu h=>a9 h λl hl h=>bq h λq hq=>Pz (k.E _ _ hu) (rF k hl) (rF k hq)
def Iu(hr:∀G X,aT G X->cz (r G) X)(g:aT G X)(h:PX r G e=U f):PEd X e f:=by
 exact bC h λf l q h=>fW h λo m p h=>u7 h λh=>iq h λh=>ay h λc3 h=>ay h λc4 h=>bq h λu hu=>Ej ((hr G X g).E _ _ hu) (nU c3) c4
def PY(hr:∀G X,aT G X->cz (r G) X)(g:aT G X)(h:eR r G e=U f):PEd X e f:=by
 rcases c6 h with h|h
 .exact Mn hr g h
 rcases c6 h with h|h
 .exact Iq hr g h
 rcases c6 h with h|h
 .exact Ir hr g h
 rcases c6 h with h|h
 .exact Iu hr g h
 rcases c6 h with h|h
 .exact Mm hr g h
 rcases c6 h with h|h
 .exact Ml hr g h
 rcases c6 h with h|h
 .exact Mc hr g h
 rcases c6 h with h|h
 .exact Me hr g h
 rcases c6 h with h|h
 .exact Mf hr g h
 rcases c6 h with h|h
 .exact Mg hr g h
 rcases c6 h with h|h
 .exact Mh hr g h
 rcases c6 h with h|h
 .exact Mi hr g h
 exact Mj hr g h
noncomputable def nLC:Xp->Bool
 | .ListComp _ _ _ _=>M
 | .SetComp _ _ _ _=>M
 | .DictComp _ _ _ _ _=>M
 |_=>O
def oN(h:nLC e=O):swapsWith e t n env=pure M:=by
 cases e<;>first|rfl|cases h
def kdR(v:Ev)(G:Gm)(e:Xp):Option DT:=Jy e λa o b=>dP b λx _=>ah (gR G x) ((G.ds x).bind λt=>if o= .In then(v.E a).map (kdT M t) else if o= .NotIn then(v.E a).map (kdT O t) else J)
def tK(v:Ev)(G:Gm)(e:Xp):Option DT:=match kdR v G e with
 |some t=>U t
 |none=>tV v e
def r2R(v:Ev)(G:Gm)(e:Xp):Option DS:=wU e λl _ _=>n9 l λa b=>dP a λx _=>dP b λy q=>(vR G x).bind λi=>(v.E (.Name y q)).map λf=>ql i f
def swB(G:Gm)(x:Str)(p lp:Pos)(scope:Xy):Bool:=(G.kd x==U .local)&&(p.line==lp.line)&& !(scope.names.any λ(n,k)=>n==x&&(k== .local||k== .cell))
def asR(r:Rc)(G:Gm)(x:Str)(p:Pos)(e:Xp):Option DE:=match e with
 | .ListComp elt [⟨tg,iter,ifs,0⟩] scope lp=>ah G.top (match swB G x p lp scope with
  |true=>lcR r G elt tg iter ifs scope
  |false=>(r G).E e)
 |_=>ah (nLC e) ((r G).E e)
def meR(v:Ev)(G:Gm)(x m:Str)(args:List Xp):Option DS:=(vR G x).bind λi=>match args with
 |[a]=>ah (ns a) (if m="append" then(v.E a).map λf=>cL i f else J)
 |[a,b]=>ah (ns a&&ns b) (if m="insert" then(v.E a).bind λf=>(v.E b).map λg=>r9 i f g else J)
 |_=>J
def sR0(r:Rc)(G:Gm)(s:Xu):Option DS:=n6 s λt e=>dP t λx p=>(lR G x).bind λi=>(asR r G x p e).map λf=>au i f
def sR2(r:Rc)(G:Gm)(s:Xu):Option DS:=alt (JB s λe=>((r G).E e).map λf=>match r2R (r G) G e with
  |some g=>vk (Xi f) g
  |none=>Xi f) (PJ s λc xs ys=>((r G).T c).bind λt=>((r G).B xs).bind λa=>((r G).B ys).map λb=>ifS t a b)
def sR3(r:Rc)(G:Gm)(s:Xu):Option DS:=match s with
 | .For tg iter body [] _=>ah (M7 iter) ((M8 (r G) G tg iter).bind λsrc=>(tgR G tg).bind λgd=>((r G).B body).map λb=>gy (JD G iter) src gd b)
 |_=>J
def sR4(r:Rc)(G:Gm)(s:Xu):Option DS:=Ic s λe=>cP e λf l q=>lQ f λo m p=>dP o λx _=>ah (p.endLine==q.line) (meR (r G) G x m l)
def sR5(r:Rc)(G:Gm)(s:Xu):Option DS:=n6 s λt e=>u5 t λa b=>dP a λx _=>ah (nLC e) ((vR G x).bind λi=>((r G).E b).bind λf=>((r G).E e).map λg=>nF i f g)
def sR6(r:Rc)(G:Gm)(s:Xu):Option DS:=n6 s λt e=>wU t λl d p=>dP e λx q=>(tgR G (.Tuple l d p)).bind λgd=>((r G).E (.Name x q)).map λf=>GI gd f
def sR(r:Rc)(G:Gm)(s:Xu):Option DS:=alt (sR0 r G s) (alt (sR2 r G s) (alt (sR3 r G s) (alt (sR4 r G s) (alt (sR5 r G s) (sR6 r G s)))))
def sN(r:Rc)(G:Gm)(s:Xu):Option DS:=match sR r G s with
 |some f=>U f
 |none=>ah G.nv (U uT)
def blR(v:Ev):List Xu->Option DS
 |[]=>U aE
 |[s]=>v.S s
 |s::t::rest=>(v.S s).bind λa=>(v.B (t::rest)).map λb=>ao a b
def PZ(r:Rc):Rc:=λG=> ⟨eR r G,vV (r G) G,tK (r G) G,wV (r G),sN r G,blR (r G)⟩
def EC:Nat->Rc
 |0=>λ_=> ⟨λ_=>J,λ_=>J,λ_=>J,λ_=>J,λ_=>J,λ_=>J⟩
 |n+1=>PZ (EC n)
def Mo(g:aT G X)(k:cz v X)(h:kdR v G e=U t):PTd X e t:=by
 refine El h λa o b p h=>aZ h λx p h=>ay h λc h=>a9 h λtb ht h=> ?_;obtain⟨g1,_,g3⟩:=jc g c;obtain⟨a,ha,hk⟩:=g.ds _ _ ht;by_cases q:o= .In
 .rw[Gaj q] at h;rw[q];exact bq h λu hu=>Ju rfl g1 ha hk g3 (k.E _ _ hu)
 .rw[Gau q] at h;by_cases q:o= .NotIn
  .rw[Gaj q] at h;rw[q];exact bq h λu hu=>Ju (neg:=O) rfl g1 ha hk g3 (k.E _ _ hu)
  .rw[Gau q] at h;cases h
def Q0(g:aT G X)(k:cz v X)(h:tK v G e=U t):PTd X e t:=by
 unfold tK at h;split at h
 .rename_i q;cases h;exact Mo g k q
 .exact PN g k h
def Mp(k:cz v X)(g:aT G X)(h:r2R v G e=U f):PSd X (.Return (U e) pos) f:=by
 refine oM h λl d p h=>i9 h λa b h=>aZ h λx p h=>aZ h λy q h=>a9 h λi hi h=> ?_;obtain⟨v1,v2,v3,v4⟩:=km g hi;exact bq h λu hu=>I0 v1 v2 v3 v4 (k.E _ _ hu) (bx rfl) (bx rfl)
def Mq(hr:∀G X,aT G X->cz (r G) X)(g:aT G X)(hx:lR G x=U i)(h:asR r G x p e=U f):PSd X (.Assign [.Name x p] e pos) (au i f):=by
 obtain⟨l1,l2,l3⟩:=ng g hx;unfold asR at h;split at h
 .rename_i elt tg iter ifs scope lp;obtain⟨c,h'⟩:=aD h;have sw:swapsWith (.ListComp elt [⟨tg,iter,ifs,0⟩] scope lp) (U (.Name x p)) pos.line X.env=pure (swB G x p lp scope):=by
   unfold swB;rw[<-g.sw c x]
   rfl
  split at h'
  .rename_i q;exact(EA hr g h').2 hx ?H
  .rename_i q;exact uW g.nd l1 l2 ((hr G X g).E _ _ h') ?H l3
 .obtain⟨c,h'⟩:=aD h;exact uW g.nd l1 l2 ((hr G X g).E _ _ h') (oN c) l3
def Mr{apos eJ:Pos}(g:aT G X)(k:cz v X)(hl:(apos.endLine==eJ.line)=O)(h:meR v G x m args=U f):PSd X (.Expr (.Call (.Attribute (.Name x px) m apos) args [] eJ) pos) f:=by
 refine a9 h λi hi h' => ?_;clear h;obtain⟨v1,v2,v3,v4⟩:=km g hi;split at h'
 .obtain⟨c,h2⟩:=aD h';clear h';split at h2
  .rename_i q;subst q
   obtain⟨u,hu,rfl⟩:=Gaa.mp h2;exact AY v1 v2 (k.E _ _ hu) v3 v4 (bx c) rfl (by rw[bx c];rfl) hl rfl
  .cases h2
 .obtain⟨c,h2⟩:=aD h';clear h';rw[Gai] at c;split at h2
  .rename_i q;subst q
   refine a9 h2 λa ha h3=> ?_;obtain⟨u,hu,rfl⟩:=Gaa.mp h3;exact Bh v1 v2 (k.E _ _ ha) (k.E _ _ hu) v3 v4 (bx c.1) (bx c.2) rfl (by rw[bx c.1,bx c.2];rfl) hl rfl
  .cases h2
 .cases h'
def Ms(hr:∀G X,aT G X->cz (r G) X)(g:aT G X)(h:sR0 r G s=U f):PSd X s f:=by
 exact i8 h λt e p h=>aZ h λx q h=>a9 h λi hi h=>bq h λu hu=>Mq hr g hi hu
def Mt(hr:∀G X,aT G X->cz (r G) X)(g:aT G X)(h:sR2 r G s=U f):PSd X s f:=by
 have k:=hr G X g;refine fB h (λh=> ?_) λh=> ?_
 .refine Ep h λe p h=>bq h λu hu=> ?_;split
  .rename_i q;exact M3 (CJ (k.E _ _ hu)) (Mp k g q)
  .exact CJ (k.E _ _ hu)
 .exact Ih h λc xs ys p h=>a9 h λt ht h=>a9 h λa ha h=>bq h λu hu=>OZ (k.T _ _ ht) (k.B _ _ ha) (k.B _ _ hu)
def Mu(hr:∀G X,aT G X->cz (r G) X)(g:aT G X)(h:sR3 r G s=U f):PSd X s f:=by
 have k:=hr G X g;cases s<;>try exact nn h rfl
 rename_i tg it bd os p;cases os<;>try exact nn h rfl
 obtain⟨c,h⟩:=aD h;refine a9 h λt ht h=>a9 h λa ha h=> ?_;obtain⟨u,hu,rfl⟩:=Gaa.mp h;exact L8 (by rw[g.own];exact PassesOwn.never) g.calm (wZ g k ht) (rB g ha).1 (k.B _ _ hu) (rC c)
def Mv(hr:∀G X,aT G X->cz (r G) X)(g:aT G X)(h:sR4 r G s=U f):PSd X s f:=by
 exact rn h λe p h=>bC h λf l q h=>fW h λo m p h=>aZ h λx p h=>ay h λc h=>Mr g (hr G X g) c h
def Mw(hr:∀G X,aT G X->cz (r G) X)(g:aT G X)(h:sR5 r G s=U f):PSd X s f:=by
 have k:=hr G X g;refine i8 h λt e p h=>lT h λa b p h=>aZ h λx p h=>ay h λc h=>a9 h λi hi h=>a9 h λa ha h=> ?_;obtain⟨v1,v2,v3,v4⟩:=km g hi;exact bq h λu hu=>Lp g.hu1 v1 v2 (k.E _ _ ha) (k.E _ _ hu) v3 v4 (oN c)
def Mx(hr:∀G X,aT G X->cz (r G) X)(g:aT G X)(h:sR6 r G s=U f):PSd X s f:=by
 exact i8 h λt e p h=>oM h λl d p h=>aZ h λx q h=>a9 h λgd hg h=>bq h λu hu=>Lb ((hr G X g).E _ _ hu) (rB g hg).1 rfl rfl rfl
def Q1(hr:∀G X,aT G X->cz (r G) X)(g:aT G X)(h:sR r G s=U f):PSd X s f:=by
 rcases c6 h with h|h
 .exact Ms hr g h
 rcases c6 h with h|h
 .exact Mt hr g h
 rcases c6 h with h|h
 .exact Mu hr g h
 rcases c6 h with h|h
 .exact Mv hr g h
 rcases c6 h with h|h
 .exact Mw hr g h
 exact Mx hr g h
def Q2(hr:∀G X,aT G X->cz (r G) X)(g:aT G X)(h:sN r G s=U f):PSd X s f:=by
 unfold sN at h;split at h
 .rename_i q;cases h;exact Q1 hr g q
 .obtain⟨_,h⟩:=aD h;cases h;exact CI
theorem rG:∀n G X,aT G X->cz (EC n G) X
 |0,G,X,g=>by constructor<;>(intro _ _ h;cases h)
 |n+1,G,X,g=>by
  have hr:=rG n;have k:=hr G X g;refine⟨λe f h=>PY hr g h,λe t h=>JE g k h,λe t h=>Q0 g k h,λe t h=>PQ k h,λs f h=>Q2 hr g h,λb f h=> ?_⟩;have h:blR _ b=U f:=h;unfold blR at h;split at h
  .cases h;exact CG
  .exact CH (k.S _ _ h)
  .refine a9 h λa ha h=> ?_;obtain⟨u,hu,rfl⟩:=Gaa.mp h;exact GZ (k.S _ _ ha) (k.B _ _ hu)
def BF{A:Xx}{z:Xr}{env:PySem.Env}(yc:A.frames=U (env::outer))(hl:z.heap.FunFrames base (env::outer))(hf:env.frame=U L)
  (f:FX z.heap e cls dx #[a0,.none,x2,x3,x4,x5])
  (hQ:∀h' T ts,FX h' e cls dx #[a0,.ref T,x2,x3,x4,x5]->T≠e->z.heap.objs.size<=T->FX h' T (.type "traceback") J ts->ts[3]? =U .none->
   (∀b o,b≠e->z.heap.get? b=U o->∃sl,h'.get? b=U {o with slots:=sl})->(∀b o,b≠e->b∉(env::outer).filterMap (·.frame)->z.heap.get? b=U o->h'.get? b=U o)->Q () {z with heap:=h' }):
  wpAny (model prog w) A (noteFrame (.ref e) env) (λ_ s' =>wpAny (model prog w) A (do
   if(<-field (.ref e) 1)== .none then unsupported "frame.own-activation:exception-without-traceback"
   setFlight (.ref e) env.frame) (λ_ yC =>wpAny (model prog w) A (leaving env (.ref e)) Q E yC) E1 s') E2 z:=by
 have ne:e∉(env::outer).filterMap _:=λm=>by
  obtain⟨_,o,ho,no⟩:=hl.mem m;obtain⟨sl,q⟩:=f;rw[q] at ho;cases ho;exact no _ rfl
 simp only[noteFrame,hf];refine Gab (gY (i:=1) (x:= .none) f rfl (Gbv rfl (Gab (wpAny_frameOf_fun yc hl hf λh1 s1=>Gab (wpAny_entryPlaceOf λpl xb=>Gab (Gby ?_ (xb.sizeOk5 _ _ _ _ _)))))));have e1:FX h1 e cls dx #[a0,.none,x2,x3,x4,x5]:=let⟨sl,q⟩:=f
 ⟨sl,(s1.2.1 e ne).trans q⟩
 have nT:_≠e:=Gbd e1.lt;refine kK (z:={z with heap:=h1.push _}) (e1.at λo=>Gaf _) (λh2 f2 b2=> ?_) (by simp);obtain⟨T,hT⟩:∃T,T=h1.objs.size:=⟨_,rfl⟩
 obtain⟨t0,Vy⟩:∃t0:Array Xq,t0=([Value.none,Value.ref L,Value.none,rawInt ↑L,Value.none]++if pl.isEmpty=O then List.replicate 6 Value.none else pl).toArray:=⟨_,rfl⟩
 have sz3:3<t0.size:=(Gbr.mp (by subst Vy;rfl)).1;have fe2:FX h2 e cls dx #[a0,.ref T,x2,x3,x4,x5]:=by subst hT;exact f2
 have nTe:T≠e:=by subst hT;exact nT
 have k1:∀b o,b≠e->z.heap.get? b=U o->∃sl,h2.get? b=U {o with slots:=sl}:=λb o nb q=>by
  obtain⟨sl,q⟩:=s1.2.2 b o q;exact⟨sl,(b2.2 b nb).trans (Gaf _ q)⟩
 have k2:∀b o,b≠e->b∉(env::outer).filterMap _->z.heap.get? b=U o->h2.get? b=U o:=λb o nb m q=>(b2.2 b nb).trans (Gaf _ ((s1.2.1 b m).trans q));have le2:z.heap.objs.size<=T:=by subst hT;exact(Gdk s1.1.symm)
 have nb:∀{b o},z.heap.get? b=U o->b≠T:=λq=>Gas (Gah (Gak q) le2);refine Gab (gY (z:={z with heap:=h2}) (i:=1) (x:= .ref T) fe2 rfl (Gbv rfl (Gab (gY (z:={z with heap:=h2}) (i:=1) (x:= .ref T) fe2 rfl (Gbk rfl (kK (z:={z with heap:=h2}) (by subst hT Vy;exact⟨_,(b2.2 _ nT).trans (Gat _ rfl)⟩) (λh3 VL b3=> ?_) sz3))))));have fe3:FX h3 e cls dx #[a0,.ref T,x2,x3,x4,x5]:=fe2.at λo=>(b3.2 e (GaG nTe)).trans;have q33:(t0.setIfInBounds 3 (rawInt L))[3]? =U (rawInt L):=by rw[GbP];simp[sz3]
 refine Gab ?_;simp only[noteFrame,hf];refine Gab (gY (z:={z with heap:=h3}) (i:=1) (x:= .ref T) fe3 rfl (Gbk (by simp) (Gab (gY (z:={z with heap:=h3}) (i:=3) VL q33 (Gbk (by simp) (Gal (Gab (gY (z:={z with heap:=h3}) (i:=1) (x:= .ref T) fe3 rfl (Gbk (by simp) (kK (z:={z with heap:=h3}) VL (λh4 WQ b4=>(hQ h4 T _ (fe3.at λo=>(b4.2 e (GaG nTe)).trans) nTe le2 WQ (by rw[GbP];simp[sz3]) (λb o n q=> ?_) λb o n m q=> ?_)) (by simpa using sz3)))))))))))
 .obtain⟨sl,q'⟩:=k1 b o n q;exact⟨sl,(b4.2 b (nb q)).trans ((b3.2 b (nb q)).trans q')⟩
 .exact(b4.2 b (nb q)).trans ((b3.2 b (nb q)).trans (k2 b o n m q))
abbrev lpx(X:Cx):VSP:=notedBy (model X.prog X.w) X.A X.env (cameBackBy (model X.prog X.w) X.A X.env X.xe)
def Iv{K:ag}{f:Xo}:XL ((gf (CXE P w K) P w K mg base N qual scope f cd A outer s H E).dQ (lpx (gf (CXE P w K) P w K mg base N qual scope f cd A outer s H E))) E:=by
 intro ef Z H1 s1 a B C fI dx n v I cl ha ea ed hE;obtain⟨⟨t0,fx⟩,_,_⟩:=(show bS P w H1 _ a _ from I.hok a _ ea)
 have lo:Loose (H1 a):=by rw[ea];trivial
 have big:∀b,b<_->b∉frs outer->b∉(gf (CXE P w K) P w K mg base N qual scope f cd A outer s H E).stack.filterMap _:=λb lt m z=>by
  rcases Gae.mp (I.nX b z) with e|z
  .exact absurd (Gah lt I.ok.above) ?H
  .exact m z
 refine BF I.ok.frames I.stack rfl fx λh' T ts fe n1 le ft q3 k1 k2=> ⟨a,B,C,fI,dx,T,n,v,upd H1 a _,rfl,cl,⟨I.os,I.bare,((show Un _ [] H H1 s.heap _ from I.base).past (λb ob lt q=>k1 b ob (Gas (Gah lt ha)) q) λb ob lt m q=>k2 b ob (Gas (Gah lt ha)) (big b lt m) q).lN lo,I.hok.lN lo (λb u nb z q=>k2 b u nb (λm=>z (I.kW b m)) q) (Jt ⟨t0,fe⟩),ha,GaH I.sz le,n1,aB,by rw[aq (BX ed ea (λz=>by cases z))];exact ed,⟨ts,ft,q3⟩, ?_⟩,hE T⟩;rw[aq n1];exact I.hok.fresh le
def Iw{X:Cx}(hc:X.calm=O)(hi:PI X tg iter wi)(hg:PG (X.dQ (lpx X)) tg g)(hb:PSs (X.dQ (lpx X)) body tb)
  (hs:∀x,foldedSetIterable iter X.env x=pure x):PS X (.For tg iter body [] pos) (O3 wi g tb):=by
 intro ef s Z H D I h;refine wpAny_For (thn (hi ef s Z H _ I h) λv s1 h1=>thn h1 λzx s2 h2=> ?_) hs;obtain⟨it,fp,tn,Xd,H2,rfl,I2,T,st2,f2,W,⟨m0,w0⟩,turn⟩:=h2;have stat:∀{H' :Hp},(∀b∈fp,H' b=J)->∀b∈fp,je X ef H' b:=λhn b hb=> ⟨hn b hb,(f2 b hb).2⟩;refine codeAny_forLoop_any (λn s' =>∃i Z' H',Inv X ef Z' H' s' /\tn i s'.heap/\(∀b∈fp,H' b=J)/\W i n Z' H') ?_ m0 ⟨0,Z,H2,I2,st2,λb hb=>(f2 b hb).1,w0⟩;rintro n s3 ⟨i,Z3,H3,I3,zo,zI,w3⟩;rcases turn i n Z3 H3 w3 with⟨stop,qn⟩| ⟨go,N,hN,step⟩
 .refine thn (T.done X rfl rfl rfl hc i ef s3 Z3 H3 _ I3 (stat zI) zo stop) λr s4 ⟨hr,I4⟩=> ?_;subst hr;exact GbY ⟨Z3,H3,I4,qn⟩
 .refine thn (T.item X rfl rfl rfl hc i ef s3 Z3 H3 (lpx X) I3 (stat zI) zo go) λr s4 ⟨u,hr,h4⟩=> ?_;subst hr;refine thn h4 λ_ s5 q0=> ?_;obtain⟨x,H5,I5,r5,y5,ye,zH⟩:=q0;refine thn (hg _ s5 Z3 H5 x u _ ((I5.pinned (stat zH) (T.obj _ _ ye)).dQ _) r5 (step x H5 y5)) λ_ s6 ⟨Z6,H6,I6,q6⟩=>thn (hb _ s6 Z6 H6 _ I6 q6) λf s7 q7=> ?_;have again:∀{Z7:St} {H7:Hp},Inv (X.dQ (lpx X)) _ Z7 H7 s7->N Z7 H7->∃m,m<n/\∃i Z' H',Inv X ef Z' H' s7/\tn i _/\(∀b∈fp,H' b=J)/\W i m Z' H' :=λ{Z7 H7} I7 n7=>by
   have I7:=I7.dM;obtain⟨m',hm,w7⟩:=hN Z7 H7 n7;refine⟨m',hm,i+1,Z7,H7,I7.gM,T.keep _ _ _ ye λb hb o e=>(I7.pin _ (GaJ _ (GaJ _ (fJ hb e)))).1,λb hb=> ?_,w7⟩;obtain⟨o,e,d⟩:=T.obj _ _ ye b hb;exact(I7.pin _ (GaJ _ (GaJ _ (fJ hb e)))).2.1
  cases f with
  |next=>obtain⟨Z7,H7,I7,n7⟩:=q7;exact again I7 n7
  |cont=>obtain⟨Z7,H7,I7,n7⟩:=q7;exact again I7 n7
  |brk=>obtain⟨Z7,H7,I7,q7⟩:=q7;exact⟨Z7,H7,I7.dM.gM,q7⟩
  |ret v=>obtain⟨x7,Z7,H7,I7,r7,q7⟩:=q7;exact⟨x7,Z7,H7,I7.dM.gM,r7,q7⟩
def ED{X:Cx}(hc:X.calm=O)(hg:Gl X "enumerate")(hm:X.mg "enumerate"=J)(hN:X.N.Nodup)(hi:X.N[i]? =U y)(hj:X.N[j]? =U z)(hl:X.N[l]? =U x)
  (hx:Loc X.env.scope y)(hf:X.fn y=O\/X.env.scope.names.lookup y=U .local)(UL:Loc X.env.scope z)(WA:X.fn z=O\/X.env.scope.names.lookup z=U .local)(hv:Vis X.env.scope x)(hd:(x==("__debug__":Str))=M)(xf:(x==("__classdict__":Str))=M)
  (hb:∀xR,(∀p v,xR p v->Pn p v\/p=l)->PSs (X.dQ (lpx X)) body (tW X H0 xR E g)):PS X (.For (.Tuple [.Name y q1,.Name z q2] cx q3) (.Call (.Name "enumerate" p1) [.Name x p2] [] p3) body [] pos) (tW X H0 Pn E (DP i j l g)):=by
 rintro ef s Z H D I ⟨env,o,EW,e,ok⟩;refine a9 e λxs zT VB=> ?_;obtain⟨eg,EO,pn,kn⟩:=id EW;obtain⟨la,ea,w0,_,W7⟩:=EO.bo l _ (mH zT)
 let xR :Nat->V->Prop:=λp v=>Pn p v\/(p=l/\v= .ref la)
 have toP:∀{e Z H},bG _ H0 xR e Z H->bG X.K H0 Pn e Z H:=λE=>E.pin λp v z=> .inl (.inl z);refine Iw hc (wF hg hm (cM (fi hl hv hd xf) gO rfl) rfl) (C4 hc (o7 (qK hN hi hx hf) (o7 (qK hN hj UL WA) vX rfl) rfl) rfl rfl) (hb xR λp v z=>z.imp id λq=>q.1) (λ_=>rfl) ef s Z H D I ?_;have lstAt:∀{e Z H xs},bG _ H0 xR e Z H->tY l e=U xs->∃vs eg,Rd H la _/\aP X.K _ H xs vs:=λ{e Z H xs} E h=>by
  obtain⟨B,E,p,k⟩:=E;obtain⟨WX,yX,_,_,UK⟩:=E.bo l _ (mH h);have:=p l _ (.inr ⟨rfl,rfl⟩) (by rw[mH h];trivial);rw[yX] at this;cases this;cases UK with
  |lst h r=>exact⟨_,B,h,r⟩
 have VP :bG _ H0 xR env Z H:=EW.pin λp v z=>z.imp id λ⟨e1,e2⟩=>by subst e1 e2;exact ea
 obtain⟨VR,_,h0,_⟩:=lstAt VP zT;refine⟨_,ea,la,rfl,.inl ⟨⟨VR,.inl h0⟩,λn m Z' H' =>∃eD,bG _ H0 xR eD Z' H' /\ik i j l g m n eD =U o,⟨_+1,env,VP,VB⟩, ?_⟩⟩;rintro n m Z' H' ⟨eD,E',xM⟩;cases m with
 |zero=>cases xM
 |succ m=>
  refine a9 xM λys Wa xM => ?_;obtain⟨vs,B2,hr,rs⟩:=lstAt E' Wa;split at xM
  .rename_i q;cases xM;exact .inl ⟨⟨vs,.inl hr,by rw[<-rs.1];exact List.getElem?_eq_none_iff.mp q⟩,ok Z' H' (toP E')⟩
  .rename_i d q;split at xM
   .rename_i im;obtain⟨v,yF,rv⟩:=rs.get q;refine a9 xM λo2 yy xM => .inr ⟨⟨vs,v,.inl hr,yF⟩,λZ2 H2=>∃eD,bG _ H0 xR eD Z2 H2/\ik i j l g m _ eD =U o,λZ2 H2 z=> ⟨m,GbR _,z⟩, ?_⟩;rintro x' H2 ⟨p,w,Wj,rfl,rfl,hw⟩;have:=hw vs (.inl hr);rw[yF] at this;cases this;refine⟨p,[.int n,v],rfl,.inl (.inl aB),rfl,.int n,[v],rfl,v,[],rfl,rfl, ?_⟩;have sm:bp H' (upd H' p (.tup [.int n,v])):=bh Wj;refine⟨_,o2,(((E'.mono sm).jq (.int _) i).jq (d:=d) (v:=v) ((rv.same sm).imm im) j),yy, ?_⟩;cases o2 with
    |nx e3=>exactλZ3 H3 E3=> ⟨e3,E3,xM⟩
    |ct e3=>exactλZ3 H3 E3=> ⟨e3,E3,xM⟩
    |bk e3=>cases xM;exactλZ3 H3 E3=>ok Z3 H3 (toP E3)
    |ret d e3=>cases xM;exactλv Z3 H3 E3 r=>ok v Z3 H3 (toP E3) r
    |ex C n d=>cases xM;exact ok
   .cases xM
open PySem.W (exmOne)
structure Wm where
 fw:Str->Option (Nat×List Nat×(SpX))
 rd:Str->Option (Nat×(List D->Option RX))
 mo:Str->Option (Nat×(SpX))
 rz:Str->Option (Nat×Str)
 nm:List Str
 mv:List Nat
 lv:Nat
noncomputable def Wm.inner(Xf:Wm):Wm:={Xf with lv:=Xf.lv -1}
structure pH(Xf:Wm)(X:Cx)(E:XK):Prop where
 fw:∀x np Xd sp,Xf.fw x=U (np,Xd,sp)->∃k fa fd ps,cp X.prog X.w X.K X.mg X.base CX0 k fa fd ps (spW X.K np Xd sp)/\cD k X.A/\X.mg x=U (.ref fa)/\PySem.W.keepIn X.K (.ref fa)=O/\Binds X.K fd ps []
 rd:∀x np sp,Xf.rd x=U (np,sp)->∃k fa fd ps,cp X.prog X.w X.K X.mg X.base (CXE X.prog X.w X.K) k fa fd ps (spR X.K np sp)/\cD k X.A/\X.mg x=U (.ref fa)/\PySem.W.keepIn X.K (.ref fa)=O/\Binds X.K fd ps []
 mo:∀x C sp,Xf.mo x=U (C,sp)->∃k fa fd ps,Mk X.K C fa/\cp X.prog X.w X.K X.mg X.base CX0 k fa fd ps (spW X.K 1 [0] sp)/\cD (k+1) X.A/\X.mg x=U (.ref C)/\Binds X.K fd ps []
 rz:∀x C n,Xf.rz x=U (C,n)->(∃B fI k fd ps,XCl X.K B C fI n/\cp X.prog X.w X.K X.mg X.base CX0 k fI fd ps (lM X.K B C n)/\cD (k+1) X.A/\Binds X.K fd ps [])/\X.mg x=U (.ref C)/\exmOne X.K (.ref C) (.ref C)=U O
 lv:Xf.lv<=2
 xl:1<=Xf.lv->XL X E
 xl2:2<=Xf.lv->XL (X.dQ (lpx X)) E
 st:X.stack=X.env::X.outer/\X.env.frame=U X.env.locals
def nL(Xf:Wm)(Pn:Nat->V->Prop):Prop:=∀i∈Xf.mv,∀v,¬Pn i v
structure WEv where
 S:Xu->Option DW
 B:List Xu->Option DW
structure WOk(r:WEv)(Xf:Wm)(X:Cx)(H0:Hp)(E:XK):Prop where
 S:∀s f,r.S s=U f->∀Pn,nL Xf Pn->PS X s (tW X H0 Pn E f)
 B:∀s f,r.B s=U f->∀Pn,nL Xf Pn->PSs X s (tW X H0 Pn E f)
def orW(f g:DW):DW:=λenv=>match f env with
 |some r=>U r
 |none=>g env
def EG(h1:PS X s (tW X H0 Pn E f))(h2:PS X s (tW X H0 Pn E g)):PS X s (tW X H0 Pn E (orW f g)):=λef z Z H D I ⟨env,o,EW,e,ok⟩=>by
 unfold orW at e;split at e
 .rename_i q;exact h1 ef z Z H D I ⟨env,o,EW,by rw[q,e],ok⟩
 .exact h2 ef z Z H D I ⟨env,o,EW,e,ok⟩
def awR(v:Ev)(G:Gm)(nm:List Str)(Xd:List Nat):Nat->List Xp->Option (List AW)
 |_,[]=>U []
 |i,e::es=>ah (ns e) ((awR v G nm Xd (i+1) es).bind λr=>match e with
  | .Name x _=>if Xd.contains i then(vR G x).map λj=> .lent j::r else if nm.contains x then(vR G x).map λj=> .name j::r else(v.E e).map λf=> .val f::r
  |_=>(v.E e).map λf=> .val f::r)
def cwR(v:Ev)(G:Gm)(Xf:Wm)(e:Xp):Option DXW:=cP e λc l _=>dP c λx _=>rq l λa l=>(Xf.fw x).bind λf=>ah (gR G x) ((awR v G Xf.nm f.2.1 0 (a::l)).bind λr=>ah (dK 0 r==f.2.1) (ah (r.length==f.1) (U (dR f.2.2 r))))
def ctR(v:Ev)(G:Gm)(Xf:Wm)(e:Xp):Option DTW:=alt (JC e λa=>ah (plT a) ((cwR v G Xf a).map λm=>Bs (vc m))) (ah (plT e) ((cwR v G Xf e).map vc))
section
theorem EH{X:Cx}(g:aT G X.nox)(k:cz v X.nox):∀{es i r},awR v G nm Xd i es=U r->PA X es (tAw X r)/\es.all ns=O/\∀pos,(backTo pos (starEach es X.env)).any (·.1)=M
 |[],i,r,h=>by cases h;exact⟨LM,rfl,λ_=>rfl⟩
 |e::es,i,r,h=>by
  obtain⟨c,h⟩:=aD h;refine a9 h λq hq h=> ?_;obtain⟨a1,a2,a3⟩:=EH g k hq;refine⟨?_,by rw[GbA,c,a2];rfl,λpos=>by rw[bx c];exact a3 pos⟩;have val:∀{f:DE},v.E e=U f->PA X _ _:=λhf=>LN (k.E _ _ hf) a1 (bx c);split at h
  .split at h
   .obtain⟨j,hj,rfl⟩:=Gaa.mp h;obtain⟨v1,v2,v3,v4⟩:=km g hj;exact DH (.inl rfl) v1 v2 v3 v4 a1 (bx c)
   .split at h
    .obtain⟨j,hj,rfl⟩:=Gaa.mp h;obtain⟨v1,v2,v3,v4⟩:=km g hj;exact DH (.inr rfl) v1 v2 v3 v4 a1 (bx c)
    .obtain⟨f,hf,rfl⟩:=Gaa.mp h;exact val hf
  .obtain⟨f,hf,rfl⟩:=Gaa.mp h;exact val hf
variable{X:Cx}
def vp(g:aT G X.nox)(k:cz v X.nox)(w:pH Xf X E)(h:cwR v G Xf e=U m):PE X e (tXw X H0 Pn m):=by
 refine bC h λc l pos h=>aZ h λx p h=>mJ h λa as h=>a9 h λ⟨np,Xd,sp⟩ hf h=>ay h λc h=>a9 h λr hr h=>ay h λc1 h=>ay h λc2 h=> ?_;cases h;have c1:=GaU.mp c1;have c2:=GaU.mp c2;subst c1 c2;obtain⟨kk,fa,fd,ps,F,rm,hm,hk,hb⟩:=w.fw _ _ _ _ hf;obtain⟨g1,_,g3⟩:=jc g c;obtain⟨a1,a2,a3⟩:=EH g k hr;rw[GbA,Gai] at a2;exact HI F rm g1 hm hk hb a1 rfl g3 (bx a2.1) (by have:=a3 pos;rw[bx a2.1] at this;exact this)
def My(g:aT G X.nox)(k:cz v X.nox)(w:pH Xf X E)(h:ctR v G Xf e=U t):PT X e (tTw X H0 Pn t):=by
 refine fB h (λh=> ?_) λh=> ?_
 .exact Er h λa p h=>ay h λc h=>bq h λm hm=>HK (wL (vp g k w hm) (vo c))
 .exact ay h λc h=>bq h λm hm=>wL (vp g k w hm) (vo c)
end
def hnR(G:Gm)(k:Nat)(en:Str)(l:List Xu):Option DS:=ir l λs=>n6 s λa b=>dP a λx _=>dP b λy _=>ah (y==en) ((lR G x).map λj=>au j (vE k))
def pw0(v:Ev)(G:Gm)(Xf:Wm)(r r2:WEv)(s:Xu):Option DW:=match s with
 | .Return (U e) _=>match cwR v G Xf e with
  |some m=>U (jw m)
  |none=>(v.E e).map λf=>Lq f
 | .If c xs ys _=>(r.B xs).bind λa=>(r.B ys).bind λb=>match ctR v G Xf c with
  |some t=>U (ifC t a b)
  |none=>(v.T c).map λt=>ifW t a b
 |_=>J
def pw1(v:Ev)(G:Gm)(Xf:Wm)(r r2:WEv)(s:Xu):Option DW:=n6 s λt e=>dP t λx _=>cP e λf l _=>dP f λc _=>En l ((lR G x).bind λi=>(Xf.mo c).bind λq=>ah (gR G c) (ah (Xf.mv.contains i) (U (mkO i q.1 q.2))))
def pw2(v:Ev)(G:Gm)(Xf:Wm)(r r2:WEv)(s:Xu):Option DW:=n6 s λt e=>lQ t λa n _=>dP a λx _=>ah (G.fs.contains n) (ah (nLC e) ((vR G x).bind λi=>match e with
  | .List [] _=>U (vd i G.C n)
  |_=>(v.E e).map λf=>orW (HG i G.C n f) (HL i G.C n f)))
def pw3(v:Ev)(G:Gm)(Xf:Wm)(r r2:WEv)(s:Xu):Option DW:=n6 s λt e=>u5 t λa b=>lQ a λa n _=>dP a λx _=>Jz b λj=>ah (G.fs.contains n) (ah (nLC e) (ah (j==1) ((vR G x).bind λi=>(v.E e).map λf=>mX i G.C n f)))
def pw4(v:Ev)(G:Gm)(Xf:Wm)(r r2:WEv)(s:Xu):Option DW:=Ic s λe=>cP e λf l q=>lQ f λo m p=>lQ o λa n _=>dP a λx _=>ir l λe=>ah (m=="append") (ah (G.fs.contains n) (ah (ns e) (ah (p.endLine==q.line) ((vR G x).bind λi=>(v.E e).map λf=>Bb i G.C n f))))
def pw7(v:Ev)(G:Gm)(Xf:Wm)(r r2:WEv)(s:Xu):Option DW:=Jx s λt e b=>wU t λl _ _=>n9 l λa c=>dP a λy _=>dP c λz _=>cP e λa l _=>dP a λf _=>ir l λa=>dP a λx _=>ah (f=="enumerate") (ah (bR G "enumerate") ((lR G y).bind λi=>(lR G z).bind λj=>(vR G x).bind λl=>ah (!Xf.mv.contains l) ((r2.B b).map λb=>DP i j l b)))
def pw8(v:Ev)(G:Gm)(Xf:Wm)(r r2:WEv)(s:Xu):Option DW:=PF s λe=>cP e λf l _=>dP f λc _=>ir l λe=>(Xf.rz c).bind λq=>ah (gR G c) (ah (ns e) (ah (decide (1<=Xf.lv)) ((v.E e).map λf=>rzW q.1 q.2 f)))
def pw9(v:Ev)(G:Gm)(Xf:Wm)(r r2:WEv)(s:Xu):Option DW:=JA s λb h=>ir b λs=>Ic s λe=>cP e λf l _=>dP f λfn _=>rq l λa as=>PH h λe en hb=>dP e λcn _=>rq hb λhb zh=>(Xf.rd fn).bind λq=>(Xf.rz cn).bind λz=>ah (gR G fn) (ah (gR G cn) ((ixN G.N en).bind λk=>ah (G.kd en==U .local) (ah (!odd en) ((aR v.E (a::as)).bind λd=>ah (d.1==q.1) ((hnR G k en (hb::zh)).map λh=>HS q.2 d.2 [z.1] k h)))))
def Q3(v:Ev)(G:Gm)(Xf:Wm)(r r2:WEv)(s:Xu):Option DW:=alt (pw0 v G Xf r r2 s) (alt (pw1 v G Xf r r2 s) (alt (pw2 v G Xf r r2 s) (alt (pw3 v G Xf r r2 s) (alt (pw4 v G Xf r r2 s) (alt (pw7 v G Xf r r2 s) (alt (pw8 v G Xf r r2 s) (pw9 v G Xf r r2 s)))))))
def sW(v:Ev)(G:Gm)(Xf:Wm)(r r2:WEv)(s:Xu):Option DW:=match v.S s,Q3 v G Xf r r2 s with
 |some f,U h=>U (orW (bf f) h)
 |some f,J=>U (bf f)
 |none,h=>h
def bW(r:WEv):List Xu->Option DW
 |[]=>U (bf aE)
 |[s]=>r.S s
 |s::t::rest=>(r.S s).bind λa=>(r.B (t::rest)).map λb=>aQ a b
def ua(n0:Nat)(G:Gm):Nat->Wm->WEv
 |0,_=> ⟨λ_=>J,λ_=>J⟩
 |n+1,Xf=> ⟨λs=>sW (EC n0 G) G Xf (ua n0 G n Xf) (ua n0 G n Xf.inner) s,λb=>bW (ua n0 G n Xf) b⟩
def kM1{X:Cx}{i:Nat}(h:(i1==1)=O):PEd X.nox (.UnaryOp .USub (.Constant (.int i1) j p) q) (kE (.int (-1))):=by
 rw[GaU] at h;subst h;exact Cy Ct
def EI{G:Gm}{X:Cx}(g:aT G X.nox)(h:G.fs.contains n=O):L2.Cls X.K G.C/\cC X.K G.C n:=by
 have hn:=Gci.mp h;exact⟨g.cl (λz=>by rw[z] at hn;cases hn),g.na _ hn⟩
def Mz{X:Cx}(g:aT G X.nox)(hk:X.N[k]? =U en)(xZ:X.env.scope.names.lookup en=U .local)(zW:odd en=M)(e:hnR G k en hb=U h)(a:Xo):nG (hdl X (.ref a)) hb h:=by
 unfold odd at zW;simp only[GcW] at zW;refine cJ e λs e=>i8 e λa b p e=>aZ e λx p e=>aZ e λy p e=>iq e λe=>bq e λj hj=> ?_;obtain⟨l1,l2,l3⟩:=ng g hj;exact CH (uW g.nd l1 l2 (Cs k hk (.inl xZ) zW.1 zW.2) rfl l3)
section
variable(g:aT G X.nox)(k:cz v X.nox)(wk:pH Xf X E)(hr:WOk r Xf X H0 E)(xA:WOk r2 Xf.inner (X.dQ (lpx X)) H0 E)(xy:∀x,G.kd x=U .local->X.env.scope.names.lookup x=U .local)(hc:X.calm=O)
include g k wk hr xA xy hc
theorem MA(h:pw0 v G Xf r r2 s=U f)(hP:nL Xf Pn):PS X s (tW X H0 Pn E f):=by
 unfold pw0 at h;split at h
 .split at h
  .rename_i m hm;cases h;exact HJ (vp g k wk hm)
  .obtain⟨u,hu,rfl⟩:=Gaa.mp h;exact Lu (k.E _ _ hu)
 .refine a9 h λa ha h=> ?_;refine a9 h λb hb h=> ?_;split at h
  .rename_i t ht;cases h;exact LO (My g k wk ht) (hr.B _ _ ha Pn hP) (hr.B _ _ hb Pn hP)
  .obtain⟨t,ht,rfl⟩:=Gaa.mp h;exact Pb (k.T _ _ ht) (hr.B _ _ ha Pn hP) (hr.B _ _ hb Pn hP)
 .cases h
theorem MB(h:pw1 v G Xf r r2 s=U f)(hP:nL Xf Pn):PS X s (tW X H0 Pn E f):=by
 refine i8 h λt e p h=> ?_;refine aZ h λx p h=> ?_;refine bC h λf l p h=> ?_;refine aZ h λc p h=> ?_;refine u7 h λh=>a9 h λi hi h=>a9 h λ⟨C,sp⟩ hq h=>ay h λc1 h=>ay h λc2 h=> ?_;cases h;obtain⟨l1,l2,l3⟩:=ng g hi;obtain⟨g1,_,g3⟩:=jc g c1;obtain⟨kk,fa,fd,ps,mk,F,rm,hm,hb⟩:=wk.mo _ _ _ hq;exact Pt mk F rm g1 hm hb g.nd l1 l2 l3 (hP i (Gci.mp c2)) g3 rfl
theorem MC(h:pw2 v G Xf r r2 s=U f)(hP:nL Xf Pn):PS X s (tW X H0 Pn E f):=by
 refine i8 h λt e p h=> ?_;refine fW h λa n p h=> ?_;refine aZ h λx p h=>ay h λc h=>ay h λc2 h=>a9 h λi hi h=> ?_;obtain⟨v1,v2,v3,v4⟩:=km g hi;obtain⟨f1,f2⟩:=EI g c;split at h
 .cases h;exact HP f1 f2 v1 v2 v3 v4 rfl
 .exact bq h λu hu=>EG (HH f1 f2 v1 v2 v3 v4 (k.E _ _ hu) (oN c2)) (HM f1 f2 v1 v2 v3 v4 (k.E _ _ hu) (oN c2))
theorem MD(h:pw3 v G Xf r r2 s=U f)(hP:nL Xf Pn):PS X s (tW X H0 Pn E f):=by
 refine i8 h λt e p h=> ?_;refine lT h λa b p h=> ?_;refine fW h λa n p h=> ?_;refine aZ h λx p h=> ?_;refine Em h λj d p q h=>ay h λc h=>ay h λc2 h=>ay h λc3 h=>a9 h λi hi h=> ?_;obtain⟨v1,v2,v3,v4⟩:=km g hi;obtain⟨f1,f2⟩:=EI g c;exact bq h λu hu=>Dz f1 f2 g.hu1 v1 v2 v3 v4 (k.E _ _ hu) (kM1 (i:=0) c3) (oN c2)
theorem ME(h:pw4 v G Xf r r2 s=U f)(hP:nL Xf Pn):PS X s (tW X H0 Pn E f):=by
 refine rn h λe p h=> ?_;refine bC h λf l q h=> ?_;refine fW h λo m p h=> ?_;refine fW h λa n p' h=> ?_;refine aZ h λx p' h=> ?_;refine cJ h λe h=> ?_;refine iq h λh=>ay h λc2 h=>ay h λc3 h=>ay h λc4 h=>a9 h λi hi h=> ?_;obtain⟨v1,v2,v3,v4⟩:=km g hi;obtain⟨f1,f2⟩:=EI g c2;exact bq h λu hu=>HF f1 f2 v1 v2 v3 v4 (k.E _ _ hu) (bx c3) c4
theorem MF(h:pw7 v G Xf r r2 s=U f)(hP:nL Xf Pn):PS X s (tW X H0 Pn E f):=by
 refine Ek h λt e b p h=> ?_;refine oM h λl d p h=> ?_;refine i9 h λa b h=> ?_;refine aZ h λy p h=> ?_;refine aZ h λz p h=> ?_;refine bC h λa l p h=> ?_;refine aZ h λf p h=> ?_;refine cJ h λa h=> ?_;refine aZ h λx p h=> ?_;refine iq h λh=>ay h λcb h=>a9 h λi hi h=>a9 h λj hj h=>a9 h λl hl h=>ay h λc2 h=> ?_;refine bq h λb hb=> ?_;obtain⟨l1,l2,l3⟩:=ng g hi;obtain⟨m1,m2,m3⟩:=ng g hj;obtain⟨v1,v2,v3,v4⟩:=km g hl;obtain⟨b1,b2,_⟩:=jx g cb;refine ED hc b1 b2 g.nd l1 m1 v1 l2 l3 m2 m3 v2 v3 v4 λxR V8 =>xA.B _ _ hb xR λq hq u hu=> ?_;rcases V8 q u hu with z|z
 .exact hP q hq u z
 .subst z;rw[Gci.mpr (show q∈Xf.mv from hq)] at c2;cases c2
theorem MG(h:pw8 v G Xf r r2 s=U f)(hP:nL Xf Pn):PS X s (tW X H0 Pn E f):=by
 refine Ie h λe p h=> ?_;refine bC h λf l p h=> ?_;refine aZ h λc p h=> ?_;refine cJ h λe h=>a9 h λ⟨C,n⟩ hq h=>ay h λc1 h=>ay h λc2 h=>ay h λc3 h=> ?_;obtain⟨g1,_,g3⟩:=jc g c1;obtain⟨⟨B,fI,kk,fd,ps,cl,F,rm,hb⟩,hm,_⟩:=wk.rz _ _ _ hq;exact bq h λu hu=>DK cl F rm hb (wk.xl (Gar c3)) g1 hm (k.E _ _ hu) g3 (bx c2)
theorem MH(h:pw9 v G Xf r r2 s=U f)(hP:nL Xf Pn):PS X s (tW X H0 Pn E f):=by
 refine Eo h λb hd p h=> ?_;refine cJ h λs h=> ?_;refine rn h λe p h=> ?_;refine bC h λf l p3 h=> ?_;refine aZ h λfn p h=> ?_;refine mJ h λa as h=> ?_;refine Ig h λe en hb p h=> ?_;refine aZ h λcn p h=> ?_;refine mJ h λhb zh h=>a9 h λ⟨np,sp⟩ hq h=>a9 h λ⟨C,n⟩ hz h=>ay h λc1 h=>ay h λc2 h=>a9 h λkk Wt h=>ay h λc3 h=>ay h λc4 h=>a9 h λ⟨m,da⟩ hd h=>ay h λc5 h=> ?_;refine bq h λhn Wv=> ?_;have hkl:G.kd en=U .local:=by simpa using c3
 have hN:X.N[kk]? =U en:=by have:=vi Wt;rw[<-g.N] at this;exact this
 have xZ:X.env.scope.names.lookup en=U .local:=xy en hkl;obtain⟨j,fa,fd,ps,F,rm,hm,hk,hb⟩:=wk.rd _ _ _ hq;obtain⟨_,UZ,hex⟩:=wk.rz _ _ _ hz;obtain⟨g1,_,g3⟩:=jc g c1;obtain⟨q1,_,q3⟩:=jc g c2;obtain⟨a1,a2,a3,a4⟩:=lU k.E hd;rw[GbA,Gai] at a4;have e3:m=np:=GaU.mp c5;refine LS F rm g1 hm hk hb a1 (λenv rs h=>by rw[<-e3];exact a2 env rs h) (λC' hC=>by rw[Gbb.mp hC];exact hex) q1 UZ wk.st.1 wk.st.2 g.nd hN xZ (Mz g hN xZ (by simpa using c4) Wv) rfl g3 q3 (bx a4.1) ?_;have:=a3 p3;rw[bx a4.1] at this;exact this
end
def A0{G:Gm}{Xf:Wm}{X:Cx}(g:aT G X.nox)(k:cz v X.nox)(w:pH Xf X E)(hr:WOk r Xf X H0 E)(xA:WOk r2 Xf.inner (X.dQ (lpx X)) H0 E)(xy:∀x,G.kd x=U .local->X.env.scope.names.lookup x=U .local)(hc:X.calm=O)(h:Q3 v G Xf r r2 s=U f)(hP:nL Xf Pn):PS X s (tW X H0 Pn E f):=by
 rcases c6 h with h|h
 .exact MA g k w hr xA xy hc h hP
 rcases c6 h with h|h
 .exact MB g k w hr xA xy hc h hP
 rcases c6 h with h|h
 .exact MC g k w hr xA xy hc h hP
 rcases c6 h with h|h
 .exact MD g k w hr xA xy hc h hP
 rcases c6 h with h|h
 .exact ME g k w hr xA xy hc h hP
 rcases c6 h with h|h
 .exact MF g k w hr xA xy hc h hP
 rcases c6 h with h|h
 .exact MG g k w hr xA xy hc h hP
 exact MH g k w hr xA xy hc h hP
def Q4{G:Gm}{Xf:Wm}{X:Cx}(g:aT G X.nox)(k:cz v X.nox)(w:pH Xf X E)(hr:WOk r Xf X H0 E)(xA:WOk r2 Xf.inner (X.dQ (lpx X)) H0 E)(xy:∀x,G.kd x=U .local->X.env.scope.names.lookup x=U .local)(hc:X.calm=O)(h:sW v G Xf r r2 s=U f)(hP:nL Xf Pn):PS X s (tW X H0 Pn E f):=by
 unfold sW at h;split at h
 .rename_i q1 q2;cases h;exact EG (wB (k.S _ _ q1)) (A0 g k w hr xA xy hc q2 hP)
 .rename_i q1 q2;cases h;exact wB (k.S _ _ q1)
 .exact A0 g k w hr xA xy hc h hP
theorem pH.inner{Xf:Wm}{X:Cx}(w:pH Xf X E):pH Xf.inner (X.dQ (lpx X)) E where
 fw:=w.fw
 rd:=w.rd
 mo:=w.mo
 rz:=w.rz
 lv:=GaH (Nat.sub_le _ _) w.lv
 xl:=λh=>w.xl2 (by have:1<=_ -1:=h;lia)
 xl2:=λh=>absurd w.lv (by have:2<=_ -1:=h;lia)
 st:=w.st
theorem nV{G:Gm}(n0:Nat):∀n Xf X,aT G X.nox->pH Xf X E->(∀x,G.kd x=U .local->X.env.scope.names.lookup x=U .local)->X.calm=O->WOk (ua n0 G n Xf) Xf X H0 E
 |0,Xf,X,g,w,xy,hc=>by constructor<;>(intro _ _ h;cases h)
 |n+1,Xf,X,g,w,xy,hc=>by
  have hr:WOk _ Xf X H0 E:=nV n0 n Xf X g w xy hc;refine⟨λs f h Pn hP=>Q4 g (rG n0 G _ g) w hr (nV n0 n _ _ g w.inner xy hc) xy hc h hP,λb f h Pn hP=> ?_⟩;have h:bW _ b=U f:=h;unfold bW at h;split at h
  .cases h;exact Dd CG
  .exact Hs (hr.S _ _ h Pn hP)
  .refine a9 h λa ha h=> ?_;obtain⟨u,hu,rfl⟩:=Gaa.mp h;exact De (hr.S _ _ ha Pn hP) (hr.B _ _ hu Pn hP)
structure Tbl where
 fn:Str->Option (Nat×(SpF))
 fw:Str->Option (Nat×List Nat×(SpX))
 rd:Str->Option (Nat×(List D->Option RX))
 mo:Str->Option (Nat×(SpX))
 rz:Str->Option (Nat×Str)
 bl:List Str
 cs:Str->Option D
 ds:Str->Option (List (Key×List Key))
 C:Nat
 fs:List Str
 nv:Bool
 xi:Str->Option (List (Nat×Bool))
 fx:Str->Option Nat
section
variable{P:Xz}{w:Xv}{K:ag}{mg:Str->Option Xq}{base:Xs}
def Hv(P:Xz)(w:Xv)(K:ag)(mg:Str->Option Xq)(base:Xs)(CX:CXT)(k:Nat)(x:Str)(sp:Sp):Prop:=∃j fa fd ps,cp P w K mg base CX j fa fd ps sp/\j<=k/\mg x=U (.ref fa)/\PySem.W.keepIn K (.ref fa)=O/\Binds K fd ps []
structure cX(P:Xz)(w:Xv)(K:ag)(mg:Str->Option Xq)(base:Xs)(k:Nat)(T:Tbl):Prop where
 fn:∀x np sp,T.fn x=U (np,sp)->Hv P w K mg base CX0 k x (spD K np sp)
 fw:∀x np Xd sp,T.fw x=U (np,Xd,sp)->Hv P w K mg base CX0 k x (spW K np Xd sp)
 rd:∀x np sp,T.rd x=U (np,sp)->Hv P w K mg base (CXE P w K) k x (spR K np sp)
 mo:∀x C sp,T.mo x=U (C,sp)->∃j fa fd ps,Mk K C fa/\cp P w K mg base CX0 j fa fd ps (spW K 1 [0] sp)/\j+1<=k/\mg x=U (.ref C)/\Binds K fd ps []
 rz:∀x C n,T.rz x=U (C,n)->(∃B fI j fd ps,XCl K B C fI n/\cp P w K mg base CX0 j fI fd ps (lM K B C n)/\j+1<=k/\Binds K fd ps [])/\mg x=U (.ref C)/\exmOne K (.ref C) (.ref C)=U O
 bl:∀x∈T.bl,mg x=J
 cs:∀x d,T.cs x=U d->match d with
  | .int i=>∃t,mg x=U (.int i t)
  | .str y=>∃t,mg x=U (.str y t)
  | .kt ks=>∃a,mg x=U (.ref a)/\Kt K a ks
  |_=>False
 ds:∀x t,T.ds x=U t->∃a,mg x=U (.ref a)/\KDk P w K a t
 cl:T.fs≠[]->L2.Cls K T.C
 na:∀n∈T.fs,cC K T.C n
 xi:∀x cs,T.xi x=U cs->∃c u,DY c u/\(∀q∈cs,XIs K q.1/\kitOne K (.ref q.1) u=U q.2)/\(mg x=U u\/mg x=J/\bootBuiltins x=U u)
 fx:∀n C,T.fx n=U C->∃B fI,XCl K B C fI n
def Tbl.gm(T:Tbl)(N:List Str)(sd:Xu):Gm:=⟨N,λx=>(av sd).names.lookup x,T.fn,T.bl,O,T.cs,T.ds,T.C,T.fs,T.nv,T.rd,T.xi,T.fx⟩
variable{s:Xr}{A:Xx}
theorem EJ{T:Tbl}(hT:cX P w K mg base k T)(S:dh N ps (av sd))(hr:cD k (A.deeper (envOfC qual (av sd) s.heap.objs.size fa eQ))):aT (T.gm N sd) (gf CX P w K mg base N qual (av sd) fa eQ A outer s H E).nox where
 N:=rfl
 nd:=S.nd
 vis:=λx hx=>by
  have hx:rdK ((av sd).names.lookup x)=O:=hx
  match q:(av sd).names.lookup x with
  |some .local=>exact .inl q
  |some .free=>exact .inr (.inr q)
  |some .cell=>exact .inr (.inl q)
  |none=>rw[q] at hx;cases hx
  |some .globalExplicit=>rw[q] at hx;cases hx
  |some .globalImplicit=>rw[q] at hx;cases hx
 loc:=λx hx=>by
  refine⟨?_,.inl rfl⟩;simp only[Tbl.gm,Bool.true_and,GaW,GaU] at hx;exact hx
 gl:=λx hx=>hx
 cf:=λx hx=>hx
 sw:=λ_ x=>by
  have:(PySem.Env.blockKind (envOfC qual (av sd) s.heap.objs.size fa eQ)==ScopeKind.function)=O:=by
   show((if(av sd).kind.isAnnotationScope then _ else(av sd).kind)==_)=O;rw[S.kind]
   rfl
  exact(congrArg (· &&_) this).trans (Bool.true_and _)
 calm:=rfl
 own:=rfl
 hu:=Hh hr
 fns:=λx np sp h=>let⟨j,fa,fd,ps,a1,a2,a3⟩:=hT.fn x np sp h;⟨j,fa,fd,ps,a1,hr.mono a2,a3⟩
 no:=hT.bl
 cs:=λx d h=>hT.cs x d h
 ds:=hT.ds
 cl:=hT.cl
 na:=hT.na
 rd:=λx np sp h=>let⟨j,fa,fd,ps,a1,a2,a3⟩:=hT.rd x np sp h;⟨j,fa,fd,ps,a1,hr.mono a2,a3⟩
 xi:=hT.xi
 fx:=hT.fx
theorem JG{T:Tbl}(hT:cX P w K mg base k T)(hr:cD k (A.deeper (envOfC qual (av sd) s.heap.objs.size fa eQ)))(h2:lv<=2)(hx:1<=lv->XL ((gf CX P w K mg base N qual (av sd) fa eQ A outer s H E).dQ xe) E')(UL:2<=lv->XL (((gf CX P w K mg base N qual (av sd) fa eQ A outer s H E).dQ xe).dQ (lpx ((gf CX P w K mg base N qual (av sd) fa eQ A outer s H E).dQ xe))) E'):
  pH ⟨T.fw,T.rd,T.mo,T.rz,nm,mv,lv⟩ ((gf CX P w K mg base N qual (av sd) fa eQ A outer s H E).dQ xe) E' where
 fw:=λx np Xd sp h=>let⟨j,fa,fd,ps,a1,a2,a3⟩:=hT.fw x np Xd sp h;⟨j,fa,fd,ps,a1,hr.mono a2,a3⟩
 rd:=λx np sp h=>let⟨j,fa,fd,ps,a1,a2,a3⟩:=hT.rd x np sp h;⟨j,fa,fd,ps,a1,hr.mono a2,a3⟩
 mo:=λx C sp h=>let⟨j,fa,fd,ps,a0,a1,a2,a3⟩:=hT.mo x C sp h;⟨j,fa,fd,ps,a0,a1,hr.mono a2,a3⟩
 rz:=λx C n h=>let⟨⟨B,fI,j,fd,ps,a0,a1,a2,a3⟩,b⟩:=hT.rz x C n h;⟨⟨B,fI,j,fd,ps,a0,a1,hr.mono a2,a3⟩,b⟩
 lv:=h2
 xl:=hx
 xl2:=UL
 st:=⟨rfl,rfl⟩
def rH{N ps:List Str}{T:Tbl}(hT:cX P w K mg base k T)(F:Fun K x qual sd fa fd)(S:dh N ps (av sd))(yj:ps.length=np)(hc:(EC 60 (T.gm N sd)).B (bY sd)=U b):cp P w K mg base CX0 (k+1) fa fd ps (spD K np (cN N.length np b)):=
 P0 F S yj λeQ A outer s H E hr=>(rG 60 _ _ (EJ hT S hr)).B _ _ hc
def A1{N ps:List Str}{T:Tbl}(hT:cX P w K mg base k T)(F:Fun K x qual sd fa fd)(S:dh N ps (av sd))(yj:ps.length=np)(hJ:∀j∈Xd,j<np)(hc:(ua 60 (T.gm N sd) 60 ⟨T.fw,T.rd,T.mo,T.rz,nm,[],0⟩).B (bY sd)=U b):cp P w K mg base CX0 (k+1) fa fd ps (spW K np Xd (gZ N.length np Xd b)):=
 LL F S yj hJ λeQ A outer s H E hr H0 Pn E' =>PSs.nox ((nV 60 60 _ (gf CX0 P w K mg base N qual (av sd) fa eQ A outer s H E).nox (EJ (CX:=CX0) (E:=E) hT S hr) (JG hT hr (by decide) (λz=>absurd z (by decide)) λz=>absurd z (by decide)) (λ_ z=>z) rfl).B _ _ hc Pn λi hi=>by cases hi)
def Iy{N ps:List Str}{T:Tbl}(hT:cX P w K mg base k T)(F:Fun K x qual sd fa fd)(S:dh N ps (av sd))(yj:ps.length=np)(hc:(ua 60 (T.gm N sd) 60 ⟨T.fw,T.rd,T.mo,T.rz,nm,mv,2⟩).B (bY sd)=U b):cp P w K mg base (CXE P w K) (k+1) fa fd ps (spR K np (u0 N.length np b)):=
 LQ F S yj λeQ A outer s H E hr hL=>(nV 60 60 _ (gf (CXE P w K) P w K mg base N qual (av sd) fa eQ A outer s H E) (EJ hT S hr) (JG (CX:=CXE P w K) (E:=E) hT hr (by decide) (λ_=>hL) λ_=>Iv) (λ_ z=>z) rfl).B _ _ hc _ λi hi v z=>z
def cX.nev(h:cX P w K mg base k T):cX P w K mg base k {T with nv:=b}:={fn:=h.fn,fw:=h.fw,rd:=h.rd,mo:=h.mo,rz:=h.rz,bl:=h.bl,cs:=h.cs,ds:=h.ds,cl:=h.cl,na:=h.na,xi:=h.xi,fx:=h.fx}
end
section
variable{x:Str}
def Hv.mono{K:ag}{k:Nat}(h:Hv P w K mg base CX k x sp)(le:k<=k'):Hv P w K mg base CX k' x sp:=let⟨j,fa,fd,ps,a,b,c⟩:=h;⟨j,fa,fd,ps,a,GaH b le,c⟩
theorem cX.mono{K:ag}{k:Nat}(h:cX P w K mg base k T)(le:k<=k'):cX P w K mg base k' T where
 fn:=λx np sp e=>(h.fn x np sp e).mono le
 fw:=λx np Xd sp e=>(h.fw x np Xd sp e).mono le
 rd:=λx np sp e=>(h.rd x np sp e).mono le
 mo:=λx C sp e=>let⟨j,fa,fd,ps,a,b,c,d⟩:=h.mo x C sp e;⟨j,fa,fd,ps,a,b,GaH c le,d⟩
 rz:=λx C n e=>let⟨⟨B,fI,j,fd,ps,a,b,c,d⟩,q⟩:=h.rz x C n e;⟨⟨B,fI,j,fd,ps,a,b,GaH c le,d⟩,q⟩
 bl:=h.bl
 cs:=h.cs
 ds:=h.ds
 cl:=h.cl
 na:=h.na
 xi:=h.xi
 fx:=h.fx
def upS{α:Type}(x:Str)(a:α)(f:Str->Option α):Str->Option α:=λy=>if y==x then U a else f y
def br{f:Str->Option α}{q:Str->α->Prop}(h1:q x a)(h2:∀y b,f y=U b->q y b):∀y b,upS x a f y=U b->q y b:=λy b h=>by
 unfold upS at h;split at h
 .lia
 .exact h2 y b h
def cX.MI{K:ag}{mg:Str->Option Xq}{k:Nat}{T:Tbl}{fd:XA}(h:cX P w K mg base k T)(F:cp P w K mg base CX0 (k+1) fa fd ps (spD K np sp))(hm:mg x=U (.ref fa))(hk:PySem.W.keepIn K (.ref fa)=O)(hb:Binds K fd ps []):cX P w K mg base (k+1) {T with fn:=upS x (np,sp) T.fn}:=
 {h.mono (Gbi k) with fn:=λy np sp e=>br ⟨_,_,_,_,F,Gap _,hm,hk,hb⟩ (λy b e=>((h.fn y b.1 b.2 e).mono (Gbi k))) y (np,sp) e}
def cX.addW{K:ag}{mg:Str->Option Xq}{k:Nat}{T:Tbl}{fd:XA}(h:cX P w K mg base k T)(F:cp P w K mg base CX0 (k+1) fa fd ps (spW K np Xd sp))(hm:mg x=U (.ref fa))(hk:PySem.W.keepIn K (.ref fa)=O)(hb:Binds K fd ps []):cX P w K mg base (k+1) {T with fw:=upS x (np,Xd,sp) T.fw}:=
 {h.mono (Gbi k) with fw:=λy np Xd sp e=>br ⟨_,_,_,_,F,Gap _,hm,hk,hb⟩ (λy b e=>((h.fw y b.1 b.2.1 b.2.2 e).mono (Gbi k))) y (np,Xd,sp) e}
def cX.RY{K:ag}{mg:Str->Option Xq}{k:Nat}{T:Tbl}{fd:XA}(h:cX P w K mg base k T)(F:cp P w K mg base (CXE P w K) (k+1) fa fd ps (spR K np sp))(hm:mg x=U (.ref fa))(hk:PySem.W.keepIn K (.ref fa)=O)(hb:Binds K fd ps []):cX P w K mg base (k+1) {T with rd:=upS x (np,sp) T.rd}:=
 {h.mono (Gbi k) with rd:=λy np sp e=>br ⟨_,_,_,_,F,Gap _,hm,hk,hb⟩ (λy b e=>((h.rd y b.1 b.2 e).mono (Gbi k))) y (np,sp) e}
def cX.RZ{K:ag}{mg:Str->Option Xq}{k:Nat}{T:Tbl}{fd:XA}{C:Nat}(h:cX P w K mg base k T)(mk:Mk K C fa)(F:cp P w K mg base CX0 (k+1) fa fd ps (spW K 1 [0] sp))(hm:mg x=U (.ref C))(hb:Binds K fd ps []):cX P w K mg base (k+2) {T with mo:=upS x (C,sp) T.mo}:=
 {h.mono (GcJ k 2) with mo:=λy C sp e=>br ⟨_,_,_,_,mk,F,Gap _,hm,hb⟩ (λy b e=>(h.mono (GcJ k 2)).mo y b.1 b.2 e) y (C,sp) e}
def BG{α:Type}{x:Option α}{d:α}(h:x.isSome=O):x=U (x.getD d):=by cases x<;>first|rfl|cases h
def EK{K:ag}{o:Xw}{es:Array DictEntry}{vs:List (Key×Xq)}(h0:(a==sysModules)=M)(hl:K.lookup a=U o)(he:o.ExactDict)(hd:o.data= .dict es ep)(hk:KeysOf (gw P w) es)(hp:Pairs (gw P w) es.toList vs)(nd:(vs.map (·.1)).Nodup)(pr:Paired (λ(p:Key×List Key) (q:Key×Xq)=>p.1=q.1/\∃b,q.2= .ref b/\Kt K b p.2) tbl vs):KDk P w K a tbl:=
 ⟨h0,o,vs,hl,⟨es,ep,he,hd,hk,hp,nd⟩,pr⟩
end
section
variable{P:Xz}
def CsM(K:ag)(mg:Str->Option Xq)(x:Str):D->Prop
 | .int i=>∃t,mg x=U (.int i t)
 | .str y=>∃t,mg x=U (.str y t)
 | .kt ks=>∃a,mg x=U (.ref a)/\Kt K a ks
 |_=>False
def Iz(P:XC)(q:Str×Nat×Xq):DictEntry:=⟨PyData.keyHash P q.1,.str q.1 q.2.1,q.2.2⟩
def ub{w:Xv}(l:List (Str×Nat×Xq)):KeysOf (gw P w) (l.map (Iz w.params)).toArray:=λe he=>by
 obtain⟨q,_,rfl⟩:=Gay.mp (by simpa using he:e∈l.map _);exact⟨.inr _,ji P w _ _,rfl⟩
theorem rJ{w:Xv}:∀(l:List (Str×Nat×Xq)),Pairs (gw P w) (l.map (Iz w.params)) (l.map λq=>(.inr q.1,q.2.2))
 |[]=> .nil
 |q::l=> .cons (ji P w _ _) rfl (rJ l)
end
def kvs:Nat->List Key->List Xq
 |_,[]=>[]
 |t,.inl i::r=> .int i t::kvs (t+1) r
 |t,.inr x::r=> .str x t::kvs (t+1) r
abbrev kI (i:Int):DE:=kE (.int i)
abbrev kS (x:Str):DE:=kE (.str x)
@[simp] def aL:List DE->DA
 |[]=>aM
 |f::fs=>ak f (aL fs)
abbrev bN (i:Nat):DE:=jY cW (ak (vE i) aM)
@[simp] def lsE(l:List DE):DE:=jf (aL l)
@[simp] def tpE(l:List DE):DE:=gk (aL l)
@[simp] def caE(s:SpF)(l:List DE):DE:=bF s (aL l)
@[simp] def blE(o:SpV)(l:List DE):DE:=jY o (aL l)
@[simp] def ssI(f:DE):DI:=orI (Cq f) (Lx f)
@[simp] def lV(p:DE):DW:=orW (bf (Xi p)) (Lq p)
@[simp] def S0(t:DT)(f g:DS)(v w:DW):DW:=orW (bf (ifS t f g)) (ifW t v w)
@[simp] def oIf(t:DT)(f:DS)(v:DW):DW:=S0 t f aE v (bf aE)
@[simp] def rIf(t:DT)(p:DE):DW:=oIf t (Xi p) (lV p)
end DL
namespace Den
open DL.D renaming bl→A,non→B
open DL PySem
noncomputable abbrev fC:List (DL.Key×List DL.Key):=[(.inr "",[.inr "guest",.inr "stuff",.inr "bar",.inr "order"]),(.inr "guest",[.inr "guest",.inr "stuff",.inr "bar",.inr "order"]),(.inr "stuff",[.inr "cap",.inr "young",.inr "stuff",.inr "bar",.inr "order"]),(.inr "cap",[.inr "cap",.inr "young",.inr "stuff",.inr "bar",.inr "order"]),(.inr "young",[.inr "stuff",.inr "bar",.inr "order"]),(.inr "bar",[.inr "bar",.inr "order"]),(.inr "order",[.inr "dose"]),(.inr "dose",[.inr "asked",.inr "due"]),(.inr "asked",[.inr "order"]),(.inr "due",[.inr "taper",.inr "order"]),(.inr "taper",[.inr "taper",.inr "order"])]
noncomputable abbrev bH:List (DL.Key×List DL.Key):=[(.inr "flat",[.inl 1,.inl 1]),(.inr "kilo",[.inl 1,.inl 1,.inl 1]),(.inr "ever",[.inl 1])]
def iU:DS:=Xi (blE sI [bu (U 0) 1 [1] (ssI (vE 0)) (gN 0) bc (bE (aw (orB iG kJ) (vE 0) (vE 1)))])
def gA:SpF:=cN 2 2 iU
def jP:DS:=Xi (bE (gh (my leB leB (kI 1) (bN 0) (kI 8)) (dF (caE gA [vE 0,kS "abcdefghijklmnopqrstuvwxyz"]))))
def bT:SpF:=cN 1 1 jP
def jy:DS:=ao (ifS (orT (ku (my leB leB (kI 1) (bN 0) (kI 10))) (ku (dF (caE gA [vE 0,kS "0123456789"])))) (Xi (kE B)) aE) (ao (ifS (gh (aw gtB (bN 0) (kI 1)) (aw eqB (Xm (vE 0) (kI 0)) (kS "0"))) (Xi (kE B)) aE) (ao (au 1 (blE (orS pD lH) [vE 0])) (ao (ifS (aw gtB (vE 1) (kI 1000000000)) (Xi (kE B)) aE) (Xi (vE 1)))))
def bL:SpF:=cN 2 1 jy
def A2:DW:=aQ (orW (HG 0 214 "head" (kS "")) (HL 0 214 "head" (kS ""))) (aQ (vd 0 214 "guests") (aQ (vd 0 214 "stuffs") (aQ (vd 0 214 "bars") (vd 0 214 "orders"))))
def A3:SpX:=gZ 1 1 [0] A2
def kL:DS:=ao (gy (U 0) (Dg (vE 0)) (gT [2,3]) (ifS (aw eqB (Xm (vE 3) (kI 0)) (vE 1)) (Xi (vE 2)) aE)) (Xi (kE B))
def cF:SpF:=cN 4 2 kL
def dw:DS:=Xi (bE (gh (aw gtB (bN 1) (kI 0)) (gh (dF (caE bT [Xm (vE 1) (kI 0)])) (aw gx (caE cF [vE 0,Xm (vE 1) (kI 0)]) (kE B)))))
def b9:SpF:=cN 2 2 dw
def gB:DS:=ao (ifS (aw neB (bN 0) (bN 1)) (Xi (kE B)) aE) (ao (au 2 (jf aM)) (ao (gy J (Ec (vE 0) (vE 1)) (gT [3,4]) (ao (au 5 (caE bL [vE 3])) (ao (ifS (orT (aw gx (vE 5) (kE B)) (aw ltB (vE 5) (vE 4))) (Xi (kE B)) aE) (cL 2 (vE 5))))) (Xi (vE 2))))
def ax:SpF:=cN 6 2 gB
def dA:DS:=Xi (Xn af (Xn af (slE (vE 0) noO (aV (vE 1))) (tpE [vE 2])) (slE (vE 0) (aV (Xn af (vE 1) (kI 1))) noO))
def aW:SpF:=cN 3 3 dA
def gC:DW:=aQ (bf (au 2 (caE ax [slE (vE 1) (aV (kI 1)) noO,tpE [kI 0]]))) (aQ (rIf (orT (aw eqB (blE cW [dN 214 "guests" (vE 0)]) (kI 6)) (orT (ku (dF (caE b9 [dN 214 "guests" (vE 0),vE 1]))) (aw gx (vE 2) (kE B)))) (kE (A M))) (aQ (Bb 0 214 "guests" (tpE [Xm (vE 1) (kI 0),Xm (vE 2) (kI 0)])) (lV (kE (A O)))))
def cQ:SpX:=gZ 3 2 [0] gC
def ni:DS:=ao (ifS (ku (my leB leB (kI 1) (bN 0) (kI 8))) (Xi (kE (A M))) aE) (ao (au 1 (Xm (vE 0) (kI 0))) (ao (au 2 (blE sI [bu J 2 [] (Ec (vE 0) (slE (vE 0) (aV (kI 1)) noO)) (gT [0,1]) bc (bE (aw ltB (vE 0) (vE 1)))])) (Xi (bE (gh (dF (vE 2)) (gh (dF (blE sI [bu (U 0) 1 [1] (ssI (vE 0)) (gN 0) bc (bE (aw eqB (Xn gg (vE 0) (vE 1)) (kI 0)))])) (aw leB (Xm (vE 0) (unE jl (kI 1))) (Xn dq (kI 2000) (vE 1)))))))))
def fX:SpF:=cN 3 1 ni
def gD:DW:=aQ (bf (au 2 (caE ax [slE (vE 1) (aV (kI 1)) noO,bu J 1 [] (ssI (slE (vE 1) (aV (kI 1)) noO)) (gN 0) bc (kI 1)]))) (aQ (rIf (orT (aw eqB (blE cW [dN 214 "stuffs" (vE 0)]) (kI 6)) (ku (dF (caE b9 [dN 214 "stuffs" (vE 0),vE 1])))) (kE (A M))) (aQ (rIf (orT (aw gx (vE 2) (kE B)) (ku (dF (caE fX [vE 2])))) (kE (A M))) (aQ (Bb 0 214 "stuffs" (tpE [Xm (vE 1) (kI 0),blE bz [vE 2],gk aM,kI 0])) (lV (kE (A O))))))
def cR:SpX:=gZ 3 2 [0] gD
def iV:DW:=aQ (bf (au 2 (Xm (Xm (dN 214 "stuffs" (vE 0)) (unE jl (kI 1))) (kI 2)))) (aQ (rIf (orT (aw eqB (bN 2) (kI 4)) (orT (aw eqB (bN 1) (kI 0)) (kdT O bH (Xm (vE 1) (kI 0))))) (kE (A M))) (aQ (bf (au 3 (caE ax [slE (vE 1) (aV (kI 1)) noO,kdE bH (Xm (vE 1) (kI 0))]))) (aQ (rIf (aw gx (vE 3) (kE B)) (kE (A M))) (aQ (bf (au 4 (blE bz [Xn af (lsE [Xm (vE 1) (kI 0)]) (vE 3)]))) (aQ (mX 0 214 "stuffs" (caE aW [Xm (dN 214 "stuffs" (vE 0)) (unE jl (kI 1)),kI 2,Xn af (vE 2) (tpE [vE 4])])) (lV (kE (A O))))))))
def dZ:SpX:=gZ 5 2 [0] iV
def gE:DW:=aQ (bf (au 2 (caE ax [vE 1,tpE [kI 1]]))) (aQ (rIf (aw gx (vE 2) (kE B)) (kE (A M))) (aQ (mX 0 214 "stuffs" (caE aW [Xm (dN 214 "stuffs" (vE 0)) (unE jl (kI 1)),kI 3,Xm (vE 2) (kI 0)])) (lV (kE (A O)))))
def cS:SpX:=gZ 3 2 [0] gE
def iY:DW:=aQ (bf (au 2 (caE ax [slE (vE 1) (aV (kI 2)) noO,tpE [kI 1]]))) (aQ (rIf (orT (aw eqB (blE cW [dN 214 "bars" (vE 0)]) (kI 12)) (aw gx (vE 2) (kE B))) (kE (A M))) (aQ (bf (au 3 (caE cF [dN 214 "stuffs" (vE 0),Xm (vE 1) (kI 0)]))) (aQ (bf (au 4 (caE cF [dN 214 "stuffs" (vE 0),Xm (vE 1) (kI 1)]))) (aQ (rIf (orT (aw gx (vE 3) (kE B)) (orT (aw gx (vE 4) (kE B)) (aw gtB (vE 3) (vE 4)))) (kE (A M))) (aQ (rIf (aw (orB iG kJ) (tpE [vE 3,vE 4]) (bu J 1 [] (ssI (dN 214 "bars" (vE 0))) (gN 0) bc (tpE [Xm (vE 0) (kI 0),Xm (vE 0) (kI 1)]))) (kE (A M))) (aQ (Bb 0 214 "bars" (tpE [vE 3,vE 4,Xm (vE 2) (kI 0)])) (lV (kE (A O)))))))))
def f6:SpX:=gZ 5 2 [0] iY
def gG:DW:=aQ (rIf (orT (aw eqB (blE cW [dN 214 "orders" (vE 0)]) (kI 12)) (orT (ku (dF (caE b9 [dN 214 "orders" (vE 0),vE 1]))) (aw neB (bN 1) (kI 3)))) (kE (A M))) (aQ (bf (au 2 (caE cF [dN 214 "guests" (vE 0),Xm (vE 1) (kI 1)]))) (aQ (bf (au 3 (caE cF [dN 214 "stuffs" (vE 0),Xm (vE 1) (kI 2)]))) (aQ (rIf (orT (aw gx (vE 2) (kE B)) (aw gx (vE 3) (kE B))) (kE (A M))) (aQ (Bb 0 214 "orders" (tpE [Xm (vE 1) (kI 0),vE 2,vE 3,gk aM,gk aM,gk aM])) (lV (kE (A O)))))))
def cT:SpX:=gZ 4 2 [0] gG
def iu:DW:=aQ (bf (au 2 (Xm (dN 214 "orders" (vE 0)) (unE jl (kI 1))))) (aQ (bf (au 3 (Xm (Xm (Xm (dN 214 "stuffs" (vE 0)) (Xm (vE 2) (kI 2))) (kI 1)) (kI 0)))) (aQ (bf (au 4 (caE ax [slE (vE 1) (aV (kI 1)) noO,tpE [kI 1,kI 0,vE 3]]))) (aQ (rIf (orT (aw gx (vE 4) (kE B)) (orT (aw (orB ip ju) (Xm (vE 1) (kI 0)) (kE (.kt [Sum.inr "down",Sum.inr "up",Sum.inr "near"]))) (aw gtB (Xm (vE 4) (kI 2)) (Xn dq (kI 2000) (vE 3))))) (kE (A M))) (aQ (mX 0 214 "orders" (caE aW [vE 2,kI 3,blE bz [Xn af (lsE [Xm (vE 1) (kI 0)]) (vE 4)]])) (lV (kE (A O)))))))
def dB:SpX:=gZ 5 2 [0] iu
def gH:DW:=aQ (bf (au 2 (caE ax [vE 1,tpE [kI 0]]))) (aQ (rIf (aw gx (vE 2) (kE B)) (kE (A M))) (aQ (mX 0 214 "orders" (caE aW [Xm (dN 214 "orders" (vE 0)) (unE jl (kI 1)),kI 4,tpE [kS "asked",Xm (vE 2) (kI 0)]])) (lV (kE (A O)))))
def cU:SpX:=gZ 3 2 [0] gH
def iZ:DW:=aQ (bf (au 2 (caE ax [vE 1,tpE [kI 0,kI 1,kI 1,kI 0,kI 0]]))) (aQ (rIf (aw gx (vE 2) (kE B)) (kE (A M))) (aQ (bf (au 3 (Xm (vE 2) (kI 3)))) (aQ (bf (au 4 (Xm (vE 2) (kI 4)))) (aQ (rIf (orT (aw gtB (Xm (vE 2) (kI 2)) (kI 60)) (orT (aw geB (Xn af (vE 3) (vE 4)) (Xm (vE 2) (kI 1))) (aw ltB (Xm (vE 2) (kI 0)) (vE 3)))) (kE (A M))) (aQ (mX 0 214 "orders" (caE aW [Xm (dN 214 "orders" (vE 0)) (unE jl (kI 1)),kI 4,blE bz [Xn af (lsE [kS "due"]) (vE 2)]])) (lV (kE (A O))))))))
def f7:SpX:=gZ 5 2 [0] iZ
def gI:DW:=aQ (bf (au 2 (Xm (dN 214 "orders" (vE 0)) (unE jl (kI 1))))) (aQ (bf (au 3 (Xm (vE 2) (kI 5)))) (aQ (bf (au 4 (ifE (aw gtB (bN 3) (kI 0)) (Xn af (Xm (Xm (vE 3) (unE jl (kI 1))) (kI 0)) (kI 1)) (kI 1)))) (aQ (bf (au 5 (caE ax [vE 1,tpE [vE 4,kI 1,kI 1]]))) (aQ (rIf (orT (aw eqB (bN 3) (kI 6)) (aw gx (vE 5) (kE B))) (kE (A M))) (aQ (bf (au 6 (Xm (Xm (vE 2) (kI 4)) (kI 3)))) (aQ (rIf (orT (aw geB (Xm (vE 5) (kI 0)) (vE 6)) (orT (aw gtB (Xm (vE 5) (kI 1)) (Xm (vE 5) (kI 2))) (aw gtB (Xm (vE 5) (kI 2)) (kI 1000)))) (kE (A M))) (aQ (mX 0 214 "orders" (caE aW [vE 2,kI 5,Xn af (vE 3) (tpE [blE bz [vE 5]])])) (lV (kE (A O))))))))))
def cV:SpX:=gZ 7 2 [0] gI
def gq:DW:=aQ (ifW (aw eqB (vE 1) (kS "order")) (jw (dR cT [AW.lent 0,AW.name 2])) (bf aE)) (aQ (ifW (aw eqB (vE 1) (kS "dose")) (jw (dR dB [AW.lent 0,AW.name 2])) (bf aE)) (aQ (ifW (aw eqB (vE 1) (kS "asked")) (jw (dR cU [AW.lent 0,AW.name 2])) (bf aE)) (aQ (ifW (aw eqB (vE 1) (kS "due")) (jw (dR f7 [AW.lent 0,AW.name 2])) (bf aE)) (jw (dR cV [AW.lent 0,AW.name 2])))))
def dW:SpX:=gZ 3 3 [0] gq
def rL:DW:=aQ (bf (au 2 (Xn dO (vE 1) (kS " ")))) (aQ (bf (au 3 (Xm (vE 2) (kI 0)))) (aQ (rIf (aw (orB ip ju) (vE 3) (kdE fC (dN 214 "head" (vE 0)))) (kE (A M))) (aQ (orW (HG 0 214 "head" (vE 3)) (HL 0 214 "head" (vE 3))) (aQ (bf (au 4 (slE (vE 2) (aV (kI 1)) noO))) (aQ (ifW (aw eqB (vE 3) (kS "guest")) (jw (dR cQ [AW.lent 0,AW.name 4])) (bf aE)) (aQ (ifW (aw eqB (vE 3) (kS "stuff")) (jw (dR cR [AW.lent 0,AW.name 4])) (bf aE)) (aQ (ifW (aw eqB (vE 3) (kS "cap")) (jw (dR dZ [AW.lent 0,AW.name 4])) (bf aE)) (aQ (ifW (aw eqB (vE 3) (kS "young")) (jw (dR cS [AW.lent 0,AW.name 4])) (bf aE)) (aQ (ifW (aw eqB (vE 3) (kS "bar")) (jw (dR f6 [AW.lent 0,AW.name 4])) (bf aE)) (jw (dR dW [AW.lent 0,AW.val (vE 3),AW.name 4])))))))))))
def fE:SpX:=gZ 5 2 [0] rL
def EM:DW:=aQ (mkO 1 214 A3) (aQ (DP 2 3 0 (ifC (Bs (vc (dR fE [AW.lent 1,AW.val (vE 3)]))) (rzW 44 "place" (vE 2)) (bf aE))) (aQ (ifW (aw (orB iG kJ) (dN 214 "head" (vE 1)) (kE (.kt [Sum.inr "order",Sum.inr "dose"]))) (rzW 44 "place" (bN 0)) (bf aE)) (lV (tpE [blE bz [dN 214 "guests" (vE 1)],blE bz [dN 214 "stuffs" (vE 1)],blE bz [dN 214 "bars" (vE 1)],blE bz [dN 214 "orders" (vE 1)]]))))
def gr:List D->Option RX:=u0 4 1 EM
def kM:DS:=ao (au 3 (kI 0)) (ao (ifS (aw gtB (bN 0) (kI 0)) (au 3 (Xn gg (Xm (vE 0) (Xn gg (vE 1) (bN 0))) (kI 2147483647))) aE) (Xi (Xn gg (Xn gg (Xn af (Xn dq (vE 3) (kI 48271)) (Xn dq (Xn dq (Xn af (vE 1) (kI 1)) (Xn af (vE 1) (kI 5))) (kI 69621))) (kI 2147483629)) (vE 2))))
def ae:SpF:=cN 4 3 kM
def ck(f:SpF):DS:=ao (ifS (orT (dF (bE (jZ "tuple" (vE 1)))) (dF (bE (jZ "list" (vE 1))))) (ao (ifS (orT (aw neB (bE (jZ "tuple" (vE 0))) (bE (jZ "tuple" (vE 1)))) (aw neB (bE (jZ "list" (vE 0))) (bE (jZ "list" (vE 1))))) (Xi (kE (A M))) aE) (Xi (bE (gh (aw eqB (jY cW (ak (vE 0) aM)) (jY cW (ak (vE 1) aM))) (dF (jY sI (ak (bu J 2 [] (Ec (vE 0) (vE 1)) (gT [0,1]) bc (bF f (ak (vE 0) (ak (vE 1) aM)))) aM))))))) aE) (ao (ifS (orT (dF (bE (jZ "bool" (vE 1)))) (dF (bE (jZ "bool" (vE 0))))) (Xi (bE (gh (jZ "bool" (vE 1)) (gh (jZ "bool" (vE 0)) (aw eqB (vE 0) (vE 1)))))) aE) (ao (ifS (dF (bE (jZ "int" (vE 1)))) (Xi (bE (gh (jZ "int" (vE 0)) (aw eqB (vE 0) (vE 1))))) aE) (ao (ifS (aw gx (vE 1) (kE B)) (Xi (bE (aw gx (vE 0) (kE B)))) aE) (Xi (bE (gh (jZ "str" (vE 0)) (aw eqB (vE 0) (vE 1))))))))
def f9:Nat->SpF
 |0=>λ_=>J
 |n+1=>cN 2 2 (ck (f9 n))
def ib:SpF:=f9 7
def jz:DS:=ao (au 3 (kS "abcdefghijklmnopqrstuvwxyz")) (ao (au 4 (bu J 1 [0,1,3] (aS (kI 8)) (gN 0) bc (Xm (vE 3) (caE ae [vE 1,Xn af (vE 2) (vE 0),kI 26])))) (ao (au 5 (caE ae [vE 0,Xn af (vE 1) (kI 8),kI 4])) (ao (au 6 (slE (lsE [kS "order",kS "cap",kS "due",kS "young",kS "flat",kS "kilo",kS "ever",kS "bar",kS "down",kS "guest",kS "stuff",kS "asked"]) noO (aV (vE 2)))) (ao (ifS (aw eqB (vE 5) (kI 1)) (au 6 (bu J 1 [4] (aS (vE 2)) (gN 0) bc (Xn af (unE (cG "") (slE (vE 1) noO (aV (Xn af (kI 1) (Xn gg (vE 0) (kI 8)))))) (vh "zz" (Xn l5 (vE 0) (kI 8)))))) aE) (ao (ifS (aw eqB (vE 5) (kI 2)) (au 6 (bu J 1 [4] (aS (vE 2)) (gN 0) bc (unE (cG "") (slE (vE 1) (aV (Xn mw (kI 7) (Xn gg (vE 0) (kI 8)))) noO)))) aE) (ao (ifS (aw eqB (vE 5) (kI 3)) (au 6 (jf aM)) aE) (ao (ifS (orT (aw eqB (vE 5) (kI 3)) (orT (aw ltB (unE lP (vE 6)) (vE 2)) (aw gtB (blE pV [Xn af (lsE [kI 0]) (bu (U 6) 1 [] (ssI (vE 6)) (gN 0) bc (bN 0))]) (kI 8)))) (ao (au 7 (Xn af (kI 1) (caE ae [vE 0,Xn af (vE 1) (kI 9),kI 8]))) (ao (au 8 (caE ae [vE 0,Xn af (vE 1) (kI 10),vE 7])) (ao (au 6 (jf aM)) (gy J (aS (vE 2)) (gN 9) (ao (au 10 (slE (vE 4) noO (aV (vE 7)))) (ao (nF 10 (vE 8) (Xm (vE 3) (Xn gg (Xn af (caE ae [vE 0,Xn af (vE 1) (kI 11),kI 26]) (Xn dq (kI 7) (vE 9))) (kI 26)))) (cL 6 (unE (cG "") (vE 10))))))))) aE) (Xi (vE 6)))))))))
def cA:SpF:=cN 11 3 jz
def j4:DS:=ao (au 3 (caE ae [vE 0,vE 1,kI 6])) (ao (ifS (aw ltB (vE 3) (kI 4)) (Xi (Xn af (kI 1) (Xn gg (caE ae [vE 0,Xn af (vE 1) (kI 1),kI 20]) (vE 2)))) aE) (ao (ifS (aw eqB (vE 3) (kI 4)) (Xi (vE 2)) aE) (Xi (Xn af (kI 1) (caE ae [vE 0,Xn af (vE 1) (kI 1),vE 2])))))
def aJ:SpF:=cN 4 3 j4
def mK:DS:=ao (au 2 (caE aJ [vE 0,Xn af (vE 1) (kI 1),kI 1000000000])) (ao (au 3 (caE aJ [vE 0,Xn af (vE 1) (kI 3),kI 1000000000])) (ao (au 4 (caE ae [vE 0,vE 1,kI 3])) (ao (ifS (aw eqB (vE 4) (kI 0)) (Xi (tpE [kS "flat",vE 2,vE 3])) aE) (ao (ifS (aw eqB (vE 4) (kI 1)) (Xi (tpE [kS "kilo",vE 2,vE 3,caE aJ [vE 0,Xn af (vE 1) (kI 5),kI 1000000000]])) aE) (Xi (tpE [kS "ever",vE 3]))))))
def iM:SpF:=cN 5 2 mK
def jA:DS:=ao (au 3 (caE aJ [vE 0,vE 1,kI 400000])) (ao (au 4 (lsE [vE 3])) (ao (au 5 (kI 1)) (ao (gy J (aS (caE ae [vE 0,Xn af (vE 1) (kI 2),kI 8])) (gN 6) (ao (au 5 (Xn af (Xn af (vE 5) (kI 1)) (caE ae [vE 0,Xn af (Xn af (vE 1) (kI 3)) (vE 6),Xm (lsE [kI 4,kI 285]) (caE ae [vE 0,Xn af (vE 1) (kI 11),kI 2])]))) (cL 4 (Xn dq (vE 5) (vE 3))))) (ao (ifS (aw eqB (caE ae [vE 0,Xn af (vE 1) (kI 48),kI 8]) (kI 0)) (au 4 (Xn af (slE (vE 4) noO (aV (kI 7))) (lsE [Xn dq (kI 2000) (vE 3)]))) aE) (ao (au 7 (blE bz [bu J 1 [0,1] (aS (caE ae [vE 0,Xn af (vE 1) (kI 44),kI 5])) (gN 0) bc (caE iM [vE 1,Xn af (Xn af (vE 2) (kI 12)) (Xn dq (kI 8) (vE 0))])])) (ao (au 8 (Xn dq (caE aJ [vE 0,Xn af (vE 1) (kI 45),kI 1000000000]) (blE (orS pD lH) [bE (aw eqB (caE ae [vE 0,Xn af (vE 1) (kI 47),kI 3]) (kI 0))]))) (Xi (tpE [vE 2,blE bz [vE 4],vE 7,vE 8]))))))))
def fY:SpF:=cN 9 3 jA
def kN:DS:=ao (au 3 (jf aM)) (ao (gy J (aS (vE 2)) (gN 4) (gy J (gz (vE 4) (vE 2)) (gN 5) (ao (au 6 (Xn af (vE 1) (Xn dq (kI 3) (Xn af (Xn dq (kI 6) (vE 4)) (vE 5))))) (ifS (gh (aw ltB (bN 3) (kI 12)) (aw gtB (caE ae [vE 0,vE 6,kI 3]) (kI 0))) (r9 3 (caE ae [vE 0,vE 6,Xn af (bN 3) (kI 1)]) (tpE [vE 4,vE 5,caE aJ [vE 0,Xn af (vE 6) (kI 1),kI 1000000000]])) aE)))) (Xi (blE bz [vE 3])))
def j5:SpF:=cN 7 3 kN
def kO:DS:=ao (au 2 (caE aJ [vE 0,vE 1,kI 500000000])) (ao (ifS (aw eqB (caE ae [vE 0,Xn af (vE 1) (kI 2),kI 3]) (kI 0)) (Xi (tpE [kS "asked",Xn mw (vE 2) (kI 1)])) aE) (ao (au 3 (caE aJ [vE 0,Xn af (vE 1) (kI 3),kI 1000000000])) (ao (au 4 (caE aJ [vE 0,Xn af (vE 1) (kI 5),kI 60])) (ao (au 5 (caE ae [vE 0,Xn af (vE 1) (kI 7),blE jm [Xn af (vE 2) (kI 1),vE 3]])) (ao (au 6 (caE ae [vE 0,Xn af (vE 1) (kI 8),Xn mw (vE 3) (vE 5)])) (Xi (tpE [kS "due",vE 2,vE 3,vE 4,vE 5,vE 6])))))))
def j6:SpF:=cN 7 2 kO
def j7:DS:=ao (au 3 (jf aM)) (ao (ifS (aw eqB (Xm (vE 2) (kI 0)) (kS "due")) (gy J (gz (kI 1) (Xm (vE 2) (kI 3))) (gN 4) (ifS (gh (aw ltB (bN 3) (kI 6)) (gh (aw eqB (caE ae [vE 0,vE 1,kI 4]) (kI 0)) (aw eqB (caE ae [vE 0,Xn af (Xn af (vE 1) (kI 1)) (vE 4),kI 3]) (kI 0)))) (ao (au 5 (caE aJ [vE 0,Xn af (vE 1) (kI 62),kI 1000])) (cL 3 (tpE [vE 4,Xn af (kI 1) (caE ae [vE 0,Xn af (Xn af (vE 1) (kI 64)) (vE 4),vE 5]),vE 5]))) aE)) aE) (Xi (blE bz [vE 3])))
def gJ:SpF:=cN 6 3 j7
def nq:DS:=ao (au 5 (caE ae [vE 0,vE 1,bN 3])) (ao (au 6 (caE ae [vE 0,Xn af (vE 1) (kI 1),bN 4])) (ao (au 7 (Xm (Xm (Xm (vE 4) (vE 6)) (kI 1)) (kI 0))) (ao (au 8 (Xn af (vE 7) (caE ae [vE 0,Xn af (vE 1) (kI 2),Xm (lsE [kI 20,Xn af (Xn dq (kI 1999) (vE 7)) (kI 1)]) (caE ae [vE 0,Xn af (vE 1) (kI 3),kI 2])]))) (ao (au 8 (blE jm [vE 8,Xn dq (kI 2000) (vE 7)])) (ao (au 9 (Xn dq (caE aJ [vE 0,Xn af (vE 1) (kI 4),kI 1000000000]) (blE (orS pD lH) [bE (aw gtB (caE ae [vE 0,Xn af (vE 1) (kI 6),kI 3]) (kI 0))]))) (ao (au 10 (tpE [Xm (lsE [kS "down",kS "up",kS "near"]) (caE ae [vE 0,Xn af (vE 1) (kI 7),kI 3]),caE aJ [vE 0,Xn af (vE 1) (kI 8),kI 1000000000],vE 9,vE 8])) (ao (au 11 (caE j6 [vE 0,Xn af (vE 1) (kI 10)])) (Xi (tpE [vE 2,vE 5,vE 6,vE 10,vE 11,caE gJ [vE 0,Xn af (vE 1) (kI 20),vE 11]])))))))))
def iz:SpF:=cN 12 5 nq
def jB:DS:=ao (au 1 (bu J 1 [0] (aS (kI 2)) (gN 0) bc (caE ae [vE 1,vE 0,kI 7]))) (ao (au 2 (caE cA [vE 0,kI 2,Xm (vE 1) (kI 0)])) (ao (au 3 (blE bz [bu J 1 [0,2] (aS (Xm (vE 1) (kI 0))) (gN 0) bc (tpE [Xm (vE 2) (vE 0),Xn mw (caE aJ [vE 1,Xn af (kI 20) (Xn dq (kI 2) (vE 0)),kI 1000000001]) (kI 1)])])) (ao (au 2 (caE cA [vE 0,kI 40,Xm (vE 1) (kI 1)])) (ao (au 4 (blE bz [bu J 1 [0,2] (aS (Xm (vE 1) (kI 1))) (gN 0) bc (caE fY [vE 1,Xn af (kI 60) (Xn dq (kI 50) (vE 0)),Xm (vE 2) (vE 0)])])) (ao (au 5 (caE j5 [vE 0,kI 360,Xm (vE 1) (kI 1)])) (ao (au 6 (kI 0)) (ao (ifS (gh (aw gtB (Xm (vE 1) (kI 0)) (kI 0)) (aw gtB (Xm (vE 1) (kI 1)) (kI 0))) (au 6 (Xm (lsE [caE ae [vE 0,kI 480,kI 4],caE ae [vE 0,kI 480,kI 13]]) (caE ae [vE 0,kI 481,kI 2]))) aE) (ao (au 2 (caE cA [vE 0,kI 482,vE 6])) (ao (au 7 (bu J 1 [0,2,3,4] (aS (vE 6)) (gN 0) bc (caE iz [vE 1,Xn af (kI 500) (Xn dq (kI 160) (vE 0)),Xm (vE 2) (vE 0),vE 3,vE 4]))) (Xi (tpE [vE 3,vE 4,vE 5,blE bz [vE 7]])))))))))))
def dC:SpF:=cN 8 1 jB
def oO:DS:=Xi (unE (cG " ") (bu (U 0) 1 [] (ssI (vE 0)) (gN 0) bc (blE (orS lG mI) [vE 0])))
def aF:SpF:=cN 1 1 oO
def jC:DS:=ao (GI (gT [8,3,5,7]) (vE 0)) (ao (au 1 (bu (U 8) 1 [] (ssI (vE 8)) (gN 0) bc (Xn af (Xn af (Xn af (kS "guest ") (Xm (vE 0) (kI 0))) (kS " ")) (blE (orS lG mI) [Xm (vE 0) (kI 1)])))) (ao (gy (U 3) (ssI (vE 3)) (gN 2) (ao (cL 1 (caE aF [Xn af (tpE [kS "stuff",Xm (vE 2) (kI 0)]) (Xm (vE 2) (kI 1))])) (ao (gy J (ssI (Xm (vE 2) (kI 2))) (gN 9) (cL 1 (caE aF [Xn af (tpE [kS "cap"]) (vE 9)]))) (ifS (aw gtB (Xm (vE 2) (kI 3)) (kI 0)) (cL 1 (Xn af (kS "young ") (blE (orS lG mI) [Xm (vE 2) (kI 3)]))) aE)))) (ao (gy (U 5) (ssI (vE 5)) (gN 4) (cL 1 (caE aF [tpE [kS "bar",Xm (Xm (vE 3) (Xm (vE 4) (kI 0))) (kI 0),Xm (Xm (vE 3) (Xm (vE 4) (kI 1))) (kI 0),Xm (vE 4) (kI 2)]]))) (ao (gy (U 7) (ssI (vE 7)) (gN 6) (ao (cL 1 (caE aF [tpE [kS "order",Xm (vE 6) (kI 0),Xm (Xm (vE 8) (Xm (vE 6) (kI 1))) (kI 0),Xm (Xm (vE 3) (Xm (vE 6) (kI 2))) (kI 0)]])) (ao (cL 1 (caE aF [Xn af (tpE [kS "dose"]) (Xm (vE 6) (kI 3))])) (ao (cL 1 (caE aF [Xm (vE 6) (kI 4)])) (gy J (ssI (Xm (vE 6) (kI 5))) (gN 10) (cL 1 (caE aF [Xn af (tpE [kS "taper"]) (vE 10)]))))))) (Xi (vE 1))))))
def fZ:SpF:=cN 11 1 jC
def qm:DS:=ao (au 1 (lsE [kS "",kS " ",kS "guest",kS "guest a",kS "guest a b",kS "guest A 1",kS "guest a 01",kS "guest a -1",kS "guest a 1 2"])) (ao (au 1 (Xn af (vE 1) (lsE [kS "guest ninelettr 1",kS "guest a 1000000001",kS "stuff",kS "stuff a",kS "stuff a 0",kS "stuff a 2 1"]))) (ao (au 1 (Xn af (vE 1) (lsE [kS "stuff a 1 1",kS "stuff a 2 3",kS "stuff a 1 2001",kS "stuff A 1",kS "stuff a 1 2 3 4 5 6 7 8 9",kS "cap"]))) (ao (au 1 (Xn af (vE 1) (lsE [kS "cap flat",kS "cap flat 1",kS "cap flat 0 1",kS "cap flat 1 0",kS "cap flat 1 1 1",kS "cap kilo 1 1"]))) (ao (au 1 (Xn af (vE 1) (lsE [kS "cap kilo 1 1 0",kS "cap ever",kS "cap ever 0",kS "cap ever 1 1",kS "cap often 1 1",kS "young",kS "young 0"]))) (ao (au 1 (Xn af (vE 1) (lsE [kS "young 1 1",kS "young x",kS "bar a",kS "bar a b",kS "bar a a 0",kS "order a",kS "order a b",kS "dose"]))) (ao (au 1 (Xn af (vE 1) (lsE [kS "dose down 1 1",kS "dose down 0 1 1",kS "dose off 1 1 1",kS "dose down 1 1 0",kS "due 1",kS "due 0 0 1 0 0"]))) (ao (au 1 (Xn af (vE 1) (lsE [kS "due 0 1 0 0 0",kS "due 0 1 61 0 0",kS "due 0 3 1 1 1",kS "due 5 2 1 1 1",kS "due 5 2 1 1 1 1",kS "asked"]))) (ao (au 1 (Xn af (vE 1) (lsE [kS "asked x",kS "asked 1 1",kS "taper 1",kS "taper 0 1 1",kS "taper 1 2 1",kS "taper 1 0 1",kS "taper 1 1 1001"]))) (ao (au 1 (Xn af (vE 1) (lsE [kS "taper 1 1 1 1",kS "end",kS "cap ever 1_0",kS "young +1",kS "asked -0",kS "due 01 2 1 0 0"]))) (ao (au 1 (Xn af (vE 1) (lsE [kS "stuff a 1 2 2",kS "stuff a 1 3 2",kS "stuff a 2 4 7",kS "stuff a 1 2 3 2001",kS "stuff a 2 4 6 8 9"]))) (Xi (Xm (vE 1) (Xn gg (vE 0) (kI 72))))))))))))))
def d8:SpF:=cN 2 1 qm
def nr:DS:=ao (au 2 (caE ae [vE 0,kI 3001,kI 4])) (ao (au 3 (bu J 1 [1] (aS (bN 1)) (gN 0) (aw eqB (Xm (vE 1) (vE 0)) (kS " ")) (vE 0))) (ao (ifS (orT (aw eqB (vE 2) (kI 0)) (aw eqB (bN 3) (kI 0))) (Xi (Xn af (kS " ") (vE 1))) aE) (ao (ifS (aw eqB (vE 2) (kI 1)) (Xi (Xn af (vE 1) (kS " "))) aE) (ao (au 4 (Xm (vE 3) (caE ae [vE 0,kI 3002,bN 3]))) (Xi (Xn af (Xn af (tsE (vE 1) noO (aV (vE 4))) (kS " ")) (tsE (vE 1) (aV (vE 4)) noO)))))))
def fb:SpF:=cN 5 2 nr
def iA:DS:=ao (au 2 (Xn dO (vE 1) (kS " "))) (ao (au 3 (bu J 1 [2] (gz (kI 1) (bN 2)) (gN 0) (aw (orB iG kJ) (Xm (Xm (vE 1) (vE 0)) (kI 0)) (kS "0123456789")) (vE 0))) (ao (ifS (aw eqB (bN 3) (kI 0)) (Xi (Xn af (vE 1) (kS " x"))) aE) (ao (au 4 (Xm (vE 3) (caE ae [vE 0,kI 3011,bN 3]))) (ao (au 5 (Xm (vE 2) (vE 4))) (ao (au 6 (lsE [Xn af (kS "0") (vE 5),Xn af (kS "+") (vE 5),Xn af (kS "-") (vE 5),Xn af (vE 5) (kS "_0"),kS "1000000001",Xn af (vE 5) (kS "x"),Xn af (vE 5) (kS ".")])) (Xi (unE (cG " ") (Xn af (Xn af (slE (vE 2) noO (aV (vE 4))) (lsE [Xm (vE 6) (caE ae [vE 0,kI 3012,kI 7])])) (slE (vE 2) (aV (Xn af (vE 4) (kI 1))) noO)))))))))
def cB:SpF:=cN 7 2 iA
def jd:DS:=ao (au 2 (Xn dO (vE 1) (kS " "))) (ao (ifS (aw (orB ip ju) (Xm (vE 2) (kI 0)) (tpE [kS "guest",kS "stuff",kS "order"])) (Xi (Xn af (vE 1) (kS " 7"))) aE) (ao (au 3 (Xm (vE 2) (kI 1))) (ao (au 4 (caE ae [vE 0,kI 3013,Xn af (bN 3) (kI 1)])) (ao (au 5 (lsE [kS "A",kS "0",kS "_",kS ".",kS "-",kS "{",kS "nineletrs"])) (Xi (unE (cG " ") (Xn af (lsE [Xm (vE 2) (kI 0),Xn af (Xn af (tsE (vE 3) noO (aV (vE 4))) (Xm (vE 5) (caE ae [vE 0,kI 3014,kI 7]))) (tsE (vE 3) (aV (vE 4)) noO)]) (slE (vE 2) (aV (kI 2)) noO))))))))
def cY:SpF:=cN 6 2 jd
def oP:DS:=ao (au 2 (caE ae [vE 0,kI 3015,kI 4])) (ao (ifS (gh (aw eqB (vE 2) (kI 0)) (aw neB (tsE (vE 1) noO (aV (kI 6))) (kS "stuff "))) (Xi (Xn af (Xn af (vE 1) (kS " ")) (Xm (lsE [kS "7",kS "x",Xm (Xn dO (vE 1) (kS " ")) (unE jl (kI 1))]) (caE ae [vE 0,kI 3016,kI 3])))) aE) (ao (ifS (gh (aw eqB (vE 2) (kI 1)) (aw neB (tsE (vE 1) noO (aV (kI 6))) (kS "stuff "))) (Xi (unE (cG " ") (slE (Xn dO (vE 1) (kS " ")) noO (aV (unE jl (kI 1)))))) aE) (ao (ifS (aw eqB (vE 2) (kI 2)) (Xi (caE cY [vE 0,vE 1])) aE) (Xi (caE cB [vE 0,vE 1])))))
def fN:SpF:=cN 3 2 oP
def j8:DS:=ao (au 2 (caE ae [vE 0,kI 3003,kI 6])) (ao (au 1 (blE listS [vE 1])) (ao (au 3 (caE ae [vE 0,kI 3004,Xn af (bN 1) (kI 1)])) (ao (au 4 (bu J 1 [1] (aS (bN 1)) (gN 0) (aw eqB (tsE (Xm (vE 1) (vE 0)) noO (aV (kI 6))) (kS "order ")) (vE 0))) (ao (ifS (orT (aw eqB (vE 2) (kI 0)) (aw eqB (vE 3) (bN 1))) (r9 1 (vE 3) (caE d8 [caE ae [vE 0,kI 3005,kI 72]])) (ifS (aw eqB (vE 2) (kI 1)) (nF 1 (vE 3) (caE fb [vE 0,Xm (vE 1) (vE 3)])) (ifS (aw gtB (vE 2) (kI 3)) (nF 1 (vE 3) (caE fN [vE 0,Xm (vE 1) (vE 3)])) (ifS (orT (aw eqB (vE 2) (kI 2)) (aw eqB (bN 4) (kI 0))) (ao (au 6 (Xm (vE 1) (vE 3))) (nF 1 (vE 3) (Xn af (unE upD (Xm (vE 6) (kI 0))) (tsE (vE 6) (aV (kI 1)) noO)))) (ao (au 3 (Xn af (Xn af (Xm (vE 4) (caE ae [vE 0,kI 3006,bN 4])) (kI 1)) (caE ae [vE 0,kI 3007,kI 2]))) (au 1 (slE (vE 1) noO (aV (vE 3))))))))) (ao (ifS (aw eqB (caE ae [vE 0,kI 3008,kI 2]) (kI 0)) (ao (au 5 (blE jm [bN 1,Xn af (Xn af (vE 3) (kI 1)) (caE ae [vE 0,kI 3009,kI 9])])) (r9 1 (vE 5) (caE d8 [caE ae [vE 0,kI 3010,kI 72]]))) aE) (vk (Xi (tpE [vE 1,vE 3])) (ql 1 (vE 3))))))))
def dH:SpF:=cN 7 2 j8
def jD:DW:=aQ (bf (au 1 (kE B))) (aQ (HS gr (aL [vE 0]) [44] 2 (au 1 (vE 2))) (aQ (rIf (orT (aw gx (vE 1) (kE B)) (ku (dF (bE (kh [(44,O)] (vE 1)))))) (kE B)) (aQ (rIf (orT (ku (dF (bE (kh [(44,O)] (vE 1))))) (dF (bE (kh [(44,M)] (vE 1))))) (kE B)) (aQ (rIf (orT (dF (bE (kh [(44,M)] (vE 1)))) (orT (dF (bE (kh [(44,M)] (vE 1)))) (dF (bE (kh [(44,M)] (vE 1)))))) (kE B)) (aQ (rIf (orT (dF (bE (kh [(44,M)] (vE 1)))) (dF (bE (kh [(44,M)] (vE 1))))) (kE B)) (lV (LK [44] "place" (vE 1))))))))
def g6:List D->Option RX:=u0 3 1 jD
def JH:DS:=ao (au 1 (caE dC [vE 0])) (ao (au 2 (caE fZ [vE 1])) (ao (au 3 (caE dH [vE 0,vE 2])) (ao (ifS (ku (dF (caE ib [rdE g6 (Xm (vE 3) (kI 0)),Xm (vE 3) (kI 1)]))) (Xi (kE (A M))) aE) (Xi (caE ib [rdE gr (vE 2),vE 1])))))
def nu:SpF:=cN 4 1 JH
end Den
namespace Maths
open DL.D renaming str→E,int→H,lst→Y,tup→Q,bl→I,non→XN
open DL.Slot renaming sh→Z,own→C,bor→XM,lok→XO
open DL Den PySem
abbrev Os:=Option Slot
noncomputable def Q5(o:Option D):Option RV:=o.map λd=> ⟨.c,d⟩
@[simp] theorem S3:Q5 (U d)=U ⟨.c,d⟩:=rfl
def ix2(a b:Option RV):Option RV:=a.bind λx=>b.bind λy=>(ixD x.d y.d).map λd=> ⟨.c,d⟩
@[simp] theorem Th{x y:RV}:ix2 (U x) (U y)=Q5 (ixD x.d y.d):=rfl
@[simp↓ high] theorem Ti:Xm f g env=ix2 (f env) (g env):=rfl
noncomputable def op2(o:D->D->Option RV)(a b:Option RV):Option RV:=a.bind λx=>b.bind λy=>o x.d y.d
@[simp] theorem Tj{x y:RV}:op2 o (U x) (U y)=o x.d y.d:=rfl
@[simp↓ high] theorem Tn:Xn o f g env=op2 o (f env) (g env):=rfl
noncomputable def cm2(o:D->D->Option Bool)(a b:Option RV):Option Bool:=a.bind λx=>b.bind λy=>o x.d y.d
@[simp] theorem To{x y:RV}:cm2 o (U x) (U y)=o x.d y.d:=rfl
@[simp↓ high] theorem S4:aw o f g env=cm2 o (f env) (g env):=rfl
noncomputable def co2(a:Option RV)(b:Option (List RV)):Option (List RV):=a.bind λx=>b.bind λxs=>U (x::xs)
@[simp] theorem Tp:co2 (U x) (U xs)=U (x::xs):=rfl
@[simp↓ high] theorem QZ:ak f r env=co2 (f env) (r env):=rfl
@[simp↓ high] theorem S5:aM env=U []:=rfl
@[simp↓ high] theorem U7:kE d env=U ⟨.c,d⟩:=rfl
@[simp↓ high] theorem U8{env:DL.Env}:vE (n+1) (a::env)=vE n env:=rfl
@[simp↓ high] theorem U9{env:DL.Env}:vE 0 (U (Z d)::env)=U ⟨.c,d⟩:=rfl
@[simp↓ high] theorem Ua{env:DL.Env}:vE 0 (U (C d)::env)=U ⟨.to,d⟩:=rfl
@[simp↓ high] theorem Ub{env:DL.Env}:vE 0 (U (XO d)::env)=U ⟨.tb,d⟩:=rfl
@[simp↓ high] theorem Uc{env:DL.Env}:vE 0 (U (XM d)::env)=U ⟨.tb,d⟩:=rfl
def se2(i:Nat)(a:Option RV)(env:DL.Env):Option Out:=a.bind λr=>(stored i r env).map .nx
@[simp] theorem Tq{env:DL.Env}:se2 i (U ⟨.c,d⟩) env=U (.nx (env.set i (U (Z d)))):=rfl
@[simp] theorem Tr{env:DL.Env}:se2 i (U ⟨.tn,d⟩) env=U (.nx (env.set i (U (C d)))):=rfl
@[simp] theorem Ts:se2 i (U r) env=(stored i r env).map .nx:=rfl
@[simp↓ high] theorem S6:au i f env=se2 i (f env) env:=rfl
def ca2(s:SpF)(a:Option (List RV)):Option RV:=a.bind λrs=>(s (rs.map (·.d))).map jk
@[simp] theorem Tt{rs:List RV}:ca2 s (U rs)=(s (rs.map RV.d)).map jk:=rfl
@[simp↓ high] theorem R4:bF s a env=ca2 s (a env):=rfl
noncomputable def bl2(s:SpV)(a:Option (List RV)):Option RV:=a.bind λrs=>s (rs.map (·.d))
@[simp] theorem Tu{rs:List RV}:bl2 s (U rs)=s (rs.map RV.d):=rfl
@[simp↓ high] theorem S7:jY s a env=bl2 s (a env):=rfl
def sqK(o:Option Out)(g:DS):Option Out:=o.bind λo=>match o with
 | .nx e=>g e
 |o=>U o
@[simp] theorem Tv:sqK (U (.nx e)) g=g e:=rfl
@[simp] theorem Tw:sqK (U (.ret d)) g=U (.ret d):=rfl
@[simp] theorem Tx:sqK (U (.bk e)) g=U (.bk e):=rfl
@[simp] theorem Tz:sqK (U (.ct e)) g=U (.ct e):=rfl
@[simp↓ high] theorem S8:ao f g env=sqK (f env) g:=rfl
def iK(o:Option Bool)(f g:DS)(env:DL.Env):Option Out:=o.bind λb=>if b then f env else g env
@[simp] theorem Ud:iK (U O) f g env=f env:=rfl
@[simp] theorem Ue:iK (U M) f g env=g env:=rfl
@[simp] theorem Ug:iK (U b) f g env=if b then f env else g env:=rfl
@[simp↓ high] theorem TB:ifS t f g env=iK (t env) f g env:=rfl
noncomputable def aK(o:Option Bool)(u:DT)(env:DL.Env):Option Bool:=o.bind λb=>if b then u env else U M
@[simp] theorem Uh:aK (U O) u env=u env:=rfl
@[simp] theorem Ui:aK (U M) u env=U M:=rfl
@[simp] theorem Uj:aK (U b) u env=if b then u env else U M:=rfl
@[simp↓ high] theorem S9:gh t u env=aK (t env) u env:=rfl
noncomputable def oK(o:Option Bool)(u:DT)(env:DL.Env):Option Bool:=o.bind λb=>if b then U O else u env
@[simp] theorem Uk:oK (U O) u env=U O:=rfl
@[simp] theorem Ul:oK (U M) u env=u env:=rfl
@[simp] theorem Um:oK (U b) u env=if b then U O else u env:=rfl
@[simp↓ high] theorem TC:orT t u env=oK (t env) u env:=rfl
def rK(a:Option RV):Option Out:=a.bind λr=>if sL r then U (.ret r.d) else J
@[simp] theorem Uo{r:RV}:rK (U r)=if sL r then U (.ret r.d) else J:=rfl
@[simp↓ high] theorem Sa:Xi f env=rK (f env):=rfl
def tK(a:Option (List RV)):Option RV:=a.bind λrs=>if rs.all (·.free)&&decide (rs.length<=a7) then U ⟨.c,Q (rs.map (·.d))⟩ else J
@[simp] theorem Up{rs:List RV}:tK (U rs)=if rs.all (·.free)&&decide (rs.length<=a7) then U ⟨.c,Q (rs.map (·.d))⟩ else J:=rfl
@[simp↓ high] theorem Sb:gk a env=tK (a env):=rfl
def lK(a:Option (List RV)):Option RV:=a.bind λrs=>if rs.all (·.free)&&decide (rs.length<=a7) then U ⟨.tn,Y (rs.map (·.d))⟩ else J
@[simp] theorem Uq{rs:List RV}:lK (U rs)=if rs.all (·.free)&&decide (rs.length<=a7) then U ⟨.tn,Y (rs.map (·.d))⟩ else J:=rfl
@[simp↓ high] theorem Sd:jf a env=lK (a env):=rfl
noncomputable def dfK(o:Option Out):Option D:=o.bind λo=>match o with
 | .ret d=>U d
 | .nx _=>U XN
 |_=>J
@[simp] theorem TF:dfK (U (.ret d))=U d:=rfl
@[simp] theorem TH:dfK (U (.nx e))=U XN:=rfl
@[simp↓ high] theorem Se{ds:List D}:cN n np b ds=if ds.length=np then dfK (b (dv n ds)) else J:=rfl
noncomputable def nK(o:Option Bool):Option Bool:=o.map (!·)
@[simp] theorem Ur:nK (U b)=U (!b):=rfl
@[simp↓ high] theorem Sf:ku t env=nK (t env):=rfl
noncomputable def bK(o:Option Bool):Option RV:=o.map λb=> ⟨.c,I b⟩
@[simp] theorem Us:bK (U b)=U ⟨.c,I b⟩:=rfl
@[simp↓ high] theorem Ut:bE t env=bK (t env):=rfl
noncomputable def vK(o:Option RV):Option Bool:=o.bind λx=>match x.d with
 | I b=>U b
 |_=>J
@[simp] theorem Uu:vK (U ⟨c,I b⟩)=U b:=rfl
@[simp↓ high] theorem Sg:dF f env=vK (f env):=rfl
def isK(T:String)(o:Option RV):Option Bool:=o.bind λx=>if l9 x.d then J else U (pB T x.d)
@[simp] theorem TJ{x:RV}:isK T (U x)=if l9 x.d then J else U (pB T x.d):=rfl
@[simp↓ high] theorem Sh:jZ T f env=isK T (f env):=rfl
def siK(o:Option RV):Option (List D):=o.bind λr=>if r.k= .to then J else match r.d with
 | Y xs=>U xs
 | Q xs=>U xs
 | .scr ns=>U (ns.map H)
 |_=>J
@[simp] theorem TK:siK (U ⟨.c,Q xs⟩)=U xs:=rfl
@[simp] theorem TL:siK (U ⟨.c,Y xs⟩)=U xs:=rfl
@[simp] theorem TM:siK (U ⟨.tb,Y xs⟩)=U xs:=rfl
@[simp] theorem TQ:siK (U ⟨.tn,Y xs⟩)=U xs:=rfl
@[simp] theorem TR{ns:List Int}:siK (U ⟨.c,.scr ns⟩)=U (ns.map H):=rfl
@[simp↓ high] theorem Si:Cq f env=siK (f env):=rfl
def foK(l:Option Nat)(o:Option (List D))(g:DG)(b:DS)(env:DL.Env):Option Out:=o.bind λds=>(Xj g b ds (bM l env)).map (freed l (mV l env))
@[simp] theorem TU:foK l (U ds) g b env=(Xj g b ds (bM l env)).map (freed l (mV l env)):=rfl
@[simp↓ high] theorem Sj:gy l s g b env=foK l (s (bM l env)) g b env:=rfl
def apK(i:Nat)(o:Option RV)(d:Option D)(env:DL.Env):Option Out:=o.bind λr=>d.bind λd=>match d with
 | Y xs=>if r.free&&decide (xs.length<a7) then U (.nx (env.set i (U (C (Y (xs++[r.d])))))) else J
 |_=>J
@[simp] theorem TV{r:RV}{xs:List D}{env:DL.Env}:apK i (U r) (U (Y xs)) env=if r.free&&decide (xs.length<a7) then U (.nx (env.set i (U (C (Y (xs++[r.d])))))) else J:=rfl
@[simp↓ high] theorem Sk:cL i f env=apK i (f env) (ownAt i env) env:=rfl
@[simp↓ high] theorem R5{env:DL.Env}:ownAt (n+1) (a::env)=ownAt n env:=rfl
@[simp↓ high] theorem R6{env:DL.Env}:ownAt 0 (U (C d)::env)=U d:=rfl
def ieK(o:Option Bool)(f g:DE)(env:DL.Env):Option RV:=o.bind λb=>if b then f env else g env
@[simp] theorem TX:ieK (U O) f g env=f env:=rfl
@[simp] theorem TY:ieK (U M) f g env=g env:=rfl
@[simp] theorem TZ:ieK (U b) f g env=if b then f env else g env:=rfl
@[simp↓ high] theorem JI:ifE t f g env=ieK (t env) f g env:=rfl
def cpK(o:Option (List D))(g:DG)(t:DT)(f:DE)(env:DL.Env):Option RV:=o.bind λds=>if ds.length<=a7 then(cq g t f ds env).map λrs=> ⟨.tn,Y rs⟩ else J
@[simp] theorem U0{ds:List D}:cpK (U ds) g t f env=if ds.length<=a7 then(cq g t f ds env).map λrs=> ⟨.tn,Y rs⟩ else J:=rfl
@[simp↓ high] theorem R7:bu l n c s g t f env=cpK (s (bM l env)) g t f (DL.Xk n c env):=rfl
def r1K(o:Option RV):Option (List D):=o.bind λr=>match r.d with
 | H j=>if bt j then U (aO 0 j.toNat) else J
 |_=>J
@[simp] theorem U1{j:Int}:r1K (U ⟨c,H j⟩)=if bt j then U (aO 0 j.toNat) else J:=rfl
@[simp↓ high] theorem NQ:aS f env=r1K (f env):=rfl
@[simp] theorem U2:siK (U ⟨.c,E x⟩)=J:=rfl
def dr(h:Str)(g s b o:List D):D:= .obj 214 ["head","guests","stuffs","bars","orders"] [E h,.kid g,.kid s,.kid b,.kid o]
structure Fl(g s b o:List D):Prop where
 g:aj g=O
 s:aj s=O
 b:aj b=O
 o:aj o=O
def slF(x:Os):Bool:=match x with
 |some (Z d)=>d.imm
 |some (C d)=>d.bI
 |some (XO d)=>d.bI
 |some (XM d)=>d.bI
 |none=>O
def flF(Xd:List Nat):Nat->DL.Env->Bool
 |_,[]=>O
 |k,x::e=>(Xd.contains k||slF x)&&flF Xd (k+1) e
theorem A4(Xd:List Nat):∀e k,flF Xd k e=(List.range e.length).all λj=>Xd.contains (k+j)||slF (e[j]?.getD J)
 |[],k=>rfl
 |x::e,k=>by
  rw[flF,A4 Xd e _,GaF,List.range_succ_eq_map,GbA,List.all_map];congr 1;congr 1
  funext j
  simp[Nat.add_assoc,Nat.add_comm 1]
def ER(Xd:List Nat)(e:DL.Env):jt Xd e=flF Xd 0 e:=by
 rw[A4];unfold jt;congr 1
 funext j
 rw[GaR];cases h:e[j]? with
 |none=>rfl
 |some x=>cases x with
  |none=>rfl
  |some x=>cases x<;>rfl
@[simp] theorem oQ:iH [E h,.kid g,.kid s,.kid b,.kid o]=(aj g&&(aj s&&(aj b&&aj o))):=by simp[iH]
@[simp] theorem MJ:flK (dr h g s b o)=(aj g&&(aj s&&(aj b&&aj o))):=by simp[flK,dr]
def Fl.k{g s b o:List D}(F:Fl g s b o):flK (dr h g s b o)=O:=by simp[F.g,F.s,F.b,F.o]
@[simp] theorem iB(xs ys:List D):aj (xs++ys)=(aj xs&&aj ys):=by
 induction xs with
 |nil=>rfl
 |cons x xs ih=>simp[ih,Bool.and_assoc]
@[simp] theorem Sl:uY 214 "head" (dr h g s b o)=U ⟨.c,E h⟩:=rfl
@[simp] theorem Q6:uY 214 "guests" (dr h g s b o)=U ⟨.c,Y g⟩:=rfl
@[simp] theorem Q7:uY 214 "stuffs" (dr h g s b o)=U ⟨.c,Y s⟩:=rfl
@[simp] theorem Sm:uY 214 "bars" (dr h g s b o)=U ⟨.c,Y b⟩:=rfl
@[simp] theorem Q8:uY 214 "orders" (dr h g s b o)=U ⟨.c,Y o⟩:=rfl
def ES{g:List D}{d:D}(F:Fl g s b o)(hd:d.imm=O)(hl:g.length<a7):gV 214 "guests" (kG d) (dr h g s b o)=U (dr h (g++[d]) s b o):=by
 show(if _=214/\iH [E h,.kid g,.kid s,.kid b,.kid o]=O then((kG d g).bind λl' =>if aj l' =O then U (D.obj 214 ["head","guests","stuffs","bars","orders"] [E h,.kid l',.kid s,.kid b,.kid o]) else J) else J)=_;simp[F.g,F.s,F.b,F.o,kG,hl,hd,dr]
def ET{s:List D}{d:D}(F:Fl g s b o)(hd:d.imm=O)(hl:s.length<a7):gV 214 "stuffs" (kG d) (dr h g s b o)=U (dr h g (s++[d]) b o):=by
 show(if _=214/\iH [E h,.kid g,.kid s,.kid b,.kid o]=O then((kG d s).bind λl' =>if aj l' =O then U (D.obj 214 ["head","guests","stuffs","bars","orders"] [E h,.kid g,.kid l',.kid b,.kid o]) else J) else J)=_;simp[F.g,F.s,F.b,F.o,kG,hl,hd,dr]
def MK{b:List D}{d:D}(F:Fl g s b o)(hd:d.imm=O)(hl:b.length<a7):gV 214 "bars" (kG d) (dr h g s b o)=U (dr h g s (b++[d]) o):=by
 show(if _=214/\iH [E h,.kid g,.kid s,.kid b,.kid o]=O then((kG d b).bind λl' =>if aj l' =O then U (D.obj 214 ["head","guests","stuffs","bars","orders"] [E h,.kid g,.kid s,.kid l',.kid o]) else J) else J)=_;simp[F.g,F.s,F.b,F.o,kG,hl,hd,dr]
def EU{o:List D}{d:D}(F:Fl g s b o)(hd:d.imm=O)(hl:o.length<a7):gV 214 "orders" (kG d) (dr h g s b o)=U (dr h g s b (o++[d])):=by
 show(if _=214/\iH [E h,.kid g,.kid s,.kid b,.kid o]=O then((kG d o).bind λl' =>if aj l' =O then U (D.obj 214 ["head","guests","stuffs","bars","orders"] [E h,.kid g,.kid s,.kid b,.kid l']) else J) else J)=_;simp[F.g,F.s,F.b,F.o,kG,hl,hd,dr]
def lW:ij d (l++[x])=U (l++[d]):=by
 simp[ij]
def uc{d:D}(F:Fl g (s++[x]) b o)(hd:d.imm=O):gV 214 "stuffs" (ij d) (dr h g (s++[x]) b o)=U (dr h g (s++[d]) b o):=by
 have:=F.s;rw[iB,Gai] at this;show(if _=214/\iH [E h,.kid g,.kid _,.kid b,.kid o]=O then((ij d _).bind λl' =>if aj l' =O then U (D.obj 214 ["head","guests","stuffs","bars","orders"] [E h,.kid g,.kid l',.kid b,.kid o]) else J) else J)=_;rw[lW,oQ,F.g,F.s,F.b,F.o];simp[this.1,hd,dr]
def lX{d:D}(F:Fl g s b (o++[x]))(hd:d.imm=O):gV 214 "orders" (ij d) (dr h g s b (o++[x]))=U (dr h g s b (o++[d])):=by
 have:=F.o;rw[iB,Gai] at this;show(if _=214/\iH [E h,.kid g,.kid s,.kid b,.kid _]=O then((ij d _).bind λl' =>if aj l' =O then U (D.obj 214 ["head","guests","stuffs","bars","orders"] [E h,.kid g,.kid s,.kid b,.kid l']) else J) else J)=_;rw[lW,oQ,F.g,F.s,F.b,F.o];simp[this.1,hd,dr]
def ML(F:Fl g s b o):rf 214 "head" (E h') (dr h g s b o)=U (dr h' g s b o):=by
 show(if(214:Nat)=214/\iH [E h,.kid g,.kid s,.kid b,.kid o]=O/\(5:Nat)<1000/\M=M then U _ else J)=_;rw[oQ,F.g,F.s,F.b,F.o];simp[dr]
@[simp] theorem rM(xs:List α)(x:α):atD (xs++[x]) (-1)=U x:=by
 unfold atD;rw[Gau ?B,Gaj (by simp;lia),Gax,Gch,show(-1+((xs.length+1:Nat):Int)).toNat=xs.length by lia];simp
@[simp] theorem Sn{f:DW}{f' :DW}{e:DL.Env}:orW f f' e=match f e with
 |some r=>U r
 |none=>f' e:=rfl
@[simp] theorem So{e:DL.Env}{k:DI}{k' :DI}:orI k k' e=match k e with
 |some r=>U r
 |none=>k' e:=rfl
@[simp] theorem Sq{x:D}{y:D}{p:D->D->Option Bool}{q:D->D->Option Bool}:orB p q x y=match p x y with
 |some r=>U r
 |none=>q x y:=rfl
@[simp] theorem EV{ls:List D}{t:SpV}{t' :SpV}:orS t t' ls=match t ls with
 |some r=>U r
 |none=>t' ls:=rfl
@[simp] theorem U3:mB.of (.nx e)=U (.nx e):=rfl
@[simp] theorem Sr:mB.of (.ret d)=J:=rfl
@[simp] theorem U4{z:DL.Env}:kg 0 (U (XO d)::z)=U d:=rfl
@[simp] theorem Ss:jt Xd e=flF Xd 0 e:=ER Xd e
@[simp] theorem U5{e:DL.Env}{Xd:List Nat}:flF Xd k (x::e)=((Xd.contains k||slF x)&&flF Xd (k+1) e):=rfl
@[simp] theorem U6:flF Xd k []=O:=rfl
@[simp] theorem Su{d:D}:slF (U (Z d))=d.imm:=rfl
@[simp] theorem R8{d:D}:slF (U (C d))=d.bI:=rfl
@[simp] theorem R9{d:D}:slF (U (XO d))=d.bI:=rfl
@[simp] theorem Ra{d:D}:slF (U (XM d))=d.bI:=rfl
@[simp] theorem Q9:slF J=O:=rfl
@[simp] theorem Rb:tQ Xd (.ret d e)=(ki e Xd).map λls=>(d,ls):=rfl
@[simp] theorem Rf:ki e []=U []:=rfl
@[simp] theorem Rg:ki e (j::Xd)=(kg j e).bind λd=>if flK d then(ki e Xd).map λls=>d::ls else J:=rfl
@[simp] theorem Sv:af (H i) (H j)=U ⟨.c,H (i+j)⟩:=rfl
@[simp] theorem Sw:af (E x) (E y)=sD (E x) (E y):=rfl
@[simp] theorem Sx:af (Y x) (Y y)=sD (Y x) (Y y):=rfl
@[simp] theorem Sy{x y:List D}:af (Q x) (Q y)=if x.length=0\/x.length+y.length<=a7 then U ⟨.c,Q (x++y)⟩ else J:=by
 cases x with
 |nil=>rfl
 |cons a x=>simp[af]
abbrev Nm:=Str×List D
noncomputable def d9(p:Nm):D:= Q (E p.1::p.2)
noncomputable def plD(eB:List Nm)(n:Str):D:=match eB.findIdx? λp=>p.1==n with
 |some k=> H (k:Int)
 |none=> XN
theorem A5(n:Str)(q:D):∀(eB:List Nm) (k:Nat) (x y:Os),(∃x' y',Xj (gT [2,3]) (ifS (aw eqB (Xm (vE 3) (kE (H 0))) (vE 1)) (Xi (vE 2)) aE) (ou k (eB.map d9)) [U (Z q),U (Z (E n)),x,y]=U (match eB.findIdx? λp=>p.1==n with
  |some j=> .ret (H ((k+j:Nat):Int))
  |none=> .nx [U (Z q),U (Z (E n)),x',y']))
 |[],k,x,y=> ⟨x,y,rfl⟩
 |p::eB,k,x,y=>by
  by_cases h:p.1=n
  .simp[d9,h,GbH]
  .obtain⟨x',y',e⟩:=A5 n q eB _ _ _;refine⟨x',y', ?_⟩;have:(p.1==n)=M:=by simpa using h
   simp[d9,h,GbH] at e⊢;rw[e];cases eB.findIdx? λp=>_==n with
   |none=>rfl
   |some j=>simp;lia
def MM(eB:List Nm)(n:Str):cF [Y (eB.map d9),E n]=U (plD eB n):=by
 obtain⟨x',y',e⟩:=A5 n (Y (eB.map d9)) eB 0 J J;unfold cF kL;simp at e⊢;rw[e];unfold plD;cases eB.findIdx? λp=>p.1==n with
 |none=>rfl
 |some j=>simp
@[simp] theorem Sz:(jk d).d=d:=rfl
def A6{eB:List Nm}(h:bT [E n]=U (I O)):b9 [Y (eB.map d9),Y (E n::ws)]=U (I (fT (plD eB n))):=by
 simp[b9,dw,h,MM]
@[simp] theorem MN(x:α)(xs:List α):cutD (x::xs) (U 1) J=xs:=by simp[cutD,sIx]
@[simp] theorem SA(x y:α)(xs:List α):cutD (x::y::xs) (U 2) J=xs:=by simp[cutD,sIx]
def JL(c:Nat):List (List Nat)->List Nat
 |[]=>[]
 |[x]=>x
 |x::y::r=>x++c::JL c (y::r)
theorem EX:∀{x u A B:List Nat},c∉x->c∉u->x++c::A=u++c::B->x=u/\A=B
 |[],[],A,B,_,_,h=> ⟨rfl,by simpa using h⟩
 |[],b::u,A,B,_,h2,h=>by
  simp_all
 |a::x,[],A,B,h1,_,h=>by
  simp_all
 |a::x,b::u,A,B,h1,h2,h=>by
  simp at h;obtain⟨rfl,h⟩:=h;obtain⟨rfl,e⟩:=EX (λz=>h1 (by simp[z])) (λz=>h2 (by simp[z])) h;exact⟨rfl,e⟩
theorem EY:∀{ws vs},ws≠[]->vs≠[]->(∀w∈ws,c∉w)->(∀w∈vs,c∉w)->JL c ws=JL c vs->ws=vs
 |[],_,h,_,_,_,_=>absurd rfl h
 |_,[],_,h,_,_,_=>absurd rfl h
 |[x],[u],_,_,_,_,h=>by rw[show x=u from h]
 |[x],u::v::r,_,_,h1,_,h=>by
  have h:x=u++c::JL c _:=h;exact absurd (show c∈x by rw[h];simp) (h1 x ?E)
 |x::y::r,[u],_,_,_,h2,h=>by
  have h:x++c::JL c _=u:=h;exact absurd (show c∈u by rw[<-h];simp) (h2 u ?E)
 |x::y::r,u::v::q,_,_,h1,h2,h=>by
  obtain⟨rfl,e⟩:=EX (h1 x ?E) (h2 u ?E) (show x++c::JL c _=u++c::JL c _ from h);rw[EY ?E ?E (λw hw=>h1 w (Gaw _ hw)) (λw hw=>h2 w (Gaw _ hw)) e]
theorem lY(c:Nat):∀ws,(Str.join ⟨#[c]⟩ ws).cps.toList=JL c (ws.map (·.cps.toList))
 |[]=>rfl
 |[x]=>rfl
 |x::y::r=>by
  show(x++_++Str.join ⟨#[c]⟩ _).cps.toList=_;rw[Gcj,Gcj,Gdb,lY c _];simp[JL]
def blank_eq:Str.ofString " "=⟨#[32]⟩:=by decide+kernel
def NB(x:Str):Prop:=32∉x.cps.toList
def fR{x y:Str}(h:x.cps.toList=y.cps.toList):x=y:=by
 obtain⟨⟨x⟩⟩:=x;cases h
 rfl
theorem nA:∀{ws vs:List Str},ws.map (·.cps.toList)=vs.map (·.cps.toList)->ws=vs
 |[],[],_=>rfl
 |[],_::_,h=>by cases h
 |_::_,[],h=>by cases h
 |x::ws,y::vs,h=>by
  simp only[GaI,List.cons.injEq] at h;rw[fR h.1,nA h.2]
def fP(h:ws≠[])(f:∀w∈ws,NB w):Txt.split (Str.join " " ws) " "=ws:=by
 rw[blank_eq];have e:=StrLaws.join_split (Str.join ⟨#[32]⟩ ws) ⟨#[32]⟩;have q:=StrLaws.split_free (Str.join ⟨#[32]⟩ ws) 32;have vn:=PyProof.Rows.split_pos (Str.join ⟨#[32]⟩ ws) ⟨#[32]⟩;generalize Txt.split _ ⟨#[32]⟩=vs at e q vn⊢;have e2:=congrArg (λx:Str=>x.cps.toList) e;simp only[lY] at e2;exact nA (EY (by rintro z;rw[List.map_eq_nil_iff] at z;subst z;simp at vn) ?H (λw hw=>by
  obtain⟨p,hp,rfl⟩:=Gay.mp hw;exact q p hp) (λw hw=>by
  obtain⟨p,hp,rfl⟩:=Gay.mp hw;exact f p hp) e2)
noncomputable def aC(i:Int):Str:=Str.ofString (toString i)
noncomputable def dg(n:Nat):List Nat:=(Nat.toDigits 10 n).map Char.toNat
def rN(n:Nat):(aC (n:Int)).cps.toList=dg n:=by
 unfold aC;rw[GcD,show toString (n:Int)=toString n from rfl,show toString n=String.ofList _ from rfl,String.toList_ofList]
 rfl
def A7:∀d,d<10->(Nat.digitChar d).toNat=48+d:=by decide
def EZ(h:n<10):dg n=[48+n]:=by
 unfold dg;rw[Nat.toDigits_of_lt_base h];simp[A7 n h]
def JJ(h:10<=n):dg n=dg (n/10)++[48+n%10]:=by
 unfold dg;rw[Nat.toDigits_of_base_le ?E h];simp[A7 _ (Nat.mod_lt _ _)]
def JK(n:Nat):(dg n).all gp=O/\uZ (dg n)=n/\∃c r,dg n=c::r/\(r≠[]->c≠48)/\(c=48->n=0):=by
 induction n using Nat.strongRecOn with
 |_ n ih=>
  by_cases h:n<10
  .rw[EZ h];refine⟨?_, ?_,48+n,[],rfl,λz=>absurd rfl z,λz=>by lia⟩
   .simp[gp];lia
   .simp[uZ]
  .obtain⟨h1,h2,c,r,h3,h4,h5⟩:=ih (n/10) ?B;rw[JJ ?B];refine⟨?_, ?_,c,r++[48+n%10],by rw[h3];rfl,λ_ z=> ?_,λz=> ?_⟩
   .rw[GcX,h1];simp[gp];lia
   .unfold uZ at h2⊢;rw[List.foldl_append,h2];simp;lia
   .lia
   .lia
def F2(h:n<10^(k+1)):(dg n).length<=k+1:=by
 induction k generalizing n with
 |zero=>rw[EZ ?H];simp
 |succ k ih=>
  by_cases h' :n<10
  .rw[EZ h'];simp
  .rw[JJ ?B];have:=ih (n:=n/10) (by rw[Nat.pow_succ] at h;lia);simp;lia
def rO(c:Nat):decide (c∈(Str.ofString "0123456789").cps.toList)=gp c:=by
 have e:(Str.ofString "0123456789").cps.toList=List.range' 48 10:=by decide+kernel
 rw[e,Gca];unfold gp
 grind
theorem iN{α:Type}(xC:α->D)(XH:DL.Env->Prop)(p:α->Bool)(r:α->D):∀(xs:List α) e,XH e->
  (∀x∈xs,∀e,XH e->∃e',g (xC x) e=U e' /\XH e' /\t e' =U (p x)/\(p x=O->∃k,f e' =U ⟨k,r x⟩/\RV.free ⟨k,r x⟩=O))->cq g t f (xs.map xC) e=U ((xs.filter p).map r)
 |[],e,_,_=>rfl
 |d::ds,e,h,st=>by
  obtain⟨e',h1,h2,h3,h4⟩:=st d GaO e h;have ih:=iN xC XH p r ds e' h2 λd' hd=>st d' (Gaw _ hd);cases q:p d with
  |false=>simp[h1,h3,q,ih]
  |true=>
   obtain⟨k,h5,h6⟩:=h4 q;simp_all
def dI{α:Type}(xC:α->D)(XH:DL.Env->Prop)(r:α->D)(xs:List α)(e:DL.Env)(h:XH e)
  (st:∀x∈xs,∀e,XH e->∃e',g (xC x) e=U e' /\XH e' /\∃k,f e' =U ⟨k,r x⟩/\RV.free ⟨k,r x⟩=O):cq g bc f (xs.map xC) e=U (xs.map r):=by
 have:=iN xC XH (λ_=>O) r xs e h (λx hx e he=>by
  obtain⟨e',h1,h2,h3⟩:=st x hx e he;exact⟨e',h1,h2,rfl,λ_=>h3⟩)
 rwa[List.filter_eq_self.mpr λ_ _=>rfl] at this
def BH(bs:List Bool):qU (bs.map I)=U bs:=by
 induction bs with
 |nil=>rfl
 |cons b bs ih=>simp[ih]
def BJ(bs:List Int):sF (bs.map H)=U bs:=by
 induction bs with
 |nil=>rfl
 |cons b bs ih=>simp[ih]
@[simp] theorem Qa(bs:List Bool):sI [Y (bs.map I)]=U ⟨.c,I (bs.all id)⟩:=by
 simp[sI,one,sG,BH]
def ud(hs:List Int):aj (hs.map H)=O:=by
 induction hs with
 |nil=>rfl
 |cons b bs ih=>simp[ih]
def ai(h:f env=U (.nx e)):ao f g env=g e:=by simp[h]
def bA{ds:List D}(hl:ds.length=np)(h:body (dv n ds)=U (.ret d)):cN n np body ds=U d:=by
 unfold cN;rw[Gaj hl,h];rfl
noncomputable def bX(c:Nat):D:= E ⟨#[c]⟩
@[simp] theorem Rh:iG (E x) (E y)=J:=rfl
def rP{x y:Str}(hx:x.length<=a7):gA [E x,E y]=U (I (x.cps.toList.all λc=>decide (c∈y.cps.toList))):=by
 have hc:cq (gN 0) bc (bE (aw (orB iG kJ) (vE 0) (vE 1))) (kH x) [J,U (Z (E y))]=U ((x.cps.toList.map λc=>decide (c∈y.cps.toList)).map I):=by
  rw[Gaz];refine dI bX (λe=>∃z,e=[z,U _]) _ _ _ ⟨_,rfl⟩ ?_;rintro c hc e ⟨z,rfl⟩;exact⟨_,rfl,⟨_,rfl⟩,.c,by simp[bX],rfl⟩
 have hl:(kH x).length<=a7:=by simpa[kH,Str.length] using hx
 refine bA rfl ?_;simp[iU,hl,DL.Xk,dG,hc,-List.map_map]
def F3{n:Nat}(h:n<=1000000000):bL [E (aC (n:Int))]=U (H (n:Int)):=by
 obtain⟨h1,h2,c,r,h3,h4,h5⟩:=JK n;have hl:=F2 (n:=n) (k:=9) ?B;have e:=rN n;have eO:(aC (n)).length=(dg n).length:=by rw[<-e];rfl
 generalize aC _=x at e eO;generalize yq:dg n=cs at*;obtain⟨⟨xs⟩⟩:=x;have e:xs=cs:=e;subst e;have hm:=rP (y:=Str.ofString "0123456789") (by rw[eO];unfold a7;lia);rw[show _=gp from funext rO,h1] at hm;have hp:1<=xs.length:=by rw[h3];simp
 have hL:cW [E ⟨⟨xs⟩⟩]=U ⟨.c,H xs.length⟩:=by
  rw[cy,Gaj (by rw[eO];unfold a7;lia),eO]
 have hI:lH [E ⟨⟨xs⟩⟩]=U ⟨.c,H (n)⟩:=by
  rw[mF,Gaj,h2];lia
 have hz:1<xs.length->∃d,ixD _ (H 0)=U d/\eqB d (E "0")=U M:=λz=>by
  refine⟨E ⟨#[c]⟩, ?_, ?_⟩
  .rw[dU,Gaj (by rw[eO];unfold a7;lia),h3]
   rfl
  .rw[show Str.ofString "0"=⟨#[48]⟩ by decide+kernel];simp[(h4 (by rintro rfl;rw[h3] at z;simp at z))]
 generalize (⟨⟨xs⟩⟩:Str)=x at*;have hq:¬1000000000<(n:Int):=by lia
 generalize hk:(n)=k at*;have a1:1<=(xs.length:Int):=by lia
 have a2:(xs.length:Int)<=10:=by lia
 have a3:1<(xs.length:Int)->1<xs.length:=by lia
 generalize (xs.length:Int)=L at*;refine bA rfl ((ai (e:=[U (Z (E x)),J]) (by simp[hL,hm,a1,a2])).trans ?_);refine(ai (e:=[U (Z (E x)),J]) (by
  by_cases h2:1<L
  .obtain⟨d,hd,hd2⟩:=hz (a3 h2);simp[hL,hd,hd2]
  .simp[hL,h2])).trans ?_
 refine(ai (e:=[U (Z (E x)),U (Z (H k))]) (by simp[hI,pD])).trans ?_;simp[hq]
def A8(c:Nat):decide (c∈(Str.ofString "abcdefghijklmnopqrstuvwxyz").cps.toList)=(decide (97<=c)&&decide (c<=122)):=by
 have e:(Str.ofString "abcdefghijklmnopqrstuvwxyz").cps.toList=List.range' 97 26:=by decide+kernel
 grind
def Nam(x:Str):Prop:=1<=x.length/\x.length<=8/\x.cps.toList.all (λc=>decide (97<=c)&&decide (c<=122))=O
def vq(h:Nam x):bT [E x]=U (I O):=by
 obtain⟨h1,h2,h3⟩:=h;have hm:=rP (x:=x) (y:=Str.ofString "abcdefghijklmnopqrstuvwxyz") (by unfold a7;lia);rw[show _=_ from funext A8,h3] at hm;have a1:1<=(x.length:Int):=by lia
 have a2:(x.length:Int)<=8:=by lia
 have hs:x.length<=a7:=by unfold a7;lia
 simp[bT,jP,hm,a1,a2,hs]
def Nam.nb(h:Nam x):NB x:=λz=>by
 have:=Gan.mp h.2.2 32 z;simp at this
def Num(i:Int):Prop:=0<=i/\i<=1000000000
def s_num(h:Num i):bL [E (aC i)]=U (H i):=by
 obtain⟨n,rfl⟩:=Gbm h.1;exact F3 (by have:=h.2;lia)
def pI:List Int->List Int->Prop
 |[],[]=>True
 |i::is,l::ls=>Num i/\l<=i/\pI is ls
 |_,_=>False
theorem pI.len:∀{is ls},pI is ls->is.length=ls.length
 |[],[],_=>rfl
 |[],_::_,h=>h.elim
 |_::_,[],h=>h.elim
 |_::is,_::ls,h=>by rw[GaF,GaF,pI.len h.2.2]
def nD(i:Int):D:= E (aC i)
theorem qo(A B:D):∀is ls acc x y z,pI is ls->acc.length+is.length<1000->
  ∃x' y' z',Xj (gT [3,4]) (ao (au 5 (caE bL [vE 3])) (ao (ifS (orT (aw gx (vE 5) (kE XN)) (aw ltB (vE 5) (vE 4))) (Xi (kE XN)) aE) (cL 2 (vE 5)))) (i7 (is.map nD) (ls.map H)) [U (Z A),U (Z B),U (C (Y acc)),x,y,z]
   =U (.nx [U (Z A),U (Z B),U (C (Y (acc++is.map H))),x',y',z'])
 |[],[],acc,x,y,z,_,_=> ⟨x,y,z,by simp[i7]⟩
 |[],_::_,_,_,_,_,h,_=>h.elim
 |_::_,[],_,_,_,_,h,_=>h.elim
 |i::is,l::ls,acc,x,y,z,h,hl=>by
  obtain⟨h1,h2,h3⟩:=h;obtain⟨x',y',z',e⟩:=qo A B is ls (acc++[H i]) (U (Z (nD i))) (U (Z (H l))) (U (Z (H i))) h3 (by simp at hl⊢;lia);have q:¬i<l:=by lia
  have s:acc.length<16777216:=by simp at hl;lia
  refine⟨x',y',z', ?_⟩;rw[show acc++(i::is).map _=acc++[H i]++is.map H by simp,<-e];simp[i7,nD,(s_num h1),q,s,a7]
def oR{is ls:List Int}(h:pI is ls)(hz:nI L=U (b,ls.map H))(hL:cW [L]=U ⟨.c,H ls.length⟩)(hn:is.length<100):ax [Y (is.map nD),L]=U (Y (is.map H)):=by
 obtain⟨x',y',z',e⟩:=qo (Y (is.map nD)) L is ls [] J J J h (by simp;lia);have hl:=h.len;unfold ax;refine bA rfl ?_;unfold gB;refine(ai (e:=[U (Z (Y (is.map nD))),U (Z L),J,J,J,J]) (by simp[hL,hl])).trans ?_;refine(ai (e:=[U (Z (Y (is.map nD))),U (Z L),U (C (Y [])),J,J,J]) ?E).trans ?_;refine(ai (e:=[U (Z (Y (is.map nD))),U (Z L),U (C (Y ([]++is.map H))),x',y',z']) ?_).trans ?_
 .have zl:nI (Y (is.map nD))=U (M,is.map nD):=rfl;simp only[List.nil_append,caE,aL] at e;simp[hz,zl,e,freed]
 .simp[ud]
@[simp] theorem ue(is:List Int):aj (is.map nD)=O:=by
 induction is with
 |nil=>rfl
 |cons i is ih=>simp[nD,ih]
@[simp] theorem lZ(is:List Int):aj (is.map H)=O:=ud is
def F4(x:Str):Prop:=x.cps.toList.all gp=M\/x.length=0\/(1<x.length/\x.cps.toList.head? =U 48)
def Qb(x:Str)(hx:x.length<=1000):∃d,bL [E x]=U d/\(d= XN\/∃i:Int,d= H i)/\(F4 x->d= XN):=by
 have hm:=rP (x:=x) (y:=Str.ofString "0123456789") (by unfold a7;lia);rw[show _=gp from funext rO] at hm;have hL:cW [E x]=U ⟨.c,H x.length⟩:=by rw[cy,Gaj (by unfold a7;lia)]
 have no:bL [E x]=U XN->∃d,bL [E x]=U d/\(d= XN\/∃i:Int,d= H i)/\(F4 x->d= XN):=λh=> ⟨XN,h,.inl rfl,λ_=>rfl⟩;by_cases h1:(1<=(x.length:Int)/\(x.length:Int)<=10)/\x.cps.toList.all gp=O
 .obtain⟨⟨h1,h2⟩,h3⟩:=h1;have xs0:∃c r,x.cps.toList=c::r:=by
   cases e:x.cps.toList with
   |nil=>
    have:x.length=0:=by unfold Str.length;rw[<-Gda,e];rfl
    lia
   |cons c r=>exact⟨c,r,rfl⟩
  obtain⟨c,r,ec⟩:=xs0;by_cases h4:1<(x.length:Int)/\c=48
  .refine no (bA rfl ((ai (e:=[U (Z (E x)),J]) (by simp[-cy,hL,hm,h1,h2,h3])).trans ?_));have hz:ixD (E x) (H 0)=U (E ⟨#[48]⟩):=by
    rw[dU,Gaj ?H,ec,h4.2]
    rfl
   have hq:eqB (E ⟨#[48]⟩) (E "0")=U O:=by decide+kernel
   simp[-cy,-dU,hL,h4.1,hz,hq]
  .have hz:1<(x.length:Int)->∃d,ixD (E x) (H 0)=U d/\eqB d (E "0")=U M:=λz=>by
    refine⟨E ⟨#[c]⟩, ?_, ?_⟩
    .rw[dU,Gaj (by unfold a7;lia),ec]
     rfl
    .have hc:c≠48:=λy=>h4 ⟨z,y⟩;rw[lj,show Str.ofString "0"=⟨#[48]⟩ by decide+kernel];simp[hc]
   have hI:∃k:Int,lH [E x]=U ⟨.c,H k⟩:=by
    rw[mF,Gaj (by rw[ec] at h3⊢;simp at h3⊢;exact⟨by lia,h3⟩)];exact⟨_,rfl⟩
   obtain⟨k,hI⟩:=hI;have key:bL [E x]=U (if 1000000000<k then XN else H k):=by
    generalize (x.length:Int)=L at*;refine bA rfl ((ai (e:=[U (Z (E x)),J]) (by simp[-cy,hL,hm,h1,h2,h3])).trans ?_);refine(ai (e:=[U (Z (E x)),J]) (by
     by_cases h2:1<L
     .obtain⟨d,hd,hd2⟩:=hz h2;simp[-cy,-dU,hL,h2,hd,hd2]
     .simp[-cy,hL,h2])).trans ?_
    refine(ai (e:=[U (Z (E x)),U (Z (H k))]) (by simp[-mF,hI,pD])).trans ?_;by_cases hq:1000000000<k<;>simp[hq]
   refine⟨_,key, ?_, ?_⟩
   .split
    .exact .inl rfl
    .exact .inr ⟨k,rfl⟩
   .rintro(q|q| ⟨q1,q2⟩)
    .rw[h3] at q;cases q
    .lia
    .rw[ec] at q2;exact absurd ⟨by lia,by simpa using q2⟩ h4
 .refine no ?_;unfold bL;unfold jy;generalize x.cps.toList.all gp=B at*;generalize (x.length:Int)=L at*;by_cases c1:1<=L
  .by_cases c2:L<=10
   .cases B
    .simp[-cy,hL,hm,c1,c2]
    .exact absurd ⟨⟨c1,c2⟩,rfl⟩ h1
   .simp[-cy,hL,hm,c1,c2]
  .simp[-cy,hL,hm,c1]
def j9(w:Str):Option Int:=match bL [E w] with
 |some (H i)=>U i
 |_=>J
def aG:List Str->List Int->Option (List Int)
 |[],[]=>U []
 |w::ws,l::ls=>(j9 w).bind λi=>if l<=i then(aG ws ls).map λis=>i::is else J
 |_,_=>J
noncomputable def oS:Option (List Int)->D
 |some is=> Y (is.map H)
 |none=> XN
def A9{x:Str}(hx:x.length<=1000)(h:F4 x):j9 x=J:=by
 obtain⟨d,e,_,n⟩:=Qb x hx;unfold j9;rw[e,n h]
theorem jQ:∀{ws ls is},aG ws ls=U is->ws.length=ls.length
 |[],[],_,_=>rfl
 |[],_::_,_,h=>nomatch h
 |_::_,[],_,h=>nomatch h
 |w::ws,l::ls,is,h=>by
  obtain⟨i,_,h⟩:=Gbl.mp h;split at h
  .obtain⟨js,h,_⟩:=Gaa.mp h;rw[GaF,GaF,jQ h]
  .cases h
theorem uf:∀{ws ls x},x∈ws->j9 x=J->aG ws ls=J
 |w::ws,[],x,_,_=>rfl
 |w::ws,l::ls,x,m,h=>by
  unfold aG;rcases Gae.mp m with rfl|m
  .rw[h];rfl
  .cases j9 w with
   |none=>rfl
   |some i=>rw[Option.bind_some,uf m h];split<;>rfl
def nuB:DS:=ao (au 5 (caE bL [vE 3])) (ao (ifS (orT (aw gx (vE 5) (kE XN)) (aw ltB (vE 5) (vE 4))) (Xi (kE XN)) aE) (cL 2 (vE 5)))
theorem JM(A B:D):∀ws ls acc x y z,ws.length=ls.length->(∀w∈ws,w.length<=1000)->acc.length+ws.length<1000->
  match aG ws ls with
  |some is=>∃x' y' z',Xj (gT [3,4]) nuB (i7 (ws.map E) (ls.map H)) [U (Z A),U (Z B),U (C (Y acc)),x,y,z]=U (.nx [U (Z A),U (Z B),U (C (Y (acc++is.map H))),x',y',z'])
  |none=>Xj (gT [3,4]) nuB (i7 (ws.map E) (ls.map H)) [U (Z A),U (Z B),U (C (Y acc)),x,y,z]=U (.ret XN)
 |[],[],acc,x,y,z,_,_,_=> ⟨x,y,z,by simp[i7]⟩
 |[],_::_,_,_,_,_,h,_,_=>nomatch h
 |_::_,[],_,_,_,_,h,_,_=>nomatch h
 |w::ws,l::ls,acc,x,y,z,h,hw,hl=>by
  obtain⟨d,hd,hd2,X5⟩:=Qb w (hw w ?E);have s:acc.length<16777216:=by simp at hl;lia
  rcases hd2 with rfl| ⟨i,rfl⟩
  .have e:j9 w=J:=by unfold j9;rw[hd]
   simp[aG,e,i7,nuB,hd]
  .have e:j9 w=U i:=by unfold j9;rw[hd]
   by_cases q:i<l
   .have q' :¬l<=i:=by lia
    simp[aG,e,q',i7,nuB,hd,q]
   .have ih:=JM A B ws ls (acc++[H i]) (U (Z (E w))) (U (Z (H l))) (U (Z (H i))) ?H (λv hv=>hw v (by grind)) (by simp at hl⊢;lia);have q' :l<=i:=by lia
    have st:Xj (gT [3,4]) nuB (i7 ((w::ws).map E) ((l::ls).map H)) [U (Z A),U (Z B),U (C (Y acc)),x,y,z]=Xj (gT [3,4]) nuB (i7 (ws.map E) (ls.map H)) [U (Z A),U (Z B),U (C (Y (acc++[H i]))),U (Z (E w)),U (Z (H l)),U (Z (H i))]:=by
     simp[i7,nuB,hd,q,s,a7]
    rw[st,show aG (w::ws) (l::ls)=(aG ws ls).map λis=>i::is by simp[aG,e,q']];cases n:aG ws ls with
    |none=>rw[n] at ih;exact ih
    |some is=>
     rw[n] at ih;obtain⟨x',y',z',e⟩:=ih;exact⟨x',y',z',by rw[e,GaT];rfl⟩
def jE{ws:List Str}{ls:List Int}(hz:nI L=U (b,ls.map H))(hL:cW [L]=U ⟨.c,H ls.length⟩)(hw:∀w∈ws,w.length<=1000)(hn:ws.length<100):ax [Y (ws.map E),L]=U (oS (aG ws ls)):=by
 refine bA rfl ?_;unfold gB;by_cases hl:ws.length=ls.length
 .have zl:nI (Y _)=U (M,ws.map E):=rfl;refine(ai (e:=[U (Z (Y (ws.map _))),U (Z L),J,J,J,J]) ?H).trans ((ai (e:=[U (Z (Y (ws.map E))),U (Z L),U (C (Y [])),J,J,J]) rfl).trans ?_);have e:=JM (Y (ws.map E)) L ws ls [] J J J hl hw (by simp;lia);cases n:aG ws ls with
  |some is=>
   rw[n] at e;obtain⟨x',y',z',e⟩:=e;refine(ai (e:=[U (Z (Y (ws.map E))),U (Z L),U (C (Y ([]++is.map H))),x',y',z']) ?_).trans ?_
   .simp only[nuB,caE,aL] at e;simp[hz,zl,e]
   .simp[oS]
  |none=>
   rw[n] at e;simp only[nuB,caE,aL] at e;simp[hz,zl,e,oS]
 .have q:¬(ws.length:Int)=ls.length:=by lia
  have n:aG ws ls=J:=by
   cases n:aG ws ls with
   |none=>rfl
   |some is=>exact absurd (jQ n) hl
  rw[n];simp[hL,q,oS]
def wS:D->Str
 | E x=>x
 | H i=>aC i
 |_=> ⟨#[]⟩
def Wd:D->Prop
 | E x=>NB x/\x.length<=10
 | H i=>Num i
 |_=>False
def gv(ws:List D):Str:=Str.join " " (ws.map wS)
def jR(h:Num i):(aC i).length<=10:=by
 obtain⟨n,rfl⟩:=Gbm h.1;have:=F2 (n:=n) (k:=9) (by have:=h.2;lia)
 rwa[<-rN] at this
def vt(i:Int):NB (aC i):=PyProof.Rows.int_text_free' 32 ⟨by decide,by decide⟩ i
def Wd.len(h:Wd d):(wS d).length<=10:=by
 cases d with
 |str x=>exact h.2
 |int i=>exact jR h
 |_=>exact h.elim
def Wd.nb(h:Wd d):NB (wS d):=by
 cases d with
 |str x=>exact h.1
 |int i=>exact vt i
 |_=>exact h.elim
theorem Wd.str(h:Wd d):orS lG mI [d]=U ⟨.c,E (wS d)⟩:=by
 cases d with
 |str x=>rfl
 |int i=>
  have:i.natAbs<1000000000000000000:=by have:=h.1;have:=h.2;lia
  simp[this,wS,aC]
 |_=>exact h.elim
def strs_map(xs:List Str):lF (xs.map E)=U xs:=by
 induction xs with
 |nil=>rfl
 |cons x xs ih=>simp[ih]
def MO{xs:List Nat}(h:∀x∈xs,x<=10):xs.sum<=xs.length*10:=by
 induction xs with
 |nil=>simp
 |cons x xs ih=>
  have:=h x ?E;have:=ih λy hy=>h y (by simp[hy]);simp;lia
def BK{ws:List D}(h:∀d∈ws,Wd d)(hl:ws.length<=20):(Xi (unE (cG " ") (bu (U 0) 1 [] (ssI (vE 0)) (gN 0) bc (blE (orS lG mI) [vE 0])))) [U (Z (Q ws))]=U (.ret (E (gv ws))):=by
 have c:cq (gN 0) bc (blE (orS lG mI) [vE 0]) (ws.map id) [J]=U (ws.map λd=> E (wS d)):=by
  refine dI id (λe=>∃z,e=[z]) _ _ _ ⟨_,rfl⟩ ?_;rintro d hd e ⟨z,rfl⟩;exact⟨_,rfl,⟨_,rfl⟩,.c,by simpa using(h d hd).str,rfl⟩
 rw[List.map_id] at c;have c' :cq (gN 0) bc (jY (orS lG mI) (ak (vE 0) aM)) ws [J]=U ((ws.map wS).map E):=by rw[Gaz];exact c
 have s1:=MO (xs:=(ws.map wS).map (·.length)) (λx hx=>by
  simp only[Gaz,Gay] at hx;obtain⟨d,hd,rfl⟩:=hx;exact(h d hd).len)
 have s2:(((ws.map wS).map (·.length)).sum+(ws.map wS).length*(Str.ofString " ").length)<=a7:=by
  rw[show(Str.ofString " ").length=1 by decide+kernel];simp only[Gav] at s1⊢;unfold a7;lia
 have s3:ws.length<=a7:=by unfold a7;lia
 generalize hq:(ws.map wS)=vs at*;simp[DL.Xk,c',strs_map,s2,s3,gv,hq]
def ja{ws:List D}(h:∀d∈ws,Wd d)(hl:ws.length<=20):aF [Q ws]=U (E (gv ws)):=bA rfl (BK h hl)
def oT{ws:List D}(h:∀d∈ws,Wd d)(hn:ws≠[]):Txt.split (gv ws) " "=ws.map wS:=fP ?H (λw hw=>by
 obtain⟨d,hd,rfl⟩:=Gay.mp hw;exact(h d hd).nb)
theorem vw(c:Nat):∀ws,(JL c ws).length<=(ws.map λw=>w.length+1).sum
 |[]=>by simp[JL]
 |[x]=>by simp[JL]
 |x::y::r=>by
  have:=vw c (y::r);simp[JL] at this⊢;lia
def F5{ws:List D}(h:∀d∈ws,Wd d)(hl:ws.length<=20):(gv ws).length<=220:=by
 have e:(gv ws).length=(JL 32 ((ws.map wS).map (·.cps.toList))).length:=by
  rw[<-lY]
  rfl
 have b:=vw 32 ((ws.map wS).map (·.cps.toList));have:∀l:List D,(∀d∈l,Wd d)->(((l.map wS).map (·.cps.toList)).map λw=>w.length+1).sum<=l.length*11:=λl=>by
  induction l with
  |nil=>intro _;simp
  |cons d l ih=>
   intro h;have h1:(wS d).cps.toList.length<=10:=(h d ?E).len;have:=ih λx hx=>h x (by simp[hx]);simp only[GaI,List.sum_cons,GaF] at this⊢;lia
 have:=this ws h;lia
def nxt(h k:Str):Bool:=match lkT fC (.inr h) with
 |some ks=>(ks.map kD).any λy=>eqD y (E k)
 |none=>M
section
variable{k:Str}
def JN:gZ (m+2) 2 [0] f [d,E line]=(f (U (XO d)::U (Z (E line))::List.replicate m J)).bind (tQ [0]):=by
 simp[gZ,DL.argsOk,GcY,cO,lO,D.top,D.bI]
def aH(ws:List Str):aj (ws.map E)=O:=by
 induction ws with
 |nil=>rfl
 |cons x ws ih=>simpa using ih
def vA{ks:List DL.Key}:ip (E k) (.kt ks)=U (!((ks.map kD).any λy=>eqD y (E k))):=rfl
variable{ws:List Str}
def jF{line:Str}(hs:Txt.split line " "=k::ws)(hl:line.length<1000):dO (E line) (E " ")=U ⟨.tn,Y (E k::ws.map E)⟩:=by
 show(if _ then _ else J)=_;rw[Gaj ⟨rfl,by unfold a7;lia⟩,hs]
 rfl
def IB(k:Str):Option (SpX):=
 if k="guest" then U cQ else if k="stuff" then U cR else if k="cap" then U dZ else if k="young" then U cS else if k="bar" then U f6 else if k="order" then U cT else if k="dose" then U dB else if k="asked" then U cU else if k="due" then U f7 else if k="taper" then U cV else J
def Qc:gZ (m+3) 3 [0] f [d,E k,Y (ws.map E)]=(f (U (XO d)::U (Z (E k))::U (XM (Y (ws.map E)))::List.replicate m J)).bind (tQ [0]):=by
 simp[gZ,DL.argsOk,GcY,cO,lO,D.top,D.bI,aH]
def dS(h:v e=U (.nx e')):aQ v w e=w e' :=by simp[h]
def gK(h:e[j]? =U (U (Z (E k)))):aQ (ifW (aw eqB (vE j) (kS c)) (jw m) (bf aE)) w e=if k=c then(m e).map λr=> .ret r.1 r.2 else w e:=by
 by_cases q:k=c
 .simp[h,q,jw];cases m e<;>rfl
 .simp[h,q]
def JO{e:DL.Env}(F:Fl g s b o)(h0:e[0]? =U (U (XO (dr k g s b o))))(hj:k9 j e=U (Y (ws.map E)))(hn:j≠0)(hf:flF [0] 0 e=O)(hr:sp [dr k g s b o,Y (ws.map E)]=U (I q,[d'])):dR sp [AW.lent 0,AW.name j] e=U (I q,e.set 0 (U (XO d'))):=by
 simp[dR,c9,kj,mY,Bo,iT,pF,Slot.put,aH,hf,h0,hj,hn,(F.k (h:=k)),hr]
def MP{e:DL.Env}(fd:flK d' =O)(h:0<e.length):(Option.map (λr:D×DL.Env=>mB.ret r.1 r.2) (U (d,e.set 0 (U (XO d'))))).bind (tQ [0])=U (d,[d']):=by
 simp[kg,fd,h]
def JP{line:Str}(F:Fl g s b o)(hs:Txt.split line " "=k::ws)(hl:line.length<1000)(hn:nxt h k=O)(hd:IB k=U sp)(hr:sp [dr k g s b o,Y (ws.map E)]=U (I q,[d']))(fd:flK d' =O):fE [dr h g s b o,E line]=U (I q,[d']):=by
 unfold nxt at hn;cases z:lkT fC (.inr h) with
 |none=>rw[z] at hn;cases hn
 |some ks=>
  rw[z] at hn;have m:=vA (k:=k) (ks:=ks);simp only at hn;rw[hn] at m;have w:=aH ws;have u:=jF hs hl;have fo:flF [0] 0 [U (XO (dr k g s b o)),U (Z (E line)),U (C (Y (E k::ws.map E))),U (Z (E k)),U (C (Y (ws.map E)))]=O:=by simp[w]
  have c4:=λ{sp} hr=>JO (e:=[U (XO (dr k g s b o)),U (Z (E line)),U (C (Y (E k::ws.map E))),U (Z (E k)),U (C (Y (ws.map E)))]) (j:=4) (sp:=sp) (q:=q) (d' :=d') F rfl rfl (by decide) fo hr;have fp:flF [0] 0 [U (XO (dr k g s b o)),U (Z (E k)),U (XM (Y (ws.map E)))]=O:=by simp[w]
  have c2:=λ{sp} hr=>JO (e:=[U (XO (dr k g s b o)),U (Z (E k)),U (XM (Y (ws.map E)))]) (j:=2) (sp:=sp) (q:=q) (d' :=d') F rfl rfl (by decide) fp hr;unfold fE rL;rw[JN,dS (e' :=[U (XO (dr h g s b o)),U (Z (E line)),U (C (Y (E k::ws.map E))),J,J]) (by simp[u]),dS (e' :=[U (XO (dr h g s b o)),U (Z (E line)),U (C (Y (E k::ws.map E))),U (Z (E k)),J]) ?E,dS (e' :=[U (XO (dr h g s b o)),U (Z (E line)),U (C (Y (E k::ws.map E))),U (Z (E k)),J]) (by simp[z,m]),dS (e' :=[U (XO (dr k g s b o)),U (Z (E line)),U (C (Y (E k::ws.map E))),U (Z (E k)),J]) (by simp[ML F,w]),dS (e' :=[U (XO (dr k g s b o)),U (Z (E line)),U (C (Y (E k::ws.map E))),U (Z (E k)),U (C (Y (ws.map E)))]) ?E,gK rfl,gK rfl,gK rfl,gK rfl,gK rfl];unfold IB at hd
  iterate 5
   split at hd
   (rename_i e;cases hd;rw[Gaj e,c4 hr];exact MP fd ?E)
   rename_i e;rw[Gau e]
  have of:dW [dr k g s b o,E k,Y (ws.map E)]=U (I q,[d']):=by
   unfold dW gq;rw[Qc,show U (Slot.lok (dr k g s b o))::U (Z (E k))::U (XM (Y (ws.map E)))::List.replicate 0 J=[U (XO (dr k g s b o)),U (Z (E k)),U (XM (Y (ws.map E)))] from rfl,gK rfl,gK rfl,gK rfl,gK rfl]
   iterate 4
    split at hd
    (rename_i e;cases hd;rw[Gaj e,c2 hr];exact MP fd ?E)
    rename_i e;rw[Gau e]
   split at hd
   .cases hd;simp only[jw,c2 hr];exact MP fd ?E
   .cases hd
  have fk:=F.k (h:=k);simp[jw,dR,c9,kj,mY,Bo,iT,k9,pF,Slot.put,w,fk,of,fd,-MJ]
end
def d0:D:=dr "" [] [] [] []
noncomputable def tpD(t:Int×Int×Int):D:= Q [H t.1,H t.2.1,H t.2.2]
def NR(l:List D):Prop:=∃eB:List Nm,l=eB.map d9
class NRc (l:List D):Prop where
 h:NR l
instance:NRc []:=⟨[],rfl⟩
theorem NRc.map{α:Type}(f:α->Nm)(xs:List α):NRc (xs.map λx=>d9 (f x)):=⟨xs.map f,by rw[Gaz];rfl⟩
instance {l:List D} [a:NRc l] {n:Str} {r:List D}:NRc (l++[Q (E n::r)]):=let⟨x,e⟩:=a.h;⟨x++[(n,r)],by rw[e,GaB];rfl⟩
structure Wf(h:Str)(g s o:List D):Prop where
 rg:NR g
 rs:NR s
 ro:NR o
 cap:h="stuff"\/h="cap"->∃s0 x y c a,s=s0++[Q [x,y,Q c,a]]
 Ta:h="order"->∃o0 y z j r a t x p ns tp,o=o0++[Q [y,z,H j,r,a,t]]/\atD s j=U (Q (x:: Q (H p::ns)::tp))/\0<p/\p<=1000000000
 tap:h="due"\/h="taper"->∃o0 x y z r a1 a2 a3 m al,∃ts:List (Int×Int×Int),o=o0++[Q [x,y,z,r,Q (a1::a2::a3:: H m::al),Q (ts.map tpD)]]/\ts.length<1000/\∀t∈ts,0<=t.1
def Wf.BL [rg:NRc g] [rs:NRc s] [ro:NRc o](n:(["stuff","cap","order","due","taper"]:List Str).contains h=M:=by decide+kernel):Wf h g s o:=by
 have n:∀x∈(["stuff","cap","order","due","taper"]:List Str),h≠x:=λx hx z=>by
  simp_all
 exact⟨rg.h,rs.h,ro.h,λz=>(z.elim (n _ ?E) (n _ ?E)).elim,λz=>(n _ ?E z).elim,λz=>(z.elim (n _ ?E) (n _ ?E)).elim⟩
noncomputable def hds:List Str:=["guest","stuff","cap","young","bar","order","dose","asked","due","taper"]
def Wd8(d:D):Prop:=∃h g s b o,d=dr h g s b o/\Fl g s b o/\Wf h g s o/\h∈(""::hds:List Str)
def Tk(d:D)(l:Str)(d' :D):Prop:=fE [d,E l]=U (I O,[d'])/\flK d' =O/\∃h k g s b o g' s' b' o' ws,d=dr h g s b o/\d' =dr k g' s' b' o' /\Fl g' s' b' o' /\Wf k g' s' o' /\Txt.split l " "=k::ws/\nxt h k=O/\k∈hds
def Tk.wd(t:Tk d l d'):Wd8 d' :=by
 obtain⟨_,_,_,k,_,_,_,_,g',s',b',o',_,_,e,F,W,_,_,m⟩:=t;exact⟨k,g',s',b',o',e,F,W,Gaw _ m⟩
inductive Goes:D->List D->D->Prop
 |nil (d:D):Goes d [] d
 |cons {d d1 d2:D} {l:Str} {ls:List D}:Tk d l d1->Goes d1 ls d2->Goes d (E l::ls) d2
def Goes.sn(G:Goes d ls d1)(t:Tk d1 l d2):Goes d (ls++[E l]) d2:=by
 induction G with
 |nil d=>exact .cons t (.nil _)
 |cons t' _ ih=>exact .cons t' (ih t)
def Goes.SD{ls:List D}(G:Goes d ls d2)(k:Wd8 d):∀n,∃d1,Goes d (ls.take n) d1/\Wd8 d1:=by
 induction G with
 |nil d=>exactλn=> ⟨d,by rw[List.take_nil];exact .nil d,k⟩
 | @cons d d1 d2 l ls t G ih=>
  intro n;cases n with
  |zero=>exact⟨d,.nil d,k⟩
  |succ n=>
   obtain⟨d3,a,b⟩:=ih t.wd n;exact⟨d3,.cons t a,b⟩
def Qd:Wd8 d0:=⟨"",[],[],[],[],rfl,⟨rfl,rfl,rfl,rfl⟩,.BL,GaO⟩
def jG:DW:=ifC (Bs (vc (dR fE [AW.lent 1,AW.val (vE 3)]))) (rzW 44 "place" (vE 2)) (bf aE)
noncomputable def rE(ls:List D)(d:D)(x y:Os):DL.Env:=[U (XM (Y ls)),U (XO d),x,y]
def MQ(hi:aj ls=O)(fd:flK d=O)(ht:fE [d,E l]=U (I O,[d'])):
  jG (rE ls d (U (Z (H (n:Nat)))) (U (Z (E l))))=U (.nx (rE ls d' (U (Z (H (n:Nat)))) (U (Z (E l))))):=by
 simp[jG,rE,ifC,Bs,vc,dR,c9,kj,mY,Bo,iT,pF,Slot.put,hi,fd,ht]
def Qe(hi:aj ls=O)(fd:flK d=O)(ht:fE [d,E l]=U (I M,[d'])):
  jG (rE ls d (U (Z (H (n:Nat)))) (U (Z (E l))))=U (.ex 44 "place" (H (n:Nat))):=by
 simp[jG,rE,ifC,Bs,vc,dR,c9,kj,mY,Bo,iT,pF,hi,fd,ht,rzW]
def F6(g:all[n]? =U (E l)):ik 2 3 0 jG (m+1) n (rE all d x y)=(jG (rE all d (U (Z (H (n:Nat)))) (U (Z (E l))))).bind λo=>match o with
  | .nx e=>ik 2 3 0 jG m (n+1) e
  | .ct e=>ik 2 3 0 jG m (n+1) e
  | .bk e=>U (.nx e)
  |o=>U o:=by
 rw[ik,show tY 0 _=U all from rfl,Option.bind_some,g]
 rfl
def vB(hi:aj all=O)(G:Goes d ls d2):∀pre rest x y,all=pre++(ls++rest)->flK d=O->flK d2=O/\∃x' y',ik 2 3 0 jG ((ls++rest).length+1) pre.length (rE all d x y)=ik 2 3 0 jG (rest.length+1) (pre++ls).length (rE all d2 x' y'):=by
 induction G with
 |nil d=>intro pre rest x y e fd;exact⟨fd,x,y,by simp⟩
 | @cons d d1 d2 l ls t G ih=>
  intro pre rest x y e fd;obtain⟨f2,x',y',h⟩:=ih (pre++[E l]) rest (U (Z (H (pre.length)))) (U (Z (E l))) (by simp[e]) t.2.1;refine⟨f2,x',y', ?_⟩;have g:all[pre.length]? =U (E l):=by rw[e];simp
  rw[show(E l::ls++rest).length+1=_+1 from rfl,F6 g,MQ hi fd t.1];simp only[Option.bind_some];simp_all
def F7:DW:=aQ (ifW (aw (orB iG kJ) (dN 214 "head" (vE 1)) (kE (.kt [Sum.inr "order",Sum.inr "dose"]))) (rzW 44 "place" (bN 0)) (bf aE)) (lV (tpE [blE bz [dN 214 "guests" (vE 1)],blE bz [dN 214 "stuffs" (vE 1)],blE bz [dN 214 "bars" (vE 1)],blE bz [dN 214 "orders" (vE 1)]]))
def mL{ls:List D}(hi:aj ls=O):gr [Y ls]=(aQ (λ_=>ik 2 3 0 jG (ls.length+1) 0 (rE ls d0 J J)) F7 []).bind DQ:=by
 unfold gr u0;rw[Gaj ⟨rfl,by simp[DL.argsOk,hi]⟩]
 rfl
def IC{g s b o:List D}(G:Goes d0 ls (dr h g s b o))(hi:aj ls=O)(hh:((([Sum.inr "order",Sum.inr "dose"]:List DL.Key).map kD).any λy=>eqD y (E h))=M)(hz:g.length<=1000/\s.length<=1000/\b.length<=1000/\o.length<=1000):gr [Y ls]=U (.ok (Q [Q g,Q s,Q b,Q o])):=by
 obtain⟨fd,x',y',e⟩:=vB hi G [] [] J J ?E rfl;simp only[Gcb,GaP] at e;have hh:iG (E h) (.kt [Sum.inr "order",Sum.inr "dose"])=U M:=by rw[<-hh];rfl
 rw[mL hi,e,ik,show tY 0 _=U ls from rfl,Option.bind_some];simp at fd;simp[rE,F7,hh,fd,a7,DQ]
def F8{ls:List D}(G:Goes d0 ls (dr h g s b o))(hi:aj ls=O)(hl:ls.length<=1000)(hh:h="order"\/h="dose"):gr [Y ls]=U (.exc 44 "place" (H ls.length)):=by
 obtain⟨fd,x',y',e⟩:=vB hi G [] [] J J ?E rfl;simp only[Gcb,GaP] at e;have hh:iG (E h) (.kt [Sum.inr "order",Sum.inr "dose"])=U O:=by rcases hh with rfl|rfl<;>decide+kernel
 rw[mL hi,e,ik,show tY 0 _=U ls from rfl,Option.bind_some];have xM :ls.length<=16777216:=by lia
 simp[rE,F7,hh,DQ,rzW]
def F9{pre:List D}(G:Goes d0 pre d)(hi:aj (pre++ E l::post)=O)(hb:fE [d,E l]=U (I M,[d'])):gr [Y (pre++ E l::post)]=U (.exc 44 "place" (H pre.length)):=by
 obtain⟨fd,x',y',e⟩:=vB hi G [] (E l::post) J J rfl rfl;simp only[Gcb] at e;rw[mL hi,e,F6 (l:=l) ?E,Qe hi fd hb]
 rfl
def fh(hw:aj ws=O):gZ (m+2) 2 [0] f [d,Y ws]=(f (U (XO d)::U (XM (Y ws))::List.replicate m J)).bind (tQ [0]):=by
 simp[gZ,DL.argsOk,GcY,hw,cO,lO,D.top]
def aU{f:mB->Option (D×List D)}{r:Option (D×List D)}(h:v e=U (.nx e'))(g:(w e').bind f=r):(aQ v w e).bind f=r:=by simp only[aQ,h,Option.bind_some,g]
def bD(h:v e=U (.ret d e'))(h0:e'[0]? =U (U (XO d')))(hf:flK d' =O):(aQ v w e).bind (tQ [0])=U (d,[d']):=by
 simp only[aQ,h];simp[kg,h0,hf]
def fS{v:DW}{e e' :DL.Env}{d d' :D}(h:v e=U (.ret d e'))(h0:e'[0]? =U (U (XO d')))(hf:flK d' =O):(v e).bind (tQ [0])=U (d,[d']):=by
 rw[h];simp[kg,h0,hf]
def Qf(h:aj [a,b,d,x]=O):aW [Q [a,b,c,d],H 2,x]=U (Q [a,b,x,d]):=by
 simp at h;simp[aW,dA,cutD,sIx,a7,h]
def Qg(h:aj [a,b,c,x]=O):aW [Q [a,b,c,d],H 3,x]=U (Q [a,b,c,x]):=by
 simp at h;simp[aW,dA,cutD,sIx,a7,h]
def Qh(h:aj [a,b,c,e,f,x]=O):aW [Q [a,b,c,d,e,f],H 3,x]=U (Q [a,b,c,x,e,f]):=by
 simp at h;simp[aW,dA,cutD,sIx,a7,h]
def JQ(h:aj [a,b,c,d,f,x]=O):aW [Q [a,b,c,d,e,f],H 4,x]=U (Q [a,b,c,d,x,f]):=by
 simp at h;simp[aW,dA,cutD,sIx,a7,h]
def Qi(h:aj [a,b,c,d,e,x]=O):aW [Q [a,b,c,d,e,f],H 5,x]=U (Q [a,b,c,d,e,x]):=by
 simp at h;simp[aW,dA,cutD,sIx,a7,h]
def MR{c ns:List D}(F:Fl g (s++[Q [x,y,Q c,a]]) b o)(hk:lkT bH (.inr k)=U lows)(hN:ax [Y ws,.kt lows]=U (Y ns))(hw:aj ws=O)(yi:aj ns=O)(nl:ns.length<100)(hl:c.length<4):
  dZ [dr h g (s++[Q [x,y,Q c,a]]) b o,Y (E k::ws)]=U (I O,[dr h g (s++[Q [x,y,Q (c++[Q (E k::ns)]),a]]) b o]):=by
 have F' :=F.s;simp at F';have l6:¬(c.length:Int)=4:=by lia
 have l1:1+ns.length<=16777216:=by lia
 have l2:c.length+1<=16777216:=by lia
 have l3:¬(ws.length:Int)+1=0:=by lia
 unfold dZ iV;rw[fh (by simp[hw])]
 iterate 6 refine aU (by simp[hk,hN,l6,F.g,F.b,F.o,F',(uc (h:=h) (d:= Q [x,y,Q (c++[Q (E k::ns)]),a]) F (by simp[F',yi])),(Qf (a:=x) (b:=y) (c:= Q c) (d:=a) (x:= Q (c++[Q (E k::ns)])) (by simp[F',yi])),a7,l1,l2,l3,hw,yi];rfl) ?_
 exact fS (by simp;rfl) rfl (by simp[F.g,F.b,F.o,F',yi])
def Fb(F:Fl g (s++[Q [x,y,z,a]]) b o)(hN:ax [Y ws,Q [H 1]]=U (Y [H i]))(hw:aj ws=O):
  cS [dr h g (s++[Q [x,y,z,a]]) b o,Y ws]=U (I O,[dr h g (s++[Q [x,y,z,H i]]) b o]):=by
 have F' :=F.s;simp at F';unfold cS gE;rw[fh hw]
 iterate 3 refine aU (by simp[hN,F.g,F.b,F.o,F',(uc (h:=h) (d:= Q [x,y,z,H i]) F _),(Qg (a:=x) (b:=y) (c:=z) (d:=a) (x:= H i) _),a7,hw];rfl) ?_
 exact fS rfl rfl (by simp[F.g,F.b,F.o,F'])
abbrev Br:=Int×Int×Int
noncomputable def de(p:Br):D:= Q [H p.1,H p.2.1,H p.2.2]
def ID(bl:List Br)(i j:Int):iG (Q [H i,H j]) (Y (bl.map λp=> Q [H p.1,H p.2.1]))=U (bl.any λp=>p.1==i&&p.2.1==j):=by
 show(if _=O then _ else J)=_;simp;congr 1
 funext p
 simp
def BM(bl:List Br)(e:DL.Env):cq (gN 0) bc (gk (ak (Xm (vE 0) (kE (H 0))) (ak (Xm (vE 0) (kE (H 1))) aM))) (bl.map de) (J::e)=U (bl.map λp=> Q [H p.1,H p.2.1]):=
 dI _ (XH:=λe=>∃x z,e=x::z) _ bl _ ⟨_,_,rfl⟩ λp _ e he=>by
  obtain⟨x,z,rfl⟩:=he;exact⟨U _::z,rfl,⟨_,_,rfl⟩,.c,by simp[de,a7],rfl⟩
def MS{eB:List Nm}{bl:List Br}(F:Fl g (eB.map d9) (bl.map de) o)(hN:ax [Y [E w],Q [H 1]]=U (Y [H k]))(hu:plD eB u= H i)(hv:plD eB v= H j)(X4:i<=j)(hl:bl.length<12)(hx:(bl.any λp=>p.1==i&&p.2.1==j)=M):
  f6 [dr h g (eB.map d9) (bl.map de) o,Y [E u,E v,E w]]=U (I O,[dr h g (eB.map d9) ((bl++[(i,j,k)]).map de) o]):=by
 have l6:¬(bl.length:Int)=12:=by lia
 have l7:bl.length<=16777216:=by lia
 have e:=MK (h:=h) (d:=de (i,j,k)) F rfl (by rw[Gav];unfold a7;lia);have c:=BM bl;have q:=ID bl i j;rw[hx] at q;have V4 :¬j<i:=by lia
 unfold f6 iY;rw[fh rfl];have e:gV 214 "bars" (kG (Q [H i,H j,H k])) (dr h g (eB.map d9) (bl.map de) o)=U (dr h g (eB.map d9) (bl.map de++[de (i,j,k)]) o):=e
 iterate 7 refine aU (by simp[hN,l6,MM,hu,hv,V4,c,q,F.g,F.s,F.b,F.o,l7,a7,DL.Xk,e];rfl) ?_
 rw[GaB];exact fS (by simp;rfl) rfl (by simp[F.g,F.s,F.b,F.o,de])
def Fc{gs eB os:List Nm}(F:Fl (gs.map d9) (eB.map d9) b (os.map d9))(hn:bT [E n]=U (I O))(hp:fT (plD os n)=O)(hl:os.length<12)(hu:plD gs u= H i)(hv:plD eB v= H j):
  cT [dr h (gs.map d9) (eB.map d9) b (os.map d9),Y [E n,E u,E v]]=U (I O,[dr h (gs.map d9) (eB.map d9) b (os.map d9++[Q [E n,H i,H j,Q [],Q [],Q []]])]):=by
 have l6:¬(os.length:Int)=12:=by lia
 unfold cT gG;rw[fh rfl]
 iterate 5 refine aU (by simp[A6 hn,hp,l6,MM,hu,hv,(EU (h:=h) (d:= Q [E n,H i,H j,Q [],Q [],Q []]) F rfl (by rw[Gav];unfold a7;lia)),a7];rfl) ?_
 exact fS rfl rfl (by simp[F.g,F.s,F.b,F.o])
def IE{g ns:List D}{n:Str}{r:D}(F:Fl g s b (o++[Q [y,z,H j,r,a,t]]))(hs:atD s j=U (Q (x:: Q (H p::ns)::tp)))(hN:ax [Y ws,Q [H 1,H 0,H p]]=U (Y [H i1,H i2,H i3]))(hw:aj ws=O)(hp:0<p/\p<=1000000000)(hk:i3<=2000*p)(hy:n="down"\/n="up"\/n="near"):
  dB [dr h g s b (o++[Q [y,z,H j,r,a,t]]),Y (E n::ws)]=U (I O,[dr h g s b (o++[Q [y,z,H j,Q [E n,H i1,H i2,H i3],a,t]])]):=by
 have F' :=F.o;simp at F';have e:=lX (h:=h) (d:= Q [y,z,H j,Q [E n,H i1,H i2,H i3],a,t]) F (by simp[F']);have l:¬2000*p<i3:=by lia
 have m:bO 2000 p=O:=by simp[bO]
 have w:ip (E n) (.kt [Sum.inr "down",Sum.inr "up",Sum.inr "near"])=U M:=by rcases hy with rfl|rfl|rfl<;>decide+kernel
 unfold dB iu;rw[fh (by simp[hw])]
 iterate 5 refine aU (by simp[hs,hN,F.g,F.s,F.b,F',e,(Qh (a:=y) (b:=z) (c:= H j) (d:=r) (e:=a) (f:=t) (x:= Q [E n,H i1,H i2,H i3]) _),l,m,w,hw,a7];rfl) ?_
 exact fS rfl rfl (by simp[F.g,F.s,F.b,F'])
def Fd(F:Fl g s b (o++[Q [x,y,z,r,a,t]]))(hN:ax [Y ws,Q [H 0]]=U (Y [H i]))(hw:aj ws=O):
  cU [dr h g s b (o++[Q [x,y,z,r,a,t]]),Y ws]=U (I O,[dr h g s b (o++[Q [x,y,z,r,Q [E "asked",H i],t]])]):=by
 have F' :=F.o;simp at F';have e:=lX (h:=h) (d:= Q [x,y,z,r,Q [E "asked",H i],t]) F (by simp[F']);unfold cU gH;rw[fh hw]
 iterate 3 refine aU (by simp[hN,F.g,F.s,F.b,F',e,(JQ (a:=x) (b:=y) (c:=z) (d:=r) (e:=a) (f:=t) (x:= Q [E "asked",H i]) _),hw,a7];rfl) ?_
 exact fS rfl rfl (by simp[F.g,F.s,F.b,F'])
def MT(F:Fl g s b (o++[Q [x,y,z,r,a,t]]))(hN:ax [Y ws,Q [H 0,H 1,H 1,H 0,H 0]]=U (Y [H i1,H i2,H i3,H i4,H i5]))(hw:aj ws=O)(hc:¬60<i3/\¬i2<=i4+i5/\¬i1<i4):
  f7 [dr h g s b (o++[Q [x,y,z,r,a,t]]),Y ws]=U (I O,[dr h g s b (o++[Q [x,y,z,r,Q [E "due",H i1,H i2,H i3,H i4,H i5],t]])]):=by
 have F' :=F.o;simp at F';have e:=lX (h:=h) (d:= Q [x,y,z,r,Q [E "due",H i1,H i2,H i3,H i4,H i5],t]) F (by simp[F']);unfold f7 iZ;rw[fh hw];simp only[Int.not_lt,Int.not_le] at hc;have c1:¬60<i3:=by lia
 have c2:¬i2<=i4+i5:=by lia
 have c3:¬i1<i4:=by lia
 iterate 6 refine aU (by simp[hN,F.g,F.s,F.b,F',e,(JQ (a:=x) (b:=y) (c:=z) (d:=r) (e:=a) (f:=t) (x:= Q [E "due",H i1,H i2,H i3,H i4,H i5]) _),hw,c1,c2,c3,a7];rfl) ?_
 exact fS rfl rfl (by simp[F.g,F.s,F.b,F'])
def pJ:List Int->Prop
 |a::b::r=>a<b/\pJ (b::r)
 |_=>True
structure qp(p:Int)(r:List Int):Prop where
 len:r.length<=7
 pos:1<=p
 ris:pJ (p::r)
 dvd:∀x∈p::r,x%p=0
 top:∀x∈p::r,1<=x/\x<=2000*p/\x<=1000000000
theorem qr:∀(a:Int) (r:List Int) (x y:Os),pJ (a::r)->∃bs:List Bool,cq (gT [0,1]) bc (bE (aw ltB (vE 0) (vE 1))) (i7 ((a::r).map H) (r.map H)) [x,y]=U (bs.map I)/\bs.all id=O/\bs.length=r.length
 |a,[],x,y,_=> ⟨[],rfl,rfl,rfl⟩
 |a,b::r,x,y,h=>by
  obtain⟨bs,e,h1,h2⟩:=qr b r (U (Z (H a))) (U (Z (H b))) h.2;refine⟨O::bs, ?_,by simp[h1],by simp[h2]⟩;have:=h.1;simp only[i7,GaI] at e⊢;simp[e,this]
theorem Aa{α:Type}:∀a (r:List α),∃l x,a::r=l++[x]/\x∈a::r
 |a,[]=> ⟨[],a,rfl,by simp⟩
 |a,b::r=>by
  obtain⟨l,x,e,h⟩:=Aa b r;exact⟨a::l,x,by rw[e];rfl,by simp at h⊢;exact .inr h⟩
def IF(S:qp p r):fX [Y ((p::r).map H)]=U (I O):=by
 obtain⟨bs,e,h1,h2⟩:=qr p r J J S.ris;have c:cq (gN 0) bc (bE (aw eqB (Xn gg (vE 0) (vE 1)) (kI 0))) ((p::r).map H) [J,U (Z (H p))]=U (((p::r).map λ_=>O).map I):=by
  rw[Gaz];refine dI _ (λe=>∃z,e=[z,U _]) _ _ _ ⟨_,rfl⟩ ?_;rintro x hx e ⟨z,rfl⟩;have:=S.dvd x hx;have pp:0<p:=S.pos;exact⟨_,rfl,⟨_,rfl⟩,.c,by simp[this,pp],rfl⟩
 have al:((p::r).map λ_=>O).all id=O:=by simp
 obtain⟨l,x,el,hx⟩:=Aa p r;have sl:=S.len;have z1:(1)<=(r.length:Int)+1:=by lia
 have z2:(r.length:Int)+1<=8:=by lia
 have m:bO 2000 p=O:=by simp[bO]
 have lx:atD ((p::r).map H) (-1)=U (H x):=by rw[el,GaB];exact rM _ _
 have s1:(i7 ((p::r).map H) (r.map H)).length<=a7:=by simp[i7,a7];lia
 have s2:((p::r).map H).length<=a7:=by simp[a7];lia
 refine bA rfl ?_;have f0:atD ((p::r).map H) 0=U _:=rfl;have cu:cutD ((p::r).map _) _ J=r.map H:=MN _ _;have ln:((p::r).map H).length=r.length+1:=by simp
 generalize hL:(p::r).map _=L at*;refine(ai (e:=[U (Z (Y L)),J,J]) ?H).trans ((ai (e:=[U (Z (Y L)),U (Z (H p)),J]) (by simp[f0])).trans ((ai (e:=[U (Z (Y L)),U (Z (H p)),U (Z (I O))]) ?_).trans ?_))
 .have zl:nI (Y L)=U _:=rfl;have VQ:nI (Y _)=U (M,r.map H):=rfl;simp[cu,zl,VQ,s1,DL.Xk,e,h1]
 .generalize hB:((p::r).map λ_=>O)=B at*;simp[s2,DL.Xk,dG,c,al,lx,m,(S.top x hx).2.1]
def n1(h:Num i)(q:l<=i):ax [Y [nD i],Q [H l]]=U (Y [H i]):=
 oR (is:=[i]) (ls:=[l]) ⟨h,q,trivial⟩ rfl rfl ?E
def n3(h:Num i)(h2:Num j)(h3:Num k)(q:l<=i)(q2:m<=j)(q3:n<=k):ax [Y [nD i,nD j,nD k],Q [H l,H m,H n]]=U (Y [H i,H j,H k]):=
 oR (is:=[i,j,k]) (ls:=[l,m,n]) ⟨h,q,h2,q2,h3,q3,trivial⟩ rfl rfl ?E
theorem jS:∀{sz},(∀x∈sz,1<=x/\x<=1000000000)->pI sz (sz.map λ_=>1)
 |[],_=>trivial
 |x::sz,h=> ⟨⟨by have:=h x ?E;lia,(h x ?E).2⟩,(h x ?E).1,jS λy hy=>h y (by simp[hy])⟩
def BN(sz:List Int):cq (gN 0) bc (kI 1) (sz.map nD) [J]=U ((sz.map λ_=>(1:Int)).map H):=by
 rw[Gaz];refine dI nD (λe=>∃z,e=[z]) _ _ _ ⟨_,rfl⟩ ?_;rintro x hx e ⟨z,rfl⟩;exact⟨_,rfl,⟨_,rfl⟩,.c,rfl,rfl⟩
def Fe{eB:List Nm}(F:Fl (eB.map d9) s b o)(hn:Nam n)(hi:Num i)(hp:fT (plD eB n)=O)(hl:eB.length<6):
  cQ [dr h (eB.map d9) s b o,Y [E n,nD i]]=U (I O,[dr h ((eB++[((n,[H i]):Nm)]).map d9) s b o]):=by
 have l6:¬(eB.length:Int)=6:=by lia
 have hN:=n1 hi hi.1;have nm:=A6 (eB:=eB) (ws:=[nD i]) (vq hn);rw[hp] at nm;unfold cQ gC;rw[fh rfl,GaB];simp only[nD] at*
 iterate 3 refine aU (by simp[hN,nm,l6,(ES (h:=h) (d:= Q [E n,H i]) F rfl (by rw[Gav];unfold a7;lia)),a7];rfl) ?_
 exact fS rfl rfl (by simp[F.g,F.s,F.b,F.o,d9])
def Ff{eB:List Nm}(F:Fl g (eB.map d9) b o)(hn:Nam n)(S:qp p r)(hl:eB.length<6)(hp:fT (plD eB n)=O):
  cR [dr h g (eB.map d9) b o,Y (E n::(p::r).map nD)]=U (I O,[dr h g ((eB++[((n,[Q ((p::r).map H),Q [],H 0]):Nm)]).map d9) b o]):=by
 have l6:¬(eB.length:Int)=6:=by lia
 have sl:=S.len;have hN:=oR (L:= Y _) (jS λx hx=> ⟨(S.top x hx).1,(S.top x hx).2.2⟩) rfl ?E (by simp;lia);have hc:=BN (p::r);have hF:=IF S;have im:=lZ (p::r);have in_:=ue (p::r);have ll:((p::r).map nD).length<=16777216:=by simp;lia
 have l2:((p::r).map H).length<=16777216:=by simp;lia
 generalize hO:((p::r).map λ_=>_).map _=Xe at*;generalize hW:(p::r).map nD=W at*;generalize hI:(p::r).map _=XJ at*;have nm:=A6 (eB:=eB) (ws:=W) (vq hn);rw[hp] at nm;unfold cR gD;rw[fh ?H,GaB]
 iterate 4 refine aU (by simp[hN,hc,hF,nm,l6,ll,(ET (h:=h) (d:= Q [E n,Q XJ,Q [],H 0]) F _ (by rw[Gav];unfold a7;lia)),a7,DL.Xk,im,in_];rfl) ?_
 exact fS rfl rfl (by simp[F.g,F.s,F.b,F.o,d9,im])
@[simp] theorem SE:(tpD t).imm=O:=rfl
@[simp] theorem rQ(ts:List (Int×Int×Int)):aj (ts.map tpD)=O:=by
 induction ts with
 |nil=>rfl
 |cons t ts ih=>simp[tpD,ih]
noncomputable def least(ts:List (Int×Int×Int)):Int:=match ts.getLast? with
 |some t=>t.1+1
 |none=>1
def ug{e:DL.Env}(ts:List (Int×Int×Int))(hl:ts.length<1000):ifE (aw gtB (bN 3) (kI 0)) (Xn af (Xm (Xm (vE 3) (unE jl (kI 1))) (kI 0)) (kI 1)) (kI 1) (x0::x1::x2::U (Z (Q (ts.map tpD)))::e)=U ⟨.c,H (least ts)⟩:=by
 rcases GcL ts with rfl| ⟨l,t,rfl⟩
 .simp[least]
 .have z:(0)<((l++[t]).length):=by simp
  have zz:l++[t]≠[]:=by simp
  have a:atD ((l++[t]).map tpD) (-1)=U (tpD t):=by rw[GaB];exact rM _ _
  have q:least (l++[t])=t.1+1:=by simp[least]
  simp[q,tpD]
def Fg{ts:List (Int×Int×Int)}(F:Fl g s b (o++[Q [x,y,z,r,Q (a1::a2::a3:: H m::al),Q (ts.map tpD)]]))(hi:Num i)(hj:Num j)(hk:Num k)(h1:least ts<=i)(h2:1<=j)(h3:j<=k)(h4:k<=1000)(h5:i<m)(hm:ts.length<6):
  cV [dr h g s b (o++[Q [x,y,z,r,Q (a1::a2::a3:: H m::al),Q (ts.map tpD)]]),Y [nD i,nD j,nD k]]=U (I O,[dr h g s b (o++[Q [x,y,z,r,Q (a1::a2::a3:: H m::al),Q ((ts++[(i,j,k)]).map tpD)]])]):=by
 have F' :=F.o;simp at F';have ti:=rQ (ts++[(i,j,k)]);have e:=lX (h:=h) (d:= Q [x,y,z,r,Q (a1::a2::a3:: H m::al),Q ((ts++[(i,j,k)]).map tpD)]) F (by simp[F']);have q:=Qi (a:=x) (b:=y) (c:=z) (d:=r) (e:= Q (a1::a2::a3:: H m::al)) (f:= Q (ts.map tpD)) (x:= Q ((ts++[(i,j,k)]).map tpD)) (by simp[F']);have c1:¬(ts.length:Int)=6:=by lia
 have c2:¬m<=i:=by lia
 have c3:¬k<j:=by lia
 have c4:¬1000<k:=by lia
 have L:=ug ts (x0:=U (XO (dr h g s b (o++[Q [x,y,z,r,Q (a1::a2::a3:: H m::al),Q (ts.map tpD)]])))) (x1:=U (XM (Y [nD i,nD j,nD k]))) (x2:=U (Z (Q [x,y,z,r,Q (a1::a2::a3:: H m::al),Q (ts.map tpD)]))) (e:=[J,J,J]) ?B;have hN:=n3 hi hj hk h1 h2 (show(1:Int)<=k by lia);have l2:ts.length+1<=16777216:=by lia
 have hw:aj [nD i,nD j,nD k]=O:=rfl;rw[GaB,show[(i,j,k)].map tpD=[Q [H i,H j,H k]] from rfl] at e q ti⊢;unfold cV gI;rw[fh hw];generalize hWW:[nD i,nD j,nD k]=W at*
 iterate 8 refine aU (by simp[L,hN,F.g,F.s,F.b,F',e,q,hw,c1,c2,c3,c4,a7,l2,-ifE,-JI];rfl) ?_
 exact fS (by simp;rfl) rfl (by simp[F.g,F.s,F.b,F'])
def jH:∀k∈hds,Wd (E k):=by
 have:(hds.all λk=>decide (32∉k.cps.toList)&&decide (k.length<=10))=O:=by decide+kernel
 intro k hk;have:=Gan.mp this k hk;rw[Gai] at this;have a:=Gar this.1;exact⟨a,Gar this.2⟩
def tkL(F:Fl g s b o)(F' :Fl g' s' b' o')(W:Wf k g' s' o')(hk:k∈hds)(hw:∀d∈ws,Wd d)(hl:ws.length<=19)(hn:nxt h k=O)(hd:IB k=U sp)
  (hr:sp [dr k g s b o,Y (ws.map λd=> E (wS d))]=U (I O,[dr k g' s' b' o'])):Tk (dr h g s b o) (gv (E k::ws)) (dr k g' s' b' o'):=by
 have a:∀d∈E k::ws,Wd d:=λd hd=>by
  rcases Gae.mp hd with rfl|hd
  .exact jH k hk
  .exact hw d hd
 have len:=F5 a (by simp;lia);refine⟨JP F (oT a ?E) ?B hn hd ?_ F'.k,F'.k,h,k,g,s,b,o,g',s',b',o',_,rfl,rfl,F',W,oT a ?E,hn,hk⟩
 rwa[Gaz]
noncomputable def guR(p:Str×Int):Nm:=(p.1,[H p.2])
def guD(p:Str×Int):D:=d9 (guR p)
instance {gs:List (Str×Int)}:NRc (gs.map guD):= .map guR gs
noncomputable def guW(p:Str×Int):List D:=[E "guest",E p.1,H p.2]
def Nam.wd(h:Nam x):Wd (E x):=⟨h.nb,by have:=h.2.1;lia⟩
def vC(h:∀p∈eB,p.1≠n):fT (plD eB n)=O:=by
 unfold plD;rw[List.findIdx?_eq_none_iff.mpr λp hp=>by simpa using h p hp]
 rfl
def Qj{eB:List Nm}{i:Nat}(h:eB[i]? =U (n,x))(hd:(eB.map (·.1)).Nodup):plD eB n= H (i:Int):=by
 unfold plD;have hi:=(Gac.mp h).1;rw[GcF.mpr ⟨hi, ?_, ?_⟩]
 .simp_all
 .intro j hj;simp only[GaU];intro q;exact List.pairwise_iff_getElem.mp hd j i (by simp;lia) ?H hj ?H
def bj{α:Type}{f:α->D}{l:List α}(h:∀x∈l,(f x).imm=O):aj (l.map f)=O:=by
 induction l with
 |nil=>rfl
 |cons x l ih=>simp[h x _,ih λy hy=>h y (by simp[hy])]
structure vD(gs:List (Str×Int)):Prop where
 len:gs.length<=6
 nd:(gs.map (·.1)).Nodup
 ok:∀p∈gs,Nam p.1/\Num p.2
theorem qu [NRc s] [NRc o](hs:aj s=O)(hb:aj b=O)(ho:aj o=O):∀(ps gs:List (Str×Int)),vD (gs++ps)->∀h:Str,h=""\/h="guest"->
  ∃h' :Str,(h' =""\/h' ="guest")/\Goes (dr h (gs.map guD) s b o) (ps.map λp=> E (gv (guW p))) (dr h' ((gs++ps).map guD) s b o)
 |[],gs,_,h,hh=> ⟨h,hh,by rw[GaP];exact .nil _⟩
 |p::ps,gs,G,h,hh=>by
  obtain⟨h',xU,T⟩:=qu hs hb ho ps (gs++[p]) ?H "guest" (.inr rfl);refine⟨h',xU, ?_⟩;rw[GaT] at T;refine .cons ?_ T;have F:Fl (gs.map guD) s b o:=⟨bj λ_ _=>rfl,hs,hb,ho⟩
  obtain⟨np,nb⟩:=G.ok p ?E;have nw:∀q∈gs.map guR,q.1≠_:=λq hq z=>by
   obtain⟨u,hu,rfl⟩:=Gay.mp hq;have:=G.nd;rw[GaB,Gcf] at this;exact this.2.2 _ (GbT hu) p.1 ?E z
  have t:=Fe (h:="guest") (by rw[Gaz];exact F) np nb (vC nw) (by have:=G.len;simp at this⊢;lia);rw[GaB,Gaz] at t;refine tkL F (⟨bj λ_ _=>rfl,hs,hb,ho⟩) .BL (by decide) (λd hd=> ?_) ?E (by rcases hh with rfl|rfl<;>decide+kernel) rfl ?_
  .simp at hd;rcases hd with rfl|rfl
   .exact np.wd
   .exact nb
  .rwa[GaB]
structure Stf where
 n:Str
 p:Int
 r:List Int
 cs:List (Str×List Int)
 y:Int
noncomputable def jI(c:Str×List Int):D:= Q (E c.1::c.2.map H)
noncomputable def m4(c:Str×List Int):List D:= E "cap":: E c.1::c.2.map H
structure qv(c:Str×List Int):Prop where
 ex:∃lows:List Int,lkT bH (.inr c.1)=U (lows.map .inl)/\pI c.2 lows
 len:c.2.length<=3
 wd:Wd (E c.1)
def stR(s:Stf):Nm:=(s.n,[Q ((s.p::s.r).map H),Q (s.cs.map jI),H s.y])
def stD(s:Stf):D:=d9 (stR s)
instance {ss:List Stf}:NRc (ss.map stD):= .map stR ss
instance {l:List D} [NRc l] {s:Stf}:NRc (l++[stD s]):=inferInstanceAs (NRc (l++[Q (E (stR s).1::(stR s).2)]))
def stW(s:Stf):List (List D):=(E "stuff":: E s.n::(s.p::s.r).map H)::(s.cs.map m4++if s.y=0 then[] else[[E "young",H s.y]])
structure pK(s:Stf):Prop where
 n:Nam s.n
 z:qp s.p s.r
 cl:s.cs.length<=4
 c:∀c∈s.cs,qv c
 y:Num s.y
def lD(ws:List D):D:= E (gv ws)
@[simp] theorem IG:(jI c).imm=O:=by simp[jI]
@[simp] theorem Fh(cs:List (Str×List Int)):aj (cs.map jI)=O:=bj λ_ _=>IG
@[simp] theorem oU:(stD s).imm=O:=by
 have:=lZ (s.p::s.r);generalize h:(s.p::s.r).map H=L at this;simp[stD,stR,d9,h,this]
def Ab(is:List Int):((is.map H).map λd=>E (wS d))=is.map nD:=by rw[Gaz];rfl
theorem m6:∀{is ls},pI is ls->∀d∈is.map H,Wd d
 |[],_,_,d,hd=>by simp at hd
 |i::is,[],h,_,_=>h.elim
 |i::is,l::ls,h,d,hd=>by
  simp only[GaI,Gae] at hd;rcases hd with rfl|hd
  .exact h.1
  .exact m6 h.2.2 d hd
def Goes.app(G:Goes d l1 d1)(G2:Goes d1 l2 d2):Goes d (l1++l2) d2:=by
 induction G with
 |nil d=>exact G2
 |cons t _ ih=>exact .cons t (ih G2)
def stE(n:Str)(p:Int)(r:List Int)(cs:List (Str×List Int))(y:Int):stD ⟨n,p,r,cs,y⟩= Q [E n,Q ((p::r).map H),Q (cs.map jI),H y]:=rfl
theorem Ac [NRc g] [NRc S] [NRc o](hg:aj g=O)(hS:aj S=O)(hb:aj b=O)(ho:aj o=O):∀(cs c0:List (Str×List Int)),(c0++cs).length<=4->(∀c∈cs,qv c)->∀h:Str,h="stuff"\/h="cap"->
  ∃h' :Str,(h' ="stuff"\/h' ="cap")/\Goes (dr h g (S++[stD ⟨n,p,r,c0,y⟩]) b o) (cs.map λc=>lD (m4 c)) (dr h' g (S++[stD ⟨n,p,r,c0++cs,y⟩]) b o)
 |[],c0,_,_,h,hh=> ⟨h,hh,by rw[GaP];exact .nil _⟩
 |c::cs,c0,hl,hc,h,hh=>by
  obtain⟨h',xU,T⟩:=Ac hg hS hb ho cs (c0++[c]) ?H (λx hx=>hc x (by simp[hx])) "cap" (.inr rfl);refine⟨h',xU, ?_⟩;rw[GaT] at T;refine .cons ?_ T;obtain⟨⟨lows,e1,e2⟩,e3,e4⟩:=hc c ?E;have F:∀c1,Fl g (S++[stD ⟨n,p,r,c1,y⟩]) b o:=λc1=> ⟨hg,by rw[iB,hS];simp,hb,ho⟩;refine tkL (F c0) (F _) ⟨NRc.h,NRc.h,NRc.h,λ_=> ⟨_,_,_,_,_,rfl⟩,λz=>absurd z (by decide+kernel),λz=>absurd z (by decide+kernel)⟩ (by decide) (λd hd=> ?_) (by simp;lia) (by rcases hh with rfl|rfl<;>decide+kernel) rfl ?_
  .rcases Gae.mp hd with rfl|hd
   .exact e4
   .exact m6 e2 d hd
  .rw[GaI,Ab,stE,stE,GaB];exact(MR (h:="cap") (F c0) e1 (oR (L:= .kt _) (b:=O) e2 (by simp[nI,kD]) (by simp[cW]) ?B) (ue _) (lZ _) (by simp;lia) (by simp at hl⊢;lia))
def Fi{ss:List Stf}{s:Stf} [NRc g] [NRc o](hg:aj g=O)(hb:aj b=O)(ho:aj o=O)(K:pK s)(hl:ss.length<6)(hn:∀q∈ss,q.n≠s.n)(hh:nxt h "stuff"=O):
  ∃h' :Str,(h' ="stuff"\/h' ="cap"\/h' ="young")/\Goes (dr h g (ss.map stD) b o) ((stW s).map lD) (dr h' g ((ss++[s]).map stD) b o):=by
 obtain⟨n,p,r,cs,y⟩:=s;have hS:aj (ss.map stD)=O:=bj λ_ _=>oU;have F0:Fl g _ b o:=⟨hg,hS,hb,ho⟩
 have F:∀c1 y1,Fl g (ss.map stD++[stD ⟨n,p,r,c1,y1⟩]) b o:=λc1 y1=> ⟨hg,by rw[iB,hS];simp,hb,ho⟩;have t1:Tk (dr h g (ss.map stD) b o) (gv (E "stuff":: E n::(p::r).map H)) (dr "stuff" g (ss.map stD++[stD ⟨n,p,r,[],0⟩]) b o):=by
  have K1:=K.z;have t:=Ff (h:="stuff") (by rw[Gaz];exact F0) K.n K1 ?H (vC λq hq=>by
   obtain⟨u,hu,rfl⟩:=Gay.mp hq;exact hn u hu)
  rw[GaB,Gaz] at t;have ln:=K1.len;refine tkL F0 (F [] 0) ⟨NRc.h,NRc.h,NRc.h,λ_=> ⟨_,_,_,_,_,rfl⟩,λz=>absurd z ?E,λz=>absurd z (by decide+kernel)⟩ (by decide) (λd hd=> ?_) (by simp;lia) hh rfl ?_
  .rcases Gae.mp hd with rfl|hd
   .exact K.n.wd
   .exact m6 (jS λx hx=> ⟨(K1.top x hx).1,(K1.top x hx).2.2⟩) d hd
  .rwa[GaI,Ab]
 obtain⟨h2,VE,T2⟩:=Ac hg hS hb ho cs [] K.cl K.c "stuff" (.inl rfl);rw[GaB,show[_].map stD=[stD ⟨n,p,r,cs,y⟩] from rfl];by_cases hy:y=0
 .subst hy;refine⟨h2,by rcases VE with z|z<;>simp[z],(.cons t1 ?_)⟩
  rwa[Gaj rfl,GaP,Gaz]
 .refine⟨"young",by simp,(.cons t1 ?_)⟩;have hy2:=K.y;rw[Gau hy,GaB,Gaz];refine T2.app (.cons ?_ (.nil _));refine tkL (F cs 0) (F cs y) .BL (by decide) (λd hd=> ?_) ?E (by rcases VE with rfl|rfl<;>decide+kernel) rfl (Fb (h:="young") (F cs 0) (n1 hy2 (by have:=hy2.1;lia)) rfl);simp at hd;subst hd;exact hy2
structure oV(ss:List Stf):Prop where
 len:ss.length<=6
 nd:(ss.map (·.n)).Nodup
 ok:∀s∈ss,pK s
theorem qw [NRc g] [NRc o](hg:aj g=O)(hb:aj b=O)(ho:aj o=O):∀ps ss,oV (ss++ps)->∀h,h∈(["","guest","stuff","cap","young"]:List Str)->
  ∃h',h' ∈(["","guest","stuff","cap","young"]:List Str)/\Goes (dr h g (ss.map stD) b o) ((ps.flatMap stW).map lD) (dr h' g ((ss++ps).map stD) b o)
 |[],ss,_,h,hh=> ⟨h,hh,by rw[GaP];exact .nil _⟩
 |p::ps,ss,K,h,hh=>by
  obtain⟨h1,Ww,T1⟩:=Fi hg hb ho (ss:=ss) (K.ok p ?E) (by have:=K.len;simp at this;lia) (λq hq z=>by
   have:=K.nd;rw[GaB,Gcf] at this;exact this.2.2 _ (GbT hq) _ ?E z) (by
   have a:∀h∈(["","guest","stuff","cap","young"]:List Str),nxt h "stuff"=O:=by decide+kernel
   exact a h hh)
  obtain⟨h',xU,T⟩:=qw hg hb ho ps (ss++[p]) ?H h1 ?H;refine⟨h',xU, ?_⟩;rw[GaT] at T;rw[GcB,GaB];exact T1.app T
def g8(ns:List Str)(i:Int):Str:=ns[i.toNat]?.getD ⟨#[]⟩
def nM(ns:List Str)(p:Br):List D:=[E "bar",E (g8 ns p.1),E (g8 ns p.2.1),H p.2.2]
structure MU(n:Nat)(p:Br):Prop where
 lo:0<=p.1
 le:p.1<=p.2.1
 hi:p.2.1<n
 g:Num p.2.2
 g1:1<=p.2.2
structure MV(n:Nat)(bs:List Br):Prop where
 len:bs.length<=12
 nd:(bs.map λp=>(p.1,p.2.1)).Nodup
 ok:∀p∈bs,MU n p
def Ad{eB:List Nm}{i:Int}(hd:(eB.map (·.1)).Nodup)(h0:0<=i)(h1:i<eB.length):plD eB (g8 (eB.map (·.1)) i)= H i:=by
 have hi:i.toNat<eB.length:=by lia
 have e:eB[i.toNat]? =U (eB[i.toNat].1,eB[i.toNat].2):=by rw[Gag hi]
 have q:g8 (eB.map (·.1)) i=eB[i.toNat].1:=by unfold g8;rw[Gam,e];rfl
 rw[q,Qj e hd];congr 1;lia
def kQ{ns:List Str}{i:Int}(h0:0<=i)(h1:i<ns.length):g8 ns i∈ns:=by
 have hi:i.toNat<ns.length:=by lia
 simp_all[g8]
@[simp] theorem Ri:(de p).imm=O:=rfl
@[simp] theorem jJ(bs:List Br):aj (bs.map de)=O:=bj λ_ _=>rfl
theorem Ae{ss:List Stf} [NRc g] [NRc o](hg:aj g=O)(ho:aj o=O)(K:oV ss):∀ps bs,MV ss.length (bs++ps)->∀h,h∈(["","guest","stuff","cap","young","bar"]:List Str)->
  ∃h',h' ∈(["","guest","stuff","cap","young","bar"]:List Str)/\Goes (dr h g (ss.map stD) (bs.map de) o) (ps.map λp=>lD (nM (ss.map (·.n)) p)) (dr h' g (ss.map stD) ((bs++ps).map de) o)
 |[],bs,_,h,hh=> ⟨h,hh,by rw[GaP];exact .nil _⟩
 |p::ps,bs,B,h,hh=>by
  obtain⟨h',xU,T⟩:=Ae hg ho K ps (bs++[p]) ?H "bar" ?E;refine⟨h',xU, ?_⟩;rw[GaT] at T;refine .cons ?_ T;obtain⟨b0,b1,b2,b3,b4⟩:=B.ok p ?E;have F:∀bs:List Br,Fl g (ss.map stD) _ o:=λbs=> ⟨hg,(bj λ_ _=>oU),jJ bs,ho⟩;have nd:((ss.map stR).map (·.1)).Nodup:=by rw[Gaz];exact K.nd
  have ns:(ss.map stR).map (·.1)=ss.map (·.n):=by rw[Gaz];rfl
  have ll:(ss.map stR).length=ss.length:=by simp
  have u:=Ad nd b0 (by rw[ll];lia);have v:=Ad nd (i:=p.2.1) ?B ?H;rw[ns] at u v;have hx:(bs.any λq=>q.1==p.1&&q.2.1==p.2.1)=M:=by
   rw[List.any_eq_false];intro q hq z;simp only[Gai,GaU] at z;have:=B.nd;rw[GaB,Gcf] at this;exact this.2.2 _ (GbT hq) (p.1,p.2.1) ?E ?H
  have t:=MS (h:="bar") (by rw[Gaz];exact F bs) (n1 b3 b4) u v b1 (by have:=B.len;simp at this;lia) hx;rw[Gaz] at t;have wd:∀i,0<=i->i<_->Wd (E (g8 _ i)):=λi h0 h1=>by
   obtain⟨q,hq,e⟩:=Gay.mp (kQ h0 (by simpa using h1));rw[<-e];exact(K.ok q hq).n.wd
  refine tkL (F bs) (F _) .BL (by decide) (λd hd=> ?_) ?E ?_ rfl t
  .simp at hd;rcases hd with rfl|rfl|rfl
   .exact wd _ b0 ?B
   .exact wd _ ?B b2
   .exact b3
  .have a:∀h∈(["","guest","stuff","cap","young","bar"]:List Str),nxt h "bar"=O:=by decide+kernel
   exact a h hh
inductive Due where
 |asked (b:Int)
 |due (b e m x y:Int)
structure Ord where
 n:Str
 g:Int
 s:Int
 w:Str
 t:Int
 p:Int
 k:Int
 d:Due
 ts:List (Int×Int×Int)
noncomputable def fG:Due->List D
 | .asked b=>[E "asked",H b]
 | .due b e m x y=>[E "due",H b,H e,H m,H x,H y]
def Fj:Due->Prop
 | .asked b=>Num b
 | .due b e m x y=>Num b/\Num e/\Num m/\Num x/\Num y/\1<=e/\1<=m/\m<=60/\x+y<e/\x<=b
def IH:Due->List (Int×Int×Int)->Prop
 | .asked _,ts=>ts=[]
 | .due _ _ m _ _,ts=>ts.length<=6/\(ts.map (·.1)).Pairwise (· < ·)/\∀t∈ts,1<=t.1/\t.1<m/\1<=t.2.1/\t.2.1<=t.2.2/\t.2.2<=1000
def orR(o:Ord):Nm:=(o.n,[H o.g,H o.s,Q [E o.w,H o.t,H o.p,H o.k],Q (fG o.d),Q (o.ts.map tpD)])
def orD(o:Ord):D:=d9 (orR o)
instance {os:List Ord}:NRc (os.map orD):= .map orR os
noncomputable def tpW(t:Int×Int×Int):List D:=[E "taper",H t.1,H t.2.1,H t.2.2]
def mM(gn sn:List Str)(o:Ord):List (List D):=[E "order",E o.n,E (g8 gn o.g),E (g8 sn o.s)]::[E "dose",E o.w,H o.t,H o.p,H o.k]::fG o.d::o.ts.map tpW
structure k6(gs:List (Str×Int))(ss:List Stf)(o:Ord):Prop where
 n:Nam o.n
 g0:0<=o.g
 g1:o.g<gs.length
 s0:0<=o.s
 s1:o.s<ss.length
 w:o.w="down"\/o.w="up"\/o.w="near"
 t:Num o.t
 t1:1<=o.t
 p:Num o.p
 k:Num o.k
 kk:∀q,ss[o.s.toNat]? =U q->q.p<=o.k/\o.k<=2000*q.p
 d:Fj o.d
 ts:IH o.d o.ts
@[simp] theorem II(d:Due):aj (fG d)=O:=by cases d<;>rfl
@[simp] theorem vF:(orD o).imm=O:=by simp[orD,orR,d9]
def n5(h:Num i1)(h2:Num i2)(h3:Num i3)(h4:Num i4)(h5:Num i5)(q2:1<=i2)(q3:1<=i3):ax [Y [nD i1,nD i2,nD i3,nD i4,nD i5],Q [H 0,H 1,H 1,H 0,H 0]]=U (Y [H i1,H i2,H i3,H i4,H i5]):=
 oR (is:=[i1,i2,i3,i4,i5]) (ls:=[0,1,1,0,0]) ⟨h,h.1,h2,q2,h3,q3,h4,h4.1,h5,h5.1,trivial⟩ rfl rfl ?E
theorem qx [NRc g] [NRc s] [NRc Xe](hg:aj g=O)(hs:aj s=O)(hb:aj b=O)(hO:aj Xe=O)(hx:aj [E xn,y,z,r]=O)(hm:m<=60):∀(ps ts:List (Int×Int×Int)),IH (.due i1 i2 m i4 i5) (ts++ps)->∀h:Str,h="due"\/h="taper"->
  ∃h' :Str,(h' ="due"\/h' ="taper")/\Goes (dr h g s b (Xe++[Q [E xn,y,z,r,Q [E "due",H i1,H i2,H m,H i4,H i5],Q (ts.map tpD)]])) (ps.map λt=>lD (tpW t)) (dr h' g s b (Xe++[Q [E xn,y,z,r,Q [E "due",H i1,H i2,H m,H i4,H i5],Q ((ts++ps).map tpD)]]))
 |[],ts,_,h,hh=> ⟨h,hh,by rw[GaP];exact .nil _⟩
 |p::ps,ts,K,h,hh=>by
  have K' :IH (.due i1 i2 m i4 i5) ((ts++[p])++ps):=by rw[GaT];exact K
  obtain⟨h',xU,T⟩:=qx hg hs hb hO hx hm ps (ts++[p]) K' "taper" (.inr rfl);refine⟨h',xU, ?_⟩;rw[GaT] at T;refine .cons ?_ T;simp only[aj,Gai,and_true] at hx;have F:∀ts:List (Int×Int×Int),Fl g s b (Xe++[Q [E xn,y,z,r,Q [E "due",H i1,H i2,H m,H i4,H i5],Q (ts.map tpD)]]):=λts=> ⟨hg,hs,hb,by simp[hO,hx]⟩;obtain⟨k1,k2,k3⟩:=K;obtain⟨a1,a2,a3,a4,a5⟩:=k3 p ?E;have ls:least ts<=p.1:=by
   unfold least;rcases GcL ts with rfl| ⟨l,t,rfl⟩
   .exact a1
   .simp only[GcM,List.getLast?_append,List.getLast?_singleton,Option.some_or];rw[GaB,GcM,GaB,List.pairwise_append] at k2;have:=k2.2.2 t.1 ?E p.1 ?E;lia
  have t:=Fg (h:="taper") (ts:=ts) (F ts) (i:=p.1) (j:=p.2.1) (k:=p.2.2) ⟨by lia,by lia⟩ ⟨by lia,by lia⟩ ⟨by lia,by lia⟩ ls a3 a4 a5 a2 (by simp at k1;lia);refine tkL (F ts) (F (ts++[p])) ⟨NRc.h,NRc.h,NRc.h,λz=>absurd z (by decide+kernel),λz=>absurd z (by decide+kernel),λ_=> ⟨_,_,_,_,_,_,_,_,_,_,ts++[p],rfl,by simp at k1⊢;lia,λt ht=>by have:=(k3 t (by rw[show ts++p::ps=ts++[p]++ps by simp];exact GcO _ ht)).1;lia⟩⟩ (by decide) (λd hd=> ?_) ?E (by rcases hh with rfl|rfl<;>decide+kernel) rfl t;simp at hd;rcases hd with rfl|rfl|rfl
  .exact⟨by lia,by lia⟩
  .exact⟨by lia,by lia⟩
  .exact⟨by lia,by lia⟩
def ie{α:Type}{l:List α}{i:Int}{x:α}(h0:0<=i)(h:l[i.toNat]? =U x):atD l i=U x:=by unfold atD;rw[Gaj h0];exact h
def Fm{gs:List (Str×Int)}{ss:List Stf}{os:List Ord}{o:Ord}(hb:aj b=O)(G:vD gs)(S:oV ss)(K:k6 gs ss o)(hl:os.length<12)(hn:∀q∈os,q.n≠o.n)(hh:nxt h "order"=O):
  ∃h' :Str,(h' ="asked"\/h' ="due"\/h' ="taper")/\Goes (dr h (gs.map guD) (ss.map stD) b (os.map orD)) ((mM (gs.map (·.1)) (ss.map (·.n)) o).map lD) (dr h' (gs.map guD) (ss.map stD) b ((os++[o]).map orD)):=by
 obtain⟨n,g,s,w,t,p,k,d,ts⟩:=o;obtain⟨kn,g0,g1,s0,s1,kw,kt,Vs,kp,kk,Vt,kd,UI⟩:=K;simp only at kn g0 g1 s0 s1 kw kt Vs kp kk Vt kd UI hn;have hg:aj (gs.map guD)=O:=bj λ_ _=>rfl;have hs:aj (ss.map stD)=O:=bj λ_ _=>oU;have ho:aj (os.map orD)=O:=bj λ_ _=>vF;have F:∀x,x.imm=O->Fl _ _ b (os.map orD++[x]):=λx hx=> ⟨hg,hs,hb,by rw[iB,ho];simp[hx]⟩;have gn:(gs.map guR).map (·.1)=gs.map (·.1):=by rw[Gaz];rfl
 have sn:(ss.map stR).map (·.1)=ss.map (·.n):=by rw[Gaz];rfl
 have u:=Ad (eB:=gs.map guR) (by rw[gn];exact G.nd) g0 ?H;have v:=Ad (eB:=ss.map stR) (by rw[sn];exact S.nd) s0 (by simpa using s1);rw[gn] at u;rw[sn] at v;have wg:Wd (E (g8 (gs.map (·.1)) g)):=by
  obtain⟨q,hq,e⟩:=Gay.mp (kQ (ns:=gs.map (·.1)) g0 (by simpa using g1));rw[<-e];exact(G.ok q hq).1.wd
 have ws:Wd (E (g8 (ss.map (·.n)) s)):=by
  obtain⟨q,hq,e⟩:=Gay.mp (kQ (ns:=ss.map (·.n)) s0 (by simpa using s1));rw[<-e];exact(S.ok q hq).n.wd
 have hi:s.toNat<ss.length:=by lia
 have eq:ss[s.toNat]? =U ss[s.toNat]:=Gag hi;generalize xw:ss[s.toNat]=q at eq;obtain⟨q1,q2⟩:=Vt q eq;have qz:=(S.ok q (GaC eq)).z;have qt:=qz.top q.p ?E;have t1:Tk (dr h (gs.map guD) (ss.map stD) b (os.map orD)) (gv [E "order",E n,E (g8 (gs.map (·.1)) g),E (g8 (ss.map (·.n)) s)]) (dr "order" (gs.map guD) (ss.map stD) b (os.map orD++[Q [E n,H g,H s,Q [],Q [],Q []]])):=by
  have t:=Fc (h:="order") (gs:=gs.map guR) (eB:=ss.map stR) (os:=os.map orR) (b:=b) (u:=g8 (gs.map (·.1)) g) (v:=g8 (ss.map (·.n)) s) (by rw[Gaz,Gaz,Gaz];exact⟨hg,hs,hb,ho⟩) (vq kn) (vC λq hq=>by
   obtain⟨u,hu,rfl⟩:=Gay.mp hq;exact hn u hu) (by simpa using hl) u v
  rw[Gaz,Gaz,Gaz] at t;refine tkL ⟨hg,hs,hb,ho⟩ (F _ rfl) ⟨NRc.h,NRc.h,NRc.h,λz=>absurd z (by decide+kernel),λ_=> ⟨_,_,_,_,_,_,_,E q.n,q.p,q.r.map H,[Q (q.cs.map jI),H q.y],rfl,ie s0 (by rw[Gam,eq];rfl),by lia,by lia⟩,λz=>absurd z (by decide+kernel)⟩ (by decide) (λd hd=> ?_) ?E hh rfl t;simp at hd;rcases hd with rfl|rfl|rfl
  .exact kn.wd
  .exact wg
  .exact ws
 have t2:Tk (dr "order" (gs.map guD) (ss.map stD) b (os.map orD++[Q [E n,H g,H s,Q [],Q [],Q []]])) (gv [E "dose",E w,H t,H p,H k]) (dr "dose" (gs.map guD) (ss.map stD) b (os.map orD++[Q [E n,H g,H s,Q [E w,H t,H p,H k],Q [],Q []]])):=by
  refine tkL (F _ rfl) (F _ rfl) .BL (by decide) (λd hd=> ?_) ?E (by decide+kernel) rfl (IE (h:="dose") (n:=w) (g:=gs.map guD) (s:=ss.map stD) (b:=b) (o:=os.map orD) (y:= E n) (z:= H g) (j:=s) (r:= Q []) (a:= Q []) (t:= Q []) (p:=q.p) (x:= E q.n) (ns:=q.r.map H) (tp:=[Q (q.cs.map jI),H q.y]) (F _ rfl) (ie s0 (by rw[Gam,eq];rfl)) (n3 kt kp kk Vs kp.1 q1) rfl ⟨by have:=qz.pos;lia,qt.2.2⟩ q2 kw);simp at hd;rcases hd with rfl|rfl|rfl|rfl
  .have a:∀w∈(["down","up","near"]:List Str),(decide (32∉w.cps.toList)&&decide (w.length<=10))=O:=by decide+kernel
   have:=a w (by simpa using kw);rw[Gai] at this;have b:=Gar this.1;exact⟨b,Gar this.2⟩
  .exact kt
  .exact kp
  .exact kk
 rw[GaB,show[(⟨n,g,s,w,t,p,k,d,ts⟩:Ord)].map orD=[Q [E n,H g,H s,Q [E w,H t,H p,H k],Q (fG d),Q (ts.map tpD)]] from rfl];cases d with
 |asked a=>
  cases(show ts=[] from UI);refine⟨"asked",.inl rfl,.cons t1 (.cons t2 (.cons (tkL (F _ rfl) (F _ rfl) .BL (by decide) (λd hd=> ?_) ?E (by decide+kernel) rfl (Fd (h:="asked") (g:=gs.map guD) (s:=ss.map stD) (b:=b) (o:=os.map orD) (x:= E n) (y:= H g) (z:= H s) (r:= Q [E w,H t,H p,H k]) (a:= Q []) (t:= Q []) (F _ rfl) (n1 kd kd.1) rfl)) (.nil _)))⟩;simp at hd;subst hd;exact kd
 |due i1 i2 i3 i4 i5=>
  obtain⟨e1,e2,e3,e4,e5,e6,e7,e8,e9,Xa⟩:=kd;obtain⟨h',xU,T⟩:=qx (g:=gs.map guD) (s:=ss.map stD) (b:=b) (Xe:=os.map orD) (xn:=n) (y:= H g) (z:= H s) (r:= Q [E w,H t,H p,H k]) (i1:=i1) (i2:=i2) (i4:=i4) (i5:=i5) hg hs hb ho rfl e8 ts [] UI "due" (.inl rfl);refine⟨h',.inr xU,.cons t1 (.cons t2 (.cons (tkL (F _ rfl) (F _ rfl) ⟨NRc.h,NRc.h,NRc.h,λz=>absurd z (by decide+kernel),λz=>absurd z (by decide+kernel),λ_=> ⟨_,_,_,_,_,_,_,_,_,_,[],rfl,by simp,λ_ h=>nomatch h⟩⟩ (by decide) (λd hd=> ?_) ?E (by decide+kernel) rfl (MT (h:="due") (g:=gs.map guD) (s:=ss.map stD) (b:=b) (o:=os.map orD) (x:= E n) (y:= H g) (z:= H s) (r:= Q [E w,H t,H p,H k]) (a:= Q []) (t:= Q []) (F _ rfl) (n5 e1 e2 e3 e4 e5 e6 e7) rfl ⟨by lia,by lia,by lia⟩)) (by rw[Gaz];exact T)))⟩;simp at hd;rcases hd with rfl|rfl|rfl|rfl|rfl<;>assumption
structure Qk(gs:List (Str×Int))(ss:List Stf)(os:List Ord):Prop where
 len:os.length<=12
 nd:(os.map (·.n)).Nodup
 ok:∀o∈os,k6 gs ss o
noncomputable abbrev ends:List Str:=["","guest","stuff","cap","young","bar","asked","due","taper"]
theorem qy{gs:List (Str×Int)}{ss:List Stf}(hb:aj b=O)(G:vD gs)(S:oV ss):∀ps os,Qk gs ss (os++ps)->∀h,h∈ends->
  ∃h',h' ∈ends/\Goes (dr h (gs.map guD) (ss.map stD) b (os.map orD)) ((ps.flatMap (mM (gs.map (·.1)) (ss.map (·.n)))).map lD) (dr h' (gs.map guD) (ss.map stD) b ((os++ps).map orD))
 |[],os,_,h,hh=> ⟨h,hh,by rw[GaP];exact .nil _⟩
 |p::ps,os,K,h,hh=>by
  obtain⟨h1,Ww,T1⟩:=Fm hb G S (os:=os) (K.ok p ?E) (by have:=K.len;simp at this;lia) (λq hq z=>by
   have:=K.nd;rw[GaB,Gcf] at this;exact this.2.2 _ (GbT hq) _ ?E z) (by
   have a:∀h∈ends,nxt h "order"=O:=by decide+kernel
   exact a h hh)
  obtain⟨h',xU,T⟩:=qy hb G S ps (os++[p]) ?H h1 ?H;refine⟨h',xU, ?_⟩;rw[GaT] at T;rw[GcB,GaB];exact T1.app T
structure Wld where
 gs:List (Str×Int)
 ss:List Stf
 bs:List Br
 os:List Ord
structure WOk(w:Wld):Prop where
 g:vD w.gs
 s:oV w.ss
 b:MV w.ss.length w.bs
 o:Qk w.gs w.ss w.os
def rR(w:Wld):D:= Q [Q (w.gs.map guD),Q (w.ss.map stD),Q (w.bs.map de),Q (w.os.map orD)]
def pL(w:Wld):List D:=(w.gs.map λp=>lD (guW p))++((w.ss.flatMap stW).map lD++((w.bs.map λp=>lD (nM (w.ss.map (·.n)) p))++(w.os.flatMap (mM (w.gs.map (·.1)) (w.ss.map (·.n)))).map lD))
def Af(w:Wld):aj (pL w)=O:=by
 unfold pL;have a:∀l:List _,aj (l.map lD)=O:=λl=>bj λ_ _=>rfl;rw[iB,iB,iB,a,a,bj (λ_ _=>rfl),bj (λ_ _=>rfl)]
 rfl
def Ql{w:Wld}(K:WOk w):∃h∈ends,Goes d0 (pL w) (dr h (w.gs.map guD) (w.ss.map stD) (w.bs.map de) (w.os.map orD)):=by
 have hg:aj (w.gs.map guD)=O:=bj λ_ _=>rfl;obtain⟨h1,e1,T1⟩:=qu (s:=[]) (b:=[]) (o:=[]) rfl rfl rfl _ [] K.g "" (.inl rfl);obtain⟨h2,e2,T2⟩:=qw (b:=[]) (o:=[]) hg rfl rfl _ [] K.s h1 (by grind);obtain⟨h3,e3,T3⟩:=Ae (o:=[]) hg rfl K.s _ [] K.b h2 (by
  have a:∀h∈(["","guest","stuff","cap","young"]:List Str),h∈(["","guest","stuff","cap","young","bar"]:List Str):=by decide+kernel
  exact a h2 e2)
 obtain⟨h4,e4,T4⟩:=qy (jJ _) K.g K.s _ [] K.o h3 (by
  have a:∀h∈(["","guest","stuff","cap","young","bar"]:List Str),h∈ends:=by decide+kernel
  exact a h3 e3)
 exact⟨h4,e4,T1.app (T2.app (T3.app T4))⟩
def MW(K:WOk w):gr [Y (pL w)]=U (.ok (rR w)):=by
 obtain⟨h4,e4,T⟩:=Ql K;have z1:=K.g.len;have z2:=K.s.len;have z3:=K.b.len;have z4:=K.o.len;refine IC T (Af w) ?_ (by simp;lia);have a:∀h∈ends,((([Sum.inr "order",Sum.inr "dose"]:List DL.Key).map kD).any λy=>eqD y (E h))=M:=by decide+kernel
 exact a h4 e4
theorem jT{α:Type}(xC:α->D)(f:α->List D)(mk:List D->Os->Os->DL.Env)(hg:∀d acc x y,g d (mk acc x y)=U (mk acc (U (Z d)) y)):∀(xs:List α) (acc:List D) (x y:Os),(acc++xs.flatMap f).length<=1000->
  (∀x∈xs,∀acc y,(acc++f x).length<=1000->∃y',body (mk acc (U (Z (xC x))) y)=U (.nx (mk (acc++f x) (U (Z (xC x))) y')))->∃x' y',Xj g body (xs.map xC) (mk acc x y)=U (.nx (mk (acc++xs.flatMap f) x' y'))
 |[],acc,x,y,_,_=> ⟨x,y,by simp⟩
 |a::xs,acc,x,y,hl,st=>by
  rw[GcB,<-GaT] at hl;obtain⟨y1,h1⟩:=st a ?E acc y (by rw[Gax] at hl;lia);obtain⟨x',y',h4⟩:=jT xC f mk hg xs _ (U (Z (xC a))) y1 hl λb hb=>st b (by simp[hb]);refine⟨x',y', ?_⟩;simp_all
theorem m7{α β:Type}{f:α->List β}{k:Nat}:∀{xs:List α},(∀x∈xs,(f x).length<=k)->(xs.flatMap f).length<=xs.length*k
 |[],_=>by simp
 |x::xs,h=>by
  have:=m7 λy hy=>h y (Gaw x hy);have:=h x ?E;simp only[GcB,Gax,GaF];lia
def Fo(K:pK s):(stW s).length<=6:=by
 have:=K.cl;unfold stW;split<;>simp<;>lia
def Fp(K:k6 gs ss o):(mM a b o).length<=9:=by
 have:o.ts.length<=6:=by
  have:=K.ts;cases h:o.d with
  |asked b=>rw[h] at this;rw[show _=[] from this];simp
  |due _ _ _ _ _=>rw[h] at this;exact this.1
 simp[mM];lia
def Ag(K:WOk w):(pL w).length<=200:=by
 have z1:=K.g.len;have z2:=K.s.len;have z3:=K.b.len;have z4:=K.o.len;have f1:=m7 (f:=stW) λs hs=>Fo (K.s.ok s hs);have f2:=m7 (f:=mM (w.gs.map (·.1)) (w.ss.map (·.n))) λs hs=>Fp (K.o.ok s hs);simp only[pL,Gax,Gav];lia
def JR(n:Str)(hx:n.length<=1000):∃q,bT [E n]=U (I q)/\(n.length=0\/8<n.length\/n.cps.toList.all (λc=>decide (97<=c)&&decide (c<=122))=M->q=M):=by
 have hm:=rP (x:=n) (y:=Str.ofString "abcdefghijklmnopqrstuvwxyz") (by unfold a7;lia);rw[show _=_ from funext A8] at hm;have hL:cW [E n]=U ⟨.c,H n.length⟩:=by rw[cy,Gaj (by unfold a7;lia)]
 generalize (n.cps.toList.all λc=>decide (97<=c)&&decide (c<=122))=B at*;refine⟨decide (1<=(n.length:Int))&&(decide ((n.length:Int)<=8)&&B), ?_, ?_⟩
 .unfold bT;unfold jP;generalize (n.length:Int)=L at*;by_cases c1:1<=L
  .by_cases c2:L<=8
   .simp[hL,hm,c1,c2]
   .simp[hL,c2]
  .simp[hL,c1]
 .rintro(q|q|q)
  .simp_all
  .simp[show¬(n.length:Int)<=8 by lia]
  .simp[q]
def MX(hg:NR g)(ws:List Str)(hw:∀w∈ws,w.length<=1000):∃q,b9 [Y g,Y (ws.map E)]=U (I q)/\((∀n r,ws=n::r->bT [E n]=U (I M))->q=M):=by
 obtain⟨eB,rfl⟩:=hg;cases ws with
 |nil=>
  refine⟨M, ?_,λ_=>rfl⟩;simp[b9,dw]
 |cons n r=>
  obtain⟨q,hq,_⟩:=JR n (hw n ?E);cases q with
  |false=>
   refine⟨M, ?_,λ_=>rfl⟩;simp_all[b9,dw]
  |true=>exact⟨_,A6 hq,λz=>by have:=z n r rfl;rw[hq] at this;cases this⟩
section
variable{ws:List Str}
def Fq(F:Fl g s b o)(hN:ax [Y (ws.map E),Q [H 1]]=U XN):cS [dr h g s b o,Y (ws.map E)]=U (I M,[dr h g s b o]):=by
 unfold cS gE;rw[fh (aH ws)];have im:=aH ws;exact aU (by simp[hN,a7];rfl) (bD rfl rfl F.k)
def Fs(F:Fl g s b o)(hN:ax [Y (ws.map E),Q [H 0]]=U XN):cU [dr h g s b o,Y (ws.map E)]=U (I M,[dr h g s b o]):=by
 unfold cU gH;rw[fh (aH ws)];have im:=aH ws;exact aU (by simp[hN,a7];rfl) (bD rfl rfl F.k)
def Ah(W:List D):cutD W (U 1) J=W.drop 1:=by
 cases W with
 |nil=>rfl
 |cons x W=>exact MN x W
def Qm(W:List D):cutD W (U 2) J=W.drop 2:=by
 match W with
 |[]=>rfl
 |[x]=>rfl
 |x::y::W=>exact SA x y W
def Ft(F:Fl g s b o)(hN:ax [Y ((ws.map E).drop 1),Q [H 0]]=U d)(hd:d= XN\/∃is:List Int,d= Y (is.map H))(hq:b9 [Y g,Y (ws.map E)]=U (I q))(hb:q=M\/d= XN):cQ [dr h g s b o,Y (ws.map E)]=U (I M,[dr h g s b o]):=by
 unfold cQ gC;rw[fh (aH ws)];have im:=aH ws;rw[<-Ah] at hN;rcases hd with rfl| ⟨is,rfl⟩
 .refine aU (by simp[hN,a7];rfl) ?_;exact bD (by by_cases l6:(g.length)=6<;>cases q<;>simp[hq]<;>rfl) rfl F.k
 .have hb:=hb.resolve_right ?E;subst hb;refine aU (by simp[hN,a7];rfl) ?_;exact bD (by by_cases l6:(g.length)=6<;>simp[hq]<;>rfl) rfl F.k
def MY(W:List D):cq (gN 0) bc (kI 1) W [J]=U ((W.map λ_=>(1:Int)).map H):=by
 have:=dI (g:=gN 0) (f:=kI 1) (λd:D=>d) (λe=>∃z,e=[z]) _ W [J] ⟨_,rfl⟩ (by
  rintro x hx e ⟨z,rfl⟩;exact⟨_,rfl,⟨_,rfl⟩,.c,rfl,rfl⟩)
 rw[List.map_id'] at this;rw[this,Gaz]
 rfl
def MZ(F:Fl g s b o)(hN:ax [Y ((ws.map E).drop 2),Q [H 1]]=U XN):f6 [dr h g s b o,Y (ws.map E)]=U (I M,[dr h g s b o]):=by
 unfold f6 iY;rw[fh (aH ws)];have im:=aH ws;rw[<-Qm] at hN;refine aU (by simp[hN,a7];rfl) ?_;exact bD (by by_cases l6:(b.length)=12<;>simp<;>rfl) rfl F.k
def Fu(F:Fl g s b o)(hq:b9 [Y o,Y (ws.map E)]=U (I q))(hb:q=M\/ws.length≠3):cT [dr h g s b o,Y (ws.map E)]=U (I M,[dr h g s b o]):=by
 unfold cT gG;rw[fh (aH ws)];have im:=aH ws;have hb:q=M\/¬((ws.map E).length:Int)=3:=hb.imp id λz=>by simp;lia
 generalize ws.map _=W at*;refine bD (e' :=[U _,U (XM (Y W)),J,J]) ?_ rfl F.k;by_cases l6:(o.length:Int)=12
 .simp[l6]
 .cases q with
  |false=>simp[hq]
  |true=>
   simp_all
def N3(F:Fl g (s++[Q [x,y,Q c,a]]) b o)(hb:∀k r,ws=k::r->lkT bH (.inr k)=J\/∃lows,lkT bH (.inr k)=U lows/\ax [Y (r.map E),.kt lows]=U XN):dZ [dr h g (s++[Q [x,y,Q c,a]]) b o,Y (ws.map E)]=U (I M,[dr h g (s++[Q [x,y,Q c,a]]) b o]):=by
 have F' :=F.s;unfold dZ iV;rw[fh (aH ws)];have im:=aH ws;refine aU (by simp[im,F.g];rfl) ?_;cases ws with
 |nil=>exact bD (by by_cases l6:(c.length)=4<;>simp[l6]<;>rfl) rfl F.k
 |cons k r=>
  have l3:¬(r.length:Int)+1=0:=by lia
  rcases hb k r rfl with hk| ⟨lows,hk,hN⟩
  .exact bD (by by_cases l6:(c.length)=4<;>simp[l6,l3,hk]<;>rfl) rfl F.k
  .by_cases l6:(c.length:Int)=4
   .exact bD (by simp[l6];rfl) rfl F.k
   .exact aU (by simp[l6,l3,hk];rfl) (aU (by simp[hk,hN,im,a7];rfl) (bD (by simp;rfl) rfl F.k))
def N4(F:Fl g s b o)(hN:ax [Y (ws.map E),Q [H 0,H 1,H 1,H 0,H 0]]=U d)(hd:d= XN\/∃i1 i2 i3 i4 i5:Int,d= Y [H i1,H i2,H i3,H i4,H i5]/\(60<i3\/i2<=i4+i5\/i1<i4)):f7 [dr h g s b o,Y (ws.map E)]=U (I M,[dr h g s b o]):=by
 unfold f7 iZ;rw[fh (aH ws)];have im:=aH ws;rcases hd with rfl| ⟨i1,i2,i3,i4,i5,rfl,hc⟩
 .exact aU (by simp[hN,a7];rfl) (bD rfl rfl F.k)
 .iterate 4 refine aU (by simp[hN,a7];rfl) ?_
  exact bD (by by_cases c1:60<i3<;>by_cases c2:i2<=i4+i5<;>by_cases c3:i1<i4<;>first|lia|(simp[c1,c2,c3];try rfl)) rfl F.k
end
section
variable{ws:List Str}
def Fv(F:Fl g s b o)(hl:ws.length<100)(hN:ax [Y ((ws.map E).drop 1),Y ((((ws.map E).drop 1).map λ_=>(1:Int)).map H)]=U d)(hd:d= XN\/∃is:List Int,d= Y (is.map H)/\(q=M\/fX [d]=U (I M)))(hq:b9 [Y s,Y (ws.map E)]=U (I q)):cR [dr h g s b o,Y (ws.map E)]=U (I M,[dr h g s b o]):=by
 unfold cR gD;rw[fh (aH ws)];have im:=aH ws;have ll:(ws.map E).length<100:=by simpa using hl
 generalize ws.map _=W at*;have hc:=MY (W.drop 1);rw[<-Ah] at hN hc;have lc:(cutD W (U 1) J).length<=16777216:=by rw[Ah];simp;lia
 generalize hX:cutD W _ J=X at*;generalize hO:(X.map λ_=>_).map _=Xe at*;rcases hd with rfl| ⟨is,rfl,hb⟩
 .refine aU (by simp[hN,hX,hc,lc,a7,DL.Xk];rfl) ?_;by_cases l6:(s.length:Int)=6
  .exact bD (by simp[l6];rfl) rfl F.k
  .cases q with
   |false=>exact bD (by simp[hq];rfl) rfl F.k
   |true=>
    exact aU (by simp[hq,l6];rfl) (bD rfl rfl F.k)
 .refine aU (by simp[hN,hX,hc,lc,a7,DL.Xk];rfl) ?_;by_cases l6:(s.length:Int)=6
  .exact bD (by simp[l6];rfl) rfl F.k
  .cases q with
   |false=>exact bD (by simp[hq];rfl) rfl F.k
   |true=>
    exact aU (by simp[hq,l6];rfl) (bD (by simp[(hb.resolve_left _)];rfl) rfl F.k)
def IJ{g:List D}{r:D}{ns:List D}(F:Fl g s b (o++[Q [y,z,H j,r,a,t]]))(hs:atD s j=U (Q (x:: Q (H p::ns)::tp)))(hN:ax [Y ((ws.map E).drop 1),Q [H 1,H 0,H p]]=U d)(hd:d= XN\/∃i1 i2 i3:Int,d= Y [H i1,H i2,H i3]/\∃k r,ws=k::r/\ip (E k) (.kt [Sum.inr "down",Sum.inr "up",Sum.inr "near"])=U O):dB [dr h g s b (o++[Q [y,z,H j,r,a,t]]),Y (ws.map E)]=U (I M,[dr h g s b (o++[Q [y,z,H j,r,a,t]])]):=by
 unfold dB iu;rw[fh (aH ws)];have im:=aH ws;rw[<-Ah] at hN;rcases hd with rfl| ⟨i1,i2,i3,rfl,k,r',rfl,hk⟩
 .iterate 3 refine aU (by simp[hs,hN,F.g,F.s,F.b,a7];rfl) ?_
  exact bD rfl rfl F.k
 .rw[GaI] at*;rw[MN] at hN
  iterate 3 refine aU (by simp[hs,hN,F.g,F.s,F.b,F.o,(aH r'),a7];rfl) ?_
  exact bD (by simp[hk,orB];rfl) rfl F.k
def Fw{ts:List (Int×Int×Int)}(F:Fl g s b (o++[Q [x,y,z,r,Q (a1::a2::a3:: H m::al),Q (ts.map tpD)]]))(hl:ts.length<1000)(hN:ax [Y (ws.map E),Q [H (least ts),H 1,H 1]]=U d)(hd:d= XN\/∃i1 i2 i3:Int,d= Y [H i1,H i2,H i3]/\(i3<i2\/1000<i3)):cV [dr h g s b (o++[Q [x,y,z,r,Q (a1::a2::a3:: H m::al),Q (ts.map tpD)]]),Y (ws.map E)]=U (I M,[dr h g s b (o++[Q [x,y,z,r,Q (a1::a2::a3:: H m::al),Q (ts.map tpD)]])]):=by
 have F' :=F.o;simp at F';have fk:=F.k (h:=h);unfold cV gI;rw[fh (aH ws)];have im:=aH ws
 iterate 2 refine aU (by simp[F.g,F.s,F.b,F',im,a7];rfl) ?_
 refine aU (by simp[(ug ts (x0:=U _) (x1:=U _) (x2:=U _) (e:=[J,J,J]) hl),-ifE,-JI];rfl) ?_;rcases hd with rfl| ⟨i1,i2,i3,rfl,hc⟩
 .refine aU (by simp[hN,im,a7];rfl) ?_;exact bD (by by_cases l6:(ts.length:Int)=6<;>simp[l6]<;>rfl) rfl fk
 .refine aU (by simp[hN,im,a7];rfl) ?_;by_cases l6:(ts.length:Int)=6
  .exact bD (by simp[l6];rfl) rfl fk
  .refine aU (by simp[l6];rfl) (aU (by simp;rfl) ?_);exact bD (by by_cases c1:m<=i1<;>by_cases c2:i3<i2<;>by_cases c3:1000<i3<;>first|lia|(simp[c1,c2,c3];try rfl)) rfl fk
end
def jh:List Str->Bool
 |[]=>O
 |n::_=>match bT [E n] with
  |some (I M)=>O
  |_=>M
def szB:Option (List Int)->Bool
 |none=>O
 |some is=>match fX [Y (is.map H)] with
  |some (I M)=>O
  |_=>M
def uh:List Str->Bool
 |[]=>O
 |k::r=>if k="flat" then(aG r [1,1]).isNone else if k="kilo" then(aG r [1,1,1]).isNone else if k="ever" then(aG r [1]).isNone else O
noncomputable def BO:List Str->Bool
 |[]=>O
 |k::_=> !(["down","up","near"]:List Str).contains k
noncomputable def vG:Option (List Int)->Bool
 |some [i1,i2,i3,i4,i5]=>decide (60<i3)||decide (i2<=i4+i5)||decide (i1<i4)
 |_=>O
noncomputable def vH:Option (List Int)->Bool
 |some [_,i2,i3]=>decide (i3<i2)||decide (1000<i3)
 |_=>O
def cK(k:Str)(ws:List Str):Bool:=
 if k="guest" then jh ws||(aG (ws.drop 1) [0]).isNone else if k="stuff" then jh ws||szB (aG (ws.drop 1) ((ws.drop 1).map λ_=>1)) else if k="cap" then uh ws else if k="young" then(aG ws [1]).isNone else if k="bar" then(aG (ws.drop 2) [1]).isNone
 else if k="order" then jh ws||ws.length !=3 else if k="dose" then(aG (ws.drop 1) [1,0,1]).isNone||BO ws else if k="asked" then(aG ws [0]).isNone else if k="due" then vG (aG ws [0,1,1,0,0]) else if k="taper" then vH (aG ws [1,1,1]) else O
theorem oW:∀{ws ls ms is},aG ws ms=U is->ls.length=ms.length->(∀p∈ls.zip ms,p.1<=p.2)->aG ws ls=U is
 |[],[],[],is,h,_,_=>h
 |[],[],_::_,_,_,z,_=>nomatch z
 |[],_::_,[],_,_,z,_=>nomatch z
 |[],_::_,_::_,_,h,_,_=>nomatch h
 |_::_,[],[],_,h,_,_=>nomatch h
 |_::_,[],_::_,_,_,z,_=>nomatch z
 |_::_,_::_,[],_,_,z,_=>nomatch z
 |w::ws,l::ls,m::ms,is,h,z,p=>by
  unfold aG at h⊢;obtain⟨i,hi,h⟩:=Gbl.mp h;rw[hi,Option.bind_some];have:=p (l,m) ?E;split at h
  .obtain⟨js,h2,rfl⟩:=Gaa.mp h;rw[Gaj ?B,oW h2 ?H λq hq=>p q (by simp[hq])]
   rfl
  .cases h
def N5(hh:h∈(""::hds:List Str))(hn:nxt h k=O):k∈hds:=by
 have all:∀h∈(""::hds:List Str),∀ks,lkT fC (.inr h)=U ks->∀x∈ks,∃y∈hds,x= .inr y:=by decide+kernel
 unfold nxt at hn;cases e:lkT fC _ with
 |none=>rw[e] at hn;cases hn
 |some ks=>
  rw[e] at hn;obtain⟨y,hy,q⟩:=GcI.mp hn;obtain⟨x,hx,rfl⟩:=Gay.mp hy;obtain⟨z,hz,rfl⟩:=all h hh ks e x hx;have:z=k:=by simpa[kD] using q
  rwa[<-this]
def Qn{line:Str}(F:Fl g s b o)(hs:Txt.split line " "=k::ws)(hl:line.length<1000)(hh:h∈(""::hds:List Str))(hn:nxt h k=M):fE [dr h g s b o,E line]=U (I M,[dr h g s b o]):=by
 have all:∀h∈(""::hds:List Str),(lkT fC (.inr h)).isSome=O:=by decide+kernel
 unfold nxt at hn;cases z:lkT fC _ with
 |none=>have:=all h hh;rw[z] at this;cases this
 |some ks=>
  rw[z] at hn;have m:=vA (k:=k) (ks:=ks);simp only at hn;rw[hn] at m;have w:=aH ws;unfold fE rL;rw[JN,dS (e' :=[U (XO (dr h g s b o)),U (Z (E line)),U (C (Y (E k::ws.map E))),J,J]) (by simp[(jF hs hl)]),dS (e' :=[U (XO (dr h g s b o)),U (Z (E line)),U (C (Y (E k::ws.map _))),U (Z (E k)),J]) rfl];exact bD (e' :=[U _,U (Z (E line)),U (C (Y (E k::ws.map E))),U (Z (E k)),J]) ?H rfl (F.k (h:=h))
def Fx(x:Option (List Int)):oS x= XN\/∃is:List Int,oS x= Y (is.map H):=by
 cases x with
 |none=>exact .inl rfl
 |some is=>exact .inr ⟨is,rfl⟩
def isN{x:Option (List Int)}(h:x.isNone=O):oS x= XN:=by
 cases x with
 |none=>rfl
 |some _=>cases h
def rS(h:jh ws=O):∀n r,ws=n::r->bT [E n]=U (I M):=by
 rintro n r rfl;unfold jh at h;simp only at h;split at h
 .assumption
 .cases h
theorem m8:∀{ws ls is},aG ws ls=U is->is.length=ls.length
 |[],[],_,h=>by cases h;rfl
 |[],_::_,_,h=>nomatch h
 |_::_,[],_,h=>nomatch h
 |w::ws,l::ls,is,h=>by
  obtain⟨i,_,h⟩:=Gbl.mp h;split at h
  .obtain⟨js,h2,rfl⟩:=Gaa.mp h;rw[GaF,GaF,m8 h2]
  .cases h
def il3{is:List Int}(h:is.length=3):∃i1 i2 i3,is=[i1,i2,i3]:=by
 match is,h with
 |[i1,i2,i3],_=>exact⟨i1,i2,i3,rfl⟩
def il5{is:List Int}(h:is.length=5):∃i1 i2 i3 i4 i5,is=[i1,i2,i3,i4,i5]:=by
 match is,h with
 |[i1,i2,i3,i4,i5],_=>exact⟨i1,i2,i3,i4,i5,rfl⟩
def uk{l:Str}{ws:List Str}(W:Wd8 d)(hs:Txt.split l " "=k::ws)(hl:l.length<1000)(hw:∀w∈ws,w.length<=1000)(hn:ws.length<100)(hb:cK k ws=O):∃d',fE [d,E l]=U (I M,[d']):=by
 obtain⟨h,g,s,b,o,rfl,F,W,hh⟩:=W;cases nx:nxt h k with
 |false=>exact⟨_,Qn F hs hl hh nx⟩
 |true=>
  have hk:=N5 hh nx;have yE:∀w∈ws.drop 1,_<=1000:=λw q=>hw w (Gbw q);have l1:(ws.drop 1).length<100:=by simp;lia
  have l2:(ws.drop 2).length<100:=by simp;lia
  have md:∀n,(ws.drop n).map _=(ws.map E).drop n:=λn=>by rw[Gdf]
  have go:∀{sp},IB k=U sp->sp [dr k g s b o,Y _]=U (I M,[dr k g s b o])->∃d',fE [dr h g s b o,E l]=U (I M,[d']):=λhd hr=> ⟨_,JP F hs hl nx hd hr F.k⟩;unfold hds at hk;simp only[Gae,Gao,GaQ] at hk;rcases hk with rfl|rfl|rfl|rfl|rfl|rfl|rfl|rfl|rfl|rfl
  .have hb:jh ws=O\/(aG (ws.drop 1) [0]).isNone=O:=by simpa[cK] using hb
   obtain⟨q,hq,yb⟩:=MX W.rg ws hw;have n:=jE (ls:=[0]) (L:= Q [H 0]) (b:=O) rfl rfl yE l1;rw[md] at n;exact go rfl (Ft F n (Fx _) hq (hb.imp (λz=>yb (rS z)) isN))
  .have hb:jh ws=O\/szB (aG (ws.drop 1) ((ws.drop 1).map λ_=>1))=O:=by
    have e:¬(Str.ofString "stuff"=Str.ofString "guest"):=by decide+kernel
    simpa[cK,e] using hb
   obtain⟨q,hq,yb⟩:=MX W.rs ws hw;have n:=jE (ls:=(ws.drop 1).map λ_=>1) (L:= Y (((ws.drop 1).map λ_=>(1:Int)).map H)) (b:=M) rfl ?E yE l1;have e:((ws.map E).drop 1).map (λ_=>(1:Int))=(ws.drop 1).map λ_=>(1:Int):=by rw[<-md,Gaz];rfl
   rw[md] at n;refine go rfl (Fv F hn (by rw[e];exact n) ?_ hq);cases z:aG (ws.drop 1) ((ws.drop 1).map λ_=>1) with
   |none=>exact .inl rfl
   |some is=>
    refine .inr ⟨is,rfl,hb.imp (λz=>yb (rS z)) λy=> ?_⟩;rw[z] at y;unfold szB at y;simp only at y;split at y
    .assumption
    .cases y
  .have hb:uh ws=O:=(show cK "cap" ws=uh ws by kernel_rfl)▸hb;have c:∀h∈(""::hds:List Str),nxt h "cap"=O->h="stuff"\/h="cap":=by decide+kernel
   obtain⟨s0,x,y,c,a,rfl⟩:=W.cap (c h hh nx);refine go rfl (N3 F λk r e=> ?_);subst e;have hr:∀w∈r,w.length<=1000:=λw q=>hw w (by simp[q]);have lr:r.length<100:=by simp at hn;lia
   unfold uh at hb;simp only at hb;split at hb
   .rename_i e;subst e;exact .inr ⟨_,rfl,by rw[jE (ls:=[1,1]) (b:=O) rfl rfl hr lr,isN hb]⟩
   .split at hb
    .rename_i e;subst e;exact .inr ⟨_,rfl,by rw[jE (ls:=[1,1,1]) (b:=O) rfl rfl hr lr,isN hb]⟩
    .split at hb
     .rename_i e;subst e;exact .inr ⟨_,rfl,by rw[jE (ls:=[1]) (b:=O) rfl rfl hr lr,isN hb]⟩
     .rename_i e1 e2 e3;exact .inl ((λk a b c=>by simp[lkT,bH,GaG a,GaG b,GaG c,a,b,c]) k e1 e2 e3)
  .have n:=jE (ls:=[1]) (L:= Q [H 1]) (b:=O) rfl rfl hw hn;rw[isN ((show cK "young" ws=(aG ws [1]).isNone by kernel_rfl)▸hb)] at n;exact go rfl (Fq F n)
  .have n:=jE (ls:=[1]) (L:= Q [H 1]) (b:=O) rfl rfl (λw q=>hw w (Gbw q)) l2;rw[isN ((show cK "bar" ws=(aG (ws.drop 2) [1]).isNone by kernel_rfl)▸hb),md] at n;exact go rfl (MZ F n)
  .have hb:(jh ws||ws.length !=3)=O:=(show cK "order" ws=(jh ws||ws.length !=3) by kernel_rfl)▸hb;obtain⟨q,hq,yb⟩:=MX W.ro ws hw;rw[GaW] at hb;exact go rfl (Fu F hq (hb.imp (λz=>yb (rS z)) λz=>by simpa using z))
  .have hb:((aG (ws.drop 1) [1,0,1]).isNone||BO ws)=O:=(show cK "dose" ws=((aG (ws.drop 1) [1,0,1]).isNone||BO ws) by kernel_rfl)▸hb;have c:∀h∈(""::hds:List Str),nxt h "dose"=O->h="order":=by decide+kernel
   obtain⟨o0,y,z,j,r,a,t,x,p,ns,tp,rfl,yz,p0,p1⟩:=W.Ta (c h hh nx);have n:=jE (ls:=[1,0,p]) (L:= Q [H 1,H 0,H p]) (b:=O) rfl rfl yE l1;rw[md] at n;refine go rfl (IJ F yz n ?_);cases e:aG (ws.drop 1) [1,0,p] with
   |none=>exact .inl rfl
   |some is=>
    rw[(oW (ls:=[1,0,1]) e rfl (by simp;lia)),Option.isNone_some,Bool.false_or] at hb;obtain⟨i1,i2,i3,rfl⟩:=il3 (m8 e);refine .inr ⟨i1,i2,i3,rfl, ?_⟩;cases ws with
    |nil=>exact absurd (jQ e) ?E
    |cons k r=>
     refine⟨k,r,rfl, ?_⟩;have hb:¬k="down"/\¬k="up"/\¬k="near":=by simpa[BO] using hb
     rw[vA];simp[kD,hb,GaG hb.1,GaG hb.2.1,GaG hb.2.2]
  .have n:=jE (ls:=[0]) (L:= Q [H 0]) (b:=O) rfl rfl hw hn;rw[isN ((show cK "asked" ws=(aG ws [0]).isNone by kernel_rfl)▸hb)] at n;exact go rfl (Fs F n)
  .have hb:vG (aG ws [0,1,1,0,0])=O:=(show cK "due" ws=vG (aG ws [0,1,1,0,0]) by kernel_rfl)▸hb;refine go rfl (N4 F (jE (ls:=[0,1,1,0,0]) (L:= Q [H 0,H 1,H 1,H 0,H 0]) (b:=O) rfl rfl hw hn) ?_);cases e:aG ws [0,1,1,0,0] with
   |none=>exact .inl rfl
   |some is=>
    obtain⟨i1,i2,i3,i4,i5,rfl⟩:=il5 (m8 e);rw[e] at hb;exact .inr ⟨i1,i2,i3,i4,i5,rfl,by simpa[vG,or_assoc] using hb⟩
  .have hb:vH (aG ws [1,1,1])=O:=(show cK "taper" ws=vH (aG ws [1,1,1]) by kernel_rfl)▸hb;have c:∀h∈(""::hds:List Str),nxt h "taper"=O->h="due"\/h="taper":=by decide+kernel
   obtain⟨o0,x,y,z,r,a1,a2,a3,m,al,ts,rfl,tl,t0⟩:=W.tap (c h hh nx);refine go rfl (Fw F tl (jE (ls:=[least ts,1,1]) (L:= Q [H (least ts),H 1,H 1]) (b:=O) rfl rfl hw hn) ?_);cases e:aG ws [least ts,1,1] with
   |none=>exact .inl rfl
   |some is=>
    obtain⟨i1,i2,i3,rfl⟩:=il3 (m8 e);refine .inr ⟨i1,i2,i3,rfl, ?_⟩;have ll:1<=least ts:=by
     unfold least;cases q:ts.getLast? with
     |none=>exact Int.le_refl _
     |some t=>have:=t0 t (List.mem_of_getLast? q);simp only;lia
    rw[(oW (ls:=[1,1,1]) e rfl (by simp;lia))] at hb
    simpa[vH] using hb
def Fy(l:Str):Bool:=decide (l.length<100)&&match Txt.split l " " with
 |k::ws=>cK k ws&&decide (ws.length<100)&&ws.all λw=>decide (w.length<=1000)
 |[]=>M
def Qo(i:Nat):Bool:=match d8 [H i] with
 |some (E l)=>Fy l
 |_=>M
def IK:∀i<72,Qo i=O:=by decide+kernel
def iO(l:Str):Prop:=∀d,Wd8 d->∃d',fE [d,E l]=U (I M,[d'])
def Fz(h:Fy l=O):iO l:=λd W=>by
 unfold Fy at h;rw[Gai] at h;obtain⟨h1,h2⟩:=h;split at h2
 .rename_i k ws e;simp only[Gai,GbM] at h2;exact uk W e ?B (λw hw=>by simpa using Gan.mp h2.2 w hw) h2.1.2 h2.1.1
 .cases h2
def JS(h0:0<=i)(h1:i<72):∃l,d8 [H i]=U (E l)/\iO l:=by
 obtain⟨n,rfl⟩:=Gbm h0;have:=IK n ?B;unfold Qo at this;split at this
 .rename_i l e;exact⟨l,e,Fz this⟩
 .cases this
def qv.wds(K:qv c):∀d∈m4 c,Wd d:=λd hd=>by
 obtain⟨⟨lows,_,e2⟩,_,e4⟩:=K;rcases Gae.mp hd with rfl|hd
 .exact jH "cap" (by decide)
 .rcases Gae.mp hd with rfl|hd
  .exact e4
  .exact m6 e2 d hd
def pK.wds{s:Stf}(K:pK s):∀d∈(E "stuff":: E s.n::(s.p::s.r).map H:List D),Wd d:=λd hd=>by
 rcases Gae.mp hd with rfl|hd
 .exact jH "stuff" (by decide)
 .rcases Gae.mp hd with rfl|hd
  .exact K.n.wd
  .exact m6 (jS λx hx=> ⟨(K.z.top x hx).1,(K.z.top x hx).2.2⟩) d hd
def k6.w1{o:Ord}(G:vD gs)(S:oV ss)(K:k6 gs ss o):∀d∈([E "order",E o.n,E (g8 (gs.map (·.1)) o.g),E (g8 (ss.map (·.n)) o.s)]:List D),Wd d:=λd hd=>by
 simp at hd;rcases hd with rfl|rfl|rfl|rfl
 .exact jH "order" (by decide)
 .exact K.n.wd
 .obtain⟨q,hq,e⟩:=Gay.mp (kQ K.g0 (by simpa using K.g1));rw[<-e];exact(G.ok q hq).1.wd
 .obtain⟨q,hq,e⟩:=Gay.mp (kQ K.s0 (by simpa using K.s1));rw[<-e];exact(S.ok q hq).n.wd
def k6.w2{o:Ord}(K:k6 gs ss o):∀d∈([E "dose",E o.w,H o.t,H o.p,H o.k]:List D),Wd d:=λd hd=>by
 have a:∀w∈(["down","up","near"]:List Str),(decide (32∉w.cps.toList)&&decide (w.length<=10))=O:=by decide+kernel
 simp at hd;rcases hd with rfl|rfl|rfl|rfl|rfl
 .exact jH "dose" (by decide)
 .have:=a _ (by simpa using K.w);rw[Gai] at this;have b:=Gar this.1;exact⟨b,Gar this.2⟩
 .exact K.t
 .exact K.p
 .exact K.k
def k6.w3{o:Ord}(K:k6 gs ss o):(∀d∈fG o.d,Wd d)/\(fG o.d).length<=6:=by
 have k:=K.d;cases h:o.d with
 |asked b=>
  rw[h] at k;refine⟨λd hd=> ?_,by simp[fG]⟩;simp[fG] at hd;rcases hd with rfl|rfl
  .exact jH "asked" (by decide)
  .exact k
 |due i1 i2 i3 i4 i5=>
  rw[h] at k;obtain⟨e1,e2,e3,e4,e5,_⟩:=k;refine⟨λd hd=> ?_,by simp[fG]⟩;simp[fG] at hd;rcases hd with rfl|rfl|rfl|rfl|rfl|rfl
  .exact jH "due" (by decide)
  all_goals assumption
def k6.w4{o:Ord}(K:k6 gs ss o):o.ts.length<=6/\∀t∈o.ts,∀d∈tpW t,Wd d:=by
 have k:=K.ts;have kd:=K.d;cases h:o.d with
 |asked b=>
  rw[h] at k;rw[show _=[] from k];simp_all
 |due i1 i2 i3 i4 i5=>
  rw[h] at k kd;obtain⟨_,_,m,_,_,_,_,m2,_⟩:=kd;refine⟨k.1,λt ht d hd=> ?_⟩;obtain⟨a1,a2,a3,a4,a5⟩:=k.2.2 t ht;simp[tpW] at hd;rcases hd with rfl|rfl|rfl|rfl
  .exact jH "taper" (by decide)
  .exact⟨by lia,by lia⟩
  .exact⟨by lia,by lia⟩
  .exact⟨by lia,by lia⟩
def um{α:Type}{l:List α}{f:α->Str}{i:Int}(h0:0<=i)(h1:i<l.length):∃x∈l,l[i.toNat]? =U x/\g8 (l.map f) i=f x:=by
 have hi:i.toNat<l.length:=by lia
 refine⟨l[i.toNat],GaN _,Gag hi, ?_⟩;simp_all[g8]
def m9{α:Type}{l:List α}{f:α->D}{i:Int}{x:α}(h0:0<=i)(h:l[i.toNat]? =U x):atD (l.map f) i=U (f x):=ie h0 (by rw[Gam,h];rfl)
def orE(o:Ord):orD o= Q [E o.n,H o.g,H o.s,Q [E o.w,H o.t,H o.p,H o.k],Q (fG o.d),Q (o.ts.map tpD)]:=rfl
def N6{ss:List Stf}(S:oV ss)(B:MU ss.length p):∀d∈nM (ss.map (·.n)) p,Wd d:=λd hd=>by
 have wd:∀i,0<=i->i<_->Wd (E (g8 _ i)):=λi h0 h1=>by
  obtain⟨q,hq,e⟩:=Gay.mp (kQ h0 (by simpa using h1));rw[<-e];exact(S.ok q hq).n.wd
 obtain⟨b0,b1,b2,b3,_⟩:=B;simp[nM] at hd;rcases hd with rfl|rfl|rfl|rfl
 .exact jH "bar" (by decide)
 .exact wd _ b0 ?B
 .exact wd _ ?B b2
 .exact b3
def oX{α:Type}(f:α->D)(l:List α):(l.flatMap λx=>[f x])=l.map f:=List.map_eq_flatMap.symm
def uo{α:Type}(f:α->List (List D))(l:List α):(l.flatMap λx=>(f x).map lD)=(l.flatMap f).map lD:=by rw[List.map_flatMap]
section
variable{w:Wld}(K:WOk w)
include K
theorem FA(Wg:∀ws,(∀d∈ws,Wd d)->ws.length<=20->sl [Q ws]=U (E (gv ws)))(hp:p∈w.bs)(h1:e[i]? =U (U (Z (Q (w.ss.map stD)))))(h2:e[j]? =U (U (Z (de p)))):
  bF sl (ak (gk (ak (kS "bar") (ak (Xm (Xm (vE i) (Xm (vE j) (kI 0))) (kI 0)) (ak (Xm (Xm (vE i) (Xm (vE j) (kI 1))) (kI 0)) (ak (Xm (vE j) (kI 2)) aM))))) aM) e=U ⟨.c,lD (nM (w.ss.map (·.n)) p)⟩:=by
 have B:=K.b.ok p hp;obtain⟨x,hx,e1,e2⟩:=um (f:=λs:Stf=>s.n) (l:=w.ss) B.lo (by have:=B.le;have:=B.hi;lia);obtain⟨q,hq,f1,f2⟩:=um (f:=λs:Stf=>s.n) (l:=w.ss) (i:=p.2.1) (by have:=B.lo;have:=B.le;lia) B.hi;have a1:=m9 (f:=stD) B.lo e1;have a2:=m9 (f:=stD) (show 0<=p.2.1 by have:=B.lo;have:=B.le;lia) f1;have t:=Wg (nM (w.ss.map (·.n)) p) (N6 K.s B) (by simp[nM]);unfold nM at t⊢;rw[e2,f2] at t⊢;have x0:ixD (stD x) (H 0)=U (E x.n):=rfl;have q0:ixD (stD q) (H 0)=U (E q.n):=rfl;generalize w.ss.map stD=SS at*;generalize stD x=xD at*;generalize stD q=qD at*;simp[h1,h2,de,a1,a2,x0,q0,t,a7,lD]
end
def IL(p:Str×Int):Str.ofString "guest "++p.1++Str.ofString " "++aC p.2=gv (guW p):=by
 show _=Str.ofString "guest"++Str.ofString " "++(p.1++Str.ofString " "++aC _);rw[show Str.ofString "guest "=Str.ofString "guest"++Str.ofString " " by decide+kernel];exact fR (by simp[Gcj])
def IM(y:Int):Str.ofString "young "++aC y=gv [E "young",H y]:=by
 show _=Str.ofString "young"++Str.ofString " "++aC y;rw[show Str.ofString "young "=Str.ofString "young"++Str.ofString " " by decide+kernel]
def len_app(x y:Str):(x++y).length=x.length+y.length:=by
 show(x++y).cps.size=_;rw[Gcj,Array.size_append];rfl
section
variable{w:Wld}(K:WOk w)
include K
noncomputable def lE(A:D)(X:List D)(x2:Os)(S:D)(x4:Os)(B:D)(x6:Os)(Xe G:D)(x9 xo:Os):DL.Env:=[U (Z A),U (C (Y X)),x2,U (Z S),x4,U (Z B),x6,U (Z Xe),U (Z G),x9,xo]
omit K in
theorem vI(Ks:pK s)(acc:List D)(y:Os)(hl:(acc++(stW s).map lD).length<=1000):∃y',ao (cL 1 (bF aF (ak (Xn af (gk (ak (kS "stuff") (ak (Xm (vE 2) (kI 0)) aM))) (Xm (vE 2) (kI 1))) aM))) (ao (gy J (ssI (Xm (vE 2) (kI 2))) (gN 9) (cL 1 (bF aF (ak (Xn af (gk (ak (kS "cap") aM)) (vE 9)) aM)))) (ifS (aw gtB (Xm (vE 2) (kI 3)) (kI 0)) (cL 1 (Xn af (kS "young ") (jY (orS lG mI) (ak (Xm (vE 2) (kI 3)) aM)))) aE))
  (lE A acc (U (Z (stD s))) S x4 B x6 Xe G y xo)=U (.nx (lE A (acc++(stW s).map lD) (U (Z (stD s))) S x4 B x6 Xe G y' xo)):=by
 obtain⟨n,p,r,cs,y0⟩:=s;have kl:r.length<=7:=Ks.z.len;have l1:=ja Ks.wds (by simp;lia);have cl:=Ks.cl;have hy:Num y0:=Ks.y;simp only at l1 cl;have e0:=stE n p r cs y0;have zl:2+((p::r).map H).length<=16777216:=by simp;lia
 have w1:stW ⟨n,p,r,cs,y0⟩=(E "stuff":: E n::(p::r).map _)::(cs.map m4++if y0=0 then[] else[[E "young",H y0]]):=rfl;rw[w1,GaI,GaB] at hl⊢;simp only[Gax,GaF,Gav] at hl;generalize hI:(p::r).map _=XJ at*;generalize hT:stD ⟨n,p,r,cs,y0⟩=T at*;have al:acc.length<16777216:=by lia
 obtain⟨x,_,h1⟩:=jT (g:=gN 9) (body:=cL 1 (bF aF (ak (Xn af (gk (ak (kS "cap") aM)) (vE 9)) aM))) jI (λc=>[lD (m4 c)]) (λacc x _=>lE A acc (U (Z T)) S x4 B x6 Xe G x xo) (λ_ _ _ _=>rfl) cs (acc++[lD _]) y J (by
  have:=m7 (f:=λc:Str×List Int=>[lD (m4 c)]) (k:=1) (xs:=cs) (λ_ _=>by simp);simp only[Gax,Gch];lia) (λc hc acc e hl=>by
  have t:aF [Q (E "cap":: E c.1::c.2.map H)]=U (lD (m4 c)):=ja (Ks.c c hc).wds (by have:=(Ks.c c hc).len;simp[m4];lia);have ln:=(Ks.c c hc).len;have z1:1+(c.2.length+1)<=16777216:=by lia
  have z2:acc.length<16777216:=by simp at hl;lia
  simp[lE,jI,t,z1,z2,a7,lD])
 rw[show(cs.flatMap λc=>[lD (m4 c)])=(cs.map m4).map lD by rw[Gaz];exact oX _ _] at h1;refine⟨x,(ai (e:=lE A (acc++[lD (E "stuff":: E n::XJ)]) (U (Z T)) S x4 B x6 Xe G y xo) (by rw[e0];unfold lE;simp[l1,zl,al,a7,lD])).trans ?_⟩;rw[show acc++lD (E "stuff":: E n::XJ)::((cs.map m4).map lD++(if y0=0 then[] else[[E "young",H y0]]).map lD)=(acc++[lD (E "stuff":: E n::XJ)]++(cs.map m4).map lD)++(if y0=0 then[] else[[E "young",H y0]]).map lD by simp];generalize hX:acc++[lD (E "stuff":: E n::XJ)]++(cs.map m4).map lD=X at*;have xl:X.length<16777216:=by rw[<-hX];simp;lia
 refine(ai (e:=lE A X (U (Z T)) S x4 B x6 Xe G x xo) (by rw[e0] at h1⊢;unfold lE at h1⊢;simp[h1,freed])).trans ?_;by_cases h0:y0=0
 .subst h0;rw[e0];simp[lE]
 .have hy1:0<y0:=by have:=hy.1;lia
  have st:=Wd.str (d:= H y0) hy;have yl:=jR hy;have y2:(Str.ofString "young ").length+(aC y0).length<=16777216:=by rw[show(Str.ofString "young ").length=6 by decide+kernel];lia
  rw[Gau h0,e0];unfold lE;simp only[wS] at st;simp[hy1,st,y2,xl,a7,lD,(IM y0),-EV]
end
def vJ{gs:List (Str×Int)}{ss:List Stf}(G:vD gs)(S:oV ss)(K:k6 gs ss o)(acc:List D)(y:Os)(hl:(acc++(mM (gs.map (·.1)) (ss.map (·.n)) o).map lD).length<=1000):
  ∃y',ao (cL 1 (bF aF (ak (gk (ak (kS "order") (ak (Xm (vE 6) (kI 0)) (ak (Xm (Xm (vE 8) (Xm (vE 6) (kI 1))) (kI 0)) (ak (Xm (Xm (vE 3) (Xm (vE 6) (kI 2))) (kI 0)) aM))))) aM))) (ao (cL 1 (bF aF (ak (Xn af (gk (ak (kS "dose") aM)) (Xm (vE 6) (kI 3))) aM))) (ao (cL 1 (bF aF (ak (Xm (vE 6) (kI 4)) aM))) (gy J (ssI (Xm (vE 6) (kI 5))) (gN 10) (cL 1 (bF aF (ak (Xn af (gk (ak (kS "taper") aM)) (vE 10)) aM))))))
   (lE A acc x2 (Q (ss.map stD)) x4 B (U (Z (orD o))) Xe (Q (gs.map guD)) x9 y)=U (.nx (lE A (acc++(mM (gs.map (·.1)) (ss.map (·.n)) o).map lD) x2 (Q (ss.map stD)) x4 B (U (Z (orD o))) Xe (Q (gs.map guD)) x9 y')):=by
 obtain⟨x,hx,e1,e2⟩:=um K.g0 K.g1;obtain⟨q,hq,f1,f2⟩:=um K.s0 K.s1;have a1:=m9 (f:=guD) K.g0 e1;have a2:=m9 (f:=stD) K.s0 f1;have l1:=ja (K.w1 G S) ?E;have l2:=ja K.w2 ?E;rw[e2,f2] at l1;have w1:mM (gs.map (·.1)) (ss.map (·.n)) o=[E "order",E o.n,E x.1,E q.n]::[E "dose",E o.w,H o.t,H o.p,H o.k]::fG o.d::o.ts.map tpW:=by unfold mM;rw[e2,f2]
 have x0:ixD (guD x) (H 0)=U (E x.1):=rfl;have q0:ixD (stD q) (H 0)=U (E q.n):=rfl;have e0:=orE o;rw[w1] at hl⊢;generalize hA:orD o=T at*;generalize hG:gs.map guD=GG at*;generalize hS:ss.map stD=SS at*;simp only[GaI,Gax,GaF,Gav] at hl⊢;generalize yE:[E "order",E _,E _,E q.n]=W1 at*;generalize UN:[E "dose",E _,H _,H _,H o.k]=W2 at*;obtain⟨x',_,h1⟩:=jT (g:=gN 10) (body:=cL 1 (bF aF (ak (Xn af (gk (ak (kS "taper") aM)) (vE 10)) aM))) tpD (λt=>[lD (tpW t)]) (λacc x _=>lE A acc x2 (Q SS) x4 B (U (Z T)) Xe (Q GG) x9 x) (λ_ _ _ _=>rfl) o.ts (acc++[lD W1]++[lD W2]++[lD _]) y J (by
  have:=m7 (f:=λc:Int×Int×Int=>[lD (tpW c)]) (k:=1) (xs:=o.ts) (λ_ _=>by simp);simp only[Gax,Gch];lia) (λc hc acc e hl=>by
  have t:aF [Q [E "taper",H _,H c.2.1,H c.2.2]]=U (lD (tpW c)):=ja (K.w4.2 c hc) ?E;have z2:acc.length<16777216:=by simp at hl;lia
  simp[lE,tpD,t,z2,a7,lD])
 rw[show(o.ts.flatMap λc=>[lD (tpW c)])=(o.ts.map tpW).map lD by rw[Gaz];exact oX _ _] at h1;refine⟨x', ?_⟩;have z1:acc.length<16777216:=by lia
 have z2:acc.length+1<16777216:=by lia
 have z3:acc.length+1+1<16777216:=by lia
 refine(ai (e:=lE A (acc++[lD W1]) x2 (Q SS) x4 B (U (Z T)) Xe (Q GG) x9 y) (by rw[e0];unfold lE;simp[a1,a2,x0,q0,yE,l1,z1,a7,lD])).trans ((ai (e:=lE A (acc++[lD W1]++[lD W2]) x2 (Q SS) x4 B (U (Z T)) Xe (Q GG) x9 y) (by rw[e0];unfold lE;simp[UN,l2,z2,a7,lD])).trans ((ai (e:=lE A (acc++[lD W1]++[lD W2]++[lD (fG o.d)]) x2 (Q SS) x4 B (U (Z T)) Xe (Q GG) x9 y) (by rw[e0];unfold lE;simp[(ja K.w3.1 (by have:=K.w3.2;lia)),z3,a7,lD])).trans ?_));rw[show acc++lD W1::lD W2::lD (fG o.d)::(o.ts.map tpW).map lD=acc++[lD W1]++[lD W2]++[lD (fG o.d)]++(o.ts.map tpW).map lD by simp];generalize acc++[lD W1]++[lD W2]++[lD (fG o.d)]=Y0 at*;rw[e0] at h1⊢;unfold lE at h1⊢;simp[h1,freed]
section
variable{w:Wld}(K:WOk w)
include K
theorem FC:fZ [rR w]=U (Y (pL w)):=by
 have z1:=K.g.len;have ll:=Ag K;have c:cq (gN 0) bc (Xn af (Xn af (Xn af (kS "guest ") (Xm (vE 0) (kI 0))) (kS " ")) (jY (orS lG mI) (ak (Xm (vE 0) (kI 1)) aM))) (w.gs.map guD) [J]=U (w.gs.map λp=>lD (guW p)):=by
  refine dI guD (λe=>∃z,e=[z]) _ _ _ ⟨_,rfl⟩ ?_;rintro p hp e ⟨z,rfl⟩;have hn:=(K.g.ok p hp).1;have hb:=(K.g.ok p hp).2;have st:=Wd.str (d:= H p.2) hb;have t:=IL p;have y1:(Str.ofString "guest ").length=6:=by decide+kernel
  have y2:(Str.ofString " ").length=1:=by decide+kernel
  have y3:=jR hb;have y4:=hn.2.1;have y5:=len_app (Str.ofString "guest ") p.1;have y6:=len_app (Str.ofString "guest "++p.1) (Str.ofString " ");refine⟨_,rfl,⟨_,rfl⟩,.c, ?_,rfl⟩;simp only[wS] at st;generalize aC p.2=ny at*;generalize Str.ofString "guest "=gu at*;generalize Str.ofString " "=bl at*;have a1:gu.length+p.1.length<=16777216:=by lia
  have a2:(gu++p.1).length+bl.length<=16777216:=by lia
  have a3:(gu++p.1++bl).length+ny.length<=16777216:=by lia
  simp[guD,d9,guR,st,a1,a2,a3,a7,t,lD,-EV]
 have cl:(w.gs.map guD).length<=a7:=by simp[a7];lia
 have e0:rR w= Q [Q (w.gs.map guD),Q (w.ss.map stD),Q (w.bs.map de),Q (w.os.map orD)]:=rfl;have fin:=Af w;unfold pL at ll fin⊢;simp only[Gax] at ll;rw[<-oX (λp=>lD (nM (w.ss.map (·.n)) p)),<-uo,<-uo] at ll fin⊢;generalize hA:rR w=A at*;generalize hX:(w.gs.map λp=>lD (guW p))=X at*;have h1:=λ(x4 x6 xo x y:Os)=>jT (g:=gN 2) (body:=ao (cL 1 (bF aF (ak (Xn af (gk (ak (kS "stuff") (ak (Xm (vE 2) (kI 0)) aM))) (Xm (vE 2) (kI 1))) aM))) (ao (gy J (ssI (Xm (vE 2) (kI 2))) (gN 9) (cL 1 (bF aF (ak (Xn af (gk (ak (kS "cap") aM)) (vE 9)) aM)))) (ifS (aw gtB (Xm (vE 2) (kI 3)) (kI 0)) (cL 1 (Xn af (kS "young ") (jY (orS lG mI) (ak (Xm (vE 2) (kI 3)) aM)))) aE))) stD (λs=>(stW s).map lD) (λacc x y=>lE A acc x (Q (w.ss.map stD)) x4 (Q (w.bs.map de)) x6 (Q (w.os.map orD)) (Q (w.gs.map guD)) y xo) (λ_ _ _ _=>rfl) w.ss X x y (by rw[Gax];lia) (λs hs acc y hl=>vI (K.s.ok s hs) acc y hl);obtain⟨x2,x9,h1⟩:=h1 J J J J J;obtain⟨x4,_,h2⟩:=jT (g:=gN 4) (body:=cL 1 (bF aF (ak (gk (ak (kS "bar") (ak (Xm (Xm (vE 3) (Xm (vE 4) (kI 0))) (kI 0)) (ak (Xm (Xm (vE 3) (Xm (vE 4) (kI 1))) (kI 0)) (ak (Xm (vE 4) (kI 2)) aM))))) aM))) de (λp=>[lD (nM (w.ss.map (·.n)) p)]) (λacc x _=>lE A acc x2 (Q (w.ss.map stD)) x (Q (w.bs.map de)) J (Q (w.os.map orD)) (Q (w.gs.map guD)) x9 J) (λ_ _ _ _=>rfl) w.bs (X++w.ss.flatMap λs=>(stW s).map lD) J J (by rw[Gax,Gax];lia) (λp hp acc e hl=>by
  have t:=FA K (sl:=aF) (λws a b=>ja a b) hp (i:=3) (j:=4) (e:=lE A acc x2 (Q (w.ss.map stD)) (U (Z (de p))) (Q (w.bs.map de)) J (Q (w.os.map orD)) (Q (w.gs.map guD)) x9 J) rfl rfl;refine⟨J, ?_⟩;have z:acc.length<16777216:=by simp at hl;lia
  unfold cL;rw[t];unfold lE;simp[z,a7,lD])
 obtain⟨x6,xo,h3⟩:=jT (g:=gN 6) (body:=ao (cL 1 (bF aF (ak (gk (ak (kS "order") (ak (Xm (vE 6) (kI 0)) (ak (Xm (Xm (vE 8) (Xm (vE 6) (kI 1))) (kI 0)) (ak (Xm (Xm (vE 3) (Xm (vE 6) (kI 2))) (kI 0)) aM))))) aM))) (ao (cL 1 (bF aF (ak (Xn af (gk (ak (kS "dose") aM)) (Xm (vE 6) (kI 3))) aM))) (ao (cL 1 (bF aF (ak (Xm (vE 6) (kI 4)) aM))) (gy J (ssI (Xm (vE 6) (kI 5))) (gN 10) (cL 1 (bF aF (ak (Xn af (gk (ak (kS "taper") aM)) (vE 10)) aM))))))) orD (λo=>(mM (w.gs.map (·.1)) (w.ss.map (·.n)) o).map lD) (λacc x y=>lE A acc x2 (Q (w.ss.map stD)) x4 (Q (w.bs.map de)) x (Q (w.os.map orD)) (Q (w.gs.map guD)) x9 y) (λ_ _ _ _=>rfl) w.os ((X++w.ss.flatMap λs=>(stW s).map lD)++w.bs.flatMap λp=>[lD (nM (w.ss.map (·.n)) p)]) J J (by rw[Gax,Gax,Gax];lia) (λo ho acc y hl=>vJ K.g K.s (K.o.ok o ho) acc y hl);simp only[GaT] at h2 h3;generalize hG:w.gs.map guD=GG at*;generalize hS:w.ss.map stD=SS at*;generalize hB:w.bs.map de=BB at*;generalize hO:w.os.map orD=OO at*;generalize (w.ss.flatMap λs=>(stW s).map lD)=X1 at*;generalize (w.bs.flatMap λp=>[lD (nM (w.ss.map (·.n)) p)])=X2 at*;generalize (w.os.flatMap λo=>(mM (w.gs.map (·.1)) (w.ss.map (·.n)) o).map lD)=X3 at*;unfold fZ;refine bA rfl ?_;unfold jC;unfold lE at h1 h2 h3;simp only[ssI] at h1 h3;refine(ai (e:=[U (Z A),J,J,U (Z (Q SS)),J,U (Z (Q BB)),J,U (Z (Q OO)),U (Z (Q GG)),J,J]) (by rw[e0];simp[GI])).trans ?_;refine(ai (e:=[U (Z A),U (C (Y X)),J,U (Z (Q SS)),J,U (Z (Q BB)),J,U (Z (Q OO)),U (Z (Q GG)),J,J]) (by simp[c,cl,DL.Xk])).trans ?_;refine(ai (e:=[U (Z A),U (C (Y (X++X1))),x2,U (Z (Q SS)),J,U (Z (Q BB)),J,U (Z (Q OO)),U (Z (Q GG)),x9,J]) (by simp[h1,freed])).trans ?_;refine(ai (e:=[U (Z A),U (C (Y (X++(X1++X2)))),x2,U (Z (Q SS)),x4,U (Z (Q BB)),J,U (Z (Q OO)),U (Z (Q GG)),x9,J]) (by simp[h2,freed])).trans ?_;refine(ai (e:=[U (Z A),U (C (Y (X++(X1++(X2++X3))))),x2,U (Z (Q SS)),x4,U (Z (Q BB)),x6,U (Z (Q OO)),U (Z (Q GG)),x9,xo]) (by simp[h3,freed])).trans ?_;generalize X++(X1++(X2++X3))=XF at*;simp[fin]
end
def SmN:Nat->D->Prop
 |_,H _=>True
 |_,E _=>True
 |n+1,Q ds=>ds.length<=1000/\∀d∈ds,SmN n d
 |n+1,Y ds=>ds.length<=1000/\∀d∈ds,SmN n d
 |_,_=>False
def oY(ds:List D):i7 ds ds=ds.map λd=> Q [d,d]:=by
 induction ds with
 |nil=>rfl
 |cons d ds ih=>unfold i7 at ih⊢;rw[List.zipWith_cons_cons,ih];rfl
def qA{ds:List D}(h:∀d∈ds,f [d,d]=U (I O)):cq (gT [0,1]) bc (bF f (ak (vE 0) (ak (vE 1) aM))) (i7 ds ds) [J,J]=U ((ds.map λ_=>O).map I):=by
 rw[oY,Gaz];refine dI _ (λe=>∃x y,e=[x,y]) _ _ _ ⟨_,_,rfl⟩ ?_;rintro d hd e ⟨x,y,rfl⟩;refine⟨[U _,U _],rfl,⟨_,_,rfl⟩,.c, ?_,rfl⟩;simp[(h d hd)]
def Qp:neB (I O) (I O)=U M:=rfl
def Qq:neB (I M) (I M)=U M:=rfl
def all_true(ds:List D):(ds.map λ_=>O).all id=O:=by simp
def FD{ds:List D}(hl:ds.length<=1000)(h:∀d∈ds,f [d,d]=U (I O)):cN 2 2 (ck f) [Q ds,Q ds]=U (I O):=by
 have c:=qA h;have a:=all_true ds;generalize (ds.map λ_=>O)=B at*;have z:(i7 ds ds).length<=a7:=by rw[oY];simp[a7];lia
 have zl:nI (Q ds)=U _:=rfl;simp[ck,zl,z,DL.Xk,c,a,Qp,Qq]
def FE{ds:List D}(hl:ds.length<=1000)(h:∀d∈ds,f [d,d]=U (I O)):cN 2 2 (ck f) [Y ds,Y ds]=U (I O):=by
 have c:=qA h;have a:=all_true ds;generalize (ds.map λ_=>O)=B at*;have z:(i7 ds ds).length<=a7:=by rw[oY];simp[a7];lia
 have zl:nI (Y ds)=U _:=rfl;simp[ck,zl,z,DL.Xk,c,a,Qp,Qq]
def Ai(n:Nat):∀d,SmN n d->f9 (n+1) [d,d]=U (I O):=by
 induction n with
 |zero=>
  intro d h;show cN 2 2 (ck (f9 0)) [d,d]=_;cases d with
  |int i=>unfold ck;simp
  |str x=>unfold ck;simp
  |_=>exact(show False from h).elim
 |succ n ih=>
  intro d h;show cN 2 2 _ [d,d]=_;cases d with
  |int i=>unfold ck;simp
  |str x=>unfold ck;simp
  |tup ds=>exact FD h.1 λd hd=>ih d (h.2 d hd)
  |lst ds=>exact FE h.1 λd hd=>ih d (h.2 d hd)
  |_=>exact(show False from h).elim
def IP{is:List Int}(h:is.length<=1000):SmN (n+1) (Q (is.map H)):=⟨by simpa using h,λd hd=>by
 obtain⟨i,_,rfl⟩:=Gay.mp hd;cases n<;>trivial⟩
def mO{α:Type}{f:α->D}{l:List α}(hl:l.length<=1000)(h:∀x∈l,SmN n (f x)):SmN (n+1) (Q (l.map f)):=⟨by simpa using hl,λd hd=>by
 obtain⟨x,hx,rfl⟩:=Gay.mp hd;exact h x hx⟩
def jb{ds:List D}(hl:ds.length<=1000)(h:∀d∈ds,SmN n d):SmN (n+1) (Q ds):=⟨hl,h⟩
def Qr(K:pK s):SmN 4 (stD s):=by
 obtain⟨n,p,r,cs,y⟩:=s;rw[stE];refine jb ?E λd hd=> ?_;simp only[Gae,Gao,GaQ] at hd;rcases hd with rfl|rfl|rfl|rfl
 .trivial
 .exact IP (by have:_<=7:=K.z.len;simp;lia)
 .refine mO (by have:cs.length<=4:=K.cl;lia) λc hc=> ?_;have:=(K.c c hc).len;refine jb (by simp;lia) λd hd=> ?_;rcases Gae.mp hd with rfl|hd
  .trivial
  .obtain⟨i,_,rfl⟩:=Gay.mp hd
   trivial
 .trivial
def Qs(K:k6 gs ss o):SmN 4 (orD o):=by
 rw[orE];refine jb ?E λd hd=> ?_;simp only[Gae,Gao,GaQ] at hd;rcases hd with rfl|rfl|rfl|rfl|rfl|rfl
 .trivial
 .trivial
 .trivial
 .refine jb ?E λd hd=> ?_;simp only[Gae,Gao,GaQ] at hd;rcases hd with rfl|rfl|rfl|rfl<;>trivial
 .refine jb (by have:=K.w3.2;lia) λd hd=> ?_;have:=K.w3.1 d hd;cases d with
  |int i=>trivial
  |str x=>trivial
  |_=>exact(show False from this).elim
 .refine mO (by have:=K.w4.1;lia) λt _=>jb ?E λd hd=> ?_;simp only[Gae,Gao,GaQ] at hd;rcases hd with rfl|rfl|rfl<;>trivial
def N7(K:WOk w):SmN 6 (rR w):=by
 have z1:=K.g.len;have z2:=K.s.len;have z3:=K.b.len;have z4:=K.o.len;refine jb ?E λd hd=> ?_;simp only[Gae,Gao,GaQ] at hd;rcases hd with rfl|rfl|rfl|rfl
 .refine mO ?B λp _=>jb (by simp[guR]) λd hd=> ?_;simp only[guR,Gae,Gao,GaQ] at hd;rcases hd with rfl|rfl<;>trivial
 .exact mO ?B λs hs=>Qr (K.s.ok s hs)
 .refine mO ?B λp _=>jb ?E λd hd=> ?_;simp only[Gae,Gao,GaQ] at hd;rcases hd with rfl|rfl|rfl<;>trivial
 .exact mO ?B λo ho=>Qs (K.o.ok o ho)
def IQ(w:Wld):(rR w).imm=O:=by
 have a:aj (w.gs.map guD)=O:=bj λ_ _=>rfl;have c:=jJ w.bs;simp[rR,a,(bj λ_ _=>oU),(bj λ_ _=>vF)]
def cell(ns:List Int)(k:Int):Int:=if ns.length=0 then 0 else ns[(k%ns.length).toNat]?.getD 0%2147483647
def drw(ns:List Int)(k m:Int):Int:=(cell ns k*48271+(k+1)*(k+5)*69621)%2147483629%m
def aN(ns:List Int)(k m:Int)(hm:0<m):0<=drw ns k m/\drw ns k m<m:=⟨Int.emod_nonneg _ ?B,Gde _ hm⟩
def IS{ns:List Int}(h:0<ns.length):atD ns (k%ns.length)=U (ns[(k%ns.length).toNat]?.getD 0):=by
 unfold atD;have h1:0<=k%(ns.length):=Int.emod_nonneg _ ?B;have h2:k%_<ns.length:=Gde _ ?B;simp_all
def nW(h: -18446744073709551616<i)(h2:i<18446744073709551616):bO i j=O:=by
 unfold bO;lia
def Aj(h: -18446744073709551616<j)(h2:j<18446744073709551616):bO i j=O:=by
 unfold bO;lia
def aI{ns:List Int}{k:Int}(hk:0<=k)(xQ:k<1000000)(hm:0<m):ae [.scr ns,H k,H m]=U (H (drw ns k m)):=by
 have e1:∀j,bO (k+1) j=O:=λj=>nW ?B ?B;have e2:∀i,bO i 48271=O:=λi=>Aj ?B ?B;have e3:∀i,bO i 69621=O:=λi=>Aj ?B ?B;unfold ae kM;by_cases h:0<ns.length
 .have hc:cell ns k=ns[(k%ns.length).toNat]?.getD 0%2147483647:=by unfold cell;rw[Gau ?B]
  have h' :(0)<ns.length:=by lia
  simp[h,IS h,e1,e2,e3,hm,<-hc,drw]
 .have hc:cell ns k=0:=by unfold cell;rw[Gaj ?B]
  have h' :¬(0)<ns.length:=by lia
  simp[h,e1,e2,e3,hm,drw,hc]
def bU(h1: -4611686018427387904<=i)(h2:i<4611686018427387904):bt i=O:=by
 unfold bt;rw[Gai];exact⟨GbE h1,GbE h2⟩
theorem jU(XJ:Nat->DL.Env->Prop):∀ds k env,XJ k env->(∀i d e,ds[i]? =U d->XJ (k+i) e->∃e1 e2,g d e=U e1/\body e1=U (.nx e2)/\XJ (k+i+1) e2)->∃e,Xj g body ds env=U (.nx e)/\XJ (k+ds.length) e
 |[],k,env,h,_=> ⟨env,rfl,h⟩
 |d::ds,k,env,h,st=>by
  obtain⟨e1,e2,h1,h2,h3⟩:=st 0 d env rfl h;obtain⟨e,h4,h5⟩:=jU XJ ds _ e2 h3 λi d' e' hd hI=>by
   have:=st (i+1) d' e' ?H (by rw[show k+_=k+1+i by lia];exact hI)
   rwa[show k+_+1=k+1+i+1 by lia] at this
  refine⟨e,by simp[h1,h2,h4], ?_⟩
  rwa[show k+(d::ds).length=k+1+ds.length by simp;lia]
def bV(h:(aO lo n)[i]? =U d):i<n/\d= H (lo+i):=by
 unfold aO at h;rw[Gam] at h;by_cases hi:i<n
 .simp_all
 .simp_all
def ba:(aO lo n).length=n:=by simp[aO]
def cj{ns:List Int}{k:Int}(hk:0<=k)(xQ:k<900000)(hm:0<m):∃n,aJ [.scr ns,H k,H m]=U (H n)/\1<=n/\n<=m:=by
 have d1:=aI (ns:=ns) hk ?B (show _<6 by lia);have d2:=aI (ns:=ns) (show 0<=k+1 by lia) ?B (show _<20 by lia);have d3:=aI (ns:=ns) (show 0<=k+1 by lia) ?B hm;have r3:=aN ns (k+1) m hm;generalize drw ns k 6=a at*;generalize drw ns _ 20=b at*;generalize drw ns _ m=c at*;have b1:0<=b%m:=Int.emod_nonneg _ ?B;have b2:b%m<m:=Gde _ hm;unfold aJ j4;by_cases h1:a<4
 .exact⟨1+b%m,by simp[d1,d2,h1,hm],by lia,by lia⟩
 .by_cases h2:a=4
  .exact⟨m,by simp[d1,h2],by lia,by lia⟩
  .exact⟨1+c,by simp[d1,d3,h1,h2],by lia,by lia⟩
def jK(h:1<=n/\n<=1000000000):Num n:=⟨by lia,h.2⟩
def SG:lkT bH (.inr "flat")=U (([1,1]:List Int).map .inl):=by decide+kernel
def SH:lkT bH (.inr "kilo")=U (([1,1,1]:List Int).map .inl):=by decide+kernel
def SJ:lkT bH (.inr "ever")=U (([1]:List Int).map .inl):=by decide+kernel
def Qt{ns:List Int}{k:Int}(hk:0<=k)(xQ:k<800000):∃c,iM [.scr ns,H k]=U (jI c)/\qv c:=by
 obtain⟨n1,e1,a1⟩:=cj (ns:=ns) (k:=k+1) (m:=1000000000) ?B ?B ?B;obtain⟨n2,e2,a2⟩:=cj (ns:=ns) (k:=k+3) (m:=1000000000) ?B ?B ?B;obtain⟨n3,e3,a3⟩:=cj (ns:=ns) (k:=k+5) (m:=1000000000) ?B ?B ?B;have d1:=aI (ns:=ns) hk ?B (show _<3 by lia);generalize drw ns k 3=a at*;have wf:∀x∈(["flat","kilo","ever"]:List Str),(decide (32∉x.cps.toList)&&decide (x.length<=10))=O:=by decide+kernel
 have wd:∀x∈_,Wd (E x):=λx hx=>by
  have:=wf x hx;rw[Gai] at this;have b:=Gar this.1;exact⟨b,Gar this.2⟩
 unfold iM mK;by_cases h1:a=0
 .refine⟨("flat",[n1,n2]),by simp[e1,e2,d1,h1,jI,a7],⟨[1,1],SG,jK a1,a1.1,jK a2,a2.1,trivial⟩,by simp,wd _ ?E⟩
 .by_cases h2:a=1
  .refine⟨("kilo",[n1,n2,n3]),by simp[e1,e2,e3,d1,h2,jI,a7],⟨[1,1,1],SH,jK a1,a1.1,jK a2,a2.1,jK a3,a3.1,trivial⟩,by simp,wd _ ?E⟩
  .refine⟨("ever",[n2]),by simp[e1,e2,d1,h1,h2,jI,a7],⟨[1],SJ,jK a2,a2.1,trivial⟩,by simp,wd _ ?E⟩
def N8{ns:List Int}{k:Int}(hk:0<=k)(xQ:k<800000):∃d,j6 [.scr ns,H k]=U (Q (fG d))/\Fj d:=by
 obtain⟨n1,e1,a1⟩:=cj (ns:=ns) (k:=k) (m:=500000000) ?B ?B ?B;obtain⟨n2,e2,a2⟩:=cj (ns:=ns) (k:=k+3) (m:=1000000000) ?B ?B ?B;obtain⟨n3,e3,a3⟩:=cj (ns:=ns) (k:=k+5) (m:=60) ?B ?B ?B;have d1:=aI (ns:=ns) (show 0<=k+2 by lia) ?B (show _<3 by lia);generalize drw ns _ 3=a at*;unfold j6 kO;by_cases h1:a=0
 .exact⟨.asked _,by simp[e1,d1,h1,fG,a7],show Num (n1 -1) from⟨by lia,by lia⟩⟩
 .have mn:(0)<(if n2<n1+1 then n2 else n1+1):=by split<;>lia
  have d2:=aI (ns:=ns) (show 0<=k+7 by lia) ?B mn;have r2:=aN ns (k+7) _ mn;generalize drw ns _ (if n2<n1+1 then n2 else n1+1)=b at*;have lb:b<n2/\b<=n1:=by
   have:=r2.2;split at this<;>lia
  have d3:=aI (ns:=ns) (show 0<=k+8 by lia) ?B (show(0:Int)<n2 -b by lia);have r3:=aN ns (k+8) (n2 -b) ?B;generalize drw ns (k+8) (n2 -b)=c at*;refine⟨.due n1 n2 n3 b c, ?_,⟨by lia,by lia⟩,⟨by lia,by lia⟩,⟨by lia,by lia⟩,⟨by lia,by lia⟩,⟨by lia,by lia⟩,a2.1,a3.1,a3.2,by lia,lb.2⟩;simp[e1,e2,e3,d1,d2,d3,h1,fG,a7]
def tE(ns:List Int)(k:Int)(A:D)(ts:List (Int×Int×Int))(x y:Os):DL.Env:=[U ?L,U (Z (H k)),U (Z A),U (C (Y (ts.map tpD))),x,y]
structure TI(m:Int)(j:Int)(ts:List (Int×Int×Int)):Prop where
 len:ts.length<=6
 pw:(ts.map (·.1)).Pairwise (· < ·)
 ok:∀t∈ts,1<=t.1/\t.1<j/\1<=t.2.1/\t.2.1<=t.2.2/\t.2.2<=1000
def IT{ns:List Int}{k:Int}{x:Os}(hk:0<=k)(xQ:k<700000)(hj:1<=j)(WZ:j<1000)(h:TI m j ts):
  ∃xY y',ifS (gh (aw ltB (bN 3) (kI 6)) (gh (aw eqB (caE ae [vE 0,vE 1,kI 4]) (kI 0)) (aw eqB (caE ae [vE 0,Xn af (Xn af (vE 1) (kI 1)) (vE 4),kI 3]) (kI 0)))) (ao (au 5 (caE aJ [vE 0,Xn af (vE 1) (kI 62),kI 1000])) (cL 3 (tpE [vE 4,Xn af (kI 1) (caE ae [vE 0,Xn af (Xn af (vE 1) (kI 64)) (vE 4),vE 5]),vE 5]))) aE (tE ns k A ts (U (Z (H j))) y)=U (.nx (tE ns k A xY (U (Z (H j))) y'))/\TI m (j+1) xY :=by
 have up:TI m (j+1) ts:=⟨h.len,h.pw,λt ht=>by have:=h.ok t ht;lia⟩
 have d1:=aI (ns:=ns) hk ?B (show _<4 by lia);have d2:=aI (ns:=ns) (show 0<=k+1+j by lia) ?B (show _<3 by lia);generalize drw ns k 4=a at*;generalize drw ns _ 3=b at*;unfold tE;by_cases h1:(ts.length:Int)<6
 .by_cases h2:a=0
  .by_cases h3:b=0
   .obtain⟨n,e1,a1⟩:=cj (ns:=ns) (k:=k+62) (m:=1000) ?B ?B ?B;have d3:=aI (ns:=ns) (show 0<=k+64+j by lia) ?B (show _<n by lia);have r3:=aN ns (k+64+j) n ?B;generalize drw ns _ n=c at*;refine⟨ts++[(j,1+c,n)],U (Z (H n)), ?_, ?_, ?_, ?_⟩
    .have z:ts.length<16777216:=by lia
     simp[h1,h2,h3,d1,d2,d3,e1,z,a7,tpD]
    .simp;lia
    .rw[GaB,List.pairwise_append];refine⟨h.pw,by simp,λu hu v hv=> ?_⟩;simp at hv;obtain⟨t,ht,rfl⟩:=Gay.mp hu;have:=h.ok t ht;lia
    .intro t ht;rcases GaL.mp ht with ht|ht
     .have:=h.ok t ht;lia
     .simp at ht;subst ht;lia
   .exact⟨ts,y,by simp[h1,h2,h3,d1,d2],up⟩
  .exact⟨ts,y,by simp[h2,d1],up⟩
 .exact⟨ts,y,by simp[h1],up⟩
def FF{ns:List Int}{k:Int}(hk:0<=k)(xQ:k<700000)(K:Fj d):∃ts,gJ [.scr ns,H k,Q (fG d)]=U (Q (ts.map tpD))/\IH d ts:=by
 cases d with
 |asked b=>
  refine⟨[], ?_,rfl⟩;simp[gJ,j7,fG]
 |due i1 i2 m i4 i5=>
  obtain⟨_,_,_,_,_,_,m1,m2,_⟩:=K;obtain⟨e,h1,ts,x,y,rfl,h2⟩:=jU (g:=gN 4) (λi e=>∃ts x y,e=tE ns k _ ts x y/\TI m _ ts) (aO 1 (m -1).toNat) 0 (tE ns k (Q (fG (.due i1 i2 m i4 i5))) [] J J) ⟨[],J,J,rfl,by simp,by simp,by simp⟩ (by
   rintro i d e hd ⟨ts,x,y,rfl,h⟩;obtain⟨hi,rfl⟩:=bV hd;rw[GaR] at h;obtain⟨xY,y',h3,h4⟩:=IT (x:=x) hk xQ (show 1<=1+(i:Int) by lia) ?B h;refine⟨_,_,rfl,h3,xY,_,y',rfl, ?_⟩;rw[GaR];exact h4)
  rw[ba] at h2;refine⟨ts, ?_,h2.len,h2.pw,λt ht=> ?_⟩
  .have sm:bt m=O:=bU ?B ?B;have ti:=rQ ts;refine bA rfl ((ai (e:=tE ns k (Q (fG (.due i1 i2 m i4 i5))) [] J J) rfl).trans ((ai (e:=tE ns k (Q (fG (.due i1 i2 m i4 i5))) ts x y) ?_).trans ?_))
   .simp only[caE,aL,tpE] at h1;unfold tE at h1⊢;simp only[fG] at h1⊢;have s1:bt 1=O:=rfl;rw[show(m -1).toNat=m.toNat -1 by lia,Gdl] at h1;simp[sm,s1,h1]
   .simp[tE]
  .have:=h2.ok t ht;lia
def Qu(h:0<=i/\i<3):∃w,atD [E "down",E "up",E "near"] i=U (E w)/\(w="down"\/w="up"\/w="near"):=by
 have:i=0\/i=1\/i=2:=by lia
 rcases this with rfl|rfl|rfl
 .exact⟨_,rfl,.inl rfl⟩
 .exact⟨_,rfl,.inr (.inl rfl)⟩
 .exact⟨_,rfl,.inr (.inr rfl)⟩
def IU{ns:List Int}{k:Int}{gs:List (Str×Int)}{ss:List Stf}(hk:0<=k)(xQ:k<600000)(hn:Nam n)(S:oV ss)(hp:∀s∈ss,s.p<=400000)(hg:0<gs.length)(hs:0<ss.length)(yo:gs.length<=6):
  ∃o,iz [.scr ns,H k,E n,Q (gs.map guD),Q (ss.map stD)]=U (orD o)/\k6 gs ss o/\o.n=n:=by
 have hV:=S.len;have d1:=aI (ns:=ns) hk ?B (show(0:Int)<gs.length by lia);have r1:=aN ns k gs.length ?B;have d2:=aI (ns:=ns) (show 0<=k+1 by lia) ?B (show(0:Int)<ss.length by lia);have r2:=aN ns (k+1) ss.length ?B;generalize drw ns k gs.length=g at*;generalize drw ns (k+1) ss.length=s at*;obtain⟨q,hq,f1,_⟩:=um (f:=λs:Stf=>s.n) r2.1 r2.2;have a2:=m9 (f:=stD) r2.1 f1;have zp:=((S.ok q hq).z).pos;have p4:=hp q hq;have x0:ixD (stD q) (H 1)=U (Q ((q.p::q.r).map H)):=rfl;have d3:=aI (ns:=ns) (show 0<=k+3 by lia) ?B (show(0:Int)<2 by lia);have r3:=aN ns (k+3) 2 ?B;generalize drw ns (k+3) 2=b at*;obtain⟨Xf,eM,hM⟩:∃Xf:Int,atD [H 20,H (1999*q.p+1)] b=U (H Xf)/\0<Xf:=by
  have:b=0\/b=1:=by lia
  rcases this with rfl|rfl
  .exact⟨20,rfl,by lia⟩
  .exact⟨_,rfl,by lia⟩
 have d4:=aI (ns:=ns) (show 0<=k+2 by lia) ?B hM;have r4:=aN ns (k+2) Xf hM;generalize drw ns (k+2) Xf=c at*;obtain⟨n4,e4,a4⟩:=cj (ns:=ns) (k:=k+4) (m:=1000000000) ?B ?B ?B;have d6:=aI (ns:=ns) (show 0<=k+6 by lia) ?B (show(0:Int)<3 by lia);generalize drw ns (k+6) 3=d at*;have d7:=aI (ns:=ns) (show 0<=k+7 by lia) ?B (show(0:Int)<3 by lia);have r7:=aN ns (k+7) 3 ?B;generalize drw ns (k+7) 3=e at*;obtain⟨w,ew,hw⟩:=Qu r7;obtain⟨n8,e8,a8⟩:=cj (ns:=ns) (k:=k+8) (m:=1000000000) ?B ?B ?B;obtain⟨du,ed,kd⟩:=N8 (ns:=ns) (k:=k+10) ?B ?B;obtain⟨ts,et,kt⟩:=FF (ns:=ns) (k:=k+20) ?B ?B kd;have dt:jk (Q (fG du))=⟨.c,Q (fG du)⟩:=rfl;have m1:bO 1999 q.p=O:=by simp[bO]
 have m2:bO 2000 q.p=O:=by simp[bO]
 have m3:∀i:Int,bO n4 i=O:=λi=>nW ?B ?B;obtain⟨P,eP,kP⟩:∃P:Int,n4*(if decide (0<d) then 1 else 0)=P/\Num P:=by
  by_cases h:0<d
  .exact⟨n4,by simp[h],by lia,a4.2⟩
  .exact⟨0,by simp[h],by lia,by lia⟩
 obtain⟨k8,ek,Wu⟩:∃k8:Int,(if 2000*q.p<q.p+c then 2000*q.p else q.p+c)=k8/\q.p<=k8/\k8<=2000*q.p:=by
  refine⟨_,rfl, ?_⟩;split<;>lia
 refine⟨⟨n,g,s,w,n8,P,k8,du,ts⟩, ?_,⟨hn,r1.1,r1.2,r2.1,r2.2,hw,jK a8,a8.1,kP,(show Num k8 from⟨by lia,by lia⟩),λq' h' =>by rw[f1] at h';cases h';exact Wu,kd,kt⟩,rfl⟩;have ln1:((gs.map guD).length:Int)=gs.length:=by simp
 have ln2:((ss.map stD).length:Int)=ss.length:=by simp
 generalize gs.map guD=GG at*;generalize ss.map stD=SS at*;rw[orE];have dl:=II du;generalize fG du=DL at*;refine bA rfl ((ai (e:=[U ?L,U (Z (H k)),U (Z (E n)),U (Z (Q GG)),U (Z (Q SS)),U (Z (H g)),J,J,J,J,J,J]) (by simp[ln1,d1])).trans ((ai (e:=[U ?L,U (Z (H k)),U (Z (E n)),U (Z (Q GG)),U (Z (Q SS)),U (Z (H g)),U (Z (H s)),J,J,J,J,J]) (by simp[ln2,d2])).trans ((ai (e:=[U ?L,U (Z (H k)),U (Z (E n)),U (Z (Q GG)),U (Z (Q SS)),U (Z (H g)),U (Z (H s)),U (Z (H q.p)),J,J,J,J]) (by simp[a2,x0])).trans ((ai (e:=[U ?L,U (Z (H k)),U (Z (E n)),U (Z (Q GG)),U (Z (Q SS)),U (Z (H g)),U (Z (H s)),U (Z (H q.p)),U (Z (H (q.p+c))),J,J,J]) (by simp[d3,eM,d4,m1,a7])).trans ((ai (e:=[U ?L,U (Z (H k)),U (Z (E n)),U (Z (Q GG)),U (Z (Q SS)),U (Z (H g)),U (Z (H s)),U (Z (H q.p)),U (Z (H k8)),J,J,J]) (by simp[m2,jm,ek])).trans ((ai (e:=[U ?L,U (Z (H k)),U (Z (E n)),U (Z (Q GG)),U (Z (Q SS)),U (Z (H g)),U (Z (H s)),U (Z (H q.p)),U (Z (H k8)),U (Z (H P)),J,J]) (by simp[e4,d6,m3,pD];simpa using eP)).trans ((ai (e:=[U ?L,U (Z (H k)),U (Z (E n)),U (Z (Q GG)),U (Z (Q SS)),U (Z (H g)),U (Z (H s)),U (Z (H q.p)),U (Z (H k8)),U (Z (H P)),U (Z (Q [E w,H n8,H P,H k8])),J]) (by simp[d7,ew,e8,a7])).trans ((ai (e:=[U ?L,U (Z (H k)),U (Z (E n)),U (Z (Q GG)),U (Z (Q SS)),U (Z (H g)),U (Z (H s)),U (Z (H q.p)),U (Z (H k8)),U (Z (H P)),U (Z (Q [E w,H n8,H P,H k8])),U (Z (Q DL))]) (by simp[ed])).trans ?_))))))));simp[et,a7,dl,(rQ ts)]
def sE(ns:List Int)(k:Int)(n:Str)(p:Int)(sz:List Int)(f:Int)(x:Os):DL.Env:=[U ?L,U (Z (H k)),U (Z (E n)),U (Z (H p)),U (C (Y (sz.map H))),U (Z (H f)),x,J,J]
structure SI(p:Int)(j:Nat)(f:Int)(r:List Int):Prop where
 len:r.length=j
 f1:1<=f
 f2:f<=1+285*j
 ris:pJ (p::r)
 ok:∀x∈p::r,∃c:Int,x=c*p/\1<=c/\c<=f
 last:∃l x,p::r=l++[x]/\x=f*p
theorem qB:∀{l:List Int} {x y:Int},pJ (l++[x])->x<y->pJ (l++[x]++[y])
 |[],x,y,_,h=> ⟨h,trivial⟩
 |[a],x,y,h,h2=> ⟨h.1,h2,trivial⟩
 |a::b::l,x,y,h,h2=> ⟨h.1,qB (l:=b::l) h.2 h2⟩
def IV{ns:List Int}{k f:Int}{r:List Int}{x:Os}(hk:0<=k)(xQ:k<800000)(hp:1<=p)(UT:p<=400000)(hj:j<7)(h:SI p j f r):
  ∃f' r',ao (au 5 (Xn af (Xn af (vE 5) (kI 1)) (bF ae (ak (vE 0) (ak (Xn af (Xn af (vE 1) (kI 3)) (vE 6)) (ak (Xm (jf (ak (kI 4) (ak (kI 285) aM))) (bF ae (ak (vE 0) (ak (Xn af (vE 1) (kI 11)) (ak (kI 2) aM))))) aM)))))) (cL 4 (Xn dq (vE 5) (vE 3))) (sE ns k n p (p::r) f (U (Z (H (j:Int)))))=U (.nx (sE ns k n p (p::r') f' (U (Z (H (j:Int))))))/\SI p (j+1) f' r' :=by
 have d1:=aI (ns:=ns) (show 0<=k+11 by lia) ?B (show _<2 by lia);have r1:=aN ns (k+11) 2 ?B;generalize drw ns _ 2=b at*;obtain⟨Xf,eM,hM⟩:∃Xf:Int,atD [H 4,H 285] b=U (H Xf)/\0<Xf/\Xf<=285:=by
  have:b=0\/b=1:=by lia
  rcases this with rfl|rfl
  .exact⟨4,rfl,by lia⟩
  .exact⟨285,rfl,by lia⟩
 have d2:=aI (ns:=ns) (show 0<=k+3+(j) by lia) ?B hM.1;have r2:=aN ns (k+3+(j)) Xf hM.1;generalize drw ns _ Xf=c at*;obtain⟨h1,h2,h3,h4,h5,l,x0,h6,h7⟩:=h;have m:bO (f+1+c) p=O:=nW ?B ?B;refine⟨f+1+c,r++[_*p], ?_,by simp[h1],by lia,by lia, ?_, ?_,p::r,_,rfl,rfl⟩
 .have z:r.length+1<16777216:=by lia
  simp[sE,d1,d2,eM,m,z,a7]
 .rw[<-Gcm,h6];exact qB ?B (by rw[h7];exact(Int.mul_lt_mul_of_pos_right ?B ?B))
 .intro x hx;rw[<-Gcm,GaL] at hx;rcases hx with hx|hx
  .obtain⟨c',e,q1,q2⟩:=h5 x hx;exact⟨c',e,q1,by lia⟩
  .simp at hx;exact⟨_,hx,by lia,by lia⟩
theorem qC:∀{l n},pJ l->pJ (l.take n)
 |[],n,h=>by simp;trivial
 |[a],0,h=>trivial
 |[a],n+1,h=>by simp;exact trivial
 |a::b::l,0,h=>trivial
 |a::b::l,1,h=>trivial
 |a::b::l,n+2,h=> ⟨h.1,qC (n:=n+1) h.2⟩
theorem uq:∀{l:List Int} {y:Int},pJ l->(∀x∈l,x<y)->pJ (l++[y])
 |[],y,_,_=>trivial
 |[a],y,_,h=> ⟨h a ?E,trivial⟩
 |a::b::l,y,h,h2=> ⟨h.1,uq h.2 λx hx=>h2 x ?H⟩
theorem g9{α:Type}(xC:α->D)(R:Nat->α->Prop)(XH:DL.Env->Prop):∀(ds:List D) (j:Nat) e,XH e->(∀(i:Nat) d,ds[i]? =U d->∀e,XH e->∃e',g d e=U e' /\XH e' /\∃x k,f e' =U ⟨k,xC x⟩/\RV.free ⟨k,xC x⟩=O/\R (j+i) x)->
  ∃xs:List α,cq g bc f ds e=U (xs.map xC)/\xs.length=ds.length/\∀(i:Nat) x,xs[i]? =U x->R (j+i) x
 |[],j,e,_,_=> ⟨[],rfl,rfl,λi x h=>by simp at h⟩
 |d::ds,j,e,hC,st=>by
  obtain⟨e',h1,h2,x,k,h3,h4,h5⟩:=st 0 d rfl e hC;obtain⟨xs,h6,h7,h8⟩:=g9 xC R XH ds _ e' h2 λi d' hd e he=>by
   have:=st (i+1) d' ?H e he
   rwa[show j+_=j+1+i by lia] at this
  refine⟨x::xs,by simp[h1,h3,h4,h6],by simp[h7],λi y hy=> ?_⟩;cases i with
  |zero=>cases hy;exact h5
  |succ i=>
   rw[show j+_=j+1+i by lia];simp_all
def ur(hp:1<=p)(UT:p<=400000)(hj:j<=7)(h:SI p j f r):qp p r:=by
 refine⟨by rw[h.len];exact hj,hp,h.ris,λx hx=> ?_,λx hx=> ?_⟩
 .obtain⟨c,rfl,_⟩:=h.ok x hx;simp_all
 .obtain⟨c,rfl,c1,c2⟩:=h.ok x hx;have:=h.f2;have u1:=Int.mul_le_mul c1 hp ?B ?B;have u2:c*p<=2000*p:=Int.mul_le_mul_of_nonneg_right ?B ?B;lia
def BP{r:List Int}(hp:1<=p)(UT:p<=400000)(hj:j<=7)(h:SI p j f r):qp p (r.take 6++[2000*p]):=by
 have S:=ur hp UT hj h;have mem:∀x∈p::r.take 6,x∈p::r:=λx hx=>by
  grind
 refine⟨by simp;lia,hp, ?_,λx hx=> ?_,λx hx=> ?_⟩
 .rw[<-Gcm,show p::r.take 6=(p::r).take 7 from rfl];refine uq (qC h.ris) λx hx=> ?_;obtain⟨c,rfl,c1,c2⟩:=h.ok x (Gbx hx);have:=h.f2;exact Int.mul_lt_mul_of_pos_right ?B ?B
 .rw[<-Gcm,GaL] at hx;rcases hx with hx|hx
  .exact S.dvd x (mem x hx)
  .simp at hx;subst hx;exact Int.mul_emod_left 2000 p
 .rw[<-Gcm,GaL] at hx;rcases hx with hx|hx
  .exact S.top x (mem x hx)
  .simp at hx;subst hx;lia
def IW{ns:List Int}{k:Int}(hk:0<=k)(xQ:k<700000)(hn:Nam n):∃s,fY [.scr ns,H k,E n]=U (stD s)/\pK s/\s.n=n/\s.p<=400000:=by
 obtain⟨p,e1,p1,p2⟩:=cj (ns:=ns) (k:=k) (m:=400000) ?B ?B ?B;have d2:=aI (ns:=ns) (show 0<=k+2 by lia) ?B (show _<8 by lia);have r2:=aN ns (k+2) 8 ?B;generalize drw ns _ 8=c at*;obtain⟨e,h1,f,r,x,rfl,h2⟩:=jU (g:=gN 6) (body:=ao _ _) (λi e=>∃f r x,e=sE ns k n p (p::r) f x/\SI p i f r) (aO 0 c.toNat) 0 _ ⟨1,[],J,rfl,rfl,by lia,by lia,trivial,λx hx=> ⟨1,by simpa using hx,by lia,by lia⟩,[],p,rfl,by lia⟩ (by
  rintro i d e hd ⟨f,r,x,rfl,h⟩;obtain⟨hi,rfl⟩:=bV hd;rw[GaR] at h;obtain⟨f',r',h3,h4⟩:=IV (ns:=ns) (k:=k) (n:=n) (x:=x) hk ?B p1 p2 ?B h;rw[show(0:Int)+(i:Int)=(i:Int) by lia];exact⟨_,_,rfl,h3,f',r',_,rfl,by rw[GaR];exact h4⟩)
 rw[ba,GaR] at h2;have d3:=aI (ns:=ns) (show 0<=k+48 by lia) ?B (show(0:Int)<8 by lia);generalize drw ns (k+48) 8=b at*;obtain⟨r',K,er⟩:∃r',qp p r' /\(if b=0 then p::(r.take 6++[2000*p]) else p::r)=p::r' :=by
  by_cases hb:b=0
  .exact⟨_,BP p1 p2 ?B h2,by rw[Gaj hb]⟩
  .exact⟨r,ur p1 p2 ?B h2,by rw[Gau hb]⟩
 have d4:=aI (ns:=ns) (show 0<=k+44 by lia) ?B (show(0:Int)<5 by lia);have r4:=aN ns (k+44) 5 ?B;generalize drw ns (k+44) 5=m at*;obtain⟨cs,h3,h4,h5⟩:=g9 (g:=gN 0) (f:=bF iM (ak (vE 1) (ak (Xn af (Xn af (vE 2) (kI 12)) (Xn dq (kI 8) (vE 0))) aM))) jI (λ_ c=>qv c) (λe=>∃z,e=[z,U ?L,U (Z (H k))]) (aO 0 m.toNat) 0 [J,U ?L,U (Z (H k))] ⟨_,rfl⟩ (by
  rintro i d hd e ⟨z,rfl⟩;obtain⟨hi,rfl⟩:=bV hd;obtain⟨c,ec,kc⟩:=Qt (ns:=ns) (k:=k+12+8*(0+(i:Int))) ?B ?B;refine⟨_,rfl,⟨_,rfl⟩,c,.c, ?_,rfl,kc⟩;generalize (0+(i:Int))=XJ at*;have mm:bO 8 XJ=O:=by simp[bO]
  have ct:jk (jI c)=⟨.c,jI c⟩:=rfl;simp[mm,ec,ct])
 rw[ba] at h4;obtain⟨y,e5,a5⟩:=cj (ns:=ns) (k:=k+45) (m:=1000000000) ?B ?B ?B;have d6:=aI (ns:=ns) (show 0<=k+47 by lia) ?B (show(0:Int)<3 by lia);generalize drw ns (k+47) 3=u at*;have m3:∀i:Int,bO y i=O:=λi=>nW ?B ?B;obtain⟨XF,eY,kY⟩:∃XF:Int,y*(if decide (u=0) then 1 else 0)=XF/\Num XF:=by
  by_cases h:u=0
  .exact⟨y,by simp[h],by lia,a5.2⟩
  .exact⟨0,by simp[h],by lia,by lia⟩
 refine⟨⟨n,p,r',cs,XF⟩, ?_,⟨hn,K,by show cs.length<=4;lia,λc hc=> ?_,kY⟩,rfl,p2⟩
 rotate_left
 .obtain⟨i,hi⟩:=GaV hc;exact h5 i c hi
 have kl:=K.len;have rl:=h2.len;have VU:bt c=O:=bU ?B ?B;have VT:bt m=O:=bU ?B ?B;have m2:bO 2000 p=O:=by simp[bO]
 have si:=lZ (p::r');have ci:=Fh cs;rw[stE];unfold fY;refine bA rfl ?_;unfold jA;refine(ai (e:=[U ?L,U (Z (H k)),U (Z (E n)),U (Z (H p)),J,J,J,J,J]) (by simp[e1])).trans ((ai (e:=[U ?L,U (Z (H k)),U (Z (E n)),U (Z (H p)),U (C (Y [H p])),J,J,J,J]) (by simp[a7])).trans ((ai (e:=sE ns k n p [p] 1 J) (by simp[sE])).trans ?_));refine(ai (e:=sE ns k n p (p::r) f x) (by
  unfold sE at h1⊢;simp only[GaI,Gdl] at h1;simp[d2,VU,h1,freed])).trans ?_
 refine(ai (e:=sE ns k n p (p::r') f x) (by
  rw[<-er];unfold sE;by_cases hb:b=0
  .have z1:((p::r).map H).length=r.length+1:=by simp
   have cu:cutD ((p::r).map H) J (U 7)=((p::r).take 7).map H:=by
    rw[GbK];generalize (p::r).map H=L;simp[cutD,sIx]
   have z2:(((p::r).take 7).map H).length+1<=16777216:=by simp;lia
   rw[Gaj hb];rw[show(p::(r.take 6++[2000*p])).map H=((p::r).take 7).map H++[H (2000*p)] by simp];generalize ((p::r).take 7).map H=XH at*;generalize (p::r).map H=L at*;simp[d3,hb,m2,cu,z2,a7]
  .simp[d3,hb])).trans ?_
 generalize hSZ:(p::r').map H=SZ at*;generalize cs.map jI=CS at*;refine(ai (e:=[U ?L,U (Z (H k)),U (Z (E n)),U (Z (H p)),U (C (Y SZ)),U (Z (H f)),x,U (Z (Q CS)),J]) (by
  have rl:(aO 0 m.toNat).length<=a7:=by rw[ba];unfold a7;lia
  unfold sE;rw[hSZ];simp[d4,VT,rl,DL.Xk,dG,h3,bz,ci])).trans ?_
 refine(ai (e:=[U ?L,U (Z (H k)),U (Z (E n)),U (Z (H p)),U (C (Y SZ)),U (Z (H f)),x,U (Z (Q CS)),U (Z (H XF))]) (by simp[e5,d6,m3,pD];simpa using eY)).trans ?_;simp[bz,a7,si,ci]
structure BI(n:Nat)(a b:Int)(bs:List Br):Prop where
 len:bs.length<=12
 nd:(bs.map λp=>(p.1,p.2.1)).Nodup
 ok:∀p∈bs,MU n p/\(p.1<a\/p.1=a/\p.2.1<b)
def BI.up(h:BI n a b bs)(q:∀x y:Int,y<n->x<a\/x=a/\y<b->x<a' \/x=a' /\y<b'):BI n a' b' bs:=⟨h.len,h.nd,λp hp=> ⟨(h.ok p hp).1,q _ _ (h.ok p hp).1.hi (h.ok p hp).2⟩⟩
def BI.ins{n:Nat}{a b g:Int}{bs:List Br}{j:Nat}(h:BI n a b bs)(hl:bs.length<12)(h0:0<=a)(h1:a<=b)(h2:b<n)(hg:1<=g/\g<=1000000000):BI n a (b+1) (bs.take j++(a,b,g)::bs.drop j):=by
 have pm:(bs.take j++(a,b,g)::bs.drop j).Perm ((a,b,g)::bs):=by
  have:=List.perm_middle (a:=((a,b,g))) (l₁:=bs.take j) (l₂:=bs.drop j);simp_all
 refine⟨by rw[pm.length_eq];simp;lia, ?_,λp hp=> ?_⟩
 .rw[(pm.map _).nodup_iff,GaI,GaX];refine⟨λz=> ?_,h.nd⟩;obtain⟨p,hp,e⟩:=Gay.mp z;have:=(h.ok p hp).2;lia
 .rcases Gae.mp (pm.mem_iff.mp hp) with rfl|hp
  .exact⟨⟨h0,h1,h2,jK hg,hg.1⟩,.inr ⟨rfl,by show b<b+1;lia⟩⟩
  .have:=h.ok p hp;exact⟨this.1,this.2.imp id λz=> ⟨z.1,by lia⟩⟩
def bE'(ns:List Int)(k:Int)(m:Int)(bs:List Br)(x y z:Os):DL.Env:=[U ?L,U (Z (H k)),U (Z (H m)),U (C (Y (bs.map de))),x,y,z]
def N9:DS:=ao (au 6 (Xn af (vE 1) (Xn dq (kI 3) (Xn af (Xn dq (kI 6) (vE 4)) (vE 5))))) (ifS (gh (aw ltB (bN 3) (kI 12)) (aw gtB (bF ae (ak (vE 0) (ak (vE 6) (ak (kI 3) aM)))) (kI 0))) (r9 3 (bF ae (ak (vE 0) (ak (vE 6) (ak (Xn af (bN 3) (kI 1)) aM)))) (gk (ak (vE 4) (ak (vE 5) (ak (bF aJ (ak (vE 0) (ak (Xn af (vE 6) (kI 1)) (ak (kI 1000000000) aM)))) aM))))) aE)
def FG{ns:List Int}{k N:Int}{n:Nat}{a b:Int}{bs:List Br}{z:Os}(hk:0<=k)(xQ:k<700000)(h0:0<=a)(h1:a<=b)(h2:b<n)(h6:b<6)(h:BI n a b bs):
  ∃xu z',N9
   (bE' ns k N bs (U (Z (H a))) (U (Z (H b))) z)=U (.nx (bE' ns k N xu (U (Z (H a))) (U (Z (H b))) z'))/\BI n a (b+1) xu :=by
 obtain⟨i,ei⟩:∃i,i=k+3*(6*a+b):=⟨_,rfl⟩
 have i1:0<=i:=by lia
 have m1:bO 6 a=O:=by simp[bO]
 have m2:bO 3 (6*a+b)=O:=by simp[bO]
 have d1:=aI (ns:=ns) i1 ?B (show _<3 by lia);generalize drw ns i 3=c at*;have s1:au 6 (Xn af (vE 1) (Xn dq (kI 3) (Xn af (Xn dq (kI 6) (vE 4)) (vE 5)))) (bE' ns k N bs (U (Z (H a))) (U (Z (H b))) z)=U (.nx (bE' ns k N bs (U (Z (H a))) (U (Z (H b))) (U (Z (H i))))):=by
  unfold bE';rw[ei];simp[m1,m2]
 by_cases h3:(bs.length:Int)<12/\0<c
 .obtain⟨g,e1,a1⟩:=cj (ns:=ns) (k:=i+1) (m:=1000000000) ?B ?B ?B;have d2:=aI (ns:=ns) i1 ?B (show _<(bs.length:Int)+1 by lia);have r2:=aN ns i ((bs.length)+1) ?B;generalize drw ns i _=j at*;refine⟨_,U (Z (H i)),(ai s1).trans ?_,BI.ins (j:=min j.toNat bs.length) h ?B h0 h1 h2 a1⟩
  .have sm:bt j=O:=bU ?B ?B;have e2:(bs.take (min j.toNat bs.length)++((a,b,g))::bs.drop (min j.toNat bs.length)).map de=fH (bs.map de) j (Q [H a,H b,H g]):=by
    unfold fH;rw[Gau ?B,Gav];simp[de]
   unfold bE';rw[e2];have ln:((bs.map de).length:Int)=bs.length:=by simp
   have ln2:(bs.map de).length<16777216:=by simpa using(by lia)
   generalize bs.map de=BB at*;simp[ln,h3.1,h3.2,d1,d2,e1,sm,ln2,a7]
 .refine⟨bs,U (Z (H i)),(ai s1).trans ?_,(h.up λx y _ q=>by lia)⟩;have ln:((bs.map de).length:Int)=bs.length:=by simp
  unfold bE';by_cases h4:(bs.length:Int)<12
  .have h5:¬0<c:=λz=>h3 ⟨h4,z⟩;simp[ln,h4,h5,d1]
  .simp[ln,h4]
def sm6(h0:0<=x)(h1:x<=6):bt x=O:=bU ?B ?B
def Na{ns:List Int}{k N A:Int}{n:Nat}{bs:List Br}{y z:Os}(hk:0<=k)(xQ:k<700000)(h0:0<=A)(h1:A<N)(h6:N<=6)(hN:N=n)(h:BI n A A bs):∃xu y' z',gy J (gz (vE 4) (vE 2)) (gN 5) N9 (bE' ns k N bs (U (Z (H A))) y z)=U (.nx (bE' ns k N xu (U (Z (H A))) y' z'))/\BI n (A+1) (A+1) xu :=by
 obtain⟨e,h2,xu,y',z',rfl,h3⟩:=jU (g:=gN 5) (λi e=>∃xu y' z',e=bE' ns k N xu _ y' z' /\BI n A (A+(i)) xu) (aO A (N -A).toNat) 0 (bE' ns k N bs _ y z) ⟨bs,y,z,rfl,by rw[show A+_=A by lia];exact h⟩ (by
  rintro i d e hd ⟨xu,y',z',rfl,h⟩;obtain⟨hi,rfl⟩:=bV hd;rw[GaR] at h;obtain⟨Vf,z2,h3,h4⟩:=FG hk xQ h0 (show A<=A+_ by lia) ?B ?B h;refine⟨_,_,rfl,h3,Vf,_,z2,rfl, ?_⟩;rw[GaR,show A+_=A+i+1 by lia];exact h4)
 refine⟨xu,y',z', ?_,h3.up λx y hy q=>by lia⟩;unfold bE' at h2⊢;simp[(sm6 h0 ?B),(sm6 ?B h6),h2]
def Nb{ns:List Int}{k N:Int}{n:Nat}(hk:0<=k)(xQ:k<700000)(h0:0<=N)(h6:N<=6)(hN:N=n):∃bs,j5 [.scr ns,H k,H N]=U (Q (bs.map de))/\MV n bs:=by
 obtain⟨e,h2,xu,x',y',z',rfl,h3⟩:=jU (g:=gN 4) (λi e=>∃xu x' y' z',e=bE' ns k N xu x' y' z' /\BI n _ (i) xu) (aO 0 N.toNat) 0 _ ⟨[],J,J,J,rfl,by simp,by simp,by simp⟩ (by
  rintro i d e hd ⟨xu,x',y',z',rfl,h⟩;obtain⟨hi,rfl⟩:=bV hd;rw[GaR] at h;rw[show _+(i:Int)=i by lia];obtain⟨Vf,y2,z2,h3,h4⟩:=Na hk xQ ?B ?B h6 hN h;refine⟨_,_,rfl,h3,Vf,_,y2,z2,rfl, ?_⟩;rw[GaR];exact h4)
 refine⟨xu, ?_,h3.len,h3.nd,λp hp=>(h3.ok p hp).1⟩;have bi:=jJ xu;refine bA rfl ?_;rw[show kN=ao _ (ao (gy J _ _ (gy J _ _ N9)) _) from rfl];refine(ai (e:=bE' ns k N [] J J J) rfl).trans ?_;refine(ai (e:=bE' ns k N xu x' y' z') (by
  unfold bE' at h2⊢;rw[Gdl] at h2⊢;simp[(sm6 h0 h6),h2])).trans ?_
 simp[bE']
def nil_eq:Str.ofString ""=⟨#[]⟩:=by decide+kernel
theorem join_nil:∀l:List Nat,Str.join ⟨#[]⟩ (l.map λc=> ⟨#[c]⟩)=⟨l.toArray⟩
 |[]=>rfl
 |[c]=>rfl
 |c::d::l=>by
  show _++ ⟨#[]⟩++Str.join ⟨#[]⟩ _=_;rw[join_nil _];exact fR (by simp[Gcj])
def FH(l:List Nat):lF (l.map bX)=U (l.map λc=> ⟨#[c]⟩):=by
 rw[show l.map bX=(l.map λc=>(⟨#[c]⟩:Str)).map E by rw[Gaz];rfl,strs_map]
def oZ{l:List Nat}(h:l.length<=100):cG "" (Y (l.map bX))=U ⟨.c,E ⟨l.toArray⟩⟩:=by
 have s:((l.map λc=>(⟨#[c]⟩:Str)).map (·.length)).sum=l.length:=by
  induction l with
  |nil=>rfl
  |cons c l ih=>
   have:=ih (by simp at h;lia);simp only[GaI,List.sum_cons,this,GaF];show 1+_=_;lia
 rw[jO,FH,nil_eq,Option.bind_some,s,Gaj (by show _+_*0<=_;unfold a7;lia),join_nil]
def Low(l:List Nat):Prop:=l.all (λc=>decide (97<=c)&&decide (c<=122))=O
def Low.app(h:Low l)(h2:Low m):Low (l++m):=by unfold Low at*;rw[GcX,h,h2];rfl
theorem Low.take{l:List Nat}(h:Low l)(n:Nat):Low (l.take n):=Gan.mpr λc hc=>Gan.mp h c (Gbx hc)
theorem Low.drop{l:List Nat}(h:Low l)(n:Nat):Low (l.drop n):=Gan.mpr λc hc=>Gan.mp h c (Gbw hc)
def Low.nam{l:List Nat}(h:Low l)(h1:1<=l.length)(h2:l.length<=8):Nam ⟨l.toArray⟩:=⟨h1,h2,h⟩
def Qv(xs:List Str)(x:Str):ddS (xs++[x])=if x∈ddS xs then ddS xs else ddS xs++[x]:=by
 unfold ddS;simp_all
def FI(xs:List Str):(∀x,x∈ddS xs↔x∈xs)/\(ddS xs).length<=xs.length/\((ddS xs).length=xs.length->xs.Nodup):=by
 rw[<-List.reverse_reverse xs];induction xs.reverse with
 |nil=>simp[ddS]
 |cons x r ih=>
  obtain⟨h1,h2,h3⟩:=ih;rw[List.reverse_cons,Qv];by_cases q:x∈ddS r.reverse
  .rw[Gaj q];refine⟨λy=> ?_,by simp at h2⊢;lia,λz=>by simp at h2 z;lia⟩;simp_all
  .rw[Gau q];refine⟨λy=> ?_,by simp at h2⊢;lia,λz=> ?_⟩
   .simp[h1]
   .have:=h3 ?H;rw[Gcf];refine⟨this,by simp,λa ha b hb e=> ?_⟩;simp_all
def IY:(Str.ofString "abcdefghijklmnopqrstuvwxyz").cps.toList=List.range' 97 26:=by decide+kernel
def FJ{d:Int}(h0:0<=d)(h1:d<26):ixD (E "abcdefghijklmnopqrstuvwxyz") (H d)=U (bX (97+d.toNat)):=by
 rw[dU,Gaj (by decide+kernel),IY];unfold atD;rw[Gaj h0,List.getElem?_range' ?B];simp[bX]
def Pre(m:Nat)(xs:List Str):Prop:=xs.length=m/\∀x∈xs,1<=x.length/\Low x.cps.toList/\x.length<=100
def pb{xs:List α}{v:Int}(h:0<=v):cutD xs J (U v)=xs.take v.toNat:=by
 unfold cutD sIx;dsimp only;rw[Gau ?B];simp
def FK{xs:List α}{v:Int}(h:0<=v)(h2:v<=xs.length):cutD xs (U v) J=xs.drop v.toNat:=by
 unfold cutD sIx;dsimp only;rw[Gau ?B,GbJ ?B,GbF ?E]
theorem max_le:∀{ns:List Int} {i:Int},sJ i ns<=8->i<=8/\∀n∈ns,n<=8
 |[],i,h=> ⟨h,λn hn=>by simp at hn⟩
 |a::ns,i,h=>by
  obtain⟨h1,h2⟩:=max_le (i:=if a>i then a else i) h;refine⟨by split at h1<;>lia,λn hn=> ?_⟩;rcases Gae.mp hn with rfl|hn
  .split at h1<;>lia
  .exact h2 n hn
def Nc{xs:List Str}(P:Pre m xs)(h1:m<=(ddS xs).length)(h2:sJ 0 (xs.map λx=>(x.length:Int))<=8):xs.length=m/\xs.Nodup/\∀x∈xs,Nam x:=by
 have f:=FI xs;refine⟨P.1,f.2.2 (by have:=f.2.1;have:=P.1;lia),λx hx=> ?_⟩;have:=(max_le h2).2 _ (GbT hx);exact⟨(P.2 x hx).1,by lia,(P.2 x hx).2.1⟩
noncomputable def w12:List Str:=["order","cap","due","young","flat","kilo","ever","bar","down","guest","stuff","asked"]
def Nd:∀x∈w12,1<=x.length/\Low x.cps.toList/\x.length<=100:=by
 have:(w12.all λx=>decide (1<=x.length)&&(decide (x.length<=100)&&x.cps.toList.all λc=>decide (97<=c)&&decide (c<=122)))=O:=by decide+kernel
 intro x hx;have:=Gan.mp this x hx;rw[Gai,Gai] at this;exact⟨Gar this.1,this.2.2,Gar this.2.1⟩
def Nf(h:0<=i)(h2:i<2):Low (Txt.slice "zz" J (U i)).cps.toList/\(Txt.slice "zz" J (U i)).length<=2:=by
 have:i=0\/i=1:=by lia
 rcases this with rfl|rfl
 .exact⟨by unfold Low;decide+kernel,by decide+kernel⟩
 .exact⟨by unfold Low;decide+kernel,by decide+kernel⟩
def Qw{c a b:Int}(h1:0<=a/\a<12)(h2:0<=b/\b<12)(e:(c+7*a)%26=(c+7*b)%26):a=b:=by lia
noncomputable abbrev abc:D:= E "abcdefghijklmnopqrstuvwxyz"
def nE(ns:List Int)(b m:Int)(w:D)(s:Int)(x6 x7 x8 x9 xo:Os):DL.Env:=[U ?L,U (Z (H b)),U (Z (H m)),U (Z abc),U (C w),U (Z (H s)),x6,x7,x8,x9,xo]
noncomputable def dD(xs:List Str):Os:=U (C (Y (xs.map E)))
section
variable{cs:List Nat}
def st1{ns:List Int}{m:Int}(hm:0<=m)(xT:m<=12)(hc:cs.length=8)(hl:Low cs):
  ∃xs,au 6 (bu J 1 [4] (aS (vE 2)) (gN 0) bc (Xn af (unE (cG "") (slE (vE 1) noO (aV (Xn af (kI 1) (Xn gg (vE 0) (kI 8)))))) (vh "zz" (Xn l5 (vE 0) (kI 8))))) (nE ns b m (Y (cs.map bX)) s x6 x7 x8 x9 xo)=U (.nx (nE ns b m (Y (cs.map bX)) s (dD xs) x7 x8 x9 xo))/\Pre m.toNat xs:=by
 have sm:bt m=O:=bU ?B ?B;obtain⟨xs,h1,h2,h3⟩:=g9 (g:=gN 0) (f:=Xn af (unE (cG "") (slE (vE 1) noO (aV (Xn af (kI 1) (Xn gg (vE 0) (kI 8)))))) (vh "zz" (Xn l5 (vE 0) (kI 8)))) E (λ_ x=>1<=x.length/\Low x.cps.toList/\x.length<=100) (λe=>∃z,e=[z,U _]) (aO 0 m.toNat) 0 [J,U (XM (Y (cs.map bX)))] ⟨_,rfl⟩ (by
  rintro i d hd e ⟨z,rfl⟩;obtain⟨hi,rfl⟩:=bV hd;obtain⟨j,ej⟩:∃j:Int,j=0+(i):=⟨_,rfl⟩
  rw[<-ej];have j2:0<=1+j%8/\1+j%8<=8:=by lia
  have j3:0<=j/8/\j/8<2:=by lia
  clear ej hi hd;have cu:=pb (xs:=cs.map bX) j2.1;rw[<-GbK] at cu;have jn:=oZ (l:=cs.take (1+j%8).toNat) (by grind);have zz:=Nf j3.1 j3.2;have lw:=hl.take (1+j%8).toNat;have ll:(cs.take (1+j%8).toNat).length=(1+j%8).toNat:=by rw[GaS];lia
  generalize cs.take (1+j%8).toNat=l at*;generalize ht:Txt.slice "zz" J _=t at*;refine⟨_,rfl,⟨_,rfl⟩,(⟨l.toArray⟩)++t,.c, ?_,rfl, ?_, ?_, ?_⟩
  .have z1:(⟨l.toArray⟩:Str).length+t.length<=16777216:=by have:(⟨_⟩:Str).length=l.length:=rfl;lia
   have z2:(Str.ofString "zz").length<=16777216:=by decide+kernel
   simp[cu,jn,vh,z2,z1,ht,a7]
  .rw[len_app];show 1<=l.length+_;lia
  .rw[Gcj,Gdb];exact lw.app zz.1
  .rw[len_app];show l.length+_<=100;lia)
 rw[ba] at h2;refine⟨xs, ?_,h2,λx hx=> ?_⟩
 .have rl:(aO 0 m.toNat).length<=a7:=by rw[ba];unfold a7;lia
  simp[nE,dD,sm,rl,DL.Xk,dG,h1]
 .obtain⟨i,hi⟩:=GaV hx;exact h3 i x hi
def st2{ns:List Int}{m:Int}(hm:0<=m)(xT:m<=12)(hc:cs.length=8)(hl:Low cs):
  ∃xs,au 6 (bu J 1 [4] (aS (vE 2)) (gN 0) bc (unE (cG "") (slE (vE 1) (aV (Xn mw (kI 7) (Xn gg (vE 0) (kI 8)))) noO))) (nE ns b m (Y (cs.map bX)) s x6 x7 x8 x9 xo)=U (.nx (nE ns b m (Y (cs.map bX)) s (dD xs) x7 x8 x9 xo))/\Pre m.toNat xs:=by
 have sm:bt m=O:=bU ?B ?B;obtain⟨xs,h1,h2,h3⟩:=g9 (g:=gN 0) (f:=unE (cG "") (slE (vE 1) (aV (Xn mw (kI 7) (Xn gg (vE 0) (kI 8)))) noO)) E (λ_ x=>1<=x.length/\Low x.cps.toList/\x.length<=100) (λe=>∃z,e=[z,U _]) _ 0 [J,U (XM (Y (cs.map bX)))] ⟨_,rfl⟩ (by
  rintro i d hd e ⟨z,rfl⟩;obtain⟨hi,rfl⟩:=bV hd;obtain⟨j,ej⟩:∃j:Int,j=0+(i):=⟨_,rfl⟩
  rw[<-ej];have j2:0<=7 -j%8/\7 -j%8<=7:=by lia
  clear ej hi hd;have cu:=FK (xs:=cs.map bX) j2.1 (by grind);rw[<-Gdf] at cu;have jn:=oZ (l:=cs.drop (7 -j%8).toNat) (by simp;lia);have lw:=hl.drop (7 -j%8).toNat;have ll:1<=(cs.drop (7 -j%8).toNat).length:=by rw[Gck];lia
  have l3:(cs.drop (7 -j%8).toNat).length<=100:=by rw[Gck];lia
  generalize cs.drop (7 -j%8).toNat=l at*;refine⟨_,rfl,⟨_,rfl⟩,(⟨_⟩),.c, ?_,rfl,ll,lw,l3⟩;simp[cu,jn])
 rw[ba] at h2;refine⟨xs, ?_,h2,λx hx=> ?_⟩
 .have rl:(aO 0 m.toNat).length<=a7:=by rw[ba];unfold a7;lia
  simp[nE,dD,sm,rl,DL.Xk,dG,h1]
 .obtain⟨i,hi⟩:=GaV hx;exact h3 i x hi
def IZ{ns:List Int}{z a:Int}{xs:List Str}{k:Int}(hb:0<=b)(zD:b<900000)(hc:cs.length=8)(hl:Low cs)(hz:1<=z/\z<=8)(ha:0<=a/\a<z)(hk:0<=k/\k<12)(hx:xs.length<1000)(ec:drw ns (b+11) 26=c):
  ∃x',ao (au 10 (slE (vE 4) noO (aV (vE 7)))) (ao (nF 10 (vE 8) (Xm (vE 3) (Xn gg (Xn af (bF ae (ak (vE 0) (ak (Xn af (vE 1) (kI 11)) (ak (kI 26) aM)))) (Xn dq (kI 7) (vE 9))) (kI 26)))) (cL 6 (unE (cG "") (vE 10)))) (nE ns b m (Y (cs.map bX)) s (dD xs) (U (Z (H z))) (U (Z (H a))) (U (Z (H k))) xo)
   =U (.nx (nE ns b m (Y (cs.map bX)) s (dD (xs++[⟨((cs.take z.toNat).set a.toNat (97+((c+7*k)%26).toNat)).toArray⟩])) (U (Z (H z))) (U (Z (H a))) (U (Z (H k))) x')):=by
 have d1:=aI (ns:=ns) (show 0<=b+11 by lia) ?B (show _<26 by lia);rw[ec] at d1;have mm:bO 7 k=O:=by simp[bO]
 have cu:=pb (xs:=cs.map bX) (show 0<=z by lia);rw[<-GbK] at cu;have tl:(cs.take z.toNat).length=z.toNat:=by rw[GaS];lia
 have st:((cs.take z.toNat).map bX).set a.toNat (bX (97+((c+7*k)%26).toNat))=((cs.take z.toNat).set a.toNat (97+((c+7*k)%26).toNat)).map bX:=by rw[List.map_set]
 have jn:=oZ (l:=(cs.take z.toNat).set a.toNat (97+((c+7*k)%26).toNat)) (by grind);have pd:putD (Y ((cs.take z.toNat).map bX)) (H a) (bX (97+((c+7*k)%26).toNat))=U (Y (((cs.take z.toNat).set a.toNat (97+((c+7*k)%26).toNat)).map bX)):=by
  rw[<-st];show(if 0<=a/\a<((cs.take _).map bX).length then _ else _)=_;rw[Gaj ⟨ha.1,by rw[Gav];lia⟩]
 have xl:(xs.map E).length<16777216:=by simp;lia
 have xm:(xs++[(⟨((cs.take z.toNat).set a.toNat (97+((c+7*k)%26).toNat)).toArray⟩:Str)]).map E=xs.map E++[E ⟨((cs.take z.toNat).set a.toNat (97+((c+7*k)%26).toNat)).toArray⟩]:=by simp
 unfold dD;rw[xm];generalize xs.map _=X at*;generalize ((cs.take z.toNat).set a.toNat (97+((c+7*k)%26).toNat)).map bX=Xd at*;generalize (cs.take z.toNat).map bX=T at*;generalize cs.map bX=W at*;refine⟨U (C (Y Xd)), ?_⟩;unfold nE;refine(ai (e:=[U ?L,U (Z (H b)),U (Z (H m)),U (Z abc),U (C (Y W)),U (Z (H s)),U (C (Y X)),U (Z (H z)),U (Z (H a)),U (Z (H k)),U (C (Y T))]) (by simp[cu])).trans ((ai (e:=[U ?L,U (Z (H b)),U (Z (H m)),U (Z abc),U (C (Y W)),U (Z (H s)),U (C (Y X)),U (Z (H z)),U (Z (H a)),U (Z (H k)),U (C (Y Xd))]) (by simp[d1,mm,(FJ (d:=(c+7*k)%26) ?B ?B),pd])).trans ?_);simp[jn,xl,a7]
noncomputable def nm(cs:List Nat)(z a c:Int)(i:Nat):Str:=⟨((cs.take z.toNat).set a.toNat (97+((c+7*(i:Int))%26).toNat)).toArray⟩
def Qx(hc:cs.length=8)(hl:Low cs)(hz:1<=z/\z<=8)(i:Nat):Nam (nm cs z a c i):=by
 have tl:(cs.take z.toNat).length=z.toNat:=by rw[GaS];lia
 refine Low.nam (Gan.mpr λx hx=> ?_) (by rw[List.length_set];lia) ?H;rcases List.mem_or_eq_of_mem_set hx with h|h
 .exact Gan.mp hl x (Gbx h)
 .subst h;lia
def Ng(hc:cs.length=8)(hz:1<=z/\z<=8)(ha:0<=a/\a<z)(hi:i<12)(hj:j<12)(e:nm cs z a c i=nm cs z a c j):i=j:=by
 have tl:(cs.take z.toNat).length=z.toNat:=by rw[GaS];lia
 have e2:(cs.take _).set _ _=(cs.take _).set _ _:=congrArg (λx:Str=>x.cps.toList) e;have e3:=congrArg (λl:List Nat=>l[a.toNat]?) e2;rw[GaD ?B,GaD ?B] at e3;have:=Qw (c:=c) (a:=i) (b:=j) ?B ?B ?B;lia
def BQ{α:Type}{f:Nat->α}(h:∀i j,i<m->j<m->f i=f j->i=j):((List.range m).map f).Nodup:=by
 rw[List.Nodup,List.pairwise_map];refine List.Pairwise.imp_of_mem (λ{a b} ha hb hab e=> ?_) List.pairwise_lt_range;have:=h a b (GaZ.mp ha) (GaZ.mp hb) e;lia
def FL{ns:List Int}{m:Int}(hb:0<=b)(zD:b<900000)(hm:0<=m)(xT:m<=12)(hc:cs.length=8)(hl:Low cs):
  ∃xs y7 y8 y9 zi,ao (au 7 (Xn af (kI 1) (bF ae (ak (vE 0) (ak (Xn af (vE 1) (kI 9)) (ak (kI 8) aM)))))) (ao (au 8 (bF ae (ak (vE 0) (ak (Xn af (vE 1) (kI 10)) (ak (vE 7) aM))))) (ao (au 6 (jf aM)) (gy J (aS (vE 2)) (gN 9) (ao (au 10 (slE (vE 4) noO (aV (vE 7)))) (ao (nF 10 (vE 8) (Xm (vE 3) (Xn gg (Xn af (bF ae (ak (vE 0) (ak (Xn af (vE 1) (kI 11)) (ak (kI 26) aM)))) (Xn dq (kI 7) (vE 9))) (kI 26)))) (cL 6 (unE (cG "") (vE 10))))))))
   (nE ns b m (Y (cs.map bX)) s x6 x7 x8 x9 xo)=U (.nx (nE ns b m (Y (cs.map bX)) s (dD xs) y7 y8 y9 zi))/\xs.length=m.toNat/\xs.Nodup/\∀x∈xs,Nam x:=by
 have d1:=aI (ns:=ns) (show 0<=b+9 by lia) ?B (show _<8 by lia);have r1:=aN ns (b+9) 8 ?B;generalize drw ns _ 8=z0 at*;obtain⟨z,ez⟩:∃z,z=1+z0:=⟨_,rfl⟩
 have hz:1<=z/\z<=8:=by lia
 have d2:=aI (ns:=ns) (show 0<=b+10 by lia) ?B (show _<z by lia);have r2:=aN ns (b+10) z ?B;generalize drw ns _ z=a at*;obtain⟨c,ec⟩:∃c,drw ns (b+11) 26=c:=⟨_,rfl⟩
 obtain⟨e,h1,zN,yt,rfl⟩:=jU (g:=gN 9) (λi e=>∃zN yt,e=nE ns b m _ s (dD ((List.range i).map (nm cs z a c))) _ _ zN yt) (aO 0 m.toNat) 0 (nE ns b m _ s (dD []) _ _ x9 xo) ⟨x9,xo,rfl⟩ (by
  rintro i d e hd ⟨zN,yt,rfl⟩;obtain⟨hi,rfl⟩:=bV hd;rw[GaR,show _+_=(i:Int) by lia];obtain⟨x',h⟩:=IZ (xs:=(List.range i).map _) (k:=(i)) hb zD hc hl hz r2 ?B (by simp;lia) ec;refine⟨_,_,rfl,h,U (Z (H (i))),x', ?_⟩;rw[GcY,GaB]
  rfl)
 rw[ba] at h1;refine⟨(List.range m.toNat).map (nm cs z a c),U (Z (H z)),U (Z (H a)),zN,yt, ?_,by simp,BQ λi j hi hj e=>Ng hc hz r2 ?B ?B e,λx hx=> ?_⟩
 rotate_left
 .obtain⟨i,_,rfl⟩:=Gay.mp hx;exact Qx hc hl hz i
 have sm:bt m=O:=bU ?B ?B;generalize cs.map bX=W at*;refine(ai (e:=nE ns b m (Y W) s x6 (U (Z (H z))) x8 x9 xo) (by unfold nE;rw[ez];simp[d1])).trans ((ai (e:=nE ns b m (Y W) s x6 (U (Z (H z))) (U (Z (H a))) x9 xo) (by unfold nE;simp[d2])).trans ((ai (e:=nE ns b m (Y W) s (dD []) (U (Z (H z))) (U (Z (H a))) x9 xo) rfl).trans ?_));unfold nE at h1⊢;simp[sm,h1]
def J1{ns:List Int}{xs:List Str}(hx:xs.length<=12)(hl:∀x∈xs,x.length<=100)(hs:s≠3):
  orT (aw eqB (vE 5) (kI 3)) (orT (aw ltB (unE lP (vE 6)) (vE 2)) (aw gtB (jY pV (ak (Xn af (jf (ak (kI 0) aM)) (bu (U 6) 1 [] (ssI (vE 6)) (gN 0) bc (bN 0))) aM)) (kI 8))) (nE ns b m w s (dD xs) x7 x8 x9 xo)=U (decide (((ddS xs).length:Int)<m)||decide (8<sJ 0 (xs.map λx=>(x.length:Int)))):=by
 have c:cq (gN 0) bc (bN 0) (xs.map E) [J]=U ((xs.map λx=>(x.length)).map H):=by
  rw[Gaz];refine dI _ (λe=>∃z,e=[z]) _ _ _ ⟨_,rfl⟩ ?_;rintro x hx e ⟨z,rfl⟩;have:=hl x hx;have h2:x.length<=16777216:=by lia
  exact⟨_,rfl,⟨_,rfl⟩,.c,by simp[h2,a7],rfl⟩
 have l2:(xs.map E).length<=16777216:=by simp;lia
 have mx:pV [Y (H 0::(xs.map λx=>(x.length)).map H)]=U ⟨.c,H (sJ 0 (xs.map λx=>(x.length)))⟩:=by
  have:=BJ (0::xs.map λx=>(x.length));simp only[GaI] at this;show(sF _).bind _=_;rw[this]
  rfl
 have l3:((xs.map λx=>(x.length)).map H).length+1<=16777216:=by simp;lia
 have ls:lP (Y (xs.map E))=U ⟨.c,H (ddS xs).length⟩:=by rw[BC,(strs_map xs),Option.bind_some,Gaj ?B]
 generalize ((ddS xs).length)=q at*;generalize (xs.map λx=>_).map _=XJ at*;unfold nE dD;generalize xs.map _=X at*;have l4:1+XJ.length<=16777216:=by lia
 by_cases h1:q<m
 .simp[ls,h1]
 .simp[hs,ls,h1,c,l2,l4,mx,a7,DL.Xk]
abbrev JT:DT:=orT (aw eqB (vE 5) (kI 3)) (orT (aw ltB (unE lP (vE 6)) (vE 2)) (aw gtB (jY pV (ak (Xn af (jf (ak (kI 0) aM)) (bu (U 6) 1 [] (ssI (vE 6)) (gN 0) bc (bN 0))) aM)) (kI 8)))
abbrev bLast:DS:=ao (au 7 (Xn af (kI 1) (bF ae (ak (vE 0) (ak (Xn af (vE 1) (kI 9)) (ak (kI 8) aM)))))) (ao (au 8 (bF ae (ak (vE 0) (ak (Xn af (vE 1) (kI 10)) (ak (vE 7) aM))))) (ao (au 6 (jf aM)) (gy J (aS (vE 2)) (gN 9) (ao (au 10 (slE (vE 4) noO (aV (vE 7)))) (ao (nF 10 (vE 8) (Xm (vE 3) (Xn gg (Xn af (bF ae (ak (vE 0) (ak (Xn af (vE 1) (kI 11)) (ak (kI 26) aM)))) (Xn dq (kI 7) (vE 9))) (kI 26)))) (cL 6 (unE (cG "") (vE 10))))))))
abbrev Qy:DS:=au 6 (bu J 1 [4] (aS (vE 2)) (gN 0) bc (Xn af (unE (cG "") (slE (vE 1) noO (aV (Xn af (kI 1) (Xn gg (vE 0) (kI 8)))))) (vh "zz" (Xn l5 (vE 0) (kI 8)))))
abbrev Qz:DS:=au 6 (bu J 1 [4] (aS (vE 2)) (gN 0) bc (unE (cG "") (slE (vE 1) (aV (Xn mw (kI 7) (Xn gg (vE 0) (kI 8)))) noO)))
def FN:jz=ao (au 3 (kS "abcdefghijklmnopqrstuvwxyz")) (ao (au 4 (bu J 1 [0,1,3] (aS (kI 8)) (gN 0) bc (Xm (vE 3) (caE ae [vE 1,Xn af (vE 2) (vE 0),kI 26])))) (ao (au 5 (caE ae [vE 0,Xn af (vE 1) (kI 8),kI 4])) (ao (au 6 (slE (lsE [kS "order",kS "cap",kS "due",kS "young",kS "flat",kS "kilo",kS "ever",kS "bar",kS "down",kS "guest",kS "stuff",kS "asked"]) noO (aV (vE 2)))) (ao (ifS (aw eqB (vE 5) (kI 1)) Qy aE) (ao (ifS (aw eqB (vE 5) (kI 2)) Qz aE) (ao (ifS (aw eqB (vE 5) (kI 3)) (au 6 (jf aM)) aE) (ao (ifS JT bLast aE) (Xi (vE 6))))))))):=rfl
def pe(h:t e=U v):ifS t f g e=if v then f e else g e:=by simp[h]
def mP{ns:List Int}{xs:List Str}:Xi (vE 6) (nE ns b m w s (dD xs) x7 x8 x9 xo)=U (.ret (Y (xs.map E))):=by
 have i:aj (xs.map E)=O:=bj λ_ _=>rfl;unfold nE dD;simp[i]
def rT{ns:List Int}{m:Int}(hb:0<=b)(zD:b<800000)(hm:0<=m)(xT:m<=12):∃xs:List Str,cA [.scr ns,H b,H m]=U (Y (xs.map E))/\xs.length=m.toNat/\xs.Nodup/\∀x∈xs,Nam x:=by
 obtain⟨cs,h1,h2,h3⟩:=g9 (g:=gN 0) (f:=Xm (vE 3) (bF ae (ak (vE 1) (ak (Xn af (vE 2) (vE 0)) (ak (kI 26) aM))))) bX (λ_ c=>97<=c/\c<=122) (λe=>∃z,e=[z,U _,U _,U _]) (aO 0 8) 0 [J,U ?L,U (Z (H b)),U (Z abc)] ⟨_,rfl⟩ (by
  rintro i d hd e ⟨z,rfl⟩;obtain⟨hi,rfl⟩:=bV hd;have d1:=aI (ns:=ns) (k:=b+(0+(i))) ?B ?B (show _<26 by lia);have r1:=aN ns (b+(0+(i:Int))) 26 ?B;generalize (0+(i:Int))=XJ at*;generalize drw ns (b+XJ) 26=d at*;have lt:=FJ r1.1 r1.2;refine⟨_,rfl,⟨_,rfl⟩,97+d.toNat,.c, ?_,rfl,by lia,by lia⟩;generalize bX (97+d.toNat)=q at*;simp[d1,lt,-dU])
 rw[ba] at h2;have hl:Low cs:=Gan.mpr λc hc=>by
  obtain⟨i,hi⟩:=GaV hc;have:=h3 i c hi;simp[this.1,this.2]
 have d5:=aI (ns:=ns) (show 0<=b+8 by lia) ?B (show(0:Int)<4 by lia);generalize drw ns (b+8) 4=s at*;have first:∀g:DS,ao (au 3 (kS "abcdefghijklmnopqrstuvwxyz")) (ao (au 4 (bu J 1 [0,1,3] (aS (kI 8)) (gN 0) bc (Xm (vE 3) (caE ae [vE 1,Xn af (vE 2) (vE 0),kI 26])))) (ao (au 5 (caE ae [vE 0,Xn af (vE 1) (kI 8),kI 4])) (ao (au 6 (slE (lsE [kS "order",kS "cap",kS "due",kS "young",kS "flat",kS "kilo",kS "ever",kS "bar",kS "down",kS "guest",kS "stuff",kS "asked"]) noO (aV (vE 2)))) g))) (dv 11 [.scr ns,H b,H m])=g (nE ns b m (Y (cs.map bX)) s (dD (w12.take m.toNat)) J J J J):=λg=>by
  have s8:bt 8=O:=rfl;have cu:=pb (xs:=w12.map E) hm;rw[<-GbK] at cu;have wl:w12.map E=[E "order",E "cap",E "due",E "young",E "flat",E "kilo",E "ever",E "bar",E "down",E "guest",E "stuff",E "asked"]:=rfl;rw[wl] at cu;unfold nE dD;generalize (w12.take m.toNat).map E=X at*;generalize cs.map bX=W at*;exact(ai (e:=[U ?L,U (Z (H b)),U (Z (H m)),U (Z abc),J,J,J,J,J,J,J]) ?E).trans ((ai (e:=[U ?L,U (Z (H b)),U (Z (H m)),U (Z abc),U (C (Y W)),J,J,J,J,J,J]) (by simp[s8,DL.Xk,dG,ba,a7,h1])).trans ((ai (e:=[U ?L,U (Z (H b)),U (Z (H m)),U (Z abc),U (C (Y W)),U (Z (H s)),J,J,J,J,J]) (by simp[d5])).trans (ai (by simp[cu,a7]))))
 obtain⟨xs,zk,P⟩:∃xs,(∀g:DS,ao (ifS (aw eqB (vE 5) (kI 1)) Qy aE) (ao (ifS (aw eqB (vE 5) (kI 2)) Qz aE) g) (nE ns b m (Y (cs.map bX)) s (dD (w12.take m.toNat)) J J J J)=g (nE ns b m (Y (cs.map bX)) s (dD xs) J J J J))/\Pre m.toNat xs:=by
  have t:∀(k:Int) (xs:List Str),aw eqB (vE 5) (kI k) (nE ns b m (Y (cs.map bX)) s (dD xs) J J J J)=U (s==k):=λk xs=>by
   simp[nE]
  by_cases e1:s=1
  .obtain⟨xs,h,P⟩:=st1 (ns:=ns) (b:=b) (m:=m) (s:=s) (cs:=cs) (x6:=dD (w12.take m.toNat)) (x7:=J) (x8:=J) (x9:=J) (xo:=J) hm xT h2 hl;refine⟨xs,λg=>(ai (e:=nE ns b m (Y (cs.map bX)) s (dD xs) J J J J) ?_).trans (ai ?_),P⟩
   .rw[pe (t 1 _),Gaj (by simp[e1])];exact h
   .rw[pe (t 2 _),Gau (by simp[e1])];rfl
  .by_cases e2:s=2
   .obtain⟨xs,h,P⟩:=st2 (ns:=ns) (b:=b) (m:=m) (s:=s) (cs:=cs) (x6:=dD (w12.take m.toNat)) (x7:=J) (x8:=J) (x9:=J) (xo:=J) hm xT h2 hl;refine⟨xs,λg=>(ai (e:=nE ns b m (Y (cs.map bX)) s (dD (w12.take m.toNat)) J J J J) ?_).trans (ai ?_),P⟩
    .rw[pe (t 1 _),Gau (by simp[e1])];rfl
    .rw[pe (t 2 _),Gaj (by simp[e2])];exact h
   .refine⟨w12.take m.toNat,λg=>(ai (e:=nE ns b m (Y (cs.map bX)) s (dD (w12.take m.toNat)) J J J J) ?_).trans (ai ?_), ?_,λx hx=>Nd x (Gbx hx)⟩
    .rw[pe (t 1 _),Gau (by simp[e1])];rfl
    .rw[pe (t 2 _),Gau (by simp[e2])];rfl
    .rw[GaS,show w12.length=12 from rfl];lia
 have t3:∀(x6:Os),aw eqB (vE 5) (kI 3) (nE ns b m (Y (cs.map bX)) s x6 J J J J)=U (s==3):=λx6=>by
  simp[nE]
 have go:∀{d:D},ao (ifS (aw eqB (vE 5) (kI 3)) (au 6 (jf aM)) aE) (ao (ifS JT bLast aE) (Xi (vE 6))) (nE ns b m (Y (cs.map bX)) s (dD xs) J J J J)=U (.ret d)->cA [.scr ns,H b,H m]=U d:=λ{d} h=>by
  refine bA rfl ?_
  rwa[FN,first,zk]
 have lastW:=λx6=>FL (ns:=ns) (b:=b) (m:=m) (s:=s) (cs:=cs) (x6:=x6) (x7:=J) (x8:=J) (x9:=J) (xo:=J) hb ?B hm xT h2 hl;by_cases e3:s=3
 .obtain⟨ys,y7,y8,y9,zi,h,q⟩:=lastW (dD []);refine⟨ys,go ((ai (e:=nE ns b m (Y (cs.map bX)) s (dD []) J J J J) ?_).trans ((ai (e:=nE ns b m (Y (cs.map bX)) s (dD ys) y7 y8 y9 zi) ?_).trans mP)),q⟩
  .rw[pe (t3 _),Gaj (by simp[e3])];simp[nE,dD]
  .rw[pe (v:=O) (by unfold nE;simp[e3]),Gaj rfl];exact h
 .have sk:ifS (aw eqB (vE 5) (kI 3)) (au 6 (jf aM)) aE (nE ns b m (Y (cs.map bX)) s (dD xs) J J J J)=U (.nx (nE ns b m (Y (cs.map bX)) s (dD xs) J J J J)):=by rw[pe (t3 _),Gau (by simp[e3])];rfl
  have tt:=J1 (ns:=ns) (b:=b) (m:=m) (s:=s) (w:= Y (cs.map bX)) (xs:=xs) (x7:=J) (x8:=J) (x9:=J) (xo:=J) (by have:=P.1;lia) (λx hx=>(P.2 x hx).2.2) e3;by_cases v:(decide (((ddS xs).length:Int)<m)||decide (8<sJ 0 (xs.map λx=>(x.length:Int))))=O
  .obtain⟨ys,y7,y8,y9,zi,h,q⟩:=lastW (dD xs);refine⟨ys,go ((ai sk).trans ((ai (e:=nE ns b m (Y (cs.map bX)) s (dD ys) y7 y8 y9 zi) ?_).trans mP)),q⟩
   rwa[pe tt,Gaj v]
  .refine⟨xs,go ((ai sk).trans ((ai (e:=nE ns b m (Y (cs.map bX)) s (dD xs) J J J J) ?_).trans mP)), ?_⟩
   .rw[pe tt,Gau v];rfl
   .simp only[GaW,GbM,GbS,Int.not_lt] at v;exact Nc P ?B v.2
def mQ{α:Type}{f:α->Str}{xs:List α}{L:List Str}(hl:xs.length=L.length)(h:∀(i:Nat) x,xs[i]? =U x->L[i]? =U (f x)):xs.map f=L:=by
 refine Gdh λi=> ?_;rw[Gam];cases q:xs[i]? with
 |none=>
  simp_all
 |some x=>rw[h i x q];rfl
def rV{L:List Str}(h:i<L.length):atD (L.map E) (i:Int)=U (E L[i]):=by
 simp_all[atD]
def vL{α:Type}{P:α->Prop}{xs:List α}(h:∀(i:Nat) x,xs[i]? =U x->P x):∀x∈xs,P x:=λx hx=>by
 obtain⟨i,hi⟩:=GaV hx;exact h i x hi
def guF:DE:=gk (ak (Xm (vE 2) (vE 0)) (ak (Xn mw (bF aJ (ak (vE 1) (ak (Xn af (kI 20) (Xn dq (kI 2) (vE 0))) (ak (kI 1000000001) aM)))) (kI 1)) aM))
def J2{ns:List Int}{m:Int}{L:List Str}(hm:0<=m)(xT:m<=12)(hL:L.length=m.toNat)(hN:∀x∈L,Nam x):∃gs:List (Str×Int),cq (gN 0) bc guF (aO 0 m.toNat) [J,U ?L,U (XM (Y (L.map E)))]=U (gs.map guD)/\gs.map (·.1)=L/\gs.length=m.toNat/\∀p∈gs,Nam p.1/\Num p.2:=by
 obtain⟨gs,h1,h2,h3⟩:=g9 (g:=gN 0) (f:=guF) guD (λi p=>L[i]? =U p.1/\Nam p.1/\Num p.2) (λe=>∃z,e=[z,U _,U _]) (aO 0 m.toNat) 0 [J,U ?L,U (XM (Y (L.map E)))] ⟨_,rfl⟩ (by
  rintro i d hd e ⟨z,rfl⟩;obtain⟨hi,rfl⟩:=bV hd;have xB :i<L.length:=by lia
  have a:=rV xB;rw[GaR];obtain⟨XJ,eI⟩:∃XJ:Int,XJ=(i):=⟨_,rfl⟩
  rw[<-eI] at a⊢;obtain⟨n,e1,a1⟩:=cj (ns:=ns) (k:=20+2*XJ) (m:=1000000001) ?B ?B ?B;have mm:bO 2 XJ=O:=by simp[bO]
  refine⟨_,rfl,⟨_,rfl⟩,(L[i],n -1),.c, ?_,rfl,Gag xB,hN _ (GaN _),by show 0<=n -1;lia,by show n -1<=_;lia⟩;simp[guF,a,mm,e1,guD,guR,d9,a7])
 rw[ba] at h2;refine⟨gs,h1,mQ ?B λi x hx=> ?_,h2,vL λi x hx=> ?_⟩
 .have:=(h3 i x hx).1;simp_all
 .exact(h3 i x hx).2
def stF:DE:=bF fY (ak (vE 1) (ak (Xn af (kI 60) (Xn dq (kI 50) (vE 0))) (ak (Xm (vE 2) (vE 0)) aM)))
def J3{ns:List Int}{m:Int}{L:List Str}(hm:0<=m)(xT:m<=12)(hL:L.length=m.toNat)(hN:∀x∈L,Nam x):∃ss:List Stf,cq (gN 0) bc stF (aO 0 m.toNat) [J,U ?L,U (XM (Y (L.map E)))]=U (ss.map stD)/\ss.map (·.n)=L/\ss.length=m.toNat/\∀s∈ss,pK s/\s.p<=400000:=by
 obtain⟨ss,h1,h2,h3⟩:=g9 (g:=gN 0) (f:=stF) stD (λi s=>L[i]? =U s.n/\pK s/\s.p<=400000) (λe=>∃z,e=[z,U _,U _]) (aO 0 m.toNat) 0 [J,U ?L,U (XM (Y (L.map E)))] ⟨_,rfl⟩ (by
  rintro i d hd e ⟨z,rfl⟩;obtain⟨hi,rfl⟩:=bV hd;have xB :i<L.length:=by lia
  have a:=rV xB;rw[GaR];obtain⟨XJ,eI⟩:∃XJ:Int,XJ=(i):=⟨_,rfl⟩
  rw[<-eI] at a⊢;obtain⟨s,e1,k1,k2,k3⟩:=IW (ns:=ns) (k:=60+50*XJ) ?B ?B (hN _ (GaN _));have mm:bO 50 XJ=O:=by simp[bO]
  refine⟨_,rfl,⟨_,rfl⟩,s,.c, ?_,rfl,by rw[k2];exact Gag xB,k1,k3⟩;have rv:jk (stD s)=⟨.c,stD s⟩:=rfl;simp[stF,a,mm,e1,rv])
 rw[ba] at h2;refine⟨ss,h1,mQ ?B λi x hx=> ?_,h2,vL λi x hx=> ?_⟩
 .simp_all
 .exact(h3 i x hx).2
def orF:DE:=bF iz (ak (vE 1) (ak (Xn af (kI 500) (Xn dq (kI 160) (vE 0))) (ak (Xm (vE 2) (vE 0)) (ak (vE 3) (ak (vE 4) aM)))))
def J4{ns:List Int}{m:Int}{L:List Str}{gs:List (Str×Int)}{ss:List Stf}(hm:0<=m)(xT:m<=12)(hL:L.length=m.toNat)(hN:∀x∈L,Nam x)(S:oV ss)(hp:∀s∈ss,s.p<=400000)(hz:0<m->0<gs.length/\0<ss.length)(yo:gs.length<=6):∃os:List Ord,cq (gN 0) bc orF (aO 0 m.toNat) [J,U ?L,U (XM (Y (L.map E))),U (Z (Q (gs.map guD))),U (Z (Q (ss.map stD)))]=U (os.map orD)/\os.map (·.n)=L/\os.length=m.toNat/\∀o∈os,k6 gs ss o:=by
 obtain⟨os,h1,h2,h3⟩:=g9 (g:=gN 0) (f:=orF) orD (λi o=>L[i]? =U o.n/\k6 gs ss o) (λe=>∃z,e=[z,U _,U _,U _,U _]) (aO 0 m.toNat) 0 [J,U ?L,U (XM (Y (L.map E))),U (Z (Q (gs.map guD))),U (Z (Q (ss.map stD)))] ⟨_,rfl⟩ (by
  rintro i d hd e ⟨z,rfl⟩;obtain⟨hi,rfl⟩:=bV hd;have xB :i<L.length:=by lia
  have a:=rV xB;rw[GaR];obtain⟨XJ,eI⟩:∃XJ:Int,XJ=(i):=⟨_,rfl⟩
  rw[<-eI] at a⊢;obtain⟨o,e1,k1,k2⟩:=IU (ns:=ns) (k:=500+160*XJ) ?B ?B (hN _ (GaN _)) S hp (hz ?B).1 (hz ?B).2 yo;have mm:bO 160 XJ=O:=by simp[bO]
  refine⟨_,rfl,⟨_,rfl⟩,o,.c, ?_,rfl,by rw[k2];exact Gag xB,k1⟩;have rv:jk (orD o)=⟨.c,orD o⟩:=rfl;simp[orF,a,mm,e1,rv])
 rw[ba] at h2;refine⟨os,h1,mQ ?B λi x hx=> ?_,h2,vL λi x hx=> ?_⟩
 .simp_all
 .exact(h3 i x hx).2
def Nh(h0:0<=x)(h1:x<=12):bt x=O:=bU ?B ?B
def FP:jB=ao (au 1 (bu J 1 [0] (aS (kI 2)) (gN 0) bc (caE ae [vE 1,vE 0,kI 7]))) (ao (au 2 (caE cA [vE 0,kI 2,Xm (vE 1) (kI 0)])) (ao (au 3 (blE bz [bu J 1 [0,2] (aS (Xm (vE 1) (kI 0))) (gN 0) bc guF])) (ao (au 2 (caE cA [vE 0,kI 40,Xm (vE 1) (kI 1)])) (ao (au 4 (blE bz [bu J 1 [0,2] (aS (Xm (vE 1) (kI 1))) (gN 0) bc stF])) (ao (au 5 (caE j5 [vE 0,kI 360,Xm (vE 1) (kI 1)])) (ao (au 6 (kI 0)) (ao (ifS (gh (aw gtB (Xm (vE 1) (kI 0)) (kI 0)) (aw gtB (Xm (vE 1) (kI 1)) (kI 0))) (au 6 (Xm (lsE [caE ae [vE 0,kI 480,kI 4],caE ae [vE 0,kI 480,kI 13]]) (caE ae [vE 0,kI 481,kI 2]))) aE) (ao (au 2 (caE cA [vE 0,kI 482,vE 6])) (ao (au 7 (bu J 1 [0,2,3,4] (aS (vE 6)) (gN 0) bc orF)) (Xi (tpE [vE 3,vE 4,vE 5,blE bz [vE 7]]))))))))))):=rfl
def J5(ns:List Int):∃w,dC [.scr ns]=U (rR w)/\WOk w:=by
 have d0:=aI (ns:=ns) (show _<=0 by lia) ?B (show(0:Int)<7 by lia);have r0:=aN ns 0 7 ?B;generalize drw ns 0 7=m0 at*;have d1:=aI (ns:=ns) (show(0:Int)<=1 by lia) ?B (show(0:Int)<7 by lia);have r1:=aN ns 1 7 ?B;generalize drw ns 1 7=m1 at*;obtain⟨L0,l1,l2,l3,l4⟩:=rT (ns:=ns) (b:=2) (m:=m0) ?B ?B r0.1 ?B;obtain⟨gs,g1,g2,g3,g4⟩:=J2 (ns:=ns) r0.1 ?B l2 l4;obtain⟨L1,p1,p2,p3,p4⟩:=rT (ns:=ns) (b:=40) (m:=m1) ?B ?B r1.1 ?B;obtain⟨ss,s1,s2,s3,s4⟩:=J3 (ns:=ns) r1.1 ?B p2 p4;have S:oV ss:=⟨by lia,by rw[s2];exact p3,λs hs=>(s4 s hs).1⟩
 have G:vD gs:=⟨by lia,by rw[g2];exact l3,g4⟩
 obtain⟨bs,b1,b2⟩:=Nb (ns:=ns) (k:=360) (N:=m1) (n:=ss.length) ?B ?B r1.1 ?B ?B;have d2:=aI (ns:=ns) (show(0:Int)<=480 by lia) ?B (show(0:Int)<4 by lia);have r2:=aN ns 480 4 ?B;generalize drw ns 480 4=u at*;have d3:=aI (ns:=ns) (show(0:Int)<=480 by lia) ?B (show(0:Int)<13 by lia);have r3:=aN ns 480 13 ?B;generalize drw ns 480 13=v at*;have d4:=aI (ns:=ns) (show(0:Int)<=481 by lia) ?B (show(0:Int)<2 by lia);have r4:=aN ns 481 2 ?B;generalize drw ns 481 2=t at*;obtain⟨Xf,eM,hM⟩:∃Xf:Int,atD [H u,H v] t=U (H Xf)/\0<=Xf/\Xf<=12:=by
  have:t=0\/t=1:=by lia
  rcases this with rfl|rfl
  .exact⟨u,rfl,by lia⟩
  .exact⟨v,rfl,by lia⟩
 obtain⟨m2,e2,h2,h3⟩:∃m2:Int,(if 0<m0/\0<m1 then Xf else 0)=m2/\(0<=m2/\m2<=12)/\(0<m2->0<m0/\0<m1):=by
  refine⟨_,rfl, ?_⟩;split
  .rename_i h;exact⟨hM,λ_=>h⟩
  .exact⟨by lia,λz=>by lia⟩
 obtain⟨L2,q1,q2,q3,q4⟩:=rT (ns:=ns) (b:=482) (m:=m2) ?B ?B h2.1 h2.2;obtain⟨os,o1,o2,o3,o4⟩:=J4 (ns:=ns) (gs:=gs) (ss:=ss) h2.1 h2.2 q2 q4 S (λs hs=>(s4 s hs).2) (λz=>by have:=h3 z;lia) ?B;refine⟨⟨gs,ss,bs,os⟩, ?_,G,S,b2,⟨by show os.length<=12;lia,by rw[o2];exact q3,o4⟩⟩;have gi:aj (gs.map guD)=O:=bj λ_ _=>rfl;have si:aj (ss.map stD)=O:=bj λ_ _=>oU;have bi:=jJ bs;have oi:aj (os.map orD)=O:=bj λ_ _=>vF;have z0:(aO 0 m0.toNat).length<=a7:=by rw[ba];unfold a7;lia
 have z1:(aO 0 m1.toNat).length<=a7:=by rw[ba];unfold a7;lia
 have z2:(aO 0 m2.toNat).length<=a7:=by rw[ba];unfold a7;lia
 have cm:cq (gN 0) bc (bF ae (ak (vE 1) (ak (vE 0) (ak (kI 7) aM)))) (aO 0 2) [J,U ?L]=U [H m0,H m1]:=by
  rw[show aO 0 2=[H 0,H 1] from rfl];simp[d0,d1,RV.free]
 show dC [.scr ns]=U (Q [Q (gs.map guD),Q (ss.map stD),Q (bs.map de),Q (os.map orD)]);clear g2 g3 g4 s2 s3 s4 S G b2 o2 o3 o4 l2 l3 l4 p2 p3 p4 q2 q3 q4;generalize gs.map guD=GG at*;generalize ss.map stD=SS at*;generalize bs.map de=BB at*;generalize os.map orD=OO at*;generalize L0.map E=N0 at*;generalize L1.map E=N1 at*;generalize L2.map E=N2 at*;unfold dC;refine bA rfl ?_;rw[FP];refine(ai (e:=[U ?L,U (C (Y [H m0,H m1])),J,J,J,J,J,J]) (by
  have s2:bt 2=O:=rfl;simp[s2,DL.Xk,dG,ba,a7,cm])).trans ?_
 refine(ai (e:=[U ?L,U (C (Y [H m0,H m1])),U (C (Y N0)),J,J,J,J,J]) (by simp[l1])).trans ((ai (e:=[U ?L,U (C (Y [H m0,H m1])),U (C (Y N0)),U (Z (Q GG)),J,J,J,J]) (by simp[(Nh r0.1 ?B),z0,DL.Xk,dG,g1,bz,gi])).trans ((ai (e:=[U ?L,U (C (Y [H m0,H m1])),U (C (Y N1)),U (Z (Q GG)),J,J,J,J]) (by simp[p1])).trans ((ai (e:=[U ?L,U (C (Y [H m0,H m1])),U (C (Y N1)),U (Z (Q GG)),U (Z (Q SS)),J,J,J]) (by simp[(Nh r1.1 ?B),z1,DL.Xk,dG,s1,bz,si])).trans ((ai (e:=[U ?L,U (C (Y [H m0,H m1])),U (C (Y N1)),U (Z (Q GG)),U (Z (Q SS)),U (Z (Q BB)),J,J]) (by simp[b1])).trans ((ai (e:=[U ?L,U (C (Y [H m0,H m1])),U (C (Y N1)),U (Z (Q GG)),U (Z (Q SS)),U (Z (Q BB)),U (Z (H 0)),J]) ?E).trans ?_)))));refine(ai (e:=[U ?L,U (C (Y [H m0,H m1])),U (C (Y N1)),U (Z (Q GG)),U (Z (Q SS)),U (Z (Q BB)),U (Z (H m2)),J]) (by
  rw[<-e2];by_cases h0:0<m0
  .by_cases h1:0<m1
   .simp[h0,h1,d2,d3,d4,eM,a7]
   .simp[h0,h1]
  .simp[h0])).trans ?_
 refine(ai (e:=[U ?L,U (C (Y [H m0,H m1])),U (C (Y N2)),U (Z (Q GG)),U (Z (Q SS)),U (Z (Q BB)),U (Z (H m2)),J]) (by simp[q1])).trans ((ai (e:=[U ?L,U (C (Y [H m0,H m1])),U (C (Y N2)),U (Z (Q GG)),U (Z (Q SS)),U (Z (Q BB)),U (Z (H m2)),U (C (Y OO))]) (by simp[(Nh h2.1 h2.2),z2,DL.Xk,dG,o1])).trans ?_);simp[bz,a7,gi,si,bi,oi]
noncomputable def shT:List (Str×Nat×Nat):=[("guest",1,1),("young",0,1),("bar",2,1),("order",3,0),("dose",1,3),("asked",0,1),("due",0,5),("taper",0,3)]
noncomputable def kiT:List (Str×Nat):=[("flat",2),("kilo",3),("ever",1)]
def Shp(k:Str)(xs:List Str)(is:List Int):Prop:=(k,xs.length,is.length)∈shT\/(k="stuff"/\xs.length=1/\1<=is.length/\is.length<=8)\/(k="cap"/\∃n,xs=[n]/\(n,is.length)∈kiT)
structure Lw(k:Str)(xs:List Str)(is:List Int):Prop where
 hk:k∈hds
 hx:∀x∈xs,Nam x
 hi:∀i∈is,Num i
 shp:Shp k xs is
def Ln(l:Str):Prop:=∃k xs is,l=Str.join " " (k::(xs++is.map aC))/\Lw k xs is
def Ni:∀p∈kiT,Nam p.1:=by unfold Nam;decide+kernel
def J6:∀w∈(["down","up","near"]:List Str),Nam w:=by unfold Nam;decide+kernel
def FQ(is:List Int):(is.map H).map wS=is.map aC:=by rw[Gaz];rfl
def ko{ws:List D}{is:List Int}(e:ws.map wS=k::(xs++is.map aC))(h:Lw k xs is):∃l,lD ws= E l/\Ln l:=⟨_,rfl,k,xs,is,by unfold gv;rw[e],h⟩
def rW{ns:List Str}{i:Int}(h:∀n∈ns,Nam n)(h0:0<=i)(h1:i<ns.length):Nam (g8 ns i):=h _ (kQ h0 h1)
theorem uu:∀{is ls},pI is ls->∀i∈is,Num i
 |[],_,_,i,h=>nomatch h
 |_::_,[],h,_,_=>h.elim
 |j::is,l::ls,h,i,m=>by
  rcases Gae.mp m with rfl|m
  .exact h.1
  .exact uu h.2.2 i m
def Nj{lows:List Int}(h:lkT bH (.inr n)=U (lows.map .inl)):(n,lows.length)∈kiT:=by
 have l:lows.length=((lows.map Sum.inl:List DL.Key)).length:=by simp
 rw[l];generalize (lows.map _)=L at h;obtain⟨p,hp,rfl⟩:=Gaa.mp h;have h2:=List.find?_some hp;simp only[GbM] at h2;have all:∀q∈bH,∀n,q.1= .inr n->(n,q.2.length)∈kiT:=by
  intro q hq n e;simp only[Gae,Gao,GaQ] at hq;rcases hq with rfl|rfl|rfl<;>(cases e;decide+kernel)
 exact all p (List.mem_of_find?_eq_some hp) n h2
def Nk(K:WOk w):∀d∈pL w,∃l,d= E l/\Ln l:=by
 intro d hd;unfold pL at hd;have gn:∀n∈w.gs.map (·.1),Nam n:=λn hn=>by
  obtain⟨p,hp,rfl⟩:=Gay.mp hn;exact(K.g.ok p hp).1
 have sn:∀n∈w.ss.map (·.n),Nam n:=λn hn=>by
  obtain⟨p,hp,rfl⟩:=Gay.mp hn;exact(K.s.ok p hp).n
 simp only[GaL] at hd;rcases hd with hd|hd|hd|hd
 .obtain⟨p,hp,rfl⟩:=Gay.mp hd;obtain⟨a,b⟩:=K.g.ok p hp;exact ko (k:="guest") (xs:=[p.1]) (is:=[p.2]) rfl ⟨by decide,by simpa using a,by simpa using b,.inl (by simp[shT])⟩
 .obtain⟨ws,hws,rfl⟩:=Gay.mp hd;obtain⟨s,hs,hws⟩:=List.mem_flatMap.mp hws;have S:=K.s.ok s hs;rcases Gae.mp hws with rfl|hws
  .have sl:=S.z.len;refine ko (k:="stuff") (xs:=[s.n]) (is:=_::_) (by rw[GaI,GaI,FQ];rfl) ⟨by decide,by simpa using S.n,λi hi=> ?_,.inr (.inl ⟨rfl,rfl,by simp,by simp;lia⟩)⟩;have:=S.z.top i hi;exact⟨by lia,this.2.2⟩
  .rcases GaL.mp hws with hws|hws
   .obtain⟨c,hc,rfl⟩:=Gay.mp hws;obtain⟨⟨lows,e1,e2⟩,e3,e4⟩:=S.c c hc;have q:=Nj e1;rw[<-e2.len] at q;exact ko (k:="cap") (xs:=[c.1]) (is:=_) (by unfold m4;rw[GaI,GaI,FQ];rfl) ⟨by decide,by simpa using Ni _ q,uu e2,.inr (.inr ⟨rfl,_,rfl,q⟩)⟩
   .split at hws
    .cases hws
    .rw[Gbb.mp hws];exact ko (k:="young") (xs:=[]) (is:=[s.y]) rfl ⟨by decide,by simp,by simpa using S.y,.inl (by simp[shT])⟩
 .obtain⟨p,hp,rfl⟩:=Gay.mp hd;obtain⟨b0,b1,b2,b3,b4⟩:=K.b.ok p hp;exact ko (k:="bar") (xs:=[g8 _ p.1,g8 _ p.2.1]) (is:=[p.2.2]) rfl ⟨by decide,by simpa using⟨rW sn b0 (by simp;lia),rW sn ?B (by simpa using b2)⟩,by simpa using b3,.inl (by simp[shT])⟩
 .obtain⟨ws,hws,rfl⟩:=Gay.mp hd;obtain⟨o,ho,hws⟩:=List.mem_flatMap.mp hws;have Xe:=K.o.ok o ho;unfold mM at hws;simp only[Gae,Gay] at hws;rcases hws with rfl|rfl|rfl| ⟨t,ht,rfl⟩
  .exact ko (k:="order") (xs:=[o.n,g8 (w.gs.map (·.1)) o.g,g8 (w.ss.map (·.n)) o.s]) (is:=[]) rfl ⟨by decide,by simpa using⟨Xe.n,rW gn Xe.g0 (by simpa using Xe.g1),rW sn Xe.s0 (by simpa using Xe.s1)⟩,by simp,.inl (by simp[shT])⟩
  .exact ko (k:="dose") (xs:=[o.w]) (is:=[o.t,o.p,o.k]) rfl ⟨by decide,by simpa using J6 o.w (by simpa using Xe.w),by simpa using⟨Xe.t,Xe.p,Xe.k⟩,.inl (by simp[shT])⟩
  .have d:=Xe.d;cases e:o.d with
   |asked b=>
    rw[e] at d;exact ko (k:="asked") (xs:=[]) (is:=[b]) rfl ⟨by decide,by simp,by simpa using(show Num b from d),.inl (by simp[shT])⟩
   |due b e' m x y=>
    rw[e] at d;exact ko (k:="due") (xs:=[]) (is:=[b,e',m,x,y]) rfl ⟨by decide,by simp,by simpa using⟨d.1,d.2.1,d.2.2.1,d.2.2.2.1,d.2.2.2.2.1⟩,.inl (by simp[shT])⟩
  .have q:=Xe.ts;have d:=Xe.d;cases e:o.d with
   |asked b=>rw[e] at q;rw[show o.ts=[] from q] at ht;cases ht
   |due b e' m x y=>
    rw[e] at q d;have a:=q.2.2 t ht;have dm:=d.2.2.2.2.2.2.2.1;exact ko (k:="taper") (xs:=[]) (is:=[t.1,t.2.1,t.2.2]) rfl ⟨by decide,by simp,by simpa using⟨⟨by lia,by lia⟩,⟨by lia,by lia⟩,⟨by lia,by lia⟩⟩,.inl (by simp[shT])⟩
def gc{ws:List Str}{ls:List Int}(h:ws.length≠ls.length):(aG ws ls).isNone=O:=by
 cases n:aG ws ls with
 |none=>rfl
 |some is=>exact absurd (jQ n) h
def fF(m:x∈ws)(h:j9 x=J):(aG ws ls).isNone=O:=by rw[uf m h];rfl
def Ak{x:Option (List Int)}(h:x.isNone=O):vG x=O:=by cases x<;>first|rfl|cases h
def Am{x:Option (List Int)}(h:x.isNone=O):vH x=O:=by cases x<;>first|rfl|cases h
def Nl{x:Option (List Int)}(h:x.isNone=O):szB x=O:=by cases x<;>first|rfl|cases h
def rX{r:List Str}(h:(n,c)∈kiT)(hr:r.length≠c\/∃x∈r,j9 x=J):cK "cap" (n::r)=O:=by
 have no:∀ls:List Int,ls.length=c->(aG r ls).isNone=O:=λls e=>hr.elim (λz=>gc ?B) λ⟨x,m,z⟩=>fF m z;rw[show cK "cap" _=uh (n::r) by kernel_rfl];simp only[kiT,Gae,Gbe,Gao,GaQ] at h;rcases h with⟨rfl,rfl⟩| ⟨rfl,rfl⟩| ⟨rfl,rfl⟩
 .rw[show uh _=(aG r [1,1]).isNone by kernel_rfl];exact no _ rfl
 .rw[show uh _=(aG r [1,1,1]).isNone by kernel_rfl];exact no _ rfl
 .rw[show uh _=(aG r [1]).isNone by kernel_rfl];exact no _ rfl
def FR(h:∀n r,ws=n::r->n.length=0):cK "cap" ws=O:=by
 cases ws with
 |nil=>rfl
 |cons n r=>
  have:=h n r rfl;have e:n=⟨#[]⟩:=by
   obtain⟨⟨xs⟩⟩:=n;cases xs with
   |nil=>rfl
   |cons _ _=>cases this
  subst e
  kernel_rfl
def An{xs:List Str}{is:List Int}{ws:List Str}(h:(k,xs.length,is.length)∈shT)(hl:ws.length≠xs.length+is.length):cK k ws=O:=by
 simp only[shT,Gae,Gbe,Gao,GaQ] at h;rcases h with⟨rfl,a,b⟩| ⟨rfl,a,b⟩| ⟨rfl,a,b⟩| ⟨rfl,a,b⟩| ⟨rfl,a,b⟩| ⟨rfl,a,b⟩| ⟨rfl,a,b⟩| ⟨rfl,a,b⟩<;>rw[a,b] at hl
 .rw[show cK "guest" ws=(jh ws||(aG (ws.drop 1) [0]).isNone) by kernel_rfl,GaW];cases ws with
  |nil=>exact .inl rfl
  |cons n r=>exact .inr (gc ?H)
 .rw[show cK "young" ws=(aG ws [1]).isNone by kernel_rfl];exact gc ?H
 .rw[show cK "bar" ws=(aG (ws.drop 2) [1]).isNone by kernel_rfl];exact gc (by simp;lia)
 .rw[show cK "order" ws=(jh ws||ws.length !=3) by kernel_rfl,GaW];exact .inr ?H
 .rw[show cK "dose" ws=((aG (ws.drop 1) [1,0,1]).isNone||BO ws) by kernel_rfl,GaW];exact .inl (gc (by simp;lia))
 .rw[show cK "asked" ws=(aG ws [0]).isNone by kernel_rfl];exact gc ?H
 .rw[show cK "due" ws=vG (aG ws [0,1,1,0,0]) by kernel_rfl];exact Ak (gc (by simpa using hl))
 .rw[show cK "taper" ws=vH (aG ws [1,1,1]) by kernel_rfl];exact Am (gc (by simpa using hl))
def J7{xs:List Str}{is:List Int}{ws:List Str}(h:(k,xs.length,is.length)∈shT)(h0:is≠[])(m:x∈ws.drop xs.length)(hx:j9 x=J):cK k ws=O:=by
 have m0:=Gbw m;simp only[shT,Gae,Gbe,Gao,GaQ] at h;rcases h with⟨rfl,a,b⟩| ⟨rfl,a,b⟩| ⟨rfl,a,b⟩| ⟨rfl,a,b⟩| ⟨rfl,a,b⟩| ⟨rfl,a,b⟩| ⟨rfl,a,b⟩| ⟨rfl,a,b⟩<;>rw[a] at m
 .rw[show cK "guest" ws=(jh ws||(aG _ [0]).isNone) by kernel_rfl,GaW];exact .inr (fF m hx)
 .rw[show cK "young" ws=(aG ws [1]).isNone by kernel_rfl];exact fF m0 hx
 .rw[show cK "bar" ws=(aG _ [1]).isNone by kernel_rfl];exact fF m hx
 .exact absurd b ?H
 .rw[show cK "dose" ws=((aG _ [1,0,1]).isNone||BO ws) by kernel_rfl,GaW];exact .inl (fF m hx)
 .rw[show cK "asked" ws=(aG ws [0]).isNone by kernel_rfl];exact fF m0 hx
 .rw[show cK "due" ws=vG (aG ws [0,1,1,0,0]) by kernel_rfl];exact Ak (fF m0 hx)
 .rw[show cK "taper" ws=vH (aG ws [1,1,1]) by kernel_rfl];exact Am (fF m0 hx)
def FT{ws:List Str}(m:x∈ws.drop 1)(hx:j9 x=J):cK "stuff" ws=O:=by
 rw[show cK "stuff" ws=(jh ws||szB (aG (ws.drop 1) ((ws.drop 1).map λ_=>1))) by kernel_rfl,GaW];exact .inr (Nl (fF m hx))
def FU{k:Str}(hk:k="guest"\/k="stuff"\/k="order")(h:bT [E n]=U (I M)):cK k (n::r)=O:=by
 have e:jh (n::r)=O:=by unfold jh;simp only[h]
 rcases hk with rfl|rfl|rfl
 .rw[show cK "guest" _=(jh _||(aG ((n::r).drop 1) [0]).isNone) by kernel_rfl,e];rfl
 .rw[show cK "stuff" _=(jh _||szB (aG ((n::r).drop 1) (((n::r).drop 1).map λ_=>1))) by kernel_rfl,e];rfl
 .rw[show cK "order" _=(jh _||(n::r).length !=3) by kernel_rfl,e];rfl
def FV(h:k∉hds)(ws:List Str):cK k ws=O:=by
 simp only[hds,Gae,GbS] at h;simp[cK,h]
def bg(x y:Str):(x++y).cps.toList=x.cps.toList++y.cps.toList:=by
 exact Gdb
theorem FW:∀{A B},A≠[]->B≠[]->JL c (A++B)=JL c A++c::JL c B
 |[],_,h,_=>absurd rfl h
 |[a],[],_,h=>absurd rfl h
 |[a],b::B,_,_=>rfl
 |a::a2::A,B,_,h=>by
  show a++c::JL c (a2::A++B)=a++c::JL c _++c::JL c B;rw[(FW (c:=c) (A:=a2::A) ?E h)];simp
def qE(ws:List Str):(Str.join " " ws).cps.toList=JL 32 (ws.map (·.cps.toList)):=by rw[blank_eq];exact lY 32 ws
def dT(ha:A≠[])(hb:B≠[]):Str.join " " (A++B)=Str.join " " A++" "++Str.join " " B:=by
 apply fR;rw[bg,bg,qE,qE,qE,GaB,FW ?H ?H,blank_eq];simp
def pf(x:Str):Str.join " " [x]=x:=by
 rfl
def uw{xs:List Nat}(h:∀x∈xs,x<=41):xs.sum<=xs.length*41:=by
 induction xs with
 |nil=>simp
 |cons x xs ih=>have:=h x ?E;have:=ih λy hy=>h y (by simp[hy]);simp;lia
def ux{ws:List Str}(h:∀w∈ws,w.length<=40)(hl:ws.length<=21):(Str.join " " ws).length<=861:=by
 have e:(Str.join " " ws).length=(JL 32 (ws.map (·.cps.toList))).length:=by rw[<-qE];rfl
 rw[e];have a:=vw 32 (ws.map (·.cps.toList));have b:=uw (xs:=(ws.map (·.cps.toList)).map λw=>w.length+1) (λx hx=>by
  simp only[Gay] at hx;obtain⟨_,⟨w,hw,rfl⟩,rfl⟩:=hx;have:=h w hw;unfold Str.length at this;simp;lia)
 simp only[Gav] at b;lia
def iP{ws:List Str}(hb:cK k ws=O)(hn:∀w∈k::ws,NB w/\w.length<=40)(hl:ws.length<=20):iO (Str.join " " (k::ws)):=λd W=>by
 have:=ux (λw hw=>(hn w hw).2) (by simp;lia);exact uk W (fP ?E λw hw=>(hn w hw).1) ?B (λw hw=>by have:=(hn w (by simp[hw])).2;lia) ?B hb
def Lw.wds{is:List Int}(L:Lw k xs is):∀w∈k::(xs++is.map aC),NB w/\w.length<=10:=λw hw=>by
 rcases Gae.mp hw with rfl|hw
 .exact jH w L.hk
 .rcases GaL.mp hw with hw|hw
  .have:=L.hx w hw;exact⟨this.nb,by have:=this.2.1;lia⟩
  .obtain⟨i,hi,rfl⟩:=Gay.mp hw;exact⟨vt i,jR (L.hi i hi)⟩
def Lw.cnt{xs:List Str}{is:List Int}(L:Lw k xs is):1<=xs.length+is.length/\xs.length+is.length<=9:=by
 rcases L.shp with h| ⟨_,a,b,c⟩| ⟨_,n,rfl,h⟩
 .simp only[shT,Gae,Gao] at h;lia
 .lia
 .simp only[kiT,Gae,Gao] at h;simp;lia
def vM:j9 ⟨#[]⟩=J:=by kernel_rfl
def vN:bT [E ⟨#[]⟩]=U (I M):=by kernel_rfl
def Ao{is:List Int}(L:Lw k xs is)(e:A++B=xs++is.map aC):iO (Str.join " " (k::(A++ ⟨#[]⟩::B))):=by
 have le:A.length+B.length=xs.length+is.length:=by have:=congrArg List.length e;simpa using this
 refine iP ?_ (λw hw=> ?_) (by have:=L.cnt;simp;lia)
 .rcases L.shp with h| ⟨rfl,a,b,c⟩| ⟨rfl,n,rfl,h⟩
  .exact An h (by simp;lia)
  .cases A with
   |nil=>exact FU (.inr (.inl rfl)) vN
   |cons x A=>exact FT (x:=⟨#[]⟩) ?E vM
  .cases A with
   |nil=>exact FR λn r e=>by cases e;rfl
   |cons x A=>
    have:x=n:=by simpa using(List.cons.inj (show x::(A++B)=n::is.map aC from e)).1
    subst this;exact rX h (.inl (by simp at le⊢;lia))
 .have all:=L.wds;rcases Gae.mp hw with rfl|hw
  .have:=all w ?E;exact⟨this.1,by lia⟩
  .rcases GaL.mp hw with hw|hw
   .have:=all w (by rw[<-e];simp[hw]);exact⟨this.1,by lia⟩
   .rcases Gae.mp hw with rfl|hw
    .exact⟨by simp[NB],by decide⟩
    .have:=all w (by rw[<-e];simp[hw]);exact⟨this.1,by lia⟩
def Ap{xs:List Str}{is:List Int}{ws:List Str}(L:Lw k xs is)(hs:k≠"stuff")(hl:ws.length≠xs.length+is.length)(WO:ws.length<=20)(hh:k="cap"->∃r,ws=(xs.headD ⟨#[]⟩)::r)(hn:∀w∈ws,NB w/\w.length<=40):iO (Str.join " " (k::ws)):=by
 refine iP ?_ (λw hw=> ?_) WO
 .rcases L.shp with h| ⟨rfl,_⟩| ⟨rfl,n,rfl,h⟩
  .exact An h hl
  .exact absurd rfl hs
  .obtain⟨r,rfl⟩:=hh rfl;exact rX h (.inl (by simp at hl⊢;lia))
 .rcases Gae.mp hw with rfl|hw
  .have:=jH w L.hk;exact⟨this.1,by have:=this.2;lia⟩
  .exact hn w hw
def Aq{x:Str}{j:Int}(h0:0<=j)(h1:j<=x.length):(Txt.slice x J (U j)).cps.toList=x.cps.toList.take j.toNat:=by
 have:=StrLaws.sliceText_to ⟨h0,by simpa[Str.length] using h1⟩;have e:Txt.slice x J _=StrLaws.sliceText x J (U j):=rfl;rw[e,this];simp
def FY{x:Str}{j:Int}(h0:0<=j)(h1:j<=x.length):(Txt.slice x (U j) J).cps.toList=x.cps.toList.drop j.toNat:=by
 have:=StrLaws.sliceText_from ⟨h0,by simpa[Str.length] using h1⟩;have e:Txt.slice x _ J=StrLaws.sliceText x (U j) J:=rfl;rw[e,this,GbF (by simp;lia)]
theorem uy:∀W i,(∀w∈W,32∉w)->(JL 32 W)[i]? =U 32->∃P XG,W=P++XG/\P≠[]/\XG≠[]/\(JL 32 P).length=i
 |[],i,_,h=>by simp[JL] at h
 |[x],i,hw,h=>absurd (GaC h) (hw x ?E)
 |x::y::r,i,hw,h=>by
  have h:(x++32::JL 32 _)[i]? =U 32:=h;by_cases c:i<x.length
  .rw[GaM c] at h;exact absurd (GaC h) (hw x ?E)
  .rw[GaK ?B] at h;by_cases d:i=x.length
   .exact⟨[x],y::r,rfl,by simp,by simp,by simp[JL,d]⟩
   .obtain⟨n,hn⟩:∃n,i -x.length=n+1:=⟨i -x.length -1,by lia⟩
    rw[hn] at h;obtain⟨P,XG,e,p,q,l⟩:=uy _ n (λw Vv =>hw w ?H) h;refine⟨x::P,XG,by rw[e];rfl,by simp,q, ?_⟩;cases P with
    |nil=>exact absurd rfl p
    |cons a P=>simp[JL] at l⊢;lia
noncomputable def cZ(i:Nat):D:= H (i:Int)
def FZ(A:List Nat):aj (A.map cZ)=O:=bj λ_ _=>rfl
def jV(n:Nat):aO 0 n=(List.range n).map cZ:=by simp[aO,cZ]
def jW{α:Type}{l:List α}{f:α->D}:cW [Y (l.map f)]=U ⟨.c,H l.length⟩:=by simp
def Lw.len{is:List Int}(L:Lw k xs is):(Str.join " " (k::(xs++is.map aC))).length<=861:=ux (λw hw=>by have:=(L.wds w hw).2;lia) (by have:=L.cnt;simp;lia)
def JU:(⟨#[]⟩:Str)++Str.ofString " "=Str.ofString " ":=by decide+kernel
def BR(x y z:Str):x++y++z=x++(y++z):=fR (by simp[bg])
def dE{x y:Str}(h:x.length+y.length<=a7):af (E x) (E y)=U ⟨.c,E (x++y)⟩:=by
 simp_all
def vO{env:DL.Env}(h:f env=U ⟨.tn,Y AL⟩):au i f env=U (.nx (env.set i (U (C (Y AL))))):=by
 unfold au;rw[h]
 rfl
def qF{N:Int}(h:f env=U ⟨k,H N⟩)(h0:0<=N)(h1:N<=1000):aS f env=U (aO 0 N.toNat):=by
 simp[h,(bU (i:=N) ?B ?B)]
abbrev blC:DE:=bu J 1 [1] (aS (bN 1)) (gN 0) (aw eqB (Xm (vE 1) (vE 0)) (kS " ")) (vE 0)
def ph{ns:List Int}{r:Str}(e1:ae [.scr ns,H 3001,H 4]=U (H v))(cE:blC [U ?L,U (Z (E l)),U (Z (H v)),J,J]=U ⟨.tn,Y AL⟩)(lA:cW [Y AL]=U ⟨.c,H n⟩)
  (a1:af (E " ") (E l)=U ⟨.c,E (Str.ofString " "++l)⟩)(a2:af (E l) (E " ")=U ⟨.c,E (l++Str.ofString " ")⟩)
  (h:(v=0\/n=0)/\r=Str.ofString " "++l\/(¬v=0/\¬n=0/\v=1)/\r=l++Str.ofString " "\/(¬v=0/\¬n=0/\¬v=1)/\∃j i x y z,ae [.scr ns,H 3002,H n]=U (H j)/\atD AL j=U (H i)/\tsE (vE 1) noO (aV (vE 4)) [U ?L,U (Z (E l)),U (Z (H v)),U (C (Y AL)),U (Z (H i))]=U ⟨.c,E x⟩/\tsE (vE 1) (aV (vE 4)) noO [U ?L,U (Z (E l)),U (Z (H v)),U (C (Y AL)),U (Z (H i))]=U ⟨.c,E y⟩/\af (E x) (E " ")=U ⟨.c,E z⟩/\af (E z) (E y)=U ⟨.c,E r⟩):fb [.scr ns,E l]=U (E r):=by
 refine bA rfl ?_;rw[show dv 5 [D.scr ns,E l]=[U _,U _,J,J,J] from rfl];refine(ai (e:=[U _,U _,U _,J,J]) (by simp[e1])).trans ((ai (e:=[U _,U _,U _,U _,J]) (vO cE)).trans ?_);rcases h with⟨q,rfl⟩| ⟨⟨q1,q2,rfl⟩,rfl⟩| ⟨⟨q1,q2,q3⟩,j,i,x,y,z,e2,yz,t1,t2,b1,b2⟩
 .by_cases c:v=0
  .simp[c,a1]
  .simp[q.resolve_left c,lA,a1]
 .refine(ai (e:=[U ?L,U (Z (E l)),U (Z (H 1)),U (C (Y AL)),J]) (by simp[q2,lA])).trans ?_;simp[a2]
 .refine(ai (e:=[U ?L,U (Z (E l)),U (Z (H v)),U (C (Y AL)),J]) (by simp[q1,q2,lA])).trans ((ai (e:=[U ?L,U (Z (E l)),U (Z (H v)),U (C (Y AL)),J]) (by simp[q3])).trans ((ai (e:=[U ?L,U (Z (E l)),U (Z (H v)),U (C (Y AL)),U (Z (H i))]) (by simp[lA,e2,yz])).trans ?_));simp only[Xi,Xn];rw[t1,t2];simp[b1,b2]
def JV{x:Str}(ha:e[a]? =U (U (Z (E x))))(hb:e[b]? =U (U (Z (H i))))(hz:x.length<=a7):tsE (vE a) noO (aV (vE b)) e=U ⟨.c,E (Txt.slice x J (U i))⟩:=by
 simp[tsE,ha,hb,hz]
def JW{x:Str}(ha:e[a]? =U (U (Z (E x))))(hb:e[b]? =U (U (Z (H i))))(hz:x.length<=a7):tsE (vE a) (aV (vE b)) noO e=U ⟨.c,E (Txt.slice x (U i) J)⟩:=by
 simp[tsE,ha,hb,hz]
def J8(L:Ln l)(ns:List Int):∃l',fb [.scr ns,E l]=U (E l')/\iO l' :=by
 obtain⟨k,xs,is,rfl,L⟩:=L;have hl:=L.len;have d1:=aN ns 3001 4 ?E;have e1:=aI (ns:=ns) (k:=3001) (m:=4) ?E ?E ?E;generalize drw ns 3001 4=v at*;have T1:iO (Str.ofString " "++Str.join " " (k::(xs++is.map aC))):=by
  have:=iP (k:=⟨#[]⟩) (ws:=k::_) (FV (by decide+kernel) _) (λw hw=>by
   rcases Gae.mp hw with rfl|hw
   .exact⟨by simp[NB],by decide⟩
   .have:=L.wds w hw;exact⟨this.1,by lia⟩) (by have:=L.cnt;simp;lia)
  rwa[show _::k::_=[⟨#[]⟩]++_ from rfl,dT ?E ?E,pf,JU] at this
 have T2:iO (Str.join " " (k::(xs++is.map aC))++Str.ofString " "):=by
  have:=Ao L (A:=xs++is.map aC) (B:=[]) ?E;rw[show k::(xs++is.map aC++[⟨#[]⟩])=(k::_)++[⟨#[]⟩] from rfl,dT ?E ?E,pf] at this;have e:∀x:Str,x++(⟨#[]⟩)=x:=λx=>fR (by simp[bg])
  rwa[e] at this
 have T3:∀i:Nat,(Str.join " " (k::(xs++is.map aC))).cps.toList[i]? =U 32->iO (Txt.slice (Str.join " " (k::(xs++is.map aC))) J (U (i:Int))++Str.ofString " "++Txt.slice (Str.join " " (k::(xs++is.map aC))) (U (i:Int)) J):=λi hi=>by
  have xa:i<(Str.join " " (k::(xs++is.map aC))).length:=by
   have:=(Gac.mp hi).1
   simpa[Str.length] using this
  have c1:=Aq (x:=Str.join " " (k::(xs++is.map aC))) (j:=i) ?B ?B;have c2:=FY (x:=Str.join " " (k::(xs++is.map aC))) (j:=i) ?B ?B;rw[qE] at hi;obtain⟨P,XG,e,p,q,pl⟩:=uy _ i (λw hw=>by
   obtain⟨x,hx,rfl⟩:=Gay.mp hw;exact(L.wds x hx).1) hi
  obtain⟨A,B,e2,rfl,rfl⟩:=List.map_eq_append_iff.mp e;cases A with
  |nil=>exact absurd rfl p
  |cons a A=>
   obtain⟨rfl,e3⟩:=List.cons.inj (show k::(xs++is.map aC)=a::(A++B) from e2);have bB:B≠[]:=by simpa using q
   have:=Ao L (A:=A) (B:=B) e3.symm;have ej:Str.join " " (k::(xs++is.map aC))=Str.join " " (k::A)++" "++Str.join " " B:=by rw[e2];exact dT ?E bB
   have pl' :(Str.join " " (k::A)).cps.toList.length=i:=by rw[qE];exact pl
   have s1:Txt.slice (Str.join " " (k::(xs++is.map aC))) J (U (i:Int))=Str.join " " (k::A):=fR (by
    rw[c1,ej,bg,bg,GaT,Gbn,<-pl',List.take_left']<;>rfl)
   have s2:Txt.slice (Str.join " " (k::(xs++is.map aC))) (U (i:Int)) J=Str.ofString " "++Str.join " " B:=fR (by
    rw[c2,ej,bg,bg,GaT,Gbn,<-pl',List.drop_left',bg]<;>rfl)
   rw[s1,s2]
   rwa[show k::(A++ ⟨#[]⟩::B)=(k::A)++([⟨#[]⟩]++B) from rfl,dT ?E ?E,dT ?E bB,pf,JU] at this
 generalize Str.join " " (k::(xs++is.map aC))=l at*;have hc:cq (gN 0) (aw eqB (Xm (vE 1) (vE 0)) (kS " ")) (vE 0) (aO 0 l.length) [J,U (Z (E l))]=U (((List.range l.length).filter λi=>decide (l.cps.toList[i]? =U 32)).map cZ):=by
  rw[jV];refine iN cZ (λe=>∃z,e=[z,U (Z (E l))]) _ _ _ _ ⟨_,rfl⟩ ?_;rintro i hi e ⟨z,rfl⟩;refine⟨_,rfl,⟨_,rfl⟩, ?_,λ_=> ⟨.c,rfl,rfl⟩⟩;have xB :i<l.cps.toList.length:=by simpa[Str.length] using(GaZ.mp hi)
  have hx:ixD (E l) (H (i:Int))=U (E ⟨#[l.cps.toList[i]]⟩):=by
   rw[dU,Gaj (by unfold a7;lia)];unfold atD;rw[Gaj ?B,Gbn,Gag xB]
   rfl
  have q:eqB (E ⟨#[l.cps.toList[i]]⟩) (E (Str.ofString " "))=U (decide (l.cps.toList[i]? =U 32)):=by
   rw[lj,blank_eq,Gag xB];congr 1;rw[Gca];simp
  show _=U (decide (l.cps.toList[i]? =U 32));generalize decide (l.cps.toList[i]? =U 32)=B at*;generalize l.cps.toList[i]=c at*;simp[cZ,hx,q,-dU,-lj]
 generalize hA:((List.range l.length).filter λi=>decide (l.cps.toList[i]? =U 32))=A at*;have mem:∀i∈A,l.cps.toList[i]? =U 32:=λi hi=>by
  rw[<-hA] at hi;exact Gar (GbX.mp hi).2
 have Al:A.length<=861:=by
  rw[<-hA];exact GaH (List.length_filter_le _ _) (by simpa using hl)
 have im:=FZ A;have hR:∀v3 v4 v5,aS (bN 1) [U ?L,U (Z (E l)),v3,v4,v5]=U (aO 0 l.length):=λv3 v4 v5=>by
  have:=qF (f:=bN 1) (env:=[U ?L,U (Z (E l)),v3,v4,v5]) (k:= .c) (N:=l.length) (by show cW [E l]=_;exact(by rw[cy,Gaj (by unfold a7;lia)])) ?B ?B
  rwa[Gbn] at this
 have cE:bu J 1 [1] (aS (bN 1)) (gN 0) (aw eqB (Xm (vE 1) (vE 0)) (kS " ")) (vE 0) [U ?L,U (Z (E l)),U (Z (H v)),J,J]=U ⟨.tn,Y (A.map cZ)⟩:=by
  unfold bu;rw[show bM J [U ?L,U (Z (E l)),U (Z (H v)),J,J]=[U ?L,U (Z (E l)),U (Z (H v)),J,J] from rfl,hR,Option.bind_some,Gaj (by rw[jV];simp[a7];lia),show DL.Xk 1 [1] [U ?L,U (Z (E l)),U (Z (H v)),J,J]=[J,U (Z (E l))] from rfl,hc]
  rfl
 have lA:cW [Y (A.map cZ)]=U ⟨.c,H A.length⟩:=(@jW Nat A cZ)
 have zz:l.length<=a7:=by unfold a7;lia
 have one:(Str.ofString " ").length=1:=rfl;have a1:=dE (x:=Str.ofString " ") (y:=l) (by rw[one];unfold a7;lia);have a2:=dE (x:=l) (y:=Str.ofString " ") (by rw[one];unfold a7;lia);by_cases q1:v=0\/(A.length:Int)=0
 .exact⟨_,ph e1 cE lA a1 a2 (.inl ⟨q1,rfl⟩),T1⟩
 .rw[GbS] at q1;by_cases q3:v=1
  .exact⟨_,ph e1 cE lA a1 a2 (.inr (.inl ⟨⟨q1.1,q1.2,q3⟩,rfl⟩)),T2⟩
  .have p:0<(A.length:Int):=by lia
   have d2:=aN ns 3002 A.length p;have e2:=aI (ns:=ns) (k:=3002) (m:=A.length) (by decide) (by decide) p;generalize drw ns 3002 A.length=j at*;have hj:j.toNat<A.length:=by lia
   have yz:atD (A.map cZ) j=U (cZ A[j.toNat]):=by
    unfold atD;rw[Gaj d2.1,Gam,Gag hj]
    rfl
   have m:=mem A[j.toNat] (GaN hj);generalize A[j.toNat]=i at*;refine⟨_,ph e1 cE lA a1 a2 (.inr (.inr ⟨⟨q1.1,q1.2,q3⟩,j,i,_,_,_,e2,yz,JV rfl rfl zz,JW rfl rfl zz,dE ?_,dE ?_⟩)),T3 i m⟩
   .have:=Gbf l J (U (i:Int));rw[one];unfold a7;lia
   .have h1:=Gbf l J (U (i:Int));have h2:=Gbf l (U (i:Int)) J;rw[len_app,one];unfold a7;lia
noncomputable def upT:List (Nat×Nat):=[(97,65),(98,66),(99,67),(100,68),(101,69),(103,71),(111,79),(115,83),(116,84),(121,89)]
def QA:∀p∈upT,upD (E ⟨#[p.1]⟩)=U ⟨.c,E ⟨#[p.2]⟩⟩:=by
 have:∀p∈upT,(match upD (E ⟨#[p.1]⟩) with
  |some ⟨.c,E y⟩=>decide (y=⟨#[p.2]⟩)
  |_=>M)=O:=by decide+kernel
 intro p hp;have h:=this p hp;split at h
 .simp_all
 .cases h
def G0:∀k∈hds,∃p∈upT,∃r,k.cps.toList=p.1::r/\(⟨(p.2::r).toArray⟩:Str)∉hds/\32∉r/\r.length<=10:=by
 have:∀k∈hds,upT.any (λp=>match k.cps.toList with
  |c::r=>decide (c=p.1)&&decide ((⟨(p.2::r).toArray⟩)∉hds)&&decide (32∉r)&&decide (r.length<=10)
  |[]=>M)=O:=by decide+kernel
 intro k hk;obtain⟨p,hp,h⟩:=GcI.mp (this k hk);split at h
 .rename_i c r e;simp only[Gai,GbM] at h;obtain⟨⟨⟨rfl,h1⟩,h2⟩,h3⟩:=h;exact⟨p,hp,r,e,h1,h2,h3⟩
 .cases h
def J9{l:Str}(L:Ln l):∃c c',ixD (E l) (H 0)=U (E c)/\upD (E c)=U ⟨.c,E c'⟩/\l.length<=861/\c'.length=1/\iO (c' ++Txt.slice l (U 1) J):=by
 obtain⟨k,xs,is,rfl,L⟩:=L;have hl:=L.len;obtain⟨p,hp,r,e,h1,h2,h3⟩:=G0 k L.hk;have cn:=L.cnt;have ne:xs++is.map aC≠[]:=λz=>by
  have:(xs++is.map aC).length=0:=by rw[z];rfl
  rw[Gax,Gav] at this;lia
 have Vl:p.2≠32:=by
  have:∀p∈upT,p.2≠32:=by decide
  exact this p hp
 have ej:(Str.join " " (k::(xs++is.map aC))).cps.toList=p.1::(r++32::(Str.join " " (xs++is.map aC)).cps.toList):=by
  rw[show k::(xs++is.map aC)=[k]++(xs++is.map aC) from rfl,dT ?E ne,pf,bg,bg,e,blank_eq];simp
 refine⟨⟨#[p.1]⟩,⟨#[p.2]⟩, ?_,QA p hp,hl,rfl, ?_⟩
 .rw[dU,Gaj (by unfold a7;lia),ej]
  rfl
 .have b:=iP (FV h1 (xs++is.map aC)) (λw hw=>by
   rcases Gae.mp hw with rfl|hw
   .exact⟨by simp[NB,Vl,h2,GaG Vl],by simp[Str.length];lia⟩
   .have:=L.wds w ?H;exact⟨this.1,by lia⟩) (by simp;lia)
  have e2:(⟨#[p.2]⟩)++Txt.slice (Str.join " " (k::(xs++is.map aC))) (U 1) J=Str.join " " ((⟨(p.2::r).toArray⟩)::(xs++is.map aC)):=by
   apply fR;have l1:(1:Int)<=(Str.join " " (k::(xs++is.map aC))).length:=by
    have:=congrArg List.length ej;have q:(Str.join " " (k::(xs++is.map aC))).cps.toList.length=(Str.join " " (k::(xs++is.map aC))).length:=by simp[Str.length]
    simp only[GaF] at this;lia
   rw[bg,FY ?B l1,ej,show _::(xs++is.map aC)=[_]++(xs++is.map aC) from rfl,dT ?E ne,pf,bg,bg,blank_eq];simp
  rwa[e2]
def vP(h:Num i):∃c r,(aC i).cps.toList=c::r/\gp c=O:=by
 obtain⟨n,rfl⟩:=Gbm h.1;obtain⟨a,_,c,r,e,_⟩:=JK n;refine⟨c,r,by rw[rN,e], ?_⟩;simp_all
def G1{x:Str}(h:Nam x):∃c r,x.cps.toList=c::r/\gp c=M:=by
 obtain⟨h1,h2,h3⟩:=h;cases e:x.cps.toList with
 |nil=>
  have:x.length=0:=by unfold Str.length;rw[<-Gda,e];rfl
  lia
 |cons c r=>
  refine⟨c,r,rfl, ?_⟩;rw[e] at h3;simp at h3;simp[gp];lia
def noF{x:Str}(hx:x.length<=1000)(m:c∈x.cps.toList)(h:gp c=M):j9 x=J:=A9 hx (.inl (by
 rw[List.all_eq_false];exact⟨c,m,by simp[h]⟩))
noncomputable def nbL(x:Str):List Str:=[Str.ofString "0"++x,Str.ofString "+"++x,Str.ofString "-"++x,x++Str.ofString "_0",Str.ofString "1000000001",x++Str.ofString "x",x++Str.ofString "."]
def G3(h:Num i):∀y∈nbL (aC i),j9 y=J/\NB y/\y.length<=40:=by
 have hl:=jR h;have nb:=vt i;obtain⟨c,r,e,hc⟩:=vP h;have cl:(aC i).length=r.length+1:=by
  have:(aC i).cps.toList.length=r.length+1:=by rw[e];rfl
  simpa[Str.length] using this
 have pre:∀(s) (d),s.cps.toList=[d]->d≠32->gp d=M->j9 (s++aC i)=J/\NB (s++aC i)/\(s++aC i).length<=40:=λs d es Vd df=>by
  have sl:s.length=1:=by
   have:s.cps.toList.length=1:=by rw[es];rfl
   simpa[Str.length] using this
  refine⟨noF (by rw[len_app];lia) (by rw[bg,es];simp) df, ?_,by rw[len_app];lia⟩;unfold NB at nb⊢;rw[bg,es];simp only[GaL,Gbb,GbS];exact⟨GaG Vd,nb⟩
 have suf:∀(s) (d),d∈s.cps.toList->32∉s.cps.toList->gp d=M->s.length<=2->j9 (aC i++s)=J/\NB (aC i++s)/\(aC i++s).length<=40:=λs d es Vd df sl=>by
  refine⟨noF (by rw[len_app];lia) (by rw[bg];simp[es]) df, ?_,by rw[len_app];lia⟩;unfold NB at nb⊢;rw[bg];simp only[GaL,GbS];exact⟨nb,Vd⟩
 intro y hy;simp only[nbL,Gae,Gao,GaQ] at hy;rcases hy with rfl|rfl|rfl|rfl|rfl|rfl|rfl
 .have z:(Str.ofString "0").cps.toList=[48]:=by decide+kernel
  refine⟨A9 (by rw[len_app];have:(Str.ofString "0").length=1:=rfl;lia) (.inr (.inr ⟨by rw[len_app];have:(Str.ofString "0").length=1:=rfl;lia,by rw[bg];rfl⟩)), ?_,by rw[len_app];have:(Str.ofString "0").length=1:=rfl;lia⟩;unfold NB at nb⊢;rw[bg];simp only[GaL,GbS];exact⟨by decide,nb⟩
 .exact pre _ 43 (by decide+kernel) (by decide) (by decide)
 .exact pre _ 45 (by decide+kernel) (by decide) (by decide)
 .exact suf _ 95 (by decide+kernel) (by decide+kernel) (by decide) (by decide)
 .exact⟨by kernel_rfl,by unfold NB;decide+kernel,by decide+kernel⟩
 .exact suf _ 120 (by decide+kernel) (by decide+kernel) (by decide) (by decide)
 .exact suf _ 46 (by decide+kernel) (by decide+kernel) (by decide) (by decide)
def Nn{xs:List Str}{is:List Int}{A:List Str}{y:Str}(L:Lw k xs is)(e:A++x::B=xs++is.map aC)(ha:xs.length<=A.length)(hy:j9 y=J/\NB y/\y.length<=40):iO (Str.join " " (k::(A++y::B))):=by
 have le:A.length+(B.length+1)=xs.length+is.length:=by have:=congrArg List.length e;simpa using this
 have md:∀n,n<=_->y∈(A++y::B).drop n:=λn hn=>by
  rw[List.drop_append_of_le_length hn];simp
 refine iP ?_ (λw hw=> ?_) (by have:=L.cnt;simp;lia)
 .rcases L.shp with h| ⟨rfl,a,b,c⟩| ⟨rfl,n,rfl,h⟩
  .exact J7 h (λz=>by subst z;simp at le;lia) (md _ ha) hy.1
  .exact FT (md 1 ?B) hy.1
  .cases A with
   |nil=>simp at ha
   |cons a A=>
    have:a=n:=(List.cons.inj (show a::_=n::is.map aC from e)).1;subst this;exact rX h (.inr ⟨y,by simp,hy.1⟩)
 .have all:=L.wds;rcases Gae.mp hw with rfl|hw
  .have:=all w ?E;exact⟨this.1,by lia⟩
  .rcases GaL.mp hw with hw|hw
   .have:=all w (by rw[<-e];simp[hw]);exact⟨this.1,by lia⟩
   .rcases Gae.mp hw with rfl|hw
    .exact hy.2
    .have:=all w (by rw[<-e];simp[hw]);exact⟨this.1,by lia⟩
theorem Lw.order(L:Lw k xs []):k="order":=by
 rcases L.shp with h| ⟨_,_,b,_⟩| ⟨_,n,_,h⟩
 .simp only[shT,Gae,Gbe,Gao,GaQ] at h;simp_all
 .simp at b
 .simp only[kiT,Gae,Gbe,Gao,GaQ] at h;simp_all
def vQ{is:List Int}{x:Str}(L:Lw k xs is)(hs:k≠"stuff")(hx:NB x/\x.length<=40):iO (Str.join " " (k::(xs++is.map aC))++Str.ofString " "++x):=by
 have cn:=L.cnt;have b:=Ap L hs (ws:=xs++is.map aC++[x]) ?E (by simp;lia) (λe=>by
  subst e;rcases L.shp with h| ⟨z,_⟩| ⟨_,n,rfl,h⟩
  .revert h;simp[shT]
  .lia
  .exact⟨_,rfl⟩) (λw hw=>by
  rcases GaL.mp hw with hw|hw
  .have:=L.wds w ?H;exact⟨this.1,by lia⟩
  .rw[Gbb.mp hw];exact hx)
 rwa[show k::(xs++is.map aC++[x])=(k::_)++[x] from rfl,dT ?E ?E] at b
def rY{ws:List Str}(h:∀w∈ws,w.length<=40)(hl:ws.length<=30):cG " " (Y (ws.map E))=U ⟨.c,E (Str.join " " ws)⟩:=by
 rw[jO,strs_map,Option.bind_some,Gaj];have s1:=uw (xs:=ws.map (·.length)) (λx hx=>by
  obtain⟨w,hw,rfl⟩:=Gay.mp hx;have:=h w hw;lia)
 rw[Gav] at s1;rw[show(Str.ofString " ").length=1 by decide+kernel];unfold a7;lia
def G4{xs:List α}(h:n<=xs.length):cutD xs J (U (n:Int))=xs.take n:=by
 have a:¬(n:Int)<0:=by lia
 simp[cutD,sIx,a,GbJ h]
def Np{xs:List α}(h:n<=xs.length):cutD xs (U (n:Int)) J=xs.drop n:=by
 have a:¬(n:Int)<0:=by lia
 simp only[cutD,sIx,Gau a,Gbn,GbJ h];rw[GbF ?E]
def G5{xs:List α}:cutD xs J (U (-1))=xs.dropLast:=by
 simp only[cutD,sIx];rw[List.dropLast_eq_take];simp;lia
abbrev nbC:DE:=bu J 1 [2] (gz (kI 1) (bN 2)) (gN 0) (aw (orB iG kJ) (Xm (Xm (vE 1) (vE 0)) (kI 0)) (kS "0123456789")) (vE 0)
def uz{ns:List Int}{WL:List D}{r:Str}(sp:dO (E l) (E " ")=U ⟨.tn,Y WL⟩)(iw:aj WL=O)(ia:aj AL=O)(cE:nbC [U ?L,U (Z (E l)),U (C (Y WL)),J,J,J,J]=U ⟨.tn,Y AL⟩)(lA:cW [Y AL]=U ⟨.c,H n⟩)
  (h:n=0/\af (E l) (E " x")=U ⟨.c,E r⟩\/¬n=0/\∃j p old y0 y1 y2 y3 y5 y6 q y,ae [.scr ns,H 3011,H n]=U (H j)/\atD AL j=U (H p)/\atD WL p=U (E old)/\af (E "0") (E old)=U ⟨.c,E y0⟩/\af (E "+") (E old)=U ⟨.c,E y1⟩/\af (E "-") (E old)=U ⟨.c,E y2⟩/\af (E old) (E "_0")=U ⟨.c,E y3⟩/\af (E old) (E "x")=U ⟨.c,E y5⟩/\af (E old) (E ".")=U ⟨.c,E y6⟩/\ae [.scr ns,H 3012,H 7]=U (H q)/\atD [E y0,E y1,E y2,E y3,E "1000000001",E y5,E y6] q=U (E y)/\WL.length<=30/\cG " " (Y (cutD WL J (U p)++[E y]++cutD WL (U (p+1)) J))=U ⟨.c,E r⟩/\(cutD WL J (U p)).length<=30/\(cutD WL (U (p+1)) J).length<=30):cB [.scr ns,E l]=U (E r):=by
 refine bA rfl ?_;rw[show dv 7 [D.scr ns,E l]=[U _,U _,J,J,J,J,J] from rfl];refine(ai (e:=[U _,U _,U _,J,J,J,J]) (by simp[sp])).trans ((ai (e:=[U _,U _,U _,U _,J,J,J]) (vO cE)).trans ?_);rcases h with⟨rfl,a⟩| ⟨q0,j,p,old,y0,y1,y2,y3,y5,y6,q,y,e1,h1,h2,b0,b1,b2,b3,b5,b6,e2,h3,wl,hj,l1,l2⟩
 .simp[lA,a,-oh]
 .refine(ai (e:=[U ?L,U (Z (E l)),U (C (Y WL)),U (C (Y AL)),J,J,J]) (by simp[q0,lA,-oh])).trans ((ai (e:=[U ?L,U (Z (E l)),U (C (Y WL)),U (C (Y AL)),U (Z (H p)),J,J]) (by simp[lA,e1,h1,-oh])).trans ((ai (e:=[U ?L,U (Z (E l)),U (C (Y WL)),U (C (Y AL)),U (Z (H p)),U (Z (E old)),J]) (by simp[h2])).trans ((ai (e:=[U ?L,U (Z (E l)),U (C (Y WL)),U (C (Y AL)),U (Z (H p)),U (Z (E old)),U (C (Y [E y0,E y1,E y2,E y3,E "1000000001",E y5,E y6]))]) (by simp[b0,b1,b2,b3,b5,b6,a7])).trans ?_)));have a1:af (Y (cutD WL J (U p))) (Y [E y])=U ⟨.tn,Y (cutD WL J (U p)++[E y])⟩:=by
   show(if(cutD WL J (U p)).length+1<=a7 then _ else J)=_;rw[Gaj (by unfold a7;lia)]
  have a2:af (Y (cutD WL J (U p)++[E y])) (Y (cutD WL (U (p+1)) J))=U ⟨.tn,Y (cutD WL J (U p)++[E y]++cutD WL (U (p+1)) J)⟩:=by
   show(if(cutD WL J (U p)++[E y]).length+(cutD WL (U (p+1)) J).length<=a7 then _ else J)=_;rw[Gaj (by rw[Gax];simp only[GaF,Gcb];unfold a7;lia)]
  have a3:af (H p) (H 1)=U ⟨.c,H (p+1)⟩:=rfl;simp[e2,h3,a1,a2,a3,hj,a7,-jO,-List.append_assoc]
def BS(h:f env=U ⟨k,H N⟩)(h0:0<=N)(h1:N<=1000):gz (kI 1) f env=U (aO 1 (N -1).toNat):=by
 have s1:bt 1=O:=rfl;simp[h,(bU (i:=N) ?B ?B),s1]
def pj(n:Nat):aO 1 n=(List.range n).map λj=>cZ (j+1):=by
 refine List.map_congr_left λj _=> ?_;unfold cZ;lia
def Nq:orB iG kJ (E ⟨#[c]⟩) (E "0123456789")=U (gp c):=by
 rw[<-rO]
 rfl
def Ja{is:List Int}(L:Lw k xs is)(ns:List Int):∃l',cB [.scr ns,E (Str.join " " (k::(xs++is.map aC)))]=U (E l')/\iO l' :=by
 have hl:=L.len;have cn:=L.cnt;have all:=L.wds;have hs:=fP (ws:=k::_) ?E (λw hw=>(all w hw).1);have T0:is=[]->iO (Str.join " " (k::(xs++is.map aC))++Str.ofString " x"):=λe=>by
  subst e;have b:=vQ L (x:=Str.ofString "x") (by rw[L.order];decide+kernel) ⟨by unfold NB;decide+kernel,by decide⟩
  rwa[BR,show Str.ofString " "++Str.ofString "x"=Str.ofString " x" by decide+kernel] at b
 have hd:∀w∈k::(xs++is.map aC),∃c r,w.cps.toList=c::r:=λw hw=>by
  rcases Gae.mp hw with rfl|hw
  .obtain⟨p,_,r,e,_⟩:=G0 w L.hk;exact⟨_,r,e⟩
  .rcases GaL.mp hw with hw|hw
   .obtain⟨c,r,e,_⟩:=G1 (L.hx w hw);exact⟨c,r,e⟩
   .obtain⟨i,hi,rfl⟩:=Gay.mp hw;obtain⟨c,r,e,_⟩:=vP (L.hi i hi);exact⟨c,r,e⟩
 have fg:∀(j:Nat) w,(xs++is.map aC)[j]? =U w->∀c r,w.cps.toList=c::r->(gp c=O↔xs.length<=j):=λj w hw c r e=>by
  by_cases q:j<xs.length
  .rw[GaM q] at hw;obtain⟨c',r',e',h⟩:=G1 (L.hx w (GaC hw));rw[e] at e';cases e';constructor
   .intro z;rw[h] at z;cases z
   .lia
  .rw[GaK ?B] at hw;obtain⟨i,hi,rfl⟩:=Gay.mp (GaC hw);obtain⟨c',r',e',h⟩:=vP (L.hi i hi);rw[e] at e';cases e';exact⟨λ_=>by lia,λ_=>h⟩
 have TN:∀(j:Nat) i,(xs++is.map aC)[j]? =U (aC i)->xs.length<=j->Num i->∀y∈nbL (aC i),iO (Str.join " " ((k::(xs++is.map aC)).take (j+1)++[y]++(k::(xs++is.map aC)).drop (j+2))):=λj i hj hx hi y hy=>by
  have xa:=(Gac.mp hj).1;have e:(xs++is.map aC).take j++aC i::(xs++is.map aC).drop (j+1)=xs++is.map aC:=by
   have:=List.getElem_cons_drop xa;rw[(Gac.mp hj).2] at this;rw[this,List.take_append_drop]
  have e2:(k::(xs++is.map aC)).take (j+1)++[y]++(k::(xs++is.map aC)).drop (j+2)=k::((xs++is.map aC).take j++y::(xs++is.map aC).drop (j+1)):=by simp
  rw[e2];exact(Nn L e (by rw[GaS];lia) (G3 hi y hy))
 have numAt:∀(j:Nat) w,(xs++is.map aC)[j]? =U w->xs.length<=j->∃i,w=aC i/\Num i:=λj w hw q=>by
  rw[GaK q] at hw;obtain⟨i,hi,rfl⟩:=Gay.mp (GaC hw);exact⟨i,rfl,L.hi i hi⟩
 have lenW:(xs++is.map aC).length=xs.length+is.length:=by simp
 generalize hW:xs++is.map aC=W at*;generalize hj:Str.join " " (k::W)=l at*;have zz:l.length<=a7:=by unfold a7;lia
 have sp:dO (E l) (E " ")=U ⟨.tn,Y ((k::W).map E)⟩:=jF hs ?B;have hc:cq (gN 0) (aw (orB iG kJ) (Xm (Xm (vE 1) (vE 0)) (kI 0)) (kS "0123456789")) (vE 0) (aO 1 W.length) [J,U (XM (Y ((k::W).map E)))]=U (((List.range W.length).filter λj=>decide (xs.length<=j)).map λj=>cZ (j+1)):=by
  rw[pj];refine iN (λj=>cZ (j+1)) (λe=>∃z,e=[z,U (XM (Y ((k::W).map E)))]) _ _ _ _ ⟨_,rfl⟩ ?_;rintro j hj e ⟨z,rfl⟩;have hj:=GaZ.mp hj;refine⟨_,rfl,⟨_,rfl⟩, ?_,λ_=> ⟨.c,rfl,rfl⟩⟩;have gj:W[j]? =U W[j]:=Gag hj;obtain⟨c,r,ec⟩:=hd W[j] (Gaw _ (GaN hj));have wl:=(all W[j] (Gaw _ (GaN hj))).2;have h1:atD ((k::W).map E) ((j+1:Nat):Int)=U (E W[j]):=by
   rw[DL.ie,Gam,Gcy,gj]
   rfl
  have h2:ixD (E W[j]) (H 0)=U (E ⟨#[c]⟩):=by
   rw[dU,Gaj (by unfold a7;lia),ec]
   rfl
  have h3:=Nq (c:=c);have h4:gp c=decide (xs.length<=j):=by rw[Gca,(fg j W[j] gj c r ec),GbM]
  show _=U (decide (xs.length<=j));rw[<-h4];generalize ((k::W).map E)=WL at*;generalize W[j]=w at*;generalize gp c=B at*;show aw (orB iG kJ) (Xm (Xm (vE 1) (vE 0)) (kI 0)) (kS "0123456789") [U (Z (cZ (j+1))),U (XM (Y WL))]=U B;have h5:ixD (Y WL) (cZ (j+1))=U (E w):=h1;generalize orB iG kJ=Xe at*;simp[h5,h2,h3,-dU,-we]
 have hR:gz (kI 1) (bN 2) [U ?L,U (Z (E l)),U (C (Y ((k::W).map E))),J,J,J,J]=U (aO 1 W.length):=by
  have:=BS (f:=bN 2) (env:=[U ?L,U (Z (E l)),U (C (Y ((k::W).map E))),J,J,J,J]) (k:= .c) (N:=(k::W).length) jW ?B (by simp only[GaF];lia);have e:(((k::W).length:Int)-1).toNat=W.length:=by rw[GaF];lia
  rw[this,e]
 have cE:nbC [U ?L,U (Z (E l)),U (C (Y ((k::W).map E))),J,J,J,J]=U ⟨.tn,Y (((List.range W.length).filter λj=>decide (xs.length<=j)).map λj=>cZ (j+1))⟩:=by
  unfold nbC bu;rw[show bM J [U ?L,U (Z (E l)),U (C (Y ((k::W).map E))),J,J,J,J]=[U ?L,U (Z (E l)),U (C (Y ((k::W).map E))),J,J,J,J] from rfl,hR,Option.bind_some,Gaj (by rw[pj];simp[a7];lia),show DL.Xk 1 [2] [U ?L,U (Z (E l)),U (C (Y ((k::W).map E))),J,J,J,J]=[J,U (XM (Y ((k::W).map E)))] from rfl,hc,Gcq]
 have iw:aj ((k::W).map E)=O:=aH _;generalize hA:(List.range W.length).filter (λj=>decide (xs.length<=j))=A at*;have mem:∀j∈A,j<W.length/\xs.length<=j:=λj hj=>by
  rw[<-hA] at hj;have:=GbX.mp hj;exact⟨GaZ.mp this.1,Gar this.2⟩
 have lA:cW [Y (A.map λj=>cZ (j+1))]=U ⟨.c,H A.length⟩:=jW;have ia:aj (A.map λj=>cZ (j+1))=O:=bj λ_ _=>rfl;by_cases q0:(A.length:Int)=0
 .have i0:is=[]:=by
   cases is with
   |nil=>rfl
   |cons i is=>
    have:xs.length∈A:=by
     rw[<-hA];refine GbX.mpr ⟨GaZ.mpr ?_,by simp⟩;rw[lenW];simp
    have:A≠[]:=λz=>by rw[z] at this;cases this
    have:A.length≠0:=by simpa using this
    lia
  exact⟨_,uz sp iw ia cE lA (.inl ⟨q0,dE (by have:(Str.ofString " x").length=2:=rfl;rw[this];unfold a7;lia)⟩),T0 i0⟩
 .have pA:0<(A.length:Int):=by lia
  have d2:=aN ns 3011 A.length pA;have e2:=aI (ns:=ns) (k:=3011) (m:=A.length) (by decide) (by decide) pA;generalize drw ns 3011 A.length=j at*;have hjl:j.toNat<A.length:=by lia
  have yz:atD (A.map λj=>cZ (j+1)) j=U (cZ (A[j.toNat]+1)):=by
   unfold atD;rw[Gaj d2.1,Gam,Gag hjl]
   rfl
  obtain⟨m1,m2⟩:=mem A[j.toNat] (GaN hjl);generalize A[j.toNat]=a at*;obtain⟨i,ei,hi⟩:=numAt a W[a] (Gag m1) m2;have ga:W[a]? =U (aC i):=by rw[Gag m1,ei]
  have h1:atD ((k::W).map E) ((a+1:Nat):Int)=U (E (aC i)):=by
   rw[DL.ie,Gam,Gcy,ga]
   rfl
  have nl:=jR hi;have d3:=aN ns 3012 7 (by decide);have e3:=aI (ns:=ns) (k:=3012) (m:=7) (by decide) (by decide) (by decide);generalize drw ns 3012 7=q at*;have c1:∀s:Str,s.length<=2->s.length+(aC i).length<=a7:=λs h=>by unfold a7;lia
  have c2:∀s:Str,s.length<=2->(aC i).length+s.length<=a7:=λs h=>by unfold a7;lia
  have hq:q.toNat<(nbL (aC i)).length:=by show q.toNat<7;lia
  have hy:atD ((nbL (aC i)).map E) q=U (E (nbL (aC i))[q.toNat]):=by
   unfold atD;rw[Gaj d3.1,Gam,Gag hq]
   rfl
  have ym:=GaN hq;generalize (nbL (aC i))[q.toNat]=y at*;have cl:W.length<=9:=by lia
  have ct:cutD ((k::W).map E) J (U ((a+1:Nat):Int))=((k::W).take (a+1)).map E:=by rw[G4 (by simp;lia),GbK]
  have cf:cutD ((k::W).map E) (U (((a+1:Nat):Int)+1)) J=((k::W).drop (a+2)).map E:=by
   rw[show((a+1:Nat):Int)+1=((a+2:Nat):Int) by lia,Np (by simp;lia),Gdf]
  refine⟨_,uz sp iw ia cE lA (.inr ⟨q0,j,((a+1:Nat):Int),aC i,_,_,_,_,_,_,q,y,e2,yz,h1,dE (c1 _ (by decide)),dE (c1 _ (by decide)),dE (c1 _ (by decide)),dE (c2 _ (by decide)),dE (c2 _ (by decide)),dE (c2 _ (by decide)),e3,hy,by simp;lia, ?_, ?_, ?_⟩),TN a i ga m2 hi y ym⟩
  .rw[ct,cf,show((k::W).take (a+1)).map E++[E y]++((k::W).drop (a+2)).map E=((k::W).take (a+1)++[y]++(k::W).drop (a+2)).map E by simp];refine rY (λw hw=> ?_) (by simp;lia);rcases GaL.mp hw with hw|hw
   .rcases GaL.mp hw with hw|hw
    .have:=(all w (Gbx hw)).2;lia
    .rw[Gbb.mp hw];exact(G3 hi y ym).2.2
   .have:=(all w (Gbw hw)).2;lia
  .rw[ct];simp;lia
  .rw[cf];simp;lia
noncomputable def odN:List Str:=["A","0","_",".","-","{","nineletrs"]
def JX:∀s∈odN,s.length<=9/\32∉s.cps.toList/\(8<s.length\/s.cps.toList.all (λc=>decide (97<=c)&&decide (c<=122))=M):=by decide+kernel
def Jb{n:Str}{i:Int}(hn:Nam n)(hs:s∈odN)(h0:0<=i)(h1:i<=n.length):bT [E (Txt.slice n J (U i)++s++Txt.slice n (U i) J)]=U (I M)/\NB (Txt.slice n J (U i)++s++Txt.slice n (U i) J)/\(Txt.slice n J (U i)++s++Txt.slice n (U i) J).length<=40:=by
 obtain⟨a,b,c⟩:=JX s hs;have l1:=Gbf n J (U i);have l2:=Gbf n (U i) J;have n8:=hn.2.1;have e:(Txt.slice n J (U i)++s++Txt.slice n (U i) J).length=(Txt.slice n J (U i)).length+s.length+(Txt.slice n (U i) J).length:=by rw[len_app,len_app]
 have ec:(Txt.slice n J (U i)++s++Txt.slice n (U i) J).cps.toList=n.cps.toList.take i.toNat++s.cps.toList++n.cps.toList.drop i.toNat:=by rw[bg,bg,Aq h0 h1,FY h0 h1]
 refine⟨?_, ?_,by lia⟩
 .obtain⟨q,hq,hb⟩:=JR (Txt.slice n J (U i)++s++Txt.slice n (U i) J) ?B;rw[hq,hb ?_];rcases c with c|c
  .exact .inr (.inl ?B)
  .rw[ec,GcX,GcX,c];simp
 .unfold NB;rw[ec];have nb:=hn.nb;simp only[GaL,GbS];exact⟨⟨λz=>nb (Gbx z),b⟩,λz=>nb (Gbw z)⟩
def uA{ns:List Int}{k r:Str}(sp:dO (E l) (E " ")=U ⟨.tn,Y (E k::W)⟩)
  (h:orB ip ju (E k) (Q [E "guest",E "stuff",E "order"])=U O/\af (E l) (E " 7")=U ⟨.c,E r⟩\/orB ip ju (E k) (Q [E "guest",E "stuff",E "order"])=U M/\∃n V m i q s x y z,W= E n::V/\cW [E n]=U ⟨.c,H m⟩/\ae [.scr ns,H 3013,H (m+1)]=U (H i)/\ae [.scr ns,H 3014,H 7]=U (H q)/\atD (odN.map E) q=U (E s)/\n.length<=a7/\x=Txt.slice n J (U i)/\y=Txt.slice n (U i) J/\af (E x) (E s)=U ⟨.c,E z⟩/\V.length<=30/\∃z2,af (E z) (E y)=U ⟨.c,E z2⟩/\cG " " (Y ([E k,E z2]++V))=U ⟨.c,E r⟩):cY [.scr ns,E l]=U (E r):=by
 refine bA rfl ?_;rw[show dv 6 [D.scr ns,E l]=[U _,U _,J,J,J,J] from rfl];refine(ai (e:=[U ?L,U (Z (E l)),U (C (Y (E k::W))),J,J,J]) (by simp[sp])).trans ?_;rcases h with⟨t,a⟩| ⟨t,n,V,m,i,q,s,x,y,z,rfl,hl,e1,e2,hs,zz,rfl,rfl,a1,vl,z2,a2,hj⟩
 .generalize orB ip ju=Xe at*;simp[t,a,a7]
 .refine(ai (e:=[U ?L,U (Z (E l)),U (C (Y (E k:: E n::V))),J,J,J]) (by generalize orB ip ju=Xe at*;simp[t,a7])).trans ((ai (e:=[U ?L,U (Z (E l)),U (C (Y (E k:: E n::V))),U (Z (E n)),J,J]) rfl).trans ?_);have a3:af (H m) (H 1)=U ⟨.c,H (m+1)⟩:=rfl;refine(ai (e:=[U ?L,U (Z (E l)),U (C (Y (E k:: E n::V))),U (Z (E n)),U (Z (H i)),J]) (by simp[hl,a3,e1,-cy])).trans ((ai (e:=[U ?L,U (Z (E l)),U (C (Y (E k:: E n::V))),U (Z (E n)),U (Z (H i)),U (C (Y (odN.map E)))]) (by simp[odN,a7])).trans ?_);have a4:af (Y [E k,E z2]) (Y V)=U ⟨.tn,Y ([E k,E z2]++V)⟩:=by
   show(if 2+V.length<=a7 then _ else J)=_;rw[Gaj (by unfold a7;lia)]
  have hj:cG (Str.ofString " ") (Y (E k:: E z2::V))=U ⟨.c,E r⟩:=hj;simp only[Xi,unE,Xn,lsE,aL,jf,ak];rw[(JV (x:=n) (i:=i) (e:=[U ?L,U (Z (E l)),U (C (Y (E k:: E n::V))),U (Z (E n)),U (Z (H i)),U (C (Y (odN.map E)))]) (a:=3) (b:=4) rfl rfl zz),(JW (x:=n) (i:=i) (e:=[U ?L,U (Z (E l)),U (C (Y (E k:: E n::V))),U (Z (E n)),U (Z (H i)),U (C (Y (odN.map E)))]) (a:=3) (b:=4) rfl rfl zz)];simp[e2,hs,a1,a2,a4,hj,a7,-jO]
def SK(k:Str):orB ip ju (E k) (Q [E "guest",E "stuff",E "order"])=U (decide (¬(k="guest"\/k="stuff"\/k="order"))):=by
 by_cases h1:k="guest"
 .subst h1;kernel_rfl
 .by_cases h2:k="stuff"
  .subst h2;kernel_rfl
  .by_cases h3:k="order"
   .subst h3;kernel_rfl
   .simp[orB,ip,iG,inB,tJ,h1,h2,h3,GaG h1,GaG h2,GaG h3]
def Jc{is:List Int}(L:Lw k xs is)(ns:List Int):∃l',cY [.scr ns,E (Str.join " " (k::(xs++is.map aC)))]=U (E l')/\iO l' :=by
 have hl:=L.len;have cn:=L.cnt;have all:=L.wds;have sp:dO _ _=U ⟨.tn,Y _⟩:=jF (fP (ws:=k::_) ?E (λw hw=>(all w hw).1)) ?B;have t:=SK k;by_cases h:k="guest"\/k="stuff"\/k="order"
 .rw[Gbo (λz=>z h)] at t;have hx:∃n ys,xs=n::ys:=by
   cases xs with
   |cons n ys=>exact⟨n,ys,rfl⟩
   |nil=>
    rcases L.shp with q| ⟨_,a,_⟩| ⟨_,n,e,_⟩
    .simp only[shT,Gae,Gbe,Gao,GaQ,Gcb] at q;rcases h with rfl|rfl|rfl<;>revert q<;>simp
    .cases a
    .cases e
  obtain⟨n,ys,rfl⟩:=hx;have hn:=L.hx n ?E;have n8:=hn.2.1;have d1:=aN ns 3013 (n.length+1) ?B;have e1:=aI (ns:=ns) (k:=3013) (m:=n.length+1) (by decide) (by decide) ?B;generalize drw ns 3013 (n.length+1)=i at*;have d2:=aN ns 3014 7 (by decide);have e2:=aI (ns:=ns) (k:=3014) (m:=7) (by decide) (by decide) (by decide);generalize drw ns 3014 7=q at*;have hq:q.toNat<odN.length:=by show q.toNat<7;lia
  have hy:atD (odN.map E) q=U (E odN[q.toNat]):=by
   unfold atD;rw[Gaj d2.1,Gam,Gag hq]
   rfl
  have ym:=GaN hq;generalize odN[q.toNat]=s at*;obtain⟨b1,b2,b3⟩:=Jb hn ym d1.1 ?B;have l1:=Gbf n J (U i);have l2:=Gbf n (U i) J;have s9:=(JX s ym).1;have zl:(Txt.slice n J (U i)++s).length<=30:=by rw[len_app];lia
  have bad:=iP (FU h (r:=ys++is.map aC) b1) (λw hw=>by
   rcases Gae.mp hw with rfl|hw
   .have:=all w ?E;exact⟨this.1,by lia⟩
   .rcases Gae.mp hw with rfl|hw
    .exact⟨b2,b3⟩
    .have:=all w (by simp at hw⊢;exact .inr (.inr hw));exact⟨this.1,by lia⟩) (by simp at cn⊢;lia)
  refine⟨_,uA sp (.inr ⟨t,n,(ys++is.map aC).map E,_,i,q,s,_,_,_,rfl,(by rw[cy,Gaj (by unfold a7;lia)]),e1,e2,hy,by unfold a7;lia,rfl,rfl,dE (by unfold a7;lia),by simp at cn⊢;lia,_,dE (by unfold a7;lia), ?_⟩),bad⟩;exact rY (ws:=k::(Txt.slice n J (U i)++s++Txt.slice n (U i) J)::(ys++is.map aC)) (λw hw=>by
   rcases Gae.mp hw with rfl|hw
   .have:=(all w ?E).2;lia
   .rcases Gae.mp hw with rfl|hw
    .exact b3
    .have:=(all w (by simp at hw⊢;exact .inr (.inr hw))).2;lia) (by simp at cn⊢;lia)
 .rw[GbE h] at t;exact⟨_,uA sp (.inl ⟨t,dE (by have:(Str.ofString " 7").length=2:=rfl;rw[this];unfold a7;lia)⟩),(vQ L (x:=Str.ofString "7") (λz=>h (.inr (.inl z))) ⟨by unfold NB;decide+kernel,by decide⟩)⟩
def jX{ns:List Int}{l r:Str}(hz:l.length<=a7)(e1:ae [.scr ns,H 3015,H 4]=U (H v))(hb:neB (E (Txt.slice l J (U 6))) (E "stuff ")=U b)(sp:dO (E l) (E " ")=U ⟨.tn,Y W⟩)
  (h:v=0/\b=O/\(∃q w x y,ae [.scr ns,H 3016,H 3]=U (H q)/\atD W (-1)=U (E w)/\atD [E "7",E "x",E w] q=U (E x)/\af (E l) (E " ")=U ⟨.c,E y⟩/\af (E y) (E x)=U ⟨.c,E r⟩)\/v=1/\b=O/\cG " " (Y (cutD W J (U (-1))))=U ⟨.c,E r⟩\/v=2/\cY [.scr ns,E l]=U (E r)\/(v=3\/(v=0\/v=1)/\b=M)/\cB [.scr ns,E l]=U (E r)):fN [.scr ns,E l]=U (E r):=by
 refine bA rfl ?_;rw[show dv 3 [D.scr ns,E l]=[U _,U _,J] from rfl];refine(ai (e:=[U ?L,U (Z (E l)),U (Z (H v))]) (by simp[e1])).trans ?_;have t6:tsE (vE 1) noO (aV (kI 6)) [U ?L,U (Z (E l)),U (Z (H v))]=U ⟨.c,E (Txt.slice l J (U 6))⟩:=by simp[tsE,hz]
 rcases h with⟨rfl,rfl,q,w,x,y,e2,hw,hx,a1,a2⟩| ⟨rfl,rfl,hj⟩| ⟨rfl,hr⟩| ⟨hv,hr⟩
 .simp[t6,hb,sp,e2,hw,hx,a1,a2,a7]
 .simp[t6,hb,sp,hj]
 .simp[hr]
 .have n2:¬v=2:=by lia
  refine(ai (e:=[U ?L,U (Z (E l)),U (Z (H v))]) ?_).trans ?_
  .rcases hv with rfl| ⟨rfl|rfl,rfl⟩
   .simp
   .simp[t6,hb]
   .simp
  refine(ai (e:=[U ?L,U (Z (E l)),U (Z (H v))]) ?_).trans ?_
  .rcases hv with rfl| ⟨rfl|rfl,rfl⟩
   .simp
   .simp
   .simp[t6,hb]
  simp_all
def st6(h:W≠[]):Txt.slice (Str.join " " ("stuff"::W)) J (U 6)="stuff ":=by
 have e:(Str.join " " ("stuff"::W)).cps.toList=(Str.ofString "stuff ").cps.toList++(Str.join " " W).cps.toList:=by
  rw[show _::W=[_]++W from rfl,dT ?E h,pf,bg,bg,<-bg,show Str.ofString "stuff"++Str.ofString " "=Str.ofString "stuff " by decide+kernel]
 have l6:(Str.ofString "stuff ").cps.toList.length=6:=by decide+kernel
 have le:(6:Int)<=(Str.join " " ("stuff"::W)).length:=by
  have:=congrArg List.length e;rw[Gax] at this;have q:(Str.join " " ("stuff"::W)).cps.toList.length=(Str.join " " ("stuff"::W)).length:=by simp[Str.length]
  lia
 apply fR;rw[Aq ?E le,e]
 rfl
def Nr(L:Ln l)(ns:List Int):∃l',fN [.scr ns,E l]=U (E l')/\iO l' :=by
 obtain⟨k,xs,is,rfl,L⟩:=L;have hl:=L.len;have cn:=L.cnt;have all:=L.wds;have ne:xs++is.map aC≠[]:=λz=>by
  have:(xs++is.map aC).length=0:=by rw[z];rfl
  rw[Gax,Gav] at this;lia
 have sp:dO _ _=U ⟨.tn,Y ((k::_).map _)⟩:=jF (fP (ws:=k::_) ?E (λw hw=>(all w hw).1)) ?B;have d1:=aN ns 3015 4 ?E;have e1:=aI (ns:=ns) (k:=3015) (m:=4) ?E ?E ?E;generalize drw ns 3015 4=v at*;have zz:(Str.join " " (k::(xs++is.map aC))).length<=a7:=by unfold a7;lia
 obtain⟨r1,n1,b1⟩:=Ja L ns;obtain⟨r2,n2,b2⟩:=Jc L ns;have hb:neB (E (Txt.slice (Str.join " " (k::(xs++is.map aC))) J (U 6))) (E "stuff ")=U (decide (Txt.slice (Str.join " " (k::(xs++is.map aC))) J (U 6)≠"stuff ")):=by
  rw[GK];congr 1;rw[Gca];simp
 have nst:Txt.slice (Str.join " " (k::(xs++is.map aC))) J (U 6)≠"stuff "->k≠"stuff":=λh e=>by
  subst e;exact h (st6 ne)
 by_cases h6:Txt.slice (Str.join " " (k::(xs++is.map aC))) J (U 6)="stuff "
 .rw[Gbo (by simpa using h6)] at hb;by_cases q:v=2
  .exact⟨_,jX zz e1 hb sp (.inr (.inr (.inl ⟨q,n2⟩))),b2⟩
  .refine⟨_,jX zz e1 hb sp (.inr (.inr (.inr ⟨?_,n1⟩))),b1⟩;rcases(show v=3\/v=0\/v=1 by lia) with z|z|z
   .exact .inl z
   .exact .inr ⟨.inl z,rfl⟩
   .exact .inr ⟨.inr z,rfl⟩
 .have ks:=nst h6;rw[GbE h6] at hb;obtain⟨A,z,eA⟩:∃A z,xs++is.map aC=A++[z]:=by
   rcases GcL (xs++is.map aC) with q| ⟨A,z,q⟩
   .exact absurd q ne
   .exact⟨A,z,by rw[q,GcM]⟩
  by_cases q:v=2
  .exact⟨_,jX zz e1 hb sp (.inr (.inr (.inl ⟨q,n2⟩))),b2⟩
  .by_cases q3:v=3
   .exact⟨_,jX zz e1 hb sp (.inr (.inr (.inr ⟨.inl q3,n1⟩))),b1⟩
   .by_cases q0:v=0
    .have d2:=aN ns 3016 3 (by decide);have e2:=aI (ns:=ns) (k:=3016) (m:=3) (by decide) (by decide) (by decide);generalize drw ns 3016 3=j at*;have zw:=all z (by rw[eA];simp);have hw:atD ((k::(xs++is.map aC)).map E) (-1)=U (E z):=by
      rw[eA,show(k::(A++[z])).map E=((k::A).map E)++[E z] by simp];exact rM _ _
     have hx:∃x:Str,atD [E "7",E "x",E z] j=U (E x)/\NB x/\x.length<=40:=by
      have:j=0\/j=1\/j=2:=by lia
      rcases this with rfl|rfl|rfl
      .exact⟨"7",rfl,by unfold NB;decide+kernel,by decide⟩
      .exact⟨"x",rfl,by unfold NB;decide+kernel,by decide⟩
      .exact⟨z,rfl,zw.1,by lia⟩
     obtain⟨x,hx,x1,x2⟩:=hx;have one:(Str.ofString " ").length=1:=rfl;exact⟨_,jX zz e1 hb sp (.inl ⟨q0,rfl,j,z,x,_,e2,hw,hx,dE (by rw[one];unfold a7;lia),dE (by rw[len_app,one];unfold a7;lia)⟩),vQ L ks ⟨x1,x2⟩⟩
    .have cd:cutD ((k::(xs++is.map aC)).map E) J (U (-1))=(k::A).map E:=by
      rw[G5,eA,show(k::(A++[z])).map E=((k::A).map E)++[E z] by simp,List.dropLast_concat]
     have Al:A.length+1=xs.length+is.length:=by have:=congrArg List.length eA;simp at this;lia
     have bad:=Ap L ks (ws:=A) ?B ?B (λe=>by
      subst e;rcases L.shp with h| ⟨z,_⟩| ⟨_,n,rfl,h⟩
      .revert h;simp[shT]
      .exact absurd z (by decide+kernel)
      .cases A with
       |nil=>
        simp only[kiT,Gae,Gbe,Gao,GaQ] at h;simp at Al;subst Al;simp at h
       |cons a A=>exact⟨A,by rw[(List.cons.inj (show n::is.map aC=a::(A++[z]) from eA)).1];rfl⟩) (λw hw=>by
      have:=all w (by rw[eA];simp[hw]);exact⟨this.1,by lia⟩)
     exact⟨_,jX zz e1 hb sp (.inr (.inl ⟨by lia,rfl,by rw[cd];exact rY (λw hw=>by have:=(all w (by rw[eA];simp at hw⊢;rcases hw with h|h<;>simp[h])).2;lia) (by simp;lia)⟩)),bad⟩
def Goes.at{ls:List D}(G:Goes d ls d2):∀j,j<ls.length->∃d1 d1' l,Goes d (ls.take j) d1/\ls[j]? =U (E l)/\Tk d1 l d1' /\Goes d1' (ls.drop (j+1)) d2/\Goes d (ls.take (j+1)) d1' :=by
 induction G with
 |nil d=>intro j hj;cases hj
 | @cons d d1 d2 l ls t G ih=>
  intro j hj;cases j with
  |zero=>exact⟨d,d1,l,.nil d,rfl,t,G,.cons t (.nil _)⟩
  |succ j=>
   obtain⟨a,b,l',g1,g2,g3,g4,g5⟩:=ih j ?H;exact⟨a,b,l',.cons t g1,g2,g3,g4,.cons t g5⟩
def Nt(e:dr h g s b o=dr h' g' s' b' o'):h=h' :=by
 injection e with _ _ e
 injection e with e
 injection e
def Cut(SL:List Str)(P:Nat):Prop:=∃h g s b o,Goes d0 ((SL.take P).map E) (dr h g s b o)/\(h="order"\/h="dose")
def Nu{SL:List Str}(G:Goes d0 (SL.map E) (dr h g s b o))(hh:h∈ends)(hj:SL[j]? =U l)(hs:Txt.split l " "=("order":Str)::ws):j+2<=SL.length/\Cut SL (j+1)/\Cut SL (j+2):=by
 have no:∀x∈ends,x≠"order"/\x≠"dose":=by decide+kernel
 obtain⟨a,a',l',g1,g2,g3,g4,g5⟩:=G.at j (by simpa using((Gac.mp hj).1));rw[Gam,hj] at g2;cases g2;obtain⟨_,_,h1,k1,_,_,_,_,g',s',b',o',w1,e1,e2,F1,W1,Vh,WW,m1⟩:=g3;rw[hs] at Vh;cases Vh;subst e2;rw[<-GbK] at g5;have c1:Cut SL _:=⟨_,_,_,_,_,g5,.inl rfl⟩
 have h2:j+1<SL.length:=by
  rcases Nat.lt_or_ge _ _ with q|q
  .exact q
  .rw[GcG ?H] at g4;cases g4;exact absurd rfl (no _ hh).1
 rw[show(SL.map _).drop _=E SL[j+1]::(SL.drop (j+2)).map _ by rw[<-Gdf,<-List.getElem_cons_drop h2];rfl] at g4;cases g4 with
 |cons t G' =>
  have g7:=g5.sn t;rw[show(SL.take _).map _++[E SL[j+1]]=(SL.take _).map _ by rw[show SL.take _=SL.take _++[SL[j+1]] from(List.take_append_getElem h2).symm,GaB];rfl] at g7;obtain⟨_,_,h0,k2,_,_,_,_,_,_,_,_,_,e3,e4,_,_,_,VY,m2⟩:=t;have e5:=Nt e3;subst e5;have dn:∀k∈hds,nxt "order" k=O->k="dose":=by decide+kernel
  subst e4;exact⟨h2,c1,_,_,_,_,_,g7,.inr (dn k2 m2 VY)⟩
def Spo(SL:List Str)(P:Nat)(R:List Str):Prop:=P<=SL.length/\((∃bad rest,iO bad/\R=SL.take P++bad::rest)\/R=SL.take P/\Cut SL P)
def G6{SL R:List Str}(G:Goes d0 (SL.map E) d2)(hn:SL.length<=1000)(S:Spo SL P R):gr [Y (R.map E)]=U (.exc 44 "place" (H P)):=by
 obtain⟨hP,⟨bad,rest,hb,rfl⟩| ⟨rfl,h,g,s,b,o,XH,hh⟩⟩:=S
 .obtain⟨d1,g1,w1⟩:=G.SD Qd P;rw[<-GbK] at g1;obtain⟨d',hd⟩:=hb d1 w1;have:=F9 g1 (by rw[show(SL.take P).map _++E bad::rest.map E=(SL.take P++bad::rest).map E by simp];exact aH _) hd;simp_all
 .have:=F8 XH (aH _) (by simp;lia) hh;simp_all
def spE(ns:List Int)(X:List D)(v P:Int)(AL:List D)(x5 x6:Os):DL.Env:=[U ?L,U (C (Y X)),U (Z (H v)),U (Z (H P)),U (C (Y AL)),x5,x6]
def iQ:DS:=ifS (orT (aw eqB (vE 2) (kI 0)) (aw eqB (vE 3) (bN 1))) (r9 1 (vE 3) (caE d8 [caE ae [vE 0,kI 3005,kI 72]])) (ifS (aw eqB (vE 2) (kI 1)) (nF 1 (vE 3) (caE fb [vE 0,Xm (vE 1) (vE 3)])) (ifS (aw gtB (vE 2) (kI 3)) (nF 1 (vE 3) (caE fN [vE 0,Xm (vE 1) (vE 3)])) (ifS (orT (aw eqB (vE 2) (kI 2)) (aw eqB (bN 4) (kI 0))) (ao (au 6 (Xm (vE 1) (vE 3))) (nF 1 (vE 3) (Xn af (unE upD (Xm (vE 6) (kI 0))) (tsE (vE 6) (aV (kI 1)) noO)))) (ao (au 3 (Xn af (Xn af (Xm (vE 4) (caE ae [vE 0,kI 3006,bN 4])) (kI 1)) (caE ae [vE 0,kI 3007,kI 2]))) (au 1 (slE (vE 1) noO (aV (vE 3))))))))
def rZ:DS:=ao (ifS (aw eqB (caE ae [vE 0,kI 3008,kI 2]) (kI 0)) (ao (au 5 (blE jm [bN 1,Xn af (Xn af (vE 3) (kI 1)) (caE ae [vE 0,kI 3009,kI 9])])) (r9 1 (vE 5) (caE d8 [caE ae [vE 0,kI 3010,kI 72]]))) aE) (vk (Xi (tpE [vE 1,vE 3])) (ql 1 (vE 3)))
def uB{ns:List Int}(im:aj X=O):vk (Xi (tpE [vE 1,vE 3])) (ql 1 (vE 3)) (spE ns X v P AL x5 x6)=U (.ret (Q [Y X,H P])):=by
 unfold spE;simp[vk,ql,im]
 try rfl
def Jd{ns:List Int}{X:List D}(im:aj X=O)(e1:ae [.scr ns,H 3008,H 2]=U (H a))(hl:cW [Y X]=U ⟨.c,H n⟩)(zz:X.length<a7)(e2:ae [.scr ns,H 3009,H 9]=U (H b))(hm:m=if P+1+b<n then P+1+b else n)(sm:bt m=O)(e3:ae [.scr ns,H 3010,H 72]=U (H c))(e4:d8 [H c]=U (E o))(W8:aj (fH X m (E o))=O):rZ (spE ns X v P AL x5 x6)=U (.ret (Q [Y (if a=0 then fH X m (E o) else X),H P])):=by
 by_cases q:a=0
 .subst q;have a1:af (H P) (H 1)=U ⟨.c,H _⟩:=rfl;have a2:af (H _) (H b)=U ⟨.c,H (P+1+b)⟩:=rfl;have mn:jm [H n,H (P+1+b)]=U ⟨.c,H m⟩:=by rw[AR,hm]
  refine(ai (e:=spE ns _ v P AL (U (Z (H m))) x6) ?_).trans (uB W8);unfold spE;have s1:ao (au 5 (blE jm [bN 1,Xn af (Xn af (vE 3) (kI 1)) (caE ae [vE 0,kI 3009,kI 9])])) (r9 1 (vE 5) (caE d8 [caE ae [vE 0,kI 3010,kI 72]])) [U ?L,U (C (Y X)),U (Z (H v)),U (Z (H P)),U (C (Y AL)),x5,x6]=U (.nx [U ?L,U (C (Y (fH X m (E o)))),U (Z (H v)),U (Z (H P)),U (C (Y AL)),U (Z (H m)),x6]):=by
   refine(ai (e:=[U ?L,U (C (Y X)),U (Z (H v)),U (Z (H P)),U (C (Y AL)),U (Z (H m)),x6]) (by simp[hl,e2,mn])).trans ?_;simp[e3,e4,zz,sm]
  unfold ifS
  rwa[show aw eqB _ _ [U _,U _,U _,U _,U _,x5,x6]=U O by simp[e1]]
 .rw[Gau q];refine(ai (e:=spE ns X v P AL x5 x6) ?_).trans (uB im);simp[spE,e1,q]
def SN{ns:List Int}{X:List D}(hl:cW [Y X]=U ⟨.c,H n⟩)(h:v=0\/P=n)(zz:X.length<a7)(sm:bt P=O)(e3:ae [.scr ns,H 3005,H 72]=U (H c))(e4:d8 [H c]=U (E o)):iQ (spE ns X v P AL J J)=U (.nx (spE ns (fH X P (E o)) v P AL J J)):=by
 unfold iQ spE;by_cases q:v=0
 .simp_all
 .simp_all
def Je{X:List D}{P:Int}(h0:0<=P)(h1:P<X.length):putD (Y X) (H P) d=U (Y (X.set P.toNat d)):=by
 show(if 0<=P/\P<_ then _ else _)=_;rw[Gaj ⟨h0,h1⟩]
def SO{ns:List Int}{X:List D}{P:Int}{r:Str}(hl:cW [Y X]=U ⟨.c,H n⟩)(hp:¬P=n)(hx:atD X P=U (E l))(hb:fb [.scr ns,E l]=U (E r))(pd:putD (Y X) (H P) (E r)=U (Y (X.set P.toNat (E r)))):iQ (spE ns X 1 P AL J J)=U (.nx (spE ns (X.set P.toNat (E r)) 1 P AL J J)):=by
 simp[iQ,spE,hl,hp,hx,hb,pd]
def SQ{ns:List Int}{X:List D}{P:Int}{r:Str}(hl:cW [Y X]=U ⟨.c,H n⟩)(hv:3<v)(hp:¬P=n)(hx:atD X P=U (E l))(hb:fN [.scr ns,E l]=U (E r))(pd:putD (Y X) (H P) (E r)=U (Y (X.set P.toNat (E r)))):iQ (spE ns X v P AL J J)=U (.nx (spE ns (X.set P.toNat (E r)) v P AL J J)):=by
 have v0:¬v=0:=by lia
 have v1:¬v=1:=by lia
 simp[iQ,spE,hl,hp,hx,hb,pd,hv,v0,v1]
def SR{ns:List Int}{X:List D}{P:Int}{l r:Str}(hl:cW [Y X]=U ⟨.c,H n⟩)(hm:cW [Y AL]=U ⟨.c,H m⟩)(hv:v=2\/v=3/\m=0)(hp:¬P=n)(hx:atD X P=U (E l))(hz:l.length<=a7)(hc:ixD (E l) (H 0)=U (E c))(hu:upD (E c)=U ⟨.c,E c'⟩)(ha:af (E c') (E (Txt.slice l (U 1) J))=U ⟨.c,E r⟩)(pd:putD (Y X) (H P) (E r)=U (Y (X.set P.toNat (E r)))):iQ (spE ns X v P AL J J)=U (.nx (spE ns (X.set P.toNat (E r)) v P AL J (U (Z (E l))))):=by
 have t1:tsE (vE 6) (aV (kI 1)) noO [U ?L,U (C (Y X)),U (Z (H v)),U (Z (H P)),U (C (Y AL)),J,U (Z (E l))]=U ⟨.c,E (Txt.slice l (U 1) J)⟩:=by simp[tsE,hz]
 unfold iQ spE;rcases hv with rfl| ⟨rfl,rfl⟩
 .simp[hl,hp,hx,hc,hu,t1,ha,pd]
 .simp[hl,hm,hp,hx,hc,hu,t1,ha,pd]
def SU{ns:List Int}(hl:cW [Y X]=U ⟨.c,H n⟩)(hm:cW [Y AL]=U ⟨.c,H m⟩)(m0:¬m=0)(hp:¬P=n)(e1:ae [.scr ns,H 3006,H m]=U (H a))(hx:atD AL a=U (H p))(e2:ae [.scr ns,H 3007,H 2]=U (H b)):iQ (spE ns X 3 P AL J J)=U (.nx (spE ns (cutD X J (U (p+1+b))) 3 (p+1+b) AL J J)):=by
 have a1:af (H p) (H 1)=U ⟨.c,H _⟩:=rfl;have a2:af (H _) (H b)=U ⟨.c,H (p+1+b)⟩:=rfl;simp[iQ,spE,hl,hm,m0,hp,e1,hx,e2]
abbrev spC:DE:=bu J 1 [1] (aS (bN 1)) (gN 0) (aw eqB (tsE (Xm (vE 1) (vE 0)) noO (aV (kI 6))) (kS "order ")) (vE 0)
def mR{ns:List Int}{p0:Int}(e1:ae [.scr ns,H 3003,H 6]=U (H v))(hl:cW [Y X]=U ⟨.c,H n⟩)(e2:ae [.scr ns,H 3004,H (n+1)]=U (H p0))(cE:spC [U ?L,U (C (Y X)),U (Z (H v)),U (Z (H p0)),J,J,J]=U ⟨.tn,Y AL⟩)(h1:iQ (spE ns X v p0 AL J J)=U (.nx e'))(h2:rZ e' =U (.ret R)):dH [.scr ns,Y X]=U R:=by
 refine bA rfl ?_;rw[show j8=ao _ (ao _ (ao _ (ao (au 4 spC) (ao iQ rZ)))) from rfl];rw[show dv 7 [D.scr ns,Y X]=[U _,U _,J,J,J,J,J] from rfl];have a1:af (H n) (H 1)=U ⟨.c,H _⟩:=rfl;exact(ai (e:=[U ?L,U (Z (Y X)),U (Z (H v)),J,J,J,J]) (by simp[e1])).trans ((ai (e:=[U ?L,U (C (Y X)),U (Z (H v)),J,J,J,J]) rfl).trans ((ai (e:=[U _,U _,U _,U _,J,J,J]) (by simp[hl,e2])).trans ((ai (vO cE)).trans ((ai h1).trans h2))))
def BU{xs:List α}(h:m<=xs.length):fH xs (m:Int) y=xs.take m++y::xs.drop m:=by
 unfold fH;rw[Gau ?B,Gbn,GbJ h]
def se{R:List Str}(h:m<=R.length):fH (R.map E) (m:Int) (E y)=(R.take m++y::R.drop m).map E:=by
 rw[BU ?H];simp
def G7{m:Nat}(h:m<=1000):bt (m:Int)=O:=by
 exact bU ?B ?B
def pk{SL R1:List Str}{ns:List Int}(S:Spo SL P R1)(hn:R1.length<=400)(hs:SL.length<=400):∃R,rZ (spE ns (R1.map E) v P AL x5 x6)=U (.ret (Q [Y (R.map E),H P]))/\Spo SL P R:=by
 have e1:=aI (ns:=ns) (k:=3008) (m:=2) ?E ?E ?E;generalize drw ns 3008 2=a at*;have d2:=aN ns 3009 9 ?E;have e2:=aI (ns:=ns) (k:=3009) (m:=9) ?E ?E ?E;generalize drw ns 3009 9=b at*;have d3:=aN ns 3010 72 ?E;obtain⟨o,e4,ob⟩:=JS d3.1 d3.2;have hP:=S.1;obtain⟨B,hB⟩:=Gbm d2.1;have hm:((if P+1+B<R1.length then P+1+B else R1.length))=if(P)+1+b<(R1.length) then(P)+1+b else(R1.length):=by
  subst hB;split<;>split<;>lia
 have ml:(if P+1+B<R1.length then P+1+B else R1.length)<=R1.length:=by split<;>lia
 have mg:∀rest bad,R1=SL.take P++bad::rest->P+1<=(if P+1+B<R1.length then P+1+B else R1.length):=λrest bad e=>by
  have:R1.length=P+(rest.length+1):=by rw[e,Gax,GaS,GbJ hP];rfl
  split<;>lia
 have mc:R1=SL.take P->(if P+1+B<R1.length then P+1+B else R1.length)=P:=λe=>by
  have:R1.length=P:=by rw[e,GaS,GbJ hP]
  split<;>lia
 generalize (if P+1+B<_ then P+1+B else _)=Xf at*;have t:=Jd (ns:=ns) (X:=R1.map E) (AL:=AL) (v:=v) (P:=P) (x5:=x5) (x6:=x6) (aH R1) e1 jW (by rw[Gav];unfold a7;lia) e2 hm (G7 ?B) (aI (ns:=ns) (k:=3010) (m:=72) ?E ?E ?E) e4 (by rw[se ml];exact aH _);by_cases q:a=0
 .rw[Gaj q,se ml] at t;refine⟨_,t,hP, ?_⟩;rcases S.2 with⟨bad,rest,hb,rfl⟩| ⟨e,XH⟩
  .refine .inl ⟨bad,rest.take (Xf -(P+1))++o::rest.drop (Xf -(P+1)),hb, ?_⟩;have tp:(SL.take P).length=P:=by rw[GaS,GbJ hP]
   rw[List.take_append,List.drop_append,tp,GbF ?B,GcG ?B];obtain⟨k,hk⟩:∃k,Xf -P=k+1:=⟨Xf -P -1,by lia⟩
   rw[hk,show Xf -(P+1)=k by lia];simp
  .rw[mc e,e];refine .inl ⟨o,[],ob, ?_⟩;rw[GbF (by simp;lia),GcG (by simp;lia)]
 .rw[Gau q] at t;exact⟨R1,t,S⟩
def SV(L:Ln l)(h:Txt.slice l J (U 6)="order "):∃ws,Txt.split l " "=("order":Str)::ws:=by
 obtain⟨k,xs,is,rfl,L⟩:=L;have le:=Gbf (Str.join " " (k::(xs++is.map aC))) J (U 6);rw[h] at le;have l6:(Str.ofString "order ").length=6:=by decide+kernel
 rw[l6] at le;have c:=Aq (x:=Str.join " " (k::(xs++is.map aC))) (j:=6) ?E ?B;rw[h] at c;have f:∀k∈hds,k.cps.toList.head? =U 111->k="order":=by decide+kernel
 obtain⟨p,_,r,e,_⟩:=G0 k L.hk;have ne:xs++is.map aC≠[]:=λz=>by
  have:(xs++is.map aC).length=0:=by rw[z];rfl
  have:=L.cnt;simp_all
 rw[show k::(xs++is.map aC)=[k]++(xs++is.map aC) from rfl,dT ?E ne,pf,bg,bg,e] at c;have o:(Str.ofString "order ").cps.toList=111::[114,100,101,114,32]:=by decide+kernel
 rw[o] at c;have p1:p.1=111:=by
  simp_all
 exact⟨_,by rw[(fP ?E (λw hw=>(L.wds w hw).1)),(f k L.hk ?H)]⟩
def QB{SL:List Str}(hL:∀l∈SL,Ln l)(hn:SL.length<=300)(G:Goes d0 (SL.map E) (dr h g s b o))(hh:h∈ends)(ns:List Int):∃R P,dH [.scr ns,Y (SL.map E)]=U (Q [Y (R.map E),H (P:Nat)])/\Spo SL P R:=by
 have d1:=aN ns 3003 6 ?E;have e1:=aI (ns:=ns) (k:=3003) (m:=6) ?E ?E (by decide);generalize drw ns 3003 6=v at*;have d2:=aN ns 3004 (SL.length+1) ?B;have e2:=aI (ns:=ns) (k:=3004) (m:=SL.length+1) (by decide) (by decide) ?B;generalize drw ns 3004 (SL.length+1)=p0 at*;obtain⟨P,rfl⟩:=Gbm d2.1;have hP:P<=SL.length:=by lia
 have lS:cW [Y (SL.map E)]=U ⟨.c,H SL.length⟩:=jW;have hc:cq (gN 0) (aw eqB (tsE (Xm (vE 1) (vE 0)) noO (aV (kI 6))) (kS "order ")) (vE 0) (aO 0 SL.length) [J,U (XM (Y (SL.map E)))]=U (((List.range SL.length).filter λj=>match SL[j]? with
   |some l=>decide (Txt.slice l J (U 6)="order ")
   |none=>M).map cZ):=by
  rw[jV];refine iN cZ (λe=>∃z,e=[z,U (XM (Y (SL.map E)))]) _ _ _ _ ⟨_,rfl⟩ ?_;rintro j hj e ⟨z,rfl⟩;have hj:=GaZ.mp hj;refine⟨_,rfl,⟨_,rfl⟩, ?_,λ_=> ⟨.c,rfl,rfl⟩⟩;have gj:SL[j]? =U SL[j]:=Gag hj;have h1:ixD (Y (SL.map E)) (cZ j)=U (E SL[j]):=by
   show atD (SL.map E) ((j:Nat):Int)=_;rw[DL.ie,Gam,gj]
   rfl
  obtain⟨k,xs,is,el,L⟩:=hL SL[j] (GaN hj);have ll:=L.len;rw[<-el] at ll;have hz:SL[j].length<=a7:=by unfold a7;lia
  show _=U (match SL[j]? with
   |some l=>decide (Txt.slice l J (U 6)="order ")
   |none=>M)
  rw[gj];show _=U (decide (Txt.slice SL[j] J (U 6)="order "));have q:eqB (E (Txt.slice SL[j] J (U 6))) (E "order ")=U (decide (Txt.slice SL[j] J (U 6)="order ")):=by
   rw[lj];congr 1
  have t:tsE (Xm (vE 1) (vE 0)) noO (aV (kI 6)) [U (Z (cZ j)),U (XM (Y (SL.map E)))]=U ⟨.c,E (Txt.slice SL[j] J (U 6))⟩:=by
   generalize SL.map E=X at*;generalize SL[j]=l at*;simp[tsE,h1,hz,-we]
  generalize decide (Txt.slice SL[j] J (U 6)="order ")=B at*;generalize Txt.slice SL[j] J (U 6)=s6 at*;show aw eqB (tsE (Xm (vE 1) (vE 0)) noO (aV (kI 6))) (kS "order ") [U (Z (cZ j)),U (XM (Y (SL.map E)))]=U B;unfold aw;rw[t];simp[q,-lj]
 generalize hA:(List.range SL.length).filter (λj=>match SL[j]? with
   |some l=>decide (Txt.slice l J (U 6)="order ")
   |none=>M)=A at*
 have mem:∀j∈A,∃l ws,SL[j]? =U l/\Txt.split l " "=("order":Str)::ws:=λj hj=>by
  rw[<-hA] at hj;have m:=GbX.mp hj;have xa:=GaZ.mp m.1;have gj:SL[j]? =U SL[j]:=Gag xa;have q:=m.2;rw[gj] at q;obtain⟨ws,e⟩:=SV (hL SL[j] (GaN xa)) (Gar q);exact⟨_,ws,gj,e⟩
 have hR:aS (bN 1) [U ?L,U (C (Y (SL.map E))),U (Z (H v)),U (Z (H (P:Nat))),J,J,J]=U (aO 0 SL.length):=by
  have:=qF (f:=bN 1) (env:=[U ?L,U (C (Y (SL.map E))),U (Z (H v)),U (Z (H (P:Nat))),J,J,J]) (k:= .c) (N:=SL.length) lS ?B ?B
  rwa[Gbn] at this
 have cE:spC [U ?L,U (C (Y (SL.map E))),U (Z (H v)),U (Z (H (P:Nat))),J,J,J]=U ⟨.tn,Y (A.map cZ)⟩:=by
  unfold spC bu;rw[show bM J [U ?L,U (C (Y (SL.map E))),U (Z (H v)),U (Z (H (P:Nat))),J,J,J]=[U ?L,U (C (Y (SL.map E))),U (Z (H v)),U (Z (H (P:Nat))),J,J,J] from rfl,hR,Option.bind_some,Gaj (by rw[jV];simp[a7];lia),show DL.Xk 1 [1] [U ?L,U (C (Y (SL.map E))),U (Z (H v)),U (Z (H (P:Nat))),J,J,J]=[J,U (XM (Y (SL.map E)))] from rfl,hc,Gcq]
 have lA:cW [Y (A.map cZ)]=U ⟨.c,H A.length⟩:=jW;have setR:∀y,(SL.map E).set ((P:Nat):Int).toNat (E y)=(SL.set P y).map E:=λy=>by rw[Gbn,List.map_set]
 have spR:∀y,P<SL.length->iO y->Spo SL P (SL.set P y):=λy xa hb=> ⟨hP,.inl ⟨y,SL.drop (P+1),hb,by rw[List.set_eq_take_append_cons_drop,Gaj xa]⟩⟩;by_cases q0:v=0\/((P:Nat):Int)=SL.length
 .have d3:=aN ns 3005 72 (by decide);have e3:=aI (ns:=ns) (k:=3005) (m:=72) (by decide) (by decide) (by decide);generalize drw ns 3005 72=c at*;obtain⟨od,e4,ob⟩:=JS d3.1 d3.2;have m1:=SN (ns:=ns) (AL:=A.map cZ) lS q0 (by rw[Gav];unfold a7;lia) (G7 (m:=P) ?B) e3 e4;rw[se hP] at m1;obtain⟨R,t,S⟩:=pk (SL:=SL) (R1:=SL.take P++od::SL.drop P) (P:=P) ⟨hP,.inl ⟨od,SL.drop P,ob,rfl⟩⟩ (by simp;lia) ?B (ns:=ns) (v:=v) (AL:=A.map cZ) (x5:=J) (x6:=J);exact⟨R,P,mR e1 lS e2 cE m1 t,S⟩
 .rw[GbS] at q0;have xa:P<SL.length:=by lia
  have hx:atD (SL.map E) ((P:Nat):Int)=U (E SL[P]):=by rw[DL.ie,Gam,(Gag xa)];rfl
  have L:=hL SL[P] (GaN xa);generalize SL[P]=l at*;have pd:=λy:Str=>Je (X:=SL.map E) (P:=(P:Nat)) (d:= E y) ?B (by rw[Gav];lia);have fin:∀y x6,iO y->iQ (spE ns (SL.map E) v (P:Nat) (A.map cZ) J J)=U (.nx (spE ns ((SL.map E).set ((P:Nat):Int).toNat (E y)) v (P:Nat) (A.map cZ) J x6))->∃R P,dH [.scr ns,Y (SL.map E)]=U (Q [Y (R.map E),H (P:Nat)])/\Spo SL P R:=λy x6 hb m=>by
   rw[setR] at m;obtain⟨R,t,S⟩:=pk (spR y xa hb) (by simp;lia) ?B (ns:=ns) (v:=v) (AL:=A.map cZ) (x5:=J) (x6:=x6);exact⟨R,P,mR e1 lS e2 cE m t,S⟩
  by_cases q1:v=1
  .subst q1;obtain⟨r,hr,hb⟩:=J8 L ns;exact fin r J hb (SO lS q0.2 hx hr (pd r))
  .by_cases q3:3<v
   .obtain⟨r,hr,hb⟩:=Nr L ns;exact fin r J hb (SQ lS q3 q0.2 hx hr (pd r))
   .by_cases q4:v=2\/v=3/\(A.length:Int)=0
    .obtain⟨c,c',h1,h2,h3,h4,hb⟩:=J9 L;have sl:=Gbf l (U 1) J;exact fin _ _ hb (SR lS lA q4 q0.2 hx (by unfold a7;lia) h1 h2 (dE (by unfold a7;lia)) (pd _))
    .rw[GbS] at q4;have v3:v=3:=by lia
     subst v3;have pA:0<(A.length:Int):=by lia
     have d3:=aN ns 3006 A.length pA;have e3:=aI (ns:=ns) (k:=3006) (m:=A.length) (by decide) (by decide) pA;generalize drw ns 3006 A.length=a at*;have hal:a.toNat<A.length:=by lia
     have yz:atD (A.map cZ) a=U (cZ A[a.toNat]):=by
      unfold atD;rw[Gaj d3.1,Gam,Gag hal]
      rfl
     obtain⟨l2,ws,g2,VS⟩:=mem A[a.toNat] (GaN hal);generalize A[a.toNat]=j at*;obtain⟨c1,c2,c3⟩:=Nu G hh g2 VS;have d4:=aN ns 3007 2 (by decide);have e4:=aI (ns:=ns) (k:=3007) (m:=2) (by decide) (by decide) (by decide);generalize drw ns 3007 2=b2 at*;obtain⟨XG,hQ,WM⟩:∃XG:Nat,((j:Nat):Int)+1+b2=(XG:Int)/\(XG=j+1\/XG=j+2):=⟨j+1+b2.toNat,by lia,by lia⟩
     have XH:XG<=SL.length/\Cut SL XG:=by rcases WM with rfl|rfl<;>exact⟨by lia,by assumption⟩
     have m5:=SU (ns:=ns) (X:=SL.map E) (AL:=A.map cZ) (P:=(P:Nat)) lS lA (λz=>q4.2 ⟨rfl,z⟩) q0.2 e3 yz e4;rw[hQ,G4 (by simpa using XH.1),<-GbK] at m5;obtain⟨R,t,S⟩:=pk (SL:=SL) (R1:=SL.take XG) (P:=XG) ⟨XH.1,.inr ⟨rfl,XH.2⟩⟩ (by simp;lia) ?B (ns:=ns) (v:=3) (AL:=A.map cZ) (x5:=J) (x6:=J);exact⟨R,XG,mR e1 lS e2 cE m5 t,S⟩
def cF(im:aj X=O)(hr:gr [Y X]=U (.exc 44 "place" (H P))):g6 [Y X]=U (.ok (H P)):=by
 unfold g6 u0;rw[Gaj ⟨rfl,by simp[DL.argsOk,im]⟩,show cO [] 3 [Y X]=[U (XM _),J,J] from rfl];unfold jD;rw[dS (e' :=[U (XM (Y X)),U (Z XN),J]) rfl];rw[dS (e' :=[U (XM (Y X)),U (Z (.exc 44 "place" (H P))),J]) (by simp[HS,oG,im,hr])]
 iterate 4 rw[dS (e' :=[U (XM (Y X)),U (Z (.exc 44 "place" (H P))),J]) rfl]
 simp[Pk,DQ]
def same_int(i:Int):ib [H i,H i]=U (I O):=Ai 6 (H i) (by trivial)
def lL(h:∀d∈ls,∃l,d= E l/\Ln l):∃SL:List Str,ls=SL.map E/\∀l∈SL,Ln l:=by
 induction ls with
 |nil=>exact⟨[],rfl,λ_ h=>nomatch h⟩
 |cons d ls ih=>
  obtain⟨SL,e,hS⟩:=ih λd hd=>h d (by simp[hd]);obtain⟨l,rfl,hl⟩:=h d ?E;exact⟨l::SL,by rw[e];rfl,λx hx=>by
   rcases Gae.mp hx with rfl|hx
   .exact hl
   .exact hS x hx⟩
def Nv{ns:List Int}{W:D}(e1:dC [.scr ns]=U W)(r1:jk W=⟨.c,W⟩)(e2:fZ [W]=U (Y X))(e3:dH [.scr ns,Y X]=U (Q [Y R,H P]))(iR:aj R=O)(iX:aj X=O)(e4:g6 [Y R]=U (.ok (H P)))(e5:gr [Y X]=U (.ok W))(iW:W.imm=O)(e6:ib [W,W]=U (I O)):nu [.scr ns]=U (I O):=by
 refine bA rfl ?_;rw[show dv 4 [D.scr ns]=[U _,J,J,J] from rfl];refine(ai (e:=[U ?L,U (Z W),J,J]) ?H).trans ((ai (e:=[U ?L,U (Z W),U (C (Y X)),J]) (by simp[e2])).trans ((ai (e:=[U ?L,U (Z W),U (C (Y X)),U (Z (Q [Y R,H P]))]) (by simp[e3])).trans ((ai (e:=[U ?L,U (Z W),U (C (Y X)),U (Z (Q [Y R,H P]))]) (by simp[rdE,e4,iR,(same_int P)])).trans ?_)));simp[rdE,e5,iX,iW,e6]
def Nw{ns:List Int}(h:dC [.scr ns]=U (rR w))(K:WOk w):nu [.scr ns]=U (I O):=by
 obtain⟨SL,e,hS⟩:=lL (Nk K);obtain⟨hd,hh,G⟩:=Ql K;have ln:=Ag K;have r:=MW K;have li:=FC K;rw[e] at G ln r li;obtain⟨R,P,sp,S⟩:=QB hS (by simpa using GaH ln ?E) G hh ns;exact Nv h rfl li sp (aH _) (aH _) (cF (aH _) (G6 G (by rw[Gav] at ln;lia) S)) r (IQ w) (Ai 6 _ (N7 K))
def G8:∀ns,ns.length<=63->nu [.scr ns]=U (I O):=λns _=>by
 obtain⟨w,h,K⟩:=J5 ns;exact Nw h K
end
end Maths
namespace Der
open PySem PySem.Spec PyProof.Rows L2 DL
section
variable{Pm:XC}{mg:Str->Option Xq}
def Txt(Pm:XC)(mg:Str->Option Xq):Prop:=∃h:Xs,(Hd.K Pm).In h/\h.Ns mainGlobals mg
def Txt.at(T:Txt Pm mg)(e:PySem.W.nsIn (Hd.K Pm) mainGlobals n=U (U v):=by kernel_rfl):mg n=U v:=let⟨_,X,G⟩:=T;PySem.W.mg_of X G e
def Txt.no(T:Txt Pm mg)(e:PySem.W.nsIn (Hd.K Pm) mainGlobals n=U J:=by kernel_rfl):mg n=J:=let⟨_,X,G⟩:=T;PySem.W.mg_none_of X G e
variable{st:Xu}
def mkI{f:Xo}(l:(Hd.K Pm).lookup f=U (Hd.fo (PySem.W.fnOf x q (ic st) (bY st) (av st) .none .none .none pm J cd .none)):=by kernel_rfl)(c:PySem.W.codeIn (Hd.K Pm) cd q=O:=by kernel_rfl)(k:PySem.W.keepIn (Hd.K Pm) (.ref f)=O:=by kernel_rfl):Fun (Hd.K Pm) x q st f (PySem.W.fnOf x q (ic st) (bY st) (av st) .none .none .none pm J cd .none):=KA l c k
def jL{us:List Xq}(h:us.length=n+1):∃a t,us=a::t/\t.length=n:=by
 cases us with
 |nil=>cases h
 |cons a t=>exact⟨a,t,rfl,Nat.succ.inj h⟩
def all1{fd:XA}{ps:List Str}(h:∀a,bindArgs fd ⟨[a],[]⟩=pure (ps.zip [a]):=by intros;kernel_rfl)(l:ps.length=1:=by kernel_rfl)(K:PySem.W.Frag):Binds K fd ps []:= .all λus hl=>by
 obtain⟨a,t,rfl,h1⟩:=jL (hl.trans l);cases GbW.mp h1;exact h a
def all2{fd:XA}{ps:List Str}(h:∀a b,bindArgs fd ⟨[a,b],[]⟩=pure (ps.zip [a,b]):=by intros;kernel_rfl)(l:ps.length=2:=by kernel_rfl)(K:PySem.W.Frag):Binds K fd ps []:= .all λus hl=>by
 obtain⟨a,t,rfl,h1⟩:=jL (hl.trans l);obtain⟨b,t,rfl,h2⟩:=jL h1;cases GbW.mp h2;exact h a b
def uC{fd:XA}{ps:List Str}(h:∀a b c,bindArgs fd ⟨[a,b,c],[]⟩=pure (ps.zip [a,b,c]):=by intros;kernel_rfl)(l:ps.length=3:=by kernel_rfl)(K:PySem.W.Frag):Binds K fd ps []:= .all λus hl=>by
 obtain⟨a,t,rfl,h1⟩:=jL (hl.trans l);obtain⟨b,t,rfl,h2⟩:=jL h1;obtain⟨c,t,rfl,h3⟩:=jL h2;cases GbW.mp h3;exact h a b c
def SW{fd:XA}{ps:List Str}(h:∀a b c d e,bindArgs fd ⟨[a,b,c,d,e],[]⟩=pure (ps.zip [a,b,c,d,e]):=by intros;kernel_rfl)(l:ps.length=5:=by kernel_rfl)(K:PySem.W.Frag):Binds K fd ps []:= .all λus hl=>by
 obtain⟨a,t,rfl,h1⟩:=jL (hl.trans l);obtain⟨b,t,rfl,h2⟩:=jL h1;obtain⟨c,t,rfl,h3⟩:=jL h2;obtain⟨d,t,rfl,h4⟩:=jL h3;obtain⟨e,t,rfl,h5⟩:=jL h4;cases GbW.mp h5;exact h a b c d e
theorem sg:∀(ks:List DL.Key) (t:Nat),Xh (ks.map kV) ((ks.zipIdx t).map Hd.kv)
 |[],_=> .nil
 | .inl _::ks,t=> .cons ⟨_,rfl⟩ (sg ks (t+1))
 | .inr _::ks,t=> .cons ⟨_,rfl⟩ (sg ks (t+1))
def kt{a:Xo}{ks:List DL.Key}(t:Nat)(h:(Hd.K Pm).lookup a=U (Hd.tt t ks):=by kernel_rfl)(l:autoParam (ks.length<=sizeLine) Za2._auto_1):Kt (Hd.K Pm) a ks:=⟨_,_,_,h,rfl,rfl,by simpa using l,sg ks t⟩
def XB:XBs (Hd.K Pm) 24:=⟨by kernel_rfl,by kernel_rfl,by kernel_rfl⟩
def ma:XCl (Hd.K Pm) 24 44 41 "place":=LY (by kernel_rfl:(Hd.K Pm).lookup 44=U Hd.Co) (by kernel_rfl) (by kernel_rfl) (by kernel_rfl) (by kernel_rfl:(Hd.K Pm).lookup 41=U (Hd.fo Hd.mr)) rfl (by kernel_rfl) (by kernel_rfl) (by kernel_rfl) (by kernel_rfl) (by kernel_rfl)
def BV:Binds (Hd.K Pm) Hd.mr ["self","place"] []:=all2 (K:=_)
def uD(T:Txt Pm mg):cp P w (Hd.K Pm) mg base CX0 1 41 Hd.mr ["self","place"] (lM (Hd.K Pm) 24 44 "place"):=Ib (sd:=Hd.inn 2 0) mkI Dp XB ma rfl T.at rfl rfl rfl (by decide) (by decide) (by decide) (λenv=> ⟨_,rfl⟩) (λ_=>rfl) (λ_=>rfl)
def QC:L2.Cls (Hd.K Pm) 214:=⟨by kernel_rfl,by kernel_rfl,by kernel_rfl,by kernel_rfl⟩
def SX:Mk (Hd.K Pm) 214 211:=⟨by kernel_rfl,by kernel_rfl,by kernel_rfl,by kernel_rfl⟩
noncomputable abbrev fs:List Str:=["head","guests","stuffs","bars","orders"]
def SY:∀n∈fs,cC (Hd.K Pm) 214 n:=by
 simp only[List.forall_mem_cons];exact⟨by unfold cC;kernel_rfl,by unfold cC;kernel_rfl,by unfold cC;kernel_rfl,by unfold cC;kernel_rfl,by unfold cC;kernel_rfl,λ_ h=>nomatch h⟩
noncomputable abbrev pq:List (Str×Nat×Xq):=[("",418,.ref 181),("guest",423,.ref 182),("stuff",428,.ref 183),("cap",434,.ref 184),("young",440,.ref 185),("bar",444,.ref 186),("order",447,.ref 187),("dose",449,.ref 188),("asked",452,.ref 189),("due",454,.ref 190),("taper",457,.ref 191)]
def BW{w:Xv}:KDk P w (Hd.K w.params) 180 Den.fC:=EK (o:={cls:= .type "dict",data:= .dict (pq.map (Iz w.params)).toArray 11}) rfl (by kernel_rfl) ⟨rfl,rfl,rfl⟩ rfl (ub pq) (rJ pq) (by decide) (.cons ⟨rfl,181,rfl,kt 419⟩ (.cons ⟨rfl,182,rfl,kt 424⟩ (.cons ⟨rfl,183,rfl,kt 429⟩ (.cons ⟨rfl,184,rfl,kt 435⟩ (.cons ⟨rfl,185,rfl,kt 441⟩ (.cons ⟨rfl,186,rfl,kt 445⟩ (.cons ⟨rfl,187,rfl,kt 448⟩ (.cons ⟨rfl,188,rfl,kt 450⟩ (.cons ⟨rfl,189,rfl,kt 453⟩ (.cons ⟨rfl,190,rfl,kt 455⟩ (.cons ⟨rfl,191,rfl,kt 458⟩ .nil)))))))))))
noncomputable abbrev kT:List (Str×Nat×Xq):=[("flat",475,.ref 194),("kilo",478,.ref 195),("ever",482,.ref 196)]
def uE{w:Xv}:KDk P w (Hd.K w.params) 193 Den.bH:=EK (o:={cls:= .type "dict",data:= .dict (kT.map (Iz w.params)).toArray 3}) rfl (by kernel_rfl) ⟨rfl,rfl,rfl⟩ rfl (ub kT) (rJ kT) (by decide) (.cons ⟨rfl,194,rfl,kt 476⟩ (.cons ⟨rfl,195,rfl,kt 479⟩ (.cons ⟨rfl,196,rfl,kt 483⟩ .nil)))
def csT:Str->Option D:=upS "LETTERS" (.str "abcdefghijklmnopqrstuvwxyz") (upS "FIGURES" (.str "0123456789") (upS "LONGEST_NAME" (.int 8) (upS "GREATEST" (.int 1000000000) (upS "MOST_FIGURES" (.int 10) (upS "MOST_GUESTS" (.int 6) (upS "MOST_STUFFS" (.int 6) (upS "MOST_BARS" (.int 12) (upS "MOST_ORDERS" (.int 12) (upS "MOST_SIZES" (.int 8) (upS "MOST_CAPS" (.int 4) (upS "MOST_TAPERS" (.int 6) (upS "MOST_DUES" (.int 60) (upS "MOST_DEN" (.int 1000) (upS "MOST_PARTS" (.int 2000) (upS "UNENDED" (.kt [.inr "order",.inr "dose"]) (upS "WAYS" (.kt [.inr "down",.inr "up",.inr "near"]) (λ_=>J)))))))))))))))))
def dsT:Str->Option (List (DL.Key×List DL.Key)):=upS "CAP_LOWS" Den.bH (upS "BEHIND" Den.fC (λ_=>J))
def rzT:Str->Option (Nat×Str):=upS "NoText" (44,("place":Str)) (λ_=>J)
def xiT:Str->Option (List (Nat×Bool)):=upS "Unsafe" [(44,M)] (upS "Twice" [(44,M)] (upS "Torn" [(44,M)] (upS "NoPieces" [(44,M)] (upS "NoLine" [(44,M)] (upS "NoEntry" [(44,M)] (upS "ValueError" [(44,O)] (upS "HouseError" [(44,O)] (λ_=>J))))))))
def fxT:Str->Option Nat:=upS "place" 44 λ_=>J
def XI:XIs (Hd.K Pm) 44:=LZ ma (by kernel_rfl) (by kernel_rfl) (by kernel_rfl)
def is1(h:PySem.W.kitOne (Hd.K Pm) (.ref 44) u=U b:=by kernel_rfl):∀q∈[((44:Nat),b)],XIs (Hd.K Pm) q.1/\PySem.W.kitOne (Hd.K Pm) (.ref q.1) u=U q.2:=λq z=>by rw[Gbb.mp z];exact⟨XI,h⟩
noncomputable abbrev bls:List Str:=["all","len","int","enumerate","zip","tuple","isinstance","list","bool","str","max","min","range","sum","set"]
def T0:Tbl:=⟨λ_=>J,λ_=>J,λ_=>J,λ_=>J,rzT,bls,csT,dsT,214,fs,M,xiT,fxT⟩
variable{P:Xz}{w:Xv}{base:Xs}
def QD(T:Txt w.params mg):∀x d,csT x=U d->CsM (Hd.K w.params) mg x d:=br ⟨385,T.at⟩ (br ⟨387,T.at⟩ (br ⟨389,T.at⟩ (br ⟨391,T.at⟩ (br ⟨393,T.at⟩ (br ⟨492,T.at⟩ (br ⟨494,T.at⟩ (br ⟨496,T.at⟩ (br ⟨498,T.at⟩ (br ⟨500,T.at⟩ (br ⟨502,T.at⟩ (br ⟨504,T.at⟩ (br ⟨506,T.at⟩ (br ⟨508,T.at⟩ (br ⟨510,T.at⟩ (br ⟨192,T.at,kt 472⟩ (br ⟨197,T.at,kt 488⟩ (λ_ _ h=>nomatch h)))))))))))))))))
def QE(T:Txt w.params mg):∀x t,dsT x=U t->∃a,mg x=U (Value.ref a)/\KDk P w (Hd.K w.params) a t:=br ⟨193,T.at,uE⟩ (br ⟨180,T.at,BW⟩ (λ_ _ h=>nomatch h))
def QF(T:Txt w.params mg):∀x q,rzT x=U q->(∃B fI j fd ps,XCl (Hd.K w.params) B q.1 fI q.2/\cp P w (Hd.K w.params) mg base CX0 j fI fd ps (lM (Hd.K w.params) B q.1 q.2)/\j+1<=2/\Binds (Hd.K w.params) fd ps [])/\mg x=U (.ref q.1)/\PySem.W.exmOne (Hd.K w.params) (.ref q.1) (.ref q.1)=U O:=br ⟨⟨_,_,1,_,_,ma,uD T,by decide,BV⟩,T.at,by kernel_rfl⟩ (λ_ _ h=>nomatch h)
def QG(T:Txt w.params mg):∀x cs,xiT x=U cs->(λx (cs:List (Nat×Bool))=>∃c u,DY c u/\(∀q∈cs,XIs (Hd.K w.params) q.1/\PySem.W.kitOne (Hd.K w.params) (.ref q.1) u=U q.2)/\(mg x=U u\/mg x=J/\bootBuiltins x=U u)) x cs:=br ⟨.ref 120,.ref 120,.inl ⟨_,rfl,rfl⟩,is1,.inl T.at⟩ (br ⟨.ref 82,.ref 82,.inl ⟨_,rfl,rfl⟩,is1,.inl T.at⟩ (br ⟨.ref 139,.ref 139,.inl ⟨_,rfl,rfl⟩,is1,.inl T.at⟩ (br ⟨.ref 63,.ref 63,.inl ⟨_,rfl,rfl⟩,is1,.inl T.at⟩ (br ⟨.ref 158,.ref 158,.inl ⟨_,rfl,rfl⟩,is1,.inl T.at⟩ (br ⟨.ref 101,.ref 101,.inl ⟨_,rfl,rfl⟩,is1,.inl T.at⟩ (br ⟨.ty "ValueError",.type "ValueError",.inr ⟨_,rfl,rfl⟩,is1,.inr ⟨T.no,by decide+kernel⟩⟩ (br ⟨.ref 24,.ref 24,.inl ⟨_,rfl,rfl⟩,is1,.inl T.at⟩ (λ_ _ h=>nomatch h))))))))
def QH:∀n C,fxT n=U C->∃B fI,XCl (Hd.K w.params) B C fI n:=br ⟨_,_,ma⟩ λ_ _ h=>nomatch h
def noB(T:Txt Pm mg):∀x∈bls,mg x=J:=by
 simp only[List.forall_mem_cons];exact⟨T.no,T.no,T.no,T.no,T.no,T.no,T.no,T.no,T.no,T.no,T.no,T.no,T.no,T.no,T.no,λ_ h=>nomatch h⟩
theorem t00(T:Txt w.params mg):cX P w (Hd.K w.params) mg base 2 T0 where
 fn:=λ_ _ _ h=>nomatch h
 fw:=λ_ _ _ _ h=>nomatch h
 rd:=λ_ _ _ h=>nomatch h
 mo:=λ_ _ _ h=>nomatch h
 rz:=λx C n h=>QF T x (C,n) h
 bl:=noB T
 cs:=QD T
 ds:=QE T
 cl:=λ_=>QC
 na:=SY
 xi:=QG T
 fx:=QH
def Nx(st:Xu):List Str:=((av st).names.filter λy=>match y.2 with| .local| .cell=>O|_=>M).map (·.1)
def Ny(N:List Str)(st:Xu)(np:Nat):Bool:=(match(av st).kind with| .function=>O|_=>M)&&(!(av st).isCoroutine&&(!(av st).isGenerator&&(decide N.Nodup&&(decide ((N.take np).length=np)&&((N.take np).all (λx=>match(av st).names.lookup x with|some .local|some .cell=>O|_=>M)&&(av st).names.all λy=>match y.2 with| .free=>M|_=>O)))))
variable{N:List Str}
def QI(h:Ny N st np=O):dh N (N.take np) (av st)/\(N.take np).length=np:=by
 simp only[Ny,Gai] at h;obtain⟨h1,h2,h3,h4,h5,h6,h7⟩:=h;have h5:=Gar h5;refine⟨⟨?_,by simpa using h2,by simpa using h3,Gar h4,by rw[h5],λx hx=> ?_,λy hy=> ?_⟩,h5⟩
 .cases e:(av st).kind<;>rw[e] at h1<;>first|rfl|cases h1
 .have:=Gan.mp h6 x hx;split at this<;>simp_all
 .have:=Gan.mp h7 y hy;intro e;rw[e] at this;cases this
def _root_.DL.Tbl.f(T:Tbl)(x:Str)(n:Nat)(s:SpF):Tbl:={T with fn:=upS x (n,s) T.fn}
def _root_.DL.Tbl.g(T:Tbl)(x:Str)(n:Nat)(s:SpX):Tbl:={T with fw:=upS x (n,[0],s) T.fw}
def _root_.DL.Tbl.r(T:Tbl)(x:Str)(n:Nat)(s:List D->Option RX):Tbl:={T with rd:=upS x (n,s) T.rd}
abbrev Ok(n:Nat)(T:Tbl):Prop:=∀(P:Xz) (w:Xv) (mg:Str->Option Xq) (base:Xs),Txt w.params mg->cX P w (Hd.K w.params) mg base n T
abbrev St(N:List Str)(x:Str)(i fa np:Nat)(q:Str×Nat):Prop:=∀Pm:XC,((Hd.K Pm).lookup fa,PySem.W.nsIn (Hd.K Pm) mainGlobals x,Ny N (Hd.top i) np&&PySem.W.codeIn (Hd.K Pm) (.ref (fa -1)) x&&PySem.W.keepIn (Hd.K Pm) (.ref fa))=(U (Hd.fo (Hd.fd x i q.1 q.2 (fa -1))),U (U (.ref fa)),O)
abbrev Bi(N:List Str)(x:Str)(i fa np:Nat)(q:Str×Nat):Prop:=∀K:PySem.W.Frag,Binds K (Hd.fd x i q.1 q.2 (fa -1)) (N.take np) []
def G9(h:St N x i fa np q)(T:Txt Pm mg):Fun (Hd.K Pm) x x (Hd.top i) fa (Hd.fd x i q.1 q.2 (fa -1))/\(dh N (N.take np) (av (Hd.top i))/\(N.take np).length=np)/\mg x=U (.ref fa)/\PySem.W.keepIn (Hd.K Pm) (.ref fa)=O:=by
 have h:=h Pm;simp only[Gbe,Gai] at h;obtain⟨h1,h2,⟨h3,h4⟩,h5⟩:=h;exact⟨mkI h1 h4 h5,QI h3,T.at h2,h5⟩
def gF{T:Tbl}(h:Ok n T)(i fa:Nat)(q:Str×Nat)(b:DS)(N:List Str:=Nx (Hd.top i))(bi:Bi N x i fa np q)(st:St N x i fa np q:=by intro;kernel_rfl)
  (r:((EC 60 (T.gm N (Hd.top i))).B (bY (Hd.top i)),s)=(U b,cN N.length np b):=by kernel_rfl):Ok (n+1) (T.f x np s):=λ_ _ _ _ t=>by
 obtain⟨F,S,m,k⟩:=G9 st t;obtain⟨r,e⟩:=Prod.mk.inj r;rw[e];exact(h _ _ _ _ t).MI (rH (h _ _ _ _ t) F S.1 S.2 r) m k (bi _)
def gW{T:Tbl}(h:Ok n T)(i fa:Nat)(q:Str×Nat)(b:DW)(N:List Str:=Nx (Hd.top i))(bi:Bi N x i fa np q)(st:St N x i fa np q:=by intro;kernel_rfl)
  (r:((ua 60 (T.gm N (Hd.top i)) 60 ⟨T.fw,T.rd,T.mo,T.rz,["words","rest"],[],0⟩).B (bY (Hd.top i)),s)=(U b,gZ N.length np [0] b):=by kernel_rfl)(l:autoParam (∀j∈[0],j<np) Za2._auto_1):Ok (n+1) (T.g x np s):=λ_ _ _ _ t=>by
 obtain⟨F,S,m,k⟩:=G9 st t;obtain⟨r,e⟩:=Prod.mk.inj r;rw[e];exact(h _ _ _ _ t).addW (A1 (h _ _ _ _ t) F S.1 S.2 l r) m k (bi _)
def gR{T:Tbl}(h:Ok n T)(mv:List Nat)(i fa:Nat)(q:Str×Nat)(b:DW)(N:List Str:=Nx (Hd.top i))(bi:Bi N x i fa np q)(st:St N x i fa np q:=by intro;kernel_rfl)
  (r:((ua 60 (T.gm N (Hd.top i)) 60 ⟨T.fw,T.rd,T.mo,T.rz,[],mv,2⟩).B (bY (Hd.top i)),s)=(U b,u0 N.length np b):=by kernel_rfl):Ok (n+1) (T.r x np s):=λ_ _ _ _ t=>by
 obtain⟨F,S,m,k⟩:=G9 st t;obtain⟨r,e⟩:=Prod.mk.inj r;rw[e];exact(h _ _ _ _ t).RY (Iy (h _ _ _ _ t) F S.1 S.2 r) m k (bi _)
def t0:Ok 2 T0:=λ_ _ _ _ T=>t00 T
def T1:Tbl:=T0.f "is_made_of" 2 Den.gA
def t1:Ok 3 T1:=gF t0 15 165 Hd.q1 Den.iU (bi:=all2)
def T2:Tbl:=T1.f "is_name" 1 Den.bT
def t2:Ok 4 T2:=gF t1 16 172 Hd.q1 Den.jP (bi:=all1)
def T3:Tbl:=T2.f "number_of" 1 Den.bL
def t3:Ok 5 T3:=gF t2 17 179 Hd.q1 Den.jy (bi:=all1)
def T4:Tbl:={T3 with mo:=upS "Draft" (214,Den.A3) T3.mo}
def t4:Ok 7 T4:=λ_ _ _ _ T=>(t3 _ _ _ _ T).RZ SX (A1 (N:=["self"]) (ps:=["self"]) (nm:=[]) (t3 _ _ _ _ T) (sd:=(Hd.inn 33 0)) (fd:=Hd.sA) (fa:=211) mkI Dp rfl (by decide) (show _=U Den.A2 by kernel_rfl)) T.at (all1 (K:=_))
def T5:Tbl:=T4.f "place_of" 2 Den.cF
def t5:Ok 8 T5:=gF t4 34 225 Hd.q0 Den.kL (bi:=all2)
def T6:Tbl:=T5.f "has_new_name" 2 Den.b9
def t6:Ok 9 T6:=gF t5 35 232 Hd.q0 Den.dw (bi:=all2)
def T7:Tbl:=T6.f "numbers_of" 2 Den.ax
def t7:Ok 10 T7:=gF t6 36 239 Hd.q0 Den.gB (bi:=all2)
def T8:Tbl:=T7.f "with_part" 3 Den.aW
def t8:Ok 11 T8:=gF t7 37 246 Hd.q0 Den.dA (bi:=uC)
def T9:Tbl:=T8.g "take_guest" 2 Den.cQ
def t9:Ok 12 T9:=gW t8 38 253 Hd.q0 Den.gC (bi:=all2)
def T10:Tbl:=T9.f "sizes_fit" 1 Den.fX
def t10:Ok 13 T10:=gF t9 39 258 Hd.q0 Den.ni (bi:=all1)
def T11:Tbl:=T10.g "take_stuff" 2 Den.cR
def t11:Ok 14 T11:=gW t10 40 263 Hd.q0 Den.gD (bi:=all2)
def T12:Tbl:=T11.g "take_cap" 2 Den.dZ
def t12:Ok 15 T12:=gW t11 41 270 Hd.q0 Den.iV (bi:=all2)
def T13:Tbl:=T12.g "take_young" 2 Den.cS
def t13:Ok 16 T13:=gW t12 42 277 Hd.q0 Den.gE (bi:=all2)
def T14:Tbl:=T13.g "take_bar" 2 Den.f6
def t14:Ok 17 T14:=gW t13 43 282 Hd.q0 Den.iY (bi:=all2)
def T15:Tbl:=T14.g "take_order" 2 Den.cT
def t15:Ok 18 T15:=gW t14 44 289 Hd.q0 Den.gG (bi:=all2)
def T16:Tbl:=T15.g "take_dose" 2 Den.dB
def t16:Ok 19 T16:=gW t15 45 296 Hd.q0 Den.iu (bi:=all2)
def T17:Tbl:=T16.g "take_asked" 2 Den.cU
def t17:Ok 20 T17:=gW t16 46 303 Hd.q0 Den.gH (bi:=all2)
def T18:Tbl:=T17.g "take_due" 2 Den.f7
def t18:Ok 21 T18:=gW t17 47 310 Hd.q0 Den.iZ (bi:=all2)
def T19:Tbl:=T18.g "take_taper" 2 Den.cV
def t19:Ok 22 T19:=gW t18 48 317 Hd.q0 Den.gI (bi:=all2)
def T20:Tbl:=T19.g "take_of_order" 3 Den.dW
def t20:Ok 23 T20:=gW t19 49 324 Hd.q0 Den.gq (bi:=uC)
def T21:Tbl:=T20.g "take" 2 Den.fE
def t21:Ok 24 T21:=gW t20 50 331 Hd.q0 Den.rL (bi:=all2)
def T22:Tbl:=T21.r "read" 1 Den.gr
def t22:Ok 25 T22:=gR t21 [1] 51 338 Hd.q0 Den.EM (bi:=all1)
def T23:Tbl:=T22.f "_law_draw" 3 Den.ae
def t23:Ok 26 T23:=gF t22 53 345 Hd.q2 Den.kM (bi:=uC)
theorem Ar(T:Txt w.params mg):∀n,cp P w (Hd.K w.params) mg base CX0 (26+n+1) 350 Hd.kr ["_law_found","_law_due"] (spD (Hd.K w.params) 2 (Den.f9 n))
 |0=>(rH (N:=["_law_found","_law_due"]) ((t23 _ _ _ _ T).nev (b:=O)) (sd:=(Hd.top 54)) (fd:=Hd.kr) (fa:=350) mkI Dp rfl (BG (d:=uT) (by kernel_rfl))).imp λ_ _ _ _ ⟨_,_,_,_,h,_⟩=>nomatch h
 |n+1=>rH (N:=["_law_found","_law_due"]) (((t23 _ _ _ _ T).mono (GcJ 26 n)).MI (x:="_law_same") (Ar T n) T.at (by kernel_rfl) (all2 (K:=_))) (sd:=(Hd.top 54)) (fd:=Hd.kr) (fa:=350) mkI Dp rfl (show _=U (Den.ck (Den.f9 n)) by kernel_rfl)
def T24:Tbl:=T23.f "_law_same" 2 Den.ib
def t24:Ok 34 T24:=λ_ _ _ _ T=>((t23 _ _ _ _ T).mono (by decide)).MI (Ar T 7) T.at (by kernel_rfl) (all2 (K:=_))
def T25:Tbl:=T24.f "_law_names" 3 Den.cA
def t25:Ok 35 T25:=gF t24 55 355 Hd.q2 Den.jz (N:=["_law_script","_law_base","_law_many","_law_letters","_law_word","_law_style","_law_names_here","_law_size","_law_at","_law_k","_law_signs"]) (bi:=uC)
def T26:Tbl:=T25.f "_law_number" 3 Den.aJ
def t26:Ok 36 T26:=gF t25 56 362 Hd.q2 Den.j4 (bi:=uC)
def T27:Tbl:=T26.f "_law_cap" 2 Den.iM
def t27:Ok 37 T27:=gF t26 57 369 Hd.q2 Den.mK (bi:=all2)
def T28:Tbl:=T27.f "_law_stuff" 3 Den.fY
def t28:Ok 38 T28:=gF t27 58 374 Hd.q2 Den.jA (bi:=uC)
def T29:Tbl:=T28.f "_law_bars" 3 Den.j5
def t29:Ok 39 T29:=gF t28 59 381 Hd.q2 Den.kN (bi:=uC)
def T30:Tbl:=T29.f "_law_dues" 2 Den.j6
def t30:Ok 40 T30:=gF t29 60 388 Hd.q2 Den.kO (bi:=all2)
def T31:Tbl:=T30.f "_law_tapers" 3 Den.gJ
def t31:Ok 41 T31:=gF t30 61 395 Hd.q2 Den.j7 (bi:=uC)
def T32:Tbl:=T31.f "_law_order" 5 Den.iz
def t32:Ok 42 T32:=gF t31 62 402 Hd.q2 Den.nq (bi:=SW)
def T33:Tbl:=T32.f "_law_world" 1 Den.dC
def t33:Ok 43 T33:=gF t32 63 407 Hd.q2 Den.jB (bi:=all1)
def T34:Tbl:=T33.f "_law_line" 1 Den.aF
def t34:Ok 44 T34:=gF t33 64 412 Hd.q2 Den.oO (bi:=all1)
def T35:Tbl:=T34.f "_law_lines" 1 Den.fZ
def t35:Ok 45 T35:=gF t34 65 417 Hd.q2 Den.jC (N:=["_law_world_here","_law_lines_here","_law_stuff_here","_law_stuffs","_law_bar","_law_bars_here","_law_order_here","_law_orders","_law_guests","_law_cap_here","_law_taper"]) (bi:=all1)
def T36:Tbl:=T35.f "_law_odd" 1 Den.d8
def t36:Ok 46 T36:=gF t35 66 424 Hd.q2 Den.qm (bi:=all1)
def T37:Tbl:=T36.f "_law_blank" 2 Den.fb
def t37:Ok 47 T37:=gF t36 67 429 Hd.q2 Den.nr (N:=["_law_script","_law_line_here","_law_way","_law_at","_law_k"]) (bi:=all2)
def T38:Tbl:=T37.f "_law_number_bent" 2 Den.cB
def t38:Ok 48 T38:=gF t37 68 434 Hd.q2 Den.iA (N:=["_law_script","_law_line_here","_law_words","_law_at","_law_k","_law_old","_law_some"]) (bi:=all2)
def T39:Tbl:=T38.f "_law_name_bent" 2 Den.cY
def t39:Ok 49 T39:=gF t38 69 441 Hd.q2 Den.jd (bi:=all2)
def T40:Tbl:=T39.f "_law_bent" 2 Den.fN
def t40:Ok 50 T40:=gF t39 70 448 Hd.q2 Den.oP (bi:=all2)
def T41:Tbl:=T40.f "_law_spoilt" 2 Den.dH
def t41:Ok 51 T41:=gF t40 71 453 Hd.q2 Den.j8 (N:=["_law_script","_law_lines_here","_law_way","_law_place_here","_law_orders","_law_far","_law_old"]) (bi:=all2)
def T42:Tbl:=T41.r "_law_place" 1 Den.g6
def t42:Ok 52 T42:=gR t41 [] 72 460 Hd.q2 Den.jD (bi:=all1)
def Nz(T:Txt w.params mg):cp P w (Hd.K w.params) mg base CX0 53 467 Hd.Jl ["_law_script"] (spD (Hd.K w.params) 1 Den.nu):=rH (N:=["_law_script","_law_world_here","_law_lines_here","_law_spoilt_here"]) (t42 _ _ _ _ T) (sd:=(Hd.top 73)) (fd:=Hd.Jl) (fa:=467) mkI Dp rfl (show _=U Den.JH by kernel_rfl)
end
def all_mk{l:PySem.W.OpenLaw}{w:Xv}{h:Xs}(X:(Hd.K w.params).In h)(G:h.Ns mainGlobals mg)(Wy:mg "law"=U (.ref fa)):
  ∃fd,(∀s v,BindsTo s fd ⟨[v],[]⟩ [("_law_script",v)])/\∀base,(Hd.K w.params).In base->base.Ns mainGlobals mg->cp l.prog w (Hd.K w.params) mg base CX0 53 fa fd ["_law_script"] (spD (Hd.K w.params) 1 Den.nu):=by
 have T:Txt w.params mg:=⟨h,X,G⟩
 have e:=Wy.symm.trans (T.at:mg "law"=U (.ref 467));cases e;exact⟨_,λs v=> .of_eq rfl,λbase _ _=>Nz T⟩
def walk{l:PySem.W.OpenLaw}{loose:List Str}{YP:Xv->Xs->Prop}{d:DefRec}{K:XC->PySem.W.Frag}(hn:l.most=U 63)(yT:d.params.defaults=[])
  (hY:∀w h,YP w h->(K w.params).In h)(zj:∀ns,ns.length<=63->Den.nu [.scr ns]=U (.bl O))
  (F:∀w mg fa h,(K w.params).In h->h.Ns mainGlobals mg->mg d.name=U (.ref fa)->
   ∃fd,(∀s u,BindsTo s fd ⟨[u],[]⟩ [("_law_script",u)])/\∀base,(K w.params).In base->base.Ns mainGlobals mg->cp l.prog w (K w.params) mg base CX0 53 fa fd ["_law_script"] (spD (K w.params) 1 Den.nu)):
  PySem.W.WalkO q loose XP YP l.row.toRowW d [] (λf vs=>PySem.call f vs):=
 L2.GA (n:=63) (k:=53) (x:="_law_script") (CX:=λ_=>CX0) (sp:=λw=>spD (K w.params) 1 Den.nu) hn (by decide) yT ⟨rfl,by decide,by decide⟩ hY F (λ_ _ a ns hl hO hS=>Ld hO hS (zj ns hl)) λ_ _ _ _ _ z=>z
end Der
open PySem PySem.W PyProof.Rows
set_option maxRecDepth 100000 in
set_option maxHeartbeats 0 in
theorem PySem.Challenge.cw_dosehouse_k08_lines_that_never_stand_holds : PySem.Challenge.rw_dosehouse_k08_lines_that_never_stand.Holds := by
 refine holds_law Zzb λUy=> ?_;refine holds_open (q:=Hd.view) (loose:=["BEHIND","CAP_LOWS"]) (Xt:=Hd.xt) (XP:=XL Hd.view []) (Yf:=Hook.obs Hd.hook) (Ya:=Hook.val Hd.hook) (YP:=Hook.says Hd.hook) (N:=7890) Hd.left (Hook.of Hd.hook) (Hook.keeps Hd.hook) (λs e=>xl_of s (Bool.and_eq_true_iff.mp e).1) XL.keeps (by rfl) (by rfl) (by rfl) (λs e=>recFacts_of (Bool.and_eq_true_iff.mp e).2) (by rfl) Uy (by decide+kernel) ⟨rfl,rfl,rfl,rfl,rfl,by decide+kernel⟩ ?hw ?hc
 case hw=>w_witness2
 case hc=>exact Der.walk (l:=PySem.Challenge.rw_dosehouse_k08_lines_that_never_stand) (K:=Hd.K) rfl rfl (λw h Y=>PySem.W.kIn_of Y) Maths.G8 λw mg fa h KX G yQ=>Der.all_mk KX G yQ
