import PyProof.Rows.All
import Wide.All
import OpenK.AllK
import Wide.FinOn
import PySem.Challenge.RW_dosehouse_k54_whole_every_stretch_is_kep
set_option Elab.async false
set_option linter.all false
set_option maxRecDepth 100000
set_option maxHeartbeats 0
open Option renaming some→U,none→J
open Bool renaming true→O,false→M
open PySem renaming Value→Vf,Shared→Vg,Addr→Vh,Expr→Vi,Heap→Vj,Stmt→Vk,Around→Vm,Program→Vn,Obj→Vo,Scope→Vp,NameKind→Vq,FuncData→Vr,Params→Vs,CmpOp→Vt
noncomputable section
local macro_rules|`(def $i:ident$s$v:declVal)=>Lean.withRef .missing (`(noncomputable def $(Lean.mkIdent i.getId):ident$s$v:declVal))|`(abbrev $i:ident$s$v:declVal)=>Lean.withRef .missing (`(noncomputable abbrev $(Lean.mkIdent i.getId):ident$s$v:declVal))
set_option genSizeOf false
set_option bootstrap.genMatcherCode false
set_option autoImplicit true
set_option relaxedAutoImplicit true
set_option compiler.extract_closed false
set_option genInjectivity false
def Za1(h:True:=by rfl):True:=h
def Za2(h:True:=by decide):True:=h
def Za3(h:True:=by first|exact .inl rfl|exact .inr rfl|assumption):True:=h
def Gaa:=@List.getElem?_eq_getElem
def Gab:=@Option.map_eq_some_iff
def Gac:=@Bool.and_eq_true
def Gad:=@PySem.wpAny_bind
def Gae:=@List.getElem?_eq_some_iff
def Gaf:=@List.mem_cons_of_mem
def Gag:=@PySem.Heap.get?_push_of_some
def Gah:=@List.length_map
def Gai:=@List.mem_cons_self
def Gaj:=@List.getElem?_map
def Gak:=@Nat.le_trans
def Gal:=@List.all_eq_true
def Gam:=@List.mem_singleton
def Gan:=@PyProof.Rows.wpS_bind
def Gao:=@PySem.wpAny_pure
def Gap:=@List.getElem_mem
def Gaq:=@List.mem_cons
def Gar:=@if_pos
def Gas:=@beq_iff_eq
def Gat:=@PySem.Heap.get?_push_size
def Gau:=@List.getElem?_set_self
def Gav:=@List.map_cons
def Gaw:=@if_neg
def Gax:=@List.getElem?_set_ne
def Gay:=@of_decide_eq_true
def Gaz:=@List.append_assoc
def GaA:=@Int.lt_trans
def GaB:=@PySem.wpAny_mono
def GaC:=@List.length_cons
def GaD:=@PyProof.Rows.wpS_pure
def GaE:=@Int.add_nonneg
def GaF:=@List.length_append
def GaG:=@Nat.lt_of_le_of_lt
def GaH:=@List.mem_of_getElem?
def GaI:=@decide_eq_true
def GaJ:=@Nat.le_of_lt
def GaK:=@Int.eq_ofNat_of_zero_le
def GaL:=@List.map_map
def GaM:=@Int.add_lt_add_right
def GaN:=@Nat.le_refl
def GaO:=@Classical.byContradiction
def GaP:=@List.mem_map
def GaQ:=@List.mem_append
def GaR:=@decide_eq_false
def GaS:=@List.getElem?_append_left
def GaT:=@List.set_cons_succ
def GaU:=@List.set_cons_zero
def GaV:=@List.map_congr_left
def GaW:=@List.getElem?_append_right
def GaX:=@PySem.Calls.spliced_cons
def GaY:=@Int.add_lt_add_left
def GaZ:=@Option.bind_eq_some_iff
def Gba:=@List.isEmpty_iff
def Gbb:=@Int.toNat_natCast
def Gbc:=@PySem.Heap.get?_none_of_le
def Gbd:=@Bool.or_eq_true
def Gbe:=@List.map_append
def Gbf:=@List.getElem?_drop
def Gbg:=@Ne.symm
def Gbh:=@List.getElem?_take_of_lt
def Gbi:=@Nat.ne_of_lt
def Gbj:=@PySem.Heap.lt_size
def Gbk:=@Int.le_of_lt
def Gbl:=@decide_eq_true_eq
def Gbm:=@Nat.zero_le
def Gbn:=@List.take_append_drop
def Gbo:=@List.length_filter_le
def Gbp:=@List.getD_eq_getElem?_getD
def Gbq:=@PySem.wpAny_execs_cons
def Gbr:=@List.lookup_cons
def Gbs:=@List.getElem?_of_mem
def Gbt:=@List.forall_mem_cons
def Gbu:=@PySem.wpAny_Call_Name_kw
def Gbv:=@PySem.wpAny_truthy_bool
def Gbw:=@List.mem_of_mem_take
def Gbx:=@List.filter_cons
def Gby:=@List.Perm.append_right
def Gbz:=@List.drop_eq_getElem_cons
def GbA:=@PySem.Calls.spliced_nil
def GbB:=@PySem.wpAny_holding
def GbC:=@List.mem_iff_getElem?
def GbD:=@List.perm_append_comm
def GbE:=@List.append_nil
def GbF:=@PySem.wpAny_execs_nil
def GbG:=@List.pairwise_cons
def GbH:=@List.mem_of_mem_drop
def GbI:=@Nat.add_lt_add_right
def GbJ:=@Prod.mk.injEq
def GbK:=@List.all_cons
def GbL:=@PySem.Heap.get?_update_other
def GbM:=@List.take_of_length_le
def GbN:=@PySem.wpAny_newObj_type
def GbO:=@List.nodup_cons
def GbP:=@List.mem_of_find?_eq_some
def GbQ:=@List.mem_filter
def GbR:=@Option.or_eq_some_iff
def GbS:=@List.drop_length
def GbT:=@Nat.lt_of_succ_lt
def GbU:=@PyProof.Rows.callWith_type1
def GbV:=@PySem.mem_of_lookup
def GbW:=@Function.comp_apply
def GbX:=@PySem.W.cellsFrom_some
def GbY:=@PySem.Calls.callWith_builtin
def GbZ:=@PySem.wpAny_newFunctionEnv_cells
def Gca:=@List.mem_reverse
def Gcb:=@PySem.Heap.get?_update_self
def Gcc:=@List.mem_range
def Gce:=@PySem.W.callWith_K
def Gcf:=@List.drop_drop
def Gcg:=@Nat.pos_of_ne_zero
def Gch:=@List.pairwise_iff_getElem
def Gci:=@List.getElem?_zip_eq_some
def Gcj:=@Option.map_some
def Gck:=@PyProof.Rows.callWith_builtin1
def Gcl:=@List.foldl_cons
def Gcm:=@List.all_map
def Gcn:=@List.size_toArray
def Gco:=@PySem.wpAny_Assign_Name
def Gcp:=@List.pairwise_singleton
def Gcq:=@PySem.F.plainAttrs_list
def Gcr:=@List.getElem_map
def Gcs:=@List.drop_zero
def Gct:=@PySem.wpAny_rule
def Gcu:=@Int.le_refl
def Gcv:=@List.map_id
def Gcw:=@Nat.zero_add
def Gcx:=@PySem.tupleKind_room_in1
def Gcy:=@Bool.false_eq_true
def Gcz:=@Nat.lt_of_lt_of_le
def GcA:=@List.of_mem_zip
def GcB:=@PySem.codeAny_call_function
def GcC:=@List.getElem?_eq_none
def GcD:=@PySem.wpAny_ite_false
def GcE:=@List.Perm.append_left
def GcF:=@List.find?_some
def GcG:=@PySem.Calls.Name_function_global
def GcH:=@Array.getElem?_eq_some_iff
def GcI:=@Bool.not_eq_true'
def GcJ:=@PySem.wpAny_call
def GcK:=@PySem.Calls.evalArgs_plain
def GcL:=@Bool.or_eq_false_iff
def GcM:=@List.findIdx?_eq_some_iff_getElem
def GcN:=@PySem.wpAny_ite_true
def GcO:=@List.take_take
def GcP:=@PySem.wpAny_call_entry
def GcQ:=@Int.ofNat_lt
def GcR:=@PyProof.Rows.wpS_forRange
def GcS:=@PySem.Heap.SameBut.update
def GcT:=@PyProof.Rows.slot_tuple_getitem
def GcU:=@List.mem_singleton_self
def GcV:=@List.getElem?_take
def GcW:=@PySem.wpAny_pyIter_tuple
def GcX:=@PySem.W.codeRec_of
def GcY:=@List.length_nil
def GcZ:=@PyProof.Rows.wpS_modify
def Gda:=@Nat.min_eq_left
def Gdb:=@List.length_set
def Gdc:=@PySem.wpAny_typeNameOfWhole_itemiter
def Gdd:=@PyProof.Rows.wpS_mono
def Gde:=@List.append_eq_nil_iff
def Gdf:=@List.eq_nil_of_length_eq_zero
def Gdg:=@PySem.F.slot_dict_itemiterator_next
def Gdh:=@Option.some.injEq
def Gdi:=@List.getElem?_set
def Gdj:=@PySem.wpAny_Return_some
def Gdk:=@Array.toList_push
def Gdl:=@PySem.wpAny_loadPart_at
def Gdm:=@if_true
def Gdn:=@PySem.codeAny_mono
def Gdo:=@Int.le_trans
def Gdp:=@List.drop_take
def Gdq:=@PyProof.Rows.kmk_tree
def Gdr:=@List.length_take
def Gds:=@Nat.sub_le
def Gdt:=@List.any_eq_true
def Gdu:=@PySem.codeAny_call_builtin
def Gdv:=@PySem.Paired.length
def Gdw:=@List.mem_zipIdx_iff_le_and_getElem?_sub
def Gdx:=@PySem.F.excBase_ValueError
def Gdy:=@PySem.sizeLine_eq
def Gdz:=@Nat.le_succ
def GdA:=@PySem.wpAny_of_eq
def GdB:=@Array.length_toList
def GdC:=@List.getElem?_range
def GdD:=@Array.getElem?_eq_getElem
def GdE:=@Option.isNone_iff_eq_none
def GdF:=@PySem.F.args_tuple_add_2
def GdG:=@PySem.W.looks_findIn
def GdH:=@Int.emod_lt_of_pos
def GdI:=@Int.not_lt
def GdJ:=@PySem.Heap.size_push
def GdK:=@PySem.F.slot_dict_itemiterator_iter
def GdL:=@Int.mul_nonneg
def GdM:=@PySem.F.entry_tuple_add
def GdN:=@PySem.wpAny_callSpecial?_slot
def GdO:=@List.getElem?_replicate
def GdP:=@PySem.F.plainAttrs_dict
def GdQ:=@Nat.lt_succ_of_lt
def GdR:=@PySem.wpAny_pyIter_enum
def GdS:=@Nat.le_of_lt_succ
def GdT:=@List.nodup_append
def GdU:=@List.pairwise_map
def GdV:=@List.flatMap_cons
def GdW:=@PySem.F.slot_tuple_add
def GdX:=@PySem.wpAny_standAt
def GdY:=@List.Perm.map
def GdZ:=@Bool.true_and
def Gea:=@Array.toList_inj
def Geb:=@List.length_drop
def Gec:=@Nat.succ_le_succ
def Ged:=@List.take_length
def Gee:=@Nat.le_add_right
def Gef:=@List.take_succ_eq_append_getElem
def Geg:=@List.map_fst_zip
def Geh:=@Nat.le_of_not_lt
def Gei:=@decide_eq_decide
def Gej:=@List.not_mem_nil
def Gek:=@PySem.codeAny_builtin
def Gel:=@PySem.wpAny_loadName_local
def Gem:=@PySem.wpAny_passesOwn
def Geo:=@PySem.codeAny_func
def Gep:=@List.nil_append
def Geq:=@Array.mem_toList_iff
def Ger:=@Nat.ne_of_gt
def Ges:=@PySem.lookup_relabel_local
def Get:=@Int.emod_nonneg
def Geu:=@List.mem_append_left
def Gev:=@List.filterMap_cons
def Gew:=@List.getElem_of_mem
def Gex:=@Nat.add_le_add_left
def Gey:=@List.map_eq_nil_iff
def Gez:=@Bool.and_false
def GeA:=@PySem.wpAny_Expr_any
def GeB:=@List.nodup_nil
def GeC:=@of_decide_eq_false
def GeD:=@Bool.and_true
def GeE:=@Nat.add_assoc
def GeF:=@Nat.le_succ_of_le
def GeG:=@Bool.eq_false_iff
def GeH:=@Nat.zero_lt_of_lt
def GeI:=@List.ext_getElem?
def GeJ:=@List.getElem?_inj
def GeK:=@List.any_eq_false
def GeL:=@Nat.min_self
def GeM:=@Nat.sub_self
def GeN:=@List.set_set
def GeO:=@Nat.succ_mul
abbrev VSP:=PySem.Value->PySem.Shared->Prop
abbrev FrW:=PySem.W.Frag
abbrev Dgs:PySem.Str:=PySem.Str.ofString "__debug__"
abbrev LAO:=List (PySem.Addr×PySem.Obj)
set_option autoImplicit true
set_option relaxedAutoImplicit true
set_option genSizeOf false
set_option bootstrap.genMatcherCode false
set_option compiler.extract_closed false
namespace NL
open PySem
def gr(s:Vk):Arguments:=match s with
 | .FunctionDef _ a _ _ _ _ _ _ _ _=>a
 |_=>{posonlyargs:=[],args:=[],vararg:=J,kwonlyargs:=[],kw_defaults:=[],kwarg:=J,defaults:=[]}
def bD(s:Vk):List Vk:=match s with
 | .FunctionDef _ _ b _ _ _ _ _ _ _=>b
 |_=>[]
def af(s:Vk):Vp:=match s with
 | .FunctionDef _ _ _ _ _ _ sc _ _ _=>sc
 |_=>{kind:= .function,names:=[],isGenerator:=M,isCoroutine:=M}
def cL(st:Vk):List Str:=(gr st).args.map (·.arg)
def CY:Option Vq->Bool
 |some .local=>O
 |some .cell=>O
 |_=>M
def pJ(st:Vk):List Str:=cL st++(((af st).names.filter λy=>CY (U y.2)).map (·.1)).filter λx=> !(cL st).contains x
def nmS:Vk->Str
 | .FunctionDef n _ _ _ _ _ _ _ _ _=>n
 |_=>""
end NL
namespace Hd
open PySem PySem.W PyProof.Rows NL
def rh(p:Vn)(w:World)(m:Nat)(ann:Option Vf)(q:SharedT×Thread):Option (SharedT×Thread):=bif stepOk m ann q.2 then stepT (denote treeTable) p w q.1 q.2 else J
def goT(p:Vn)(w:World)(m:Nat)(ann:Option Vf)(N:Nat):SharedT×Thread->Option SharedT:=
 N.rec (λ_=>J) λ_ go q=>bif through q.2 then U q.1 else(rh p w m ann q).bind go
def Gv{r:SharedT}(N:Nat):∀q,goT p w m ann N q=U r->topRun treeTable p w m ann N q.1.abs q.2=U r.abs:=by
 induction N with
 |zero=>exactλ_ h=>nomatch h
 |succ N ih=>
  rintro⟨s,t⟩ h;have h:(bif through t then U s else(rh p w m ann (s,t)).bind (goT p w m ann N))=U r:=h;rw[topRun];rcases Bool.eq_false_or_eq_true (through t) with a|a<;>rw[a] at h⊢
  .exact congrArg (Option.map SharedT.abs) h
  obtain⟨x,hx,go⟩:=GaZ.mp h;rcases Bool.eq_false_or_eq_true (stepOk m ann t) with b|b<;>simp only[rh,b,cond_true,cond_false] at hx
  .simp only[b,stepT_spec hx];exact ih x go
  .cases hx
def Jk(l:List Vo):BT:=(l.foldl (λ(q:BT×Nat) o=>(q.1.ins q.2 o,q.2+1)) (.nil,0)).1
def at0(w:World)(os:OsState):SharedT:=⟨Jk (boot_heap w.params).objs.toList,(boot_heap w.params).objs.size,(boot_heap w.params).life,#[],boot_drawn,boot_toks,os⟩
def Gw{p:Vn}{α:Type}{Yf:Vg->α}{Ya:World->α}(e:opening p=plainProg p.main.scope.names)(f:∀s,fenceModules? p s=U s)(hN:Nat.ble 600 N=O)
  (h0:∀w os,(at0 w os).abs=⟨boot_heap w.params,#[],boot_drawn,boot_toks,os⟩)(size:∀w:World,((boot_heap w.params).isNs mainGlobals,(boot_heap w.params).objs.size,(boot_heap w.params).nsMap mainGlobals "__annotations__")=(O,m,ann))
  (Uo:∀(w:World) (os:OsState),(goT p w m ann N (at0 w os,topStub p)).map (λr=>(staticsOk (importedModules p.main.body) (boot_heap w.params) r.abs.heap&&namesBound p r.abs.heap&&gensDone r.abs&&laidKept (boot_heap w.params) r.abs.heap,openSeen q loose (importedModules p.main.body) Xt g0 r.abs,Yf r.abs))=U (O,openGood q loose,Ya w)):
  LeftO p q loose Xt Yf Ya N g0:=λw=>by
 obtain⟨⟨h,gs,d,k,os⟩,e1,e2⟩:=Gab.mp (boot_open e hN f w);obtain⟨rfl,rfl,rfl,rfl⟩:h=boot_heap w.params/\gs=#[]/\d=boot_drawn/\k=boot_toks:=by simpa using e2
 obtain⟨z1,z2,z3⟩:_/\_/\_:=by simpa only[GbJ] using size w
 obtain⟨r,hr,hc⟩:=Gab.mp (Uo w os);obtain⟨l1,l2,l3⟩:_/\_/\_:=by simpa only[GbJ] using hc
 have t:=Gv N _ hr;rw[h0] at t;unfold openEnds;rw[e1];show(topFrom treeTable p w N _).map _=_;have t' :topFrom treeTable p w N ⟨boot_heap w.params,#[],boot_drawn,boot_toks,os⟩=U r.abs:=by
  unfold topFrom;dsimp only;rw[z1,z2,z3,t];show(match staticsOk (importedModules p.main.body) (boot_heap w.params) r.abs.heap&&namesBound p r.abs.heap&&gensDone r.abs&&laidKept (boot_heap w.params) r.abs.heap with|true=>_|false=>_)=_;rw[l1]
 rw[t'];exact congrArg U (Prod.ext l2 l3)
def goN(p:Vn)(w:World)(m:Nat)(ann:Option Vf)(N:Nat):SharedT×Thread->Option (SharedT×Thread):=
 N.rec U λ_ go q=>bif through q.2 then J else(rh p w m ann q).bind go
def Nf(n:Nat):∀q,goN p w m ann n q=U r->goT p w m ann (n+N) q=goT p w m ann N r:=by
 induction n with
 |zero=>intro q h;cases h;rw[Gcw]
 |succ n ih=>
  intro q h;have h:(bif through q.2 then J else(rh p w m ann q).bind (goN p w m ann n))=U r:=h;rw[Nat.succ_add];show(bif through q.2 then U q.1 else(rh p w m ann q).bind (goT p w m ann (n+N)))=_;cases a:through q.2<;>rw[a] at h
  .obtain⟨x,hx,go⟩:=GaZ.mp h;rw[hx];exact ih x go
  .cases h
def e(P:Vs)(n:Str)(t:Nat)(v:Vf):DictEntry:=⟨PyData.keyHash P n,.str n t,v⟩
def r(P:Vs)(n:Str)(t a:Nat):DictEntry:=e P n t (.ref a)
def tu(a:List Vf):Vo:={cls:= .type "tuple",data:= .seq a.toArray}
def odi(l:List DictEntry)(n:Nat):Vo:={cls:= .type "dict",data:= .dict l.toArray n}
def obf(x:String)(v:Vf):Vo:={cls:= .type "builtin_function_or_method",data:= .fields #[.builtin x,v]}
def ofi(l:List Vf):Vo:={cls:= .none,data:= .fields l.toArray}
def otx(t:Nat)(vs:List Str):Vo:=tu ((vs.zipIdx t).map λx=> .str x.1 x.2)
def osu(a:Nat):List Vo:=[{cls:= .type "super",data:= .fields #[.ref a,.ref a,.ref a]},obf "object.__init_subclass__" (.ref a)]
def ofr(a c:Nat)(n:Str)(t:Nat):Vo:={cls:= .type "frame",slots:=#[U (.ref a),U (.ref 3),U (.ref c),J,U (.str n t),J,U (.ref 0)]}
def co(m n:Str)(t l k a:Nat)(x y:Vf)(b u:Nat):Vo:={cls:= .type "code",data:= .fields #[.str m t,.str n (t+1),.str "/claim/cut.py" (t+2),.int l 0,.int k 0,.int 0 0,.int 0 0,.int 3 0,.ref a,.bool O,.int 181 0,.ref (a+1),.none,x,y,.ref b,.int u 0,.int l 0,.str "/claim/cut.py" (u+1)]}
def oc(n:Str)(t l a:Nat):Vo:={cls:= .type "code",data:= .fields #[.str n t,.str n (t+1),.str "/claim/cut.py" (t+2),.int l 0,.int 0 0,.int 0 0,.int 0 0,.int 0 0,.ref a,.bool M,.int 181 0,.ref (a+1),.none,.none,.none,.none,.int (t+3) 0,.int l 0,.str "/claim/cut.py" (t+4)]}
def fo(n q:Str)(st:Vk)(m:Str)(t c:Nat):Vo:=⟨.type "function",J,.func (fnOf n q (gr st) (bD st) (af st) .none .none .none (.str m t) J (.ref c) .none),#[]⟩
def off(q:Str)(st:Vk):Vo:={cls:= .none,data:= .func {name:=nmS st,qualname:=q,params:=gr st,body:= .stmts (bD st),scope:=af st,globals:=0,closure:=[],defaults:= .none,kwdefaults:= .none}}
def kfn(q:Str)(st:Vk)(m:Str)(t a u l v:Nat):Frag:=[(a,fo (nmS st) q st m t (a -1)),(a -1,match v with
 |0=>co (nmS st) q u l (cL st).length (a -4) .none .none (a -2) (u+3)
 |v=>co (nmS st) q u l (cL st).length (a -6) (.ref (a -4)) (.ref (a -3)) (a -2) (u+3+v))]
def xs0:List Vf:=[.type "Exception",.type "BaseException",.type "object"]
def ocl(n:Str)(b x:List Vf)(a t u i:Nat)(sub:List Vf):Vo:={cls:= .type "type",data:= .cls {name:=n,bases:=b,mro:= .ref a::b++x,ns:=a -1,qualname:=n,subclasses:=sub},slots:=#[U (.ref i),J,U (.str n t),U (.str n u),U (.builtin "ValueError.__new__"),U (.bool O)]}
abbrev Xr:=Str×Nat×Nat×Nat×Nat×Nat
def kc(P:Vs)(er:Vf)(H:Nat)(inn:Nat->Nat->Vk)(x:Xr):Frag:=
 let(n,i,l,a,t,k):=x
 [(a+16,ocl n [.ref H] (.type "ValueError"::xs0) (a+16) t (t+8) a []),
 (a+15,odi [e P "__module__" (t+7) er,e P "__firstlineno__" (t+11) (.int l (t+10)),r P "__init__" (t+17+k) (a+13),r P "__static_attributes__" (t+19+k) (a+14),e P "__doc__" (t+20+k) .none] 2),
 (a+13,match er with| .str m z=>fo "__init__" (n++".__init__") (inn i 0) m z (a+12)|_=>default),(a+12,co "__init__" (n++".__init__") (t+12) (l+2) 2 (a+7) (.ref (a+9)) (.ref (a+10)) (a+11) (t+15+k))]
def PQ(st:Vk):Str:=match(bD st).getLast? with
 |some (.Assign [.Attribute _ f _] _ _)=>f
 |_=>""
def fx(kx:Nat->Vo)(st:Vk)(f t:Nat):List Vo:=[tu [],ofi []]++(match t with
 |0=>[]
 |t=>[otx t (pJ st),tu []])++[off (nmS st) st,kx (f -1),kx f]
def xc(P:Vs)(er:Vf)(et H:Nat)(kx:Nat->Vo)(inn:Nat->Nat->Vk)(x:Xr):List Vo:=
 let(n,i,l,a,t,k):=x
 [tu [.ref H],obf "type.__prepare__" (.type "type"),
  odi [e P "__module__" (t+7) er,e P "__qualname__" (t+9) (.str n (t+8)),e P "__firstlineno__" (t+11) (.int l (t+10)),r P "__init__" (t+17+k) (a+13),r P "__static_attributes__" (t+19+k) (a+14)] 5,
  tu [],ofi [.int (l+2) 0,.int 4 0,.ref (a+12)],oc n (t+2) l (a+3),ofr (a+5) (a+2) "dosehouse.errors" et,tu [],ofi [],
  otx (t+15) (pJ (inn i 0)),tu [],off (n++".__init__") (inn i 0),kx (a+12),kx (a+13),otx (t+18+k) [PQ (inn i 0)],kx (a+15),kx (a+16)]++osu (a+16)
end Hd
namespace Zz
open PySem PySem.W
abbrev L:=PySem.Challenge.rw_dosehouse_k54_whole_every_stretch_is_kep
def a:L.row.wellSaid=O:=by kernel_rfl
def b:L.wellSaid=O:=by
 unfold PySem.W.OpenLaw.wellSaid;rw[a]
 kernel_rfl
end Zz
namespace Hd
open PySem PySem.W PyProof.Rows NL
abbrev p0:=PySem.Challenge.pw_dosehouse_k54_whole_every_stretch_is_kep
def top(i:Nat):Vk:=p0.main.body.getD i (.Pass ⟨0,0,0,0⟩)
def view:Vn:={p0 with main:={p0.main with body:=[1,2,3,4,5,6,7,9,10,11,12,13,14,15,16,18,20,21,23,25,27,28,29,30,31,32,33,34,35,37,39,40,41,42,43,44,45,46,47,48,49,50,51,52,53,54,55,56,57,58].map top}}
def inn(i j:Nat):Vk:=match top i with
 | .ClassDef _ _ _ b _ _ _ _ _ _ _=>b.getD j (.Pass ⟨0,0,0,0⟩)
 |s=>s
def md:List (Str×Nat):=[("dosehouse.books",187),("dosehouse.bounds",443),("dosehouse.dues",453),("dosehouse.faults",504),("dosehouse.house",589),("dosehouse.weights",475),("dosehouse.windows",488),("law_dosehouse_k54_whole_every_stretch_is_kep",712)]
def kf(c:Str)(r:Vk×Nat×Nat×Nat×Nat×Nat):Frag:=
 let(s,q,f,u,l,v):=r
 let(m,t):=md.getD q ("",0)
 kfn (c++nmS s) s m t f u l v
def o(n:Str)(t a:Nat):Str×Nat×Nat:=(n,t,a)
def own:List (Str×Nat×Nat):=[o "laid_in" 196 21,o "taken_out" 202 26,o "with_giving" 212 33,o "without_giving" 221 40,o "with_weight" 231 47,o "without_weight" 240 54,o "givings_of" 246 59,o "HouseError" 266 69,o "NoText" 291 89,o "NoPieces" 316 108,o "Twice" 341 127,o "NoEntry" 366 146,o "Unsafe" 392 165,o "Torn" 417 184,o "NoLine" 442 203,o "bound" 452 212,o "due_of" 465 219,o "astray" 474 226,o "weight_at" 487 233,o "sums" 503 240,o "goes_by_weight" 511 245,o "lone_faults" 517 250,o "marks_by_target" 528 257,o "cap_faults" 546 264,o "gaps_by_stuffs" 555 271,o "gap_between" 564 278,o "gap_faults" 570 283,o "twice_faults" 576 288,o "faults" 588 295,o "House" 711 380,o "_law_draw" 723 391,o "_law_caps" 739 398,o "_law_stuffs" 753 405,o "_law_bars" 767 412,o "_law_dues" 780 419,o "_law_world" 799 426,o "_law_hour" 814 433,o "_law_amount" 827 440,o "_law_weight" 838 447,o "_law_due" 847 454,o "_law_single" 853 459,o "_law_bound" 861 466,o "_law_near" 867 471,o "_law_doubled" 873 476,o "_law_call" 881 483,o "_law_told" 894 490,o "_law_deed" 911 497,o "_law_stretch" 917 502,o "_law_kept" 933 509,o "law" 946 516]
def glob(P:Vs)(m:Str)(t n:Nat):Vo:=odi ([e P "__name__" 165 (.str m t),e P "__doc__" 166 (.none),e P "__package__" 167 (.none),e P "__loader__" 168 (.builtin "__main__.__loader__#opaque"),e P "__spec__" 169 (.none),r P "__annotations__" 170 6,r P "__builtins__" 171 4,e P "__file__" 173 (.str "/claim/cut.py" 172),e P "__cached__" 174 (.none)]++(own.take n).map λx=>r P x.1 x.2.1 x.2.2) (9+n)
def er:Vf:= .str "dosehouse.errors" 247
def xcs:List (Str×Nat×Nat×Nat×Nat×Nat):=[("NoText",10,19,73,267,2),("NoPieces",11,24,92,292,2),("Twice",12,29,111,317,2),("NoEntry",13,34,130,342,2),("Unsafe",14,39,149,367,3),("Torn",15,45,168,393,2),("NoLine",16,50,187,418,2)]
def K(P:Vs):Frag:=[(3,glob P "law_dosehouse_k54_whole_every_stretch_is_kep" 712 50),(380,{cls:= .type "type",data:= .cls {name:="House",bases:=[.type "object"],mro:=[.ref 380,.type "object"],ns:=379,qualname:="House"},slots:=#[J,J,U (.str "House" 591),U (.str "House" 599),U (.builtin "object.__new__"),U (.bool O)]}),(379,odi [e P "__module__" 598 (.str "dosehouse.house" 589),e P "__firstlineno__" 602 (.int 176 601),r P "__init__" 610 309,r P "book" 617 316,r P "weigh" 627 323,r P "unweigh" 636 330,r P "give" 646 337,r P "strike" 655 344,r P "amend" 665 351,r P "move" 676 358,r P "is_weighed" 682 363,r P "amount_at" 692 370,r P "keep" 701 377,r P "__static_attributes__" 704 378,r P "__dict__" 706 381,r P "__weakref__" 708 382,e P "__doc__" 709 (.none)] 4),(2,{cls:= .none,data:= .dict #[]}),(69,ocl "HouseError" [.type "ValueError"] xs0 69 249 257 60 [.ref 89,.ref 108,.ref 127,.ref 146,.ref 165,.ref 184,.ref 203]),(68,odi [e P "__module__" 256 (.str "dosehouse.errors" 247),e P "__firstlineno__" 260 (.int 17 259),r P "__static_attributes__" 261 67,r P "__weakref__" 263 70,e P "__doc__" 264 (.none)] 3)]++xcs.flatMap (kc P er 69 inn)++[(top 1,0,21,189,2,2),(top 2,0,26,197,4,0),(top 3,0,33,203,6,4),(top 4,0,40,213,8,3),(top 5,0,47,222,10,4),(top 6,0,54,232,12,3),(top 7,0,59,241,14,0),(top 18,1,212,445,56,2),(top 20,2,219,455,65,5),(top 21,2,226,466,74,3),(top 23,5,233,477,80,5),(top 25,6,240,490,87,8),(top 27,3,245,506,101,0),(top 28,3,250,512,103,0),(top 29,3,257,518,121,5),(top 30,3,264,529,127,12),(top 31,3,271,547,138,3),(top 32,3,278,556,144,3),(top 33,3,283,565,148,0),(top 34,3,288,571,161,0),(top 35,3,295,577,168,6),(top 39,7,391,714,233,4),(top 40,7,398,724,238,10),(top 41,7,405,740,252,8),(top 42,7,412,754,261,8),(top 43,7,419,768,270,7),(top 44,7,426,781,278,13),(top 45,7,433,800,296,9),(top 46,7,440,815,309,7),(top 47,7,447,828,316,5),(top 48,7,454,839,322,3),(top 49,7,459,848,327,0),(top 50,7,466,854,344,2),(top 51,7,471,862,352,0),(top 52,7,476,868,364,0),(top 55,7,497,895,408,11),(top 56,7,502,912,428,0),(top 57,7,509,918,437,10),(top 53,7,483,874,376,2),(top 54,7,490,882,388,7),(top 58,7,516,934,448,7)].flatMap (kf "")++[(inn 37 0,4,309,603,178,2),(inn 37 1,4,316,611,182,1),(inn 37 9,4,370,683,221,4),(inn 37 8,4,363,677,218,0),(inn 37 10,4,377,693,227,3),(inn 37 2,4,323,618,185,4),(inn 37 3,4,330,628,190,3),(inn 37 4,4,337,637,195,4),(inn 37 5,4,344,647,200,3),(inn 37 6,4,351,656,205,4),(inn 37 7,4,358,666,210,5)].flatMap (kf "House.")
def as_:List Vh:=[3,380,379,2,69,68,89,88,86,85,108,107,105,104,127,126,124,123,146,145,143,142,165,164,162,161,184,183,181,180,203,202,200,199,21,20,26,25,33,32,40,39,47,46,54,53,59,58,212,211,219,218,226,225,233,232,240,239,245,244,250,249,257,256,264,263,271,270,278,277,283,282,288,287,295,294,391,390,398,397,405,404,412,411,419,418,426,425,433,432,440,439,447,446,454,453,459,458,466,465,471,470,476,475,497,496,502,501,509,508,483,482,490,489,516,515,309,308,316,315,370,369,363,362,377,376,323,322,330,329,337,336,344,343,351,350,358,357]
def hook:Hook:=kHook K as_ (λ_=>rfl)
def xt(s:Vg):Bool:=xlAt view [] s&&recOk (RowW.records (OpenRow.toRowW (OpenLaw.row Zz.L))) s
def kx(P:Vs)(a:Nat):Vo:=((K P).lookup a).getD default
def news(P:Vs):List Vo:=
 [tu [],ofi ([(2,20),(4,25),(6,32),(8,39),(10,46),(12,53),(14,58),(17,65),(19,78),(24,97),(29,116),(34,135),(39,154),(45,173),(50,192)].flatMap λ(x:Nat×Nat)=>[.int x.1 0,.int 0 0,.ref x.2]),oc "<module>" 182 1 11,ofr 13 3 "__main__" 164]++
 [(1,21,192),(2,26,0),(3,33,206),(4,40,216),(5,47,225),(6,54,235),(7,59,0)].flatMap (λ(i,f,t)=>fx (kx P) (top i) f t)++
 [tu [.type "ValueError"],obf "type.__prepare__" (.type "type"),odi [e P "__module__" 256 er,e P "__qualname__" 258 (.str "HouseError" 257),e P "__firstlineno__" 260 (.int 17 259),r P "__static_attributes__" 261 67] 4,
  tu [],ofi [],oc "HouseError" 251 17 63,ofr 65 62 "dosehouse.errors" 247,tu [],kx P 68,kx P 69,{cls:= .type "getset_descriptor",data:= .fields #[.str "__weakref__" 262,.ref 69,.builtin "ExceptionGroup.__weakref__",.none]}]++osu 69++
 xcs.flatMap λx=>xc P er 247 69 (kx P) inn x
def mid(w:World)(os:OsState):SharedT:=⟨(Jk ((boot_heap w.params).objs.toList++news w.params)).set 3 λ_=>glob w.params "dosehouse.errors" 247 15,206,(boot_heap w.params).life,#[],boot_drawn,443,os⟩
def JV:PySem.Env:={scope:=p0.main.scope,locals:=mainNs,globals:=mainNs,cells:=[],code:= .ref 13,frame:=U 14}
def th1:Thread:=⟨((execs (p0.main.body.drop 17) JV).onRaise (leaving JV)).bind λf=>(Sem.pure (Fin.done f):Sem Fin),.body p0.main.body JV,⟨50,0,54,24⟩,[topFrame ⟨0,0,0,0⟩]⟩
def h0(w:World)(os:OsState):goN p0 w 11 (U (.ref 6)) 2140 (at0 w os,topStub p0)=U (mid w os,th1):=by kernel_rfl
def v0(w:World)(os:OsState):(goT p0 w 11 (U (.ref 6)) 5674 (mid w os,th1)).map (λr=>(staticsOk (importedModules p0.main.body) (boot_heap w.params) r.abs.heap&&namesBound p0 r.abs.heap&&gensDone r.abs&&laidKept (boot_heap w.params) r.abs.heap,openSeen view [] (importedModules p0.main.body) xt O r.abs,hook.obs r.abs))=U (O,openGood view [],hook.val w):=by kernel_rfl
def PR(w:World)(os:OsState):goT p0 w 11 (U (.ref 6)) 7814 (at0 w os,topStub p0)=goT p0 w 11 (U (.ref 6)) 5674 (mid w os,th1):=Nf (N:=5674) 2140 _ (h0 w os)
def left:LeftO p0 view [] xt hook.obs hook.val 7814:=Gw (m:=11) (ann:=U (.ref 6)) rfl (λ_=>rfl) rfl (λ_ _=>by kernel_rfl) (λ_=>by kernel_rfl) λw os=>(congrArg _ (PR w os)).trans (v0 w os)
end Hd
namespace DL
def hde{P:Prop}(h:∀G:Prop,(P->G)->G):P:=h P id
open PySem
abbrev Key:=Sum Int Str
set_option genInjectivity true in
inductive D where
 |non
 |bl (b:Bool)
 |int (i:Int)
 |str (x:Str)
 |tup (ds:List D)
 |lst (ds:List D)
 |dT (eA:List (List Key×D))
 |scr (ns:List Int)
 |exc (C:Nat) (n:Str) (d:D)
 |opq
 |ins (C:Nat)
 |xd (n:Str) (d:D)
 deriving Inhabited
mutual
@[simp]noncomputable def D.imm:D->Bool
 | .non=>O
 | .bl _=>O
 | .int _=>O
 | .str _=>O
 | .tup ds=>ay ds
 | .lst _=>M
 | .dT _=>M
 | .scr _=>M
 | .exc _ _ _=>M
 | .opq=>M
 | .ins _=>M
 | .xd _ _=>M
@[simp]noncomputable def ay:List D->Bool
 |[]=>O
 |d::ds=>d.imm&&ay ds
end
def D.oQ:D->Bool
 | .lst ds=>ay ds
 | .dT eA=>ay (eA.map (·.2))
 |d=>d.imm
def D.top:D->Bool
 | .lst _=>O
 | .dT _=>O
 | .opq=>O
 |_=>M
def CZ:Key->D
 | .inl i=> .int i
 | .inr x=> .str x
def a9:Nat:=16777216
set_option genInjectivity true in
inductive Slot where
 |sh (d:D)
 |own (d:D)
 |lok (d:D)
 |bor (d:D)
abbrev Env:=List (Option Slot)
set_option genInjectivity true in
inductive Cls where
 |c|tn|to|tb
 deriving DecidableEq
set_option genInjectivity true in
structure RV where
 k:Cls
 d:D
abbrev SpF:=List D->Option D
abbrev SpV:=List D->Option RV
abbrev DE:=Env->Option RV
abbrev DT:=Env->Option Bool
abbrev DA:=Env->Option (List RV)
abbrev DG:=D->Env->Option Env
set_option genInjectivity true in
inductive Out where
 |nx (e:Env)
 |ret (d:D)
 |bk (e:Env)
 |ct (e:Env)
abbrev DS:=Env->Option Out
def dZ(d:D):RV:=⟨if d.top then .tn else .c,d⟩
def RV.free(r:RV):Bool:=match r.k with
 | .c=>O
 | .tn=>O
 |_=>M
@[simp]noncomputable def vE(i:Nat):DE:=λenv=>match env[i]? with
 |some (U (.sh d))=>U ⟨.c,d⟩
 |some (U (.own d))=>U ⟨.to,d⟩
 |some (U (.lok d))=>U ⟨.tb,d⟩
 |some (U (.bor d))=>U ⟨.tb,d⟩
 |_=>J
@[simp] noncomputable def kE(d:D):DE:=λ_=>U ⟨.c,d⟩
@[simp]noncomputable def Ve(o:D->D->Option RV)(f g:DE):DE:=λenv=>(f env).bind λx=>(g env).bind λy=>o x.d y.d
@[simp]noncomputable def unE(o:D->Option RV)(f:DE):DE:=λenv=>(f env).bind λx=>o x.d
def aw:D->D->Option RV
 | .int i,.int j=>U ⟨.c,.int (i+j)⟩
 | .str x,.str y=>if x.length+y.length<=a9 then U ⟨.c,.str (x++y)⟩ else J
 | .tup x,.tup y=>if x.length+y.length<=a9 then U ⟨.c,.tup (x++y)⟩ else J
 | .lst x,.lst y=>if x.length+y.length<=a9 then U ⟨.tn,.lst (x++y)⟩ else J
 |_,_=>J
def ip:D->D->Option RV
 | .int i,.int j=>U ⟨.c,.int (i -j)⟩
 |_,_=>J
def bw(i j:Int):Bool:=decide (i.natAbs<18446744073709551616)||decide (j.natAbs<18446744073709551616)
def bX:D->D->Option RV
 | .int i,.int j=>if bw i j then U ⟨.c,.int (i*j)⟩ else J
 |_,_=>J
def jG:D->D->Option RV
 | .int i,.int j=>if 0<j/\j<1073741824 then U ⟨.c,.int (i/j)⟩ else J
 |_,_=>J
def nV:D->D->Option RV
 | .int i,.int j=>if 0<j then U ⟨.c,.int (i%j)⟩ else J
 |_,_=>J
def mJ:D->D->Option RV
 | .int i,.int j=>if 0<=j/\j<=1000/\i.natAbs<1000000 then U ⟨.c,.int (i^j.toNat)⟩ else J
 |_,_=>J
def D0:D->Option RV
 | .int i=>U ⟨.c,.int (-i)⟩
 |_=>J
@[simp]noncomputable def bK:Nat->D->Bool
 |_,.non=>O
 |_,.bl _=>O
 |_,.int _=>O
 |_,.str _=>O
 |n+1,.tup ds=>ds.all (bK n)
 |n+1,.lst ds=>ds.all (bK n)
 |_,_=>M
@[simp]noncomputable def D.plain(d:D):Bool:=bK 20 d
mutual
noncomputable def eqD:D->D->Bool
 | .non,.non=>O
 | .bl a,.bl b=>a==b
 | .bl a,.int b=>(if a then 1 else 0)==b
 | .int a,.bl b=>a==(if b then 1 else 0)
 | .int a,.int b=>a==b
 | .str a,.str b=>a==b
 | .tup a,.tup b=>lE a b
 | .lst a,.lst b=>lE a b
 |_,_=>M
@[simp]noncomputable def lE:List D->List D->Bool
 |[],[]=>O
 |a::as,b::bs=>eqD a b&&lE as bs
 |_,_=>M
end
@[simp] theorem Pf:eqD .non .non=O:=rfl
@[simp] theorem PU:eqD (.bl a) (.bl b)=(a==b):=rfl
@[simp] theorem PX:eqD (.bl a) (.int b)=((if a then 1 else 0)==b):=rfl
@[simp] theorem PY:eqD (.int a) (.bl b)=(a==(if b then 1 else 0)):=rfl
@[simp] theorem PZ:eqD (.int a) (.int b)=(a==b):=rfl
@[simp] theorem Q0:eqD (.str a) (.str b)=(a==b):=rfl
@[simp] theorem Q1:eqD (.tup a) (.tup b)=lE a b:=rfl
@[simp] theorem Q2:eqD (.lst a) (.lst b)=lE a b:=rfl
@[simp] theorem Jl:eqD .non (.int b)=M:=rfl
@[simp] theorem Jm:eqD (.int a) .non=M:=rfl
@[simp] theorem Jn:eqD (.int a) (.str b)=M:=rfl
@[simp] theorem Jo:eqD (.str a) (.int b)=M:=rfl
@[simp] theorem Jp:eqD .non (.str b)=M:=rfl
@[simp] theorem Jq:eqD (.str a) .non=M:=rfl
@[simp] theorem Jr:eqD (.int a) (.tup b)=M:=rfl
@[simp] theorem Js:eqD (.tup a) (.int b)=M:=rfl
@[simp] theorem Jt:eqD (.str a) (.tup b)=M:=rfl
@[simp] theorem Ju:eqD (.tup a) (.str b)=M:=rfl
@[simp] theorem Jv:eqD .non (.tup b)=M:=rfl
@[simp] theorem Jw:eqD (.tup a) .non=M:=rfl
@[simp] theorem JW:eqD .non (.bl b)=M:=rfl
@[simp] theorem JX:eqD (.bl a) .non=M:=rfl
def eqB(x y:D):Option Bool:=if x.plain&&y.plain then U (eqD x y) else J
def neB(x y:D):Option Bool:=if x.plain&&y.plain then U (!eqD x y) else J
def fV:D->Bool
 | .non=>O
 |_=>M
def g8(x y:D):Option Bool:=if fV y then U (fV x) else J
def gK(x y:D):Option Bool:=if fV y then U (!fV x) else J
def ltB:D->D->Option Bool
 | .int i,.int j=>U (decide (i<j))
 |_,_=>J
def leB:D->D->Option Bool
 | .int i,.int j=>U (decide (i<=j))
 |_,_=>J
def gtB:D->D->Option Bool
 | .int i,.int j=>U (decide (j<i))
 |_,_=>J
def geB:D->D->Option Bool
 | .int i,.int j=>U (decide (j<=i))
 |_,_=>J
@[simp]noncomputable def ao(o:D->D->Option Bool)(f g:DE):DT:=λenv=>(f env).bind λx=>(g env).bind λy=>o x.d y.d
@[simp]noncomputable def bE(t:DT):DE:=λenv=>(t env).map λb=> ⟨.c,.bl b⟩
@[simp]noncomputable def iq(f:DE):DT:=λenv=>(f env).bind λx=>match x.d with
 | .bl b=>U b
 |_=>J
@[simp] noncomputable def cK(t u:DT):DT:=λenv=>(t env).bind λb=>if b then u env else U M
@[simp] noncomputable def orT(t u:DT):DT:=λenv=>(t env).bind λb=>if b then U O else u env
@[simp] noncomputable def pK(t:DT):DT:=λenv=>(t env).map (!·)
@[simp]noncomputable def sL(o p:D->D->Option Bool)(f g h:DE):DT:=λenv=>(f env).bind λx=>(g env).bind λy=>(o x.d y.d).bind λb=>if b then(h env).bind λz=>p y.d z.d else U M
@[simp] noncomputable def ifE(t:DT)(f g:DE):DE:=λenv=>(t env).bind λb=>if b then f env else g env
def atD{α:Type}(xs:List α)(i:Int):Option α:=if 0<=i then xs[i.toNat]? else if -(xs.length:Int)<=i then xs[(i+xs.length).toNat]? else J
def keyOf:D->Option Key
 | .int i=>U (.inl i)
 | .str x=>U (.inr x)
 |_=>J
@[simp]noncomputable def keysOf:List D->Option (List Key)
 |[]=>U []
 |d::ds=>(keyOf d).bind λk=>(keysOf ds).map (k:: ·)
section
variable{Y:Type} [DecidableEq Y]
def look(eA:List (Y×D))(k:Y):Option D:=(eA.find? λkv=>decide (kv.1=k)).map (·.2)
def put(eA:List (Y×D))(k:Y)(v:D):List (Y×D):=
 if(eA.any λkv=>decide (kv.1=k))=O then eA.map (λkv=>if kv.1=k then(kv.1,v) else kv) else eA++[(k,v)]
end
def ixD:D->D->Option D
 | .lst xs,.int i=>atD xs i
 | .tup xs,.int i=>atD xs i
 | .str x,.int i=>if x.length<=a9 then(atD x.cps.toList i).map λc=> .str ⟨#[c]⟩ else J
 | .dT eA,.tup ds=>(keysOf ds).bind λk=>look eA k
 | .scr ns,.int i=>(atD ns i).map .int
 |_,_=>J
@[simp]noncomputable def Vd(f g:DE):DE:=λenv=>(f env).bind λx=>(g env).bind λy=>(ixD x.d y.d).map λd=> ⟨.c,d⟩
@[simp] noncomputable def aL:DA:=λ_=>U []
@[simp]noncomputable def ae(f:DE)(r:DA):DA:=λenv=>(f env).bind λx=>(r env).bind λxs=>U (x::xs)
@[simp]noncomputable def cX(a:DA):DE:=λenv=>(a env).bind λrs=>if rs.all (·.free)&&decide (rs.length<=a9) then U ⟨.c,.tup (rs.map (·.d))⟩ else J
@[simp]noncomputable def bQ(a:DA):DE:=λenv=>(a env).bind λrs=>if rs.all (·.free)&&decide (rs.length<=a9) then U ⟨.tn,.lst (rs.map (·.d))⟩ else J
@[simp]noncomputable def ai(sp:SpF)(a:DA):DE:=λenv=>(a env).bind λrs=>(sp (rs.map (·.d))).map dZ
@[simp]noncomputable def g9(o:SpV)(a:DA):DE:=λenv=>(a env).bind λrs=>o (rs.map (·.d))
def b5:SpV
 |[.lst xs]=>U ⟨.c,.int xs.length⟩
 |[.tup xs]=>U ⟨.c,.int xs.length⟩
 |[.str x]=>if x.length<=a9 then U ⟨.c,.int x.length⟩ else J
 |[.scr ns]=>U ⟨.c,.int ns.length⟩
 |_=>J
def j4:SpV
 |[.int i,.int j]=>U ⟨.c,.int (if j<i then j else i)⟩
 |_=>J
def pL:SpV
 |[.int i,.int j]=>U ⟨.c,.int (if j>i then j else i)⟩
 |_=>J
def gf:SpV
 |[.lst xs]=>U ⟨.c,.tup xs⟩
 |[.tup xs]=>U ⟨.c,.tup xs⟩
 |_=>J
@[simp]noncomputable def jP:List D->Option (List Bool)
 |[]=>U []
 | .bl b::ds=>(jP ds).map (b:: ·)
 |_=>J
@[simp] noncomputable def jQ:List D->Option (List Int)
 |[]=>U []
 | .int i::ds=>(jQ ds).map (i:: ·)
 |_=>J
def jR:D->Option (List D)
 | .lst xs=>U xs
 | .tup xs=>U xs
 | .scr ns=>U (ns.map .int)
 |_=>J
def one(o:SpV):SpV
 |[d]=>(jR d).bind o
 |_=>J
def anyS:SpV:=one λds=>(jP ds).map λbs=> ⟨.c,.bl (bs.any id)⟩
def BE:SpV:=one λds=>(jQ ds).map λns=> ⟨.c,.int ns.sum⟩
def lU(i:Int)(ns:List Int):Int:=ns.foldl (λa b=>if b>a then b else a) i
def u7:SpV:=one λds=>(jQ ds).bind λns=>match ns with
 |[]=>J
 |n::ns=>U ⟨.c,.int (lU n ns)⟩
def sIx(n d:Nat):Option Int->Nat
 |none=>d
 |some v=>if v<0 then(v+(n:Int)).toNat else min v.toNat n
def cutD{α:Type}(xs:List α)(lo hi:Option Int):List α:=(xs.drop (sIx xs.length 0 lo)).take (sIx xs.length xs.length hi -sIx xs.length 0 lo)
abbrev DO:=Env->Option (Option Int)
@[simp] noncomputable def noO:DO:=λ_=>U J
@[simp] noncomputable def jS(f:DE):DO:=λenv=>(f env).bind λx=>match x.d with
 | .int i=>U (U i)
 |_=>J
def slD(lo hi:Option Int):D->Option RV
 | .lst xs=>U ⟨.tn,.lst (cutD xs lo hi)⟩
 | .tup xs=>if sIx xs.length 0 lo=0/\sIx xs.length xs.length hi=xs.length then J else U ⟨.c,.tup (cutD xs lo hi)⟩
 | .scr ns=>U ⟨.tn,.lst (cutD (ns.map .int) lo hi)⟩
 |_=>J
@[simp]noncomputable def slE(f:DE)(lo hi:DO):DE:=λenv=>(f env).bind λx=>(lo env).bind λl=>(hi env).bind λh=>slD l h x.d
@[simp] noncomputable def gN(i:Nat):DG:=λd env=>U (env.set i (U (.sh d)))
@[simp]noncomputable def gNs:List Nat->List D->Env->Option Env
 |[],[],env=>U env
 |i::is,d::ds,env=>gNs is ds (env.set i (U (.sh d)))
 |_,_,_=>J
@[simp]noncomputable def gT(is:List Nat):DG:=λd env=>match d with
 | .tup ds=>gNs is ds env
 |_=>J
@[simp] noncomputable def aC:DS:=λenv=>U (.nx env)
@[simp] noncomputable def bkS:DS:=λenv=>U (.bk env)
@[simp] noncomputable def ctS:DS:=λenv=>U (.ct env)
@[simp]noncomputable def ak(f g:DS):DS:=λenv=>(f env).bind λo=>match o with
 | .nx e=>g e
 |o=>U o
def stored(i:Nat)(r:RV)(env:Env):Option Env:=match r.k with
 | .c=>U (env.set i (U (.sh r.d)))
 | .tn=>U (env.set i (U (.own r.d)))
 |_=>J
@[simp]noncomputable def au(i:Nat)(f:DE):DS:=λenv=>(f env).bind λr=>(stored i r env).map .nx
def Am(r:RV):Bool:=match r.k with
 | .c=>r.d.imm
 | .tn=>r.d.oQ
 | .to=>r.d.oQ
 | .tb=>M
@[simp]noncomputable def UW(f:DE):DS:=λenv=>(f env).bind λr=>if Am r then U (.ret r.d) else J
@[simp] noncomputable def Jx:DS:=λ_=>U (.ret .non)
@[simp] noncomputable def ifS(t:DT)(f g:DS):DS:=λenv=>(t env).bind λb=>if b then f env else g env
@[simp]noncomputable def UX(g:DG)(body:DS):List D->Env->Option Out
 |[],env=>U (.nx env)
 |d::ds,env=>(g d env).bind λe=>(body e).bind λo=>match o with
  | .nx e=>UX g body ds e
  | .ct e=>UX g body ds e
  | .bk e=>U (.nx e)
  | .ret d=>U (.ret d)
abbrev DI:=Env->Option (List D)
@[simp]noncomputable def bL(l:Option Nat)(env:Env):Env:=match l with
 |none=>env
 |some i=>match env[i]? with
  |some (U (.own d))=>env.set i (U (.lok d))
  |_=>env
@[simp]noncomputable def D1(l:Option Nat)(env:Env):Bool:=match l with
 |none=>M
 |some i=>match env[i]? with
  |some (U (.own _))=>O
  |_=>M
@[simp]noncomputable def lV(l:Option Nat)(env:Env):Env:=match l with
 |none=>env
 |some i=>match env[i]? with
  |some (U (.lok d))=>env.set i (U (.own d))
  |_=>env
def freed(l:Option Nat)(b:Bool):Out->Out
 | .nx e=> .nx (if b then lV l e else e)
 |o=>o
@[simp]noncomputable def dN(l:Option Nat)(src:DI)(g:DG)(body:DS):DS:=λenv=>(src (bL l env)).bind λds=>(UX g body ds (bL l env)).map (freed l (D1 l env))
def iN(t:DT)(body:DS):Nat->Env->Option Out
 |0,_=>J
 |n+1,env=>(t env).bind λb=>if b then(body env).bind λo=>match o with
   | .nx e=>iN t body n e
   | .ct e=>iN t body n e
   | .bk e=>U (.nx e)
   | .ret d=>U (.ret d)
  else U (.nx env)
def pM(t:DT)(body:DS):DS:=iN t body 100000
@[simp]noncomputable def cy(f:DE):DI:=λenv=>(f env).bind λr=>if r.k= .to then J else match r.d with
 | .lst xs=>U xs
 | .tup xs=>U xs
 | .scr ns=>U (ns.map .int)
 |_=>J
def aN(lo:Int)(n:Nat):List D:=(List.range n).map λ(k:Nat)=> .int (lo+(k:Int))
def aU(i:Int):Bool:=decide (-4611686018427387904<=i)&&decide (i<4611686018427387904)
@[simp]noncomputable def cz(f:DE):DI:=λenv=>(f env).bind λr=>match r.d with
 | .int j=>if aU j then U (aN 0 j.toNat) else J
 |_=>J
@[simp]noncomputable def pD(f g:DE):DI:=λenv=>(f env).bind λx=>(g env).bind λy=>match x.d,y.d with
 | .int i,.int j=>if aU i&&aU j then U (aN i (j -i).toNat) else J
 |_,_=>J
@[simp]noncomputable def ownAt(i:Nat)(env:Env):Option D:=match env[i]? with
 |some (U (.own d))=>U d
 |_=>J
@[simp]noncomputable def gw(i:Nat)(f:DE):DS:=λenv=>(f env).bind λr=>(ownAt i env).bind λd=>match d with
 | .lst xs=>if r.free&&decide (xs.length<a9) then U (.nx (env.set i (U (.own (.lst (xs++[r.d])))))) else J
 |_=>J
@[simp]noncomputable def JY(i:Nat)(f:DE):DS:=λenv=>(f env).bind λr=>(ownAt i env).bind λd=>match d,r.d with
 | .lst xs,.lst ys=>if(r.k== .tn)&&decide (xs.length+ys.length<=a9) then U (.nx (env.set i (U (.own (.lst (xs++ys)))))) else J
 |_,_=>J
def putD(d k v:D):Option D:=match d with
 | .dT eA=>match k with
  | .tup ks=>if eA.length<a9 then(keysOf ks).map λk=> .dT (put eA k v) else J
  |_=>J
 |_=>J
@[simp] noncomputable def sM:DE:=λ_=>U ⟨.tn,.dT []⟩
@[simp]noncomputable def BF(i:Nat)(k v:DE):DS:=λenv=>(v env).bind λx=>(k env).bind λy=>(ownAt i env).bind λd=>if x.free then(putD d y.d x.d).map λd=> .nx (env.set i (U (.own d))) else J
def dH:Option Slot->Option Slot
 |some (.sh d)=>U (.sh d)
 |some (.own d)=>U (.bor d)
 |some (.lok d)=>U (.bor d)
 |some (.bor d)=>U (.bor d)
 |none=>J
def UY(n:Nat)(aq:List Nat)(env:Env):Env:=List.replicate n J++aq.map λi=>dH (env[i]?.getD J)
@[simp]noncomputable def bz(g:DG)(t:DT)(f:DE):List D->Env->Option (List D)
 |[],_=>U []
 |d::ds,env=>(g d env).bind λe=>(t e).bind λb=>if b then(f e).bind λr=>if r.free then(bz g t f ds e).map (r.d:: ·) else J else bz g t f ds e
@[simp]noncomputable def dR(l:Option Nat)(n:Nat)(aq:List Nat)(src:DI)(g:DG)(t:DT)(f:DE):DE:=λenv=>(src (bL l env)).bind λds=>if ds.length<=a9 then(bz g t f ds (UY n aq env)).map λrs=> ⟨.tn,.lst rs⟩ else J
@[simp] noncomputable def dS:DT:=λ_=>U O
@[simp] noncomputable def bY(n:Nat)(ds:List D):Env:=ds.map (λd=>U (.sh d))++List.replicate (n -ds.length) J
@[simp]noncomputable def bF(n np:Nat)(body:DS):SpF:=λds=>if ds.length=np then(body (bY n ds)).bind λo=>match o with
  | .ret d=>U d
  | .nx _=>U .non
  |_=>J
 else J
@[simp] theorem Gx:Str.ofString a=Str.ofString b↔a=b:=by
 constructor
 .intro h;rw[Str.ofString_eq_toList,Str.ofString_eq_toList] at h;have h1:a.toList.map Char.toNat=b.toList.map Char.toNat:=by
   injection h with h
   exact Gea.mpr h|>λz=>by simpa using z
  have h2:a.toList=b.toList:=by
   have inj:∀(x y:List Char),x.map Char.toNat=y.map Char.toNat->x=y:=by
    intro x;induction x with
    |nil=>intro y e;cases y with
     |nil=>rfl
     |cons=>simp at e
    |cons c x ih=>intro y e;cases y with
     |nil=>simp at e
     |cons c' y=>
      simp only[Gav,List.cons.injEq] at e;rw[ih y e.2,Char.toNat_inj.mp e.1]
   exact inj _ _ h1
  exact String.toList_inj.mp h2
 .rintro rfl;rfl
@[simp] theorem Ng:aw (.int i) (.int j)=U ⟨.c,.int (i+j)⟩:=rfl
@[simp] theorem Nh{x y:Str}:aw (.str x) (.str y)=if x.length+y.length<=a9 then U ⟨.c,.str (x++y)⟩ else J:=rfl
@[simp] theorem Ni{ds es:List D}:aw (.tup ds) (.tup es)=if ds.length+es.length<=a9 then U ⟨.c,.tup (ds++es)⟩ else J:=rfl
@[simp] theorem Nj{ds es:List D}:aw (.lst ds) (.lst es)=if ds.length+es.length<=a9 then U ⟨.tn,.lst (ds++es)⟩ else J:=rfl
@[simp] theorem Nk:ip (.int i) (.int j)=U ⟨.c,.int (i -j)⟩:=rfl
@[simp] theorem Nl:bX (.int i) (.int j)=if bw i j then U ⟨.c,.int (i*j)⟩ else J:=rfl
@[simp] theorem N0:jG (.int i) (.int j)=if 0<j/\j<1073741824 then U ⟨.c,.int (i/j)⟩ else J:=rfl
@[simp] theorem Nm:nV (.int i) (.int j)=if 0<j then U ⟨.c,.int (i%j)⟩ else J:=rfl
@[simp] theorem Nn{i j:Int}:mJ (.int i) (.int j)=if 0<=j/\j<=1000/\i.natAbs<1000000 then U ⟨.c,.int (i^j.toNat)⟩ else J:=rfl
@[simp] theorem Np:D0 (.int i)=U ⟨.c,.int (-i)⟩:=rfl
@[simp] theorem Pg:ltB (.int i) (.int j)=U (decide (i<j)):=rfl
@[simp] theorem Ph:leB (.int i) (.int j)=U (decide (i<=j)):=rfl
@[simp] theorem Pj:gtB (.int i) (.int j)=U (decide (j<i)):=rfl
@[simp] theorem Pk:geB (.int i) (.int j)=U (decide (j<=i)):=rfl
@[simp] theorem Pl:eqB (.int i) (.int j)=U (i==j):=rfl
@[simp] theorem Pn:eqB (.str x) (.str y)=U (x==y):=rfl
@[simp] theorem Q3:eqB .non (.int j)=U M:=rfl
@[simp] theorem Q4:eqB (.int j) .non=U M:=rfl
@[simp] theorem Q5:eqB .non .non=U O:=rfl
@[simp] theorem Po:neB (.int i) (.int j)=U (!(i==j)):=rfl
@[simp] theorem Pp:neB (.str x) (.str y)=U (!(x==y)):=rfl
@[simp] theorem Q6:neB .non (.int j)=U O:=rfl
@[simp] theorem Q7:neB (.int j) .non=U O:=rfl
@[simp] theorem Q8:neB .non .non=U M:=rfl
@[simp] theorem N1:fV .non=O:=rfl
@[simp] theorem N2:fV (.int i)=M:=rfl
@[simp] theorem N3:fV (.str x)=M:=rfl
@[simp] theorem Nq:fV (.bl b)=M:=rfl
@[simp] theorem N4:fV (.tup ds)=M:=rfl
@[simp] theorem N5:fV (.lst ds)=M:=rfl
@[simp] theorem Nr:g8 d .non=U (fV d):=rfl
@[simp] theorem N6:gK d .non=U (!fV d):=rfl
@[simp] theorem gL{ds:List D}:b5 [.lst ds]=U ⟨.c,.int ds.length⟩:=rfl
@[simp] theorem fW{ds:List D}:b5 [.tup ds]=U ⟨.c,.int ds.length⟩:=rfl
@[simp] theorem Nt{x:Str}:b5 [.str x]=if x.length<=a9 then U ⟨.c,.int x.length⟩ else J:=rfl
@[simp] theorem Nu{ns:List Int}:b5 [.scr ns]=U ⟨.c,.int ns.length⟩:=rfl
@[simp] theorem N7:j4 [.int i,.int j]=U ⟨.c,.int (if j<i then j else i)⟩:=rfl
@[simp] theorem N8:pL [.int i,.int j]=U ⟨.c,.int (if j>i then j else i)⟩:=rfl
@[simp] theorem JZ:gf [.lst ds]=U ⟨.c,.tup ds⟩:=rfl
@[simp] theorem K0:gf [.tup ds]=U ⟨.c,.tup ds⟩:=rfl
@[simp] theorem Pq:slD lo hi (.lst ds)=U ⟨.tn,.lst (cutD ds lo hi)⟩:=rfl
@[simp] theorem Pr{ds:List D}:slD lo hi (.tup ds)=if sIx ds.length 0 lo=0/\sIx ds.length ds.length hi=ds.length then J else U ⟨.c,.tup (cutD ds lo hi)⟩:=rfl
@[simp] theorem Pt{ns:List Int}:slD lo hi (.scr ns)=U ⟨.tn,.lst (cutD (ns.map .int) lo hi)⟩:=rfl
@[simp] theorem Nv{env:Env}:stored n ⟨.c,d⟩ env=U (env.set n (U (.sh d))):=rfl
@[simp] theorem N9{env:Env}:stored n ⟨.tn,d⟩ env=U (env.set n (U (.own d))):=rfl
@[simp] theorem Pu{d:D}:Am ⟨.c,d⟩=d.imm:=rfl
@[simp] theorem Nw{d:D}:Am ⟨.tn,d⟩=d.oQ:=rfl
@[simp] theorem Nx{d:D}:Am ⟨.to,d⟩=d.oQ:=rfl
@[simp] theorem Na:(D.lst ds).oQ=ay ds:=rfl
@[simp] theorem Ny{eA:List (List Key×D)}:(D.dT eA).oQ=ay (eA.map (·.2)):=rfl
@[simp] theorem Nz:dZ .non=⟨.c,.non⟩:=rfl
@[simp] theorem Pw:dZ (.bl b)=⟨.c,.bl b⟩:=rfl
@[simp] theorem NA:dZ (.int i)=⟨.c,.int i⟩:=rfl
@[simp] theorem NB:dZ (.str x)=⟨.c,.str x⟩:=rfl
@[simp] theorem NC:dZ (.tup ds)=⟨.c,.tup ds⟩:=rfl
@[simp] theorem ND:dZ (.lst ds)=⟨.tn,.lst ds⟩:=rfl
@[simp] theorem Px:dZ (.dT eA)=⟨.tn,.dT eA⟩:=rfl
@[simp] theorem Q9:RV.free ⟨.c,d⟩=O:=rfl
@[simp] theorem Py:RV.free ⟨.tn,d⟩=O:=rfl
@[simp] theorem NF:freed l b (.nx env)= .nx (if b then lV l env else env):=rfl
@[simp] theorem Nb:freed l b (.ret d)= .ret d:=rfl
@[simp] theorem Nc:keyOf (.int i)=U (.inl i):=rfl
@[simp] theorem Nd:keyOf (.str x)=U (.inr x):=rfl
@[simp] theorem Pz:ixD (.lst ds) (.int i)=atD ds i:=rfl
@[simp] theorem PC:ixD (.tup ds) (.int i)=atD ds i:=rfl
@[simp] theorem PD:ixD (.scr ns) (.int i)=(atD ns i).map .int:=rfl
@[simp] theorem PF{x:Str}:ixD (.str x) (.int i)=if x.length<=a9 then(atD x.cps.toList i).map λc=> .str ⟨#[c]⟩ else J:=rfl
@[simp] theorem Qa:ixD (.dT eA) (.tup ds)=(keysOf ds).bind λk=>look eA k:=rfl
def bA{α:Type}{xs:List α}{k:Nat}:atD xs (k:Int)=xs[k]? :=by
 simp[atD]
@[simp] theorem Qq{α:Type}{xs:List α}:atD xs 0=xs[0]? :=rfl
@[simp] theorem Qr{α:Type}{xs:List α}:atD xs 1=xs[1]? :=rfl
@[simp] theorem Qs{α:Type}{xs:List α}:atD xs 2=xs[2]? :=rfl
@[simp] theorem Qt{α:Type}{xs:List α}:atD xs 3=xs[3]? :=rfl
@[simp] theorem Qu{α:Type}{xs:List α}:atD xs 4=xs[4]? :=rfl
@[simp] theorem Qv{α:Type}{xs:List α}:atD xs 5=xs[5]? :=rfl
end DL
namespace NL
open PySem PySem.Spec PyProof.Rows
def FO(h:Vj)(a:Vh)(T:String)(vs:Array Vf):Prop:=∃o,h.get? a=U o/\o.cls= .type T/\o.data= .fields vs
def sN(h:Vj)(d:Vh)(es:Array DictEntry)(ep:Nat):Prop:=∃o,h.get? d=U o/\o.ExactDict/\o.data= .dict es ep
def sN.at{h h' :Vj}(x:sN h d es ep)(e:∀o,h.get? d=U o->h'.get? d=U o):sN h' d es ep:=by obtain⟨o,ho,r⟩:=x;exact⟨o,e _ ho,r⟩
section
def D2{z:Vg}(x:sN z.heap d es ep)(h:Q es z):wpAny (model prog w) A (dictEntries d p) Q E z:=by obtain⟨_,ho,_,hd⟩:=x;exact wpAny_dictEntries ho hd h
def Jy{z:Vg}(x:sN z.heap d es ep)(h:Q ep z):wpAny (model prog w) A (dictEpoch d p) Q E z:=let⟨_,ho,_,hd⟩:=x;wpAny_dictEpoch ho hd h
def FO.ty{z:Vg}(x:FO z.heap a T vs):z.TypeIs (.ref a) T:=by obtain⟨o,ho,hc,_⟩:=x;exact⟨o,ho,hc⟩
def K1{z:Vg}(x:FO z.heap a T vs)(h:Q vs z):wpAny (model prog w) A (fieldsOf (.ref a)) Q E z:=by obtain⟨_,ho,_,hd⟩:=x;exact wpAny_fieldsOf ho hd h
def iP{z:Vg}{vs:Array Vf}(f:FO z.heap a T vs)(h:∀h',FO h' a T (vs.setIfInBounds k x)/\Heap.SameBut a z.heap h' ->Q () {z with heap:=h' })(hk:k<vs.size):
  wpAny (model prog w) A (setField (.ref a) k x) Q E z:=by
 obtain⟨⟨c,dc,dt,sl⟩,ho,hc,hd⟩:=f;cases hc;cases hd
 exact wpAny_setField ho rfl hk (h _ ⟨⟨_,Gcb _ ho rfl,rfl,rfl⟩,GcS ..⟩)
variable{h:Vj}
def FO.at{h' :Vj}(x:FO h a T vs)(k:∀o,h.get? a=U o->h'.get? a=U o):FO h' a T vs:=by obtain⟨o,q,r⟩:=x;exact⟨o,k o q,r⟩
def FO.lt(x:FO h a T vs):a<h.objs.size:=let⟨_,q,_⟩:=x;Gbj q
def jT{z:Vg}(f:FO z.heap a T vs)(e:vs[i]? =U x)(h:Q x z):wpAny (model prog w) A (field (.ref a) i) Q E z:=let⟨_,ho,_,hd⟩:=f;wpAny_field ho hd e h
def Jz{A:Vm}{z:Vg}(hh:A.handled=J)(h:∀h' a,(∀b o,z.heap.get? b=U o->h'.get? b=U o)/\(∃o,h'.get? a=U o/\o.cls= .type "StopIteration")->E (.ref a) {z with heap:=h' }):
  wpAny (model prog w) A (newExc (.type "StopIteration") []>>=λe=>(raiseNew e:Sem α)) Q E z:=by
 .unfold raiseNew
  wp_walk
  exact h _ _ ⟨λb o e=>Gag _ (Gag _ e),_,Gat _ rfl,rfl⟩
 all_goals size_fits
def Gy{z:Vg}(x:∃o,z.heap.get? e=U o/\o.cls= .type "StopIteration")(h:Q O z):wpAny (model prog w) A (isInstance (.ref e) (.type "StopIteration")) Q E z:=
 wpAny_isInstance x isSubtype_stop h
def NG(es:Array DictEntry)(i:Nat):(if(i:Int)<0 then J else es[(i:Int).toNat]?)=es[i]? :=by simp;lia
def on{α:Type}{t:Sem α}{Q Q' :α->Vg->Prop}(h:wpAny (model prog w) A t Q E z)(k:∀a s,Q a s->Q' a s):wpAny (model prog w) A t Q' E z:=GaB h k λ_ _ x=>x
def Gz(h:∀R,(∀v s',Q v s' ->R (.ok (.ret v)) s')->codeAny (model prog w) A c R z):wpAny (model prog w) A (runValue c) Q E z:=wpAny_runValue (h _ λ_ _ q=>q)
def gather{A:Vm}{z:Vg}
  (h:∀R,(∀s' acc c,s'.heap.get? z.heap.objs.size=U {cls:= .type "list",dict:=J,data:= .seq acc c,slots:=#[]}->Q acc.toList s' ->R (.ok (.ret (.ref z.heap.objs.size))) s')->
   wpAny (model prog w) A.in1 (Builtin.List.listExtendWith (.ref z.heap.objs.size) v (.ref z.heap.objs.size)) (λfin s' =>match fin with| .done f=>R (.ok f) s' | .again c' =>c'.quiet=O/\codeAny (model prog w) A c' R s') (λe s' =>R (.error e) s') {z with heap:=z.heap.push (seqObj "list" #[] 0)}):
  wpAny (model prog w) A (collect v) Q E z:=by
 unfold collect;apply Gad;apply Gz;intro R r;apply Gek entry_proto_collect';apply Gad;refine wpAny_newList (Gao ⟨Code.quiet_builtin _ (by decide+kernel), ?_⟩);apply Gek entry_list_iadd';exact h R λs' acc c k q=>r _ _ (Gad (wpAny_load k (Gao q)))
def u9(h:Vj)(S:Vh)(acc:Array Vf):Prop:=∃c,h.get? S=U {cls:= .type "list",dict:=J,data:= .seq acc c,slots:=#[]}
end
end NL
namespace NL
open PySem PySem.Spec PyProof.Rows DL
section
variable(p:Vn)(w:World)
def kIs:Key->Vf->Bool
 | .inl i=>(intKind p w).is i
 | .inr x=>(strKind p w).is x
def An{α β:Type} [DecidableEq α] [DecidableEq β]:(∀x y,decide (x=y)=decide ((Sum.inl x:α⊕β)= .inl y))/\∀x y,decide (x=y)=decide ((Sum.inr x:α⊕β)= .inr y):=⟨λx y=>by simp,λx y=>by simp⟩
def kP(a:kIs p w (.inl i) u=O)(b:kIs p w (.inr x) v=O):(∃t,u= .int i t)/\∃t,v= .str x t:=⟨Value.isInt_shape a,Value.isStrOf_shape b⟩
def keyKind:KeyKind p w Key where
 is:=kIs p w
 hash:=Sum.elim (intKind p w).hash (strKind p w).hash
 inj:=λv a b ha hb=>match a,b,ha,hb with
  | .inl _,.inl _,ha,hb=>congrArg _ ((intKind p w).inj v _ _ ha hb)
  | .inr _,.inr _,ha,hb=>congrArg _ ((strKind p w).inj v _ _ ha hb)
  | .inl _,.inr _,ha,hb=>by obtain⟨⟨_,e⟩,_,e2⟩:=kP p w ha hb;rw[e] at e2;cases e2
  | .inr _,.inl _,ha,hb=>by obtain⟨⟨_,e⟩,_,e2⟩:=kP p w hb ha;rw[e] at e2;cases e2
 byValue:=λk v=>match k with
  | .inl i=>(intKind p w).byValue i v
  | .inr x=>(strKind p w).byValue x v
 pyHash:=λ{_ _ _ k _ _}=>match k with
  | .inl _=>(intKind p w).pyHash
  | .inr _=>(strKind p w).pyHash
 eqBool:=λ{_ _ _ a b _ _ _}=>match a,b with
  | .inl x,.inl y=>λhu hv h=>(intKind p w).eqBool hu hv (by rw[(An (α:=Int) (β:=Str)).1 x y];exact h)
  | .inr x,.inr y=>λhu hv h=>(strKind p w).eqBool hu hv (by rw[(An (α:=Int) (β:=Str)).2 x y];exact h)
  | .inl _,.inr _=>λhu hv h=>by obtain⟨⟨t,rfl⟩,t',rfl⟩:=kP p w hu hv;exact SeqAt.EqAt.int_str _ t _ t' _ _ _ _ h
  | .inr _,.inl _=>λhu hv h=>by obtain⟨⟨t,rfl⟩,t',rfl⟩:=kP p w hv hu;exact SeqAt.EqAt.str_int _ t' _ t _ _ _ _ h
 «strs» :=λk x t v=>match k with
  | .inl i=>λh=>by obtain⟨_,e⟩:=Value.isInt_shape (show Value.isInt i (.str x t)=O from h);cases e
  | .inr y=>(strKind p w).strs y x t v
end
def thn{α:Type}{t:Sem α}{Q Q' :α->Vg->Prop}(h:wpAny UT A t Q E s)(hQ:∀a s,Q a s->Q' a s):wpAny UT A t Q' E s:=GaB h hQ λ_ _ x=>x
def _root_.PySem.Paired.uc(p:Paired F l₁ l₂)(f:∀a b,F a b->G a b):Paired G l₁ l₂:=by
 induction p with
 |nil=>exact .nil
 |cons r t ih=>exact .cons (f _ _ r) ih
def a6{α β:Type}{P:Prop}{o:Option α}{k:α->Option β}{y:β}(h:o.bind k=U y)(c:∀x,o=U x->k x=U y->P):P:=by obtain⟨x,a,b⟩:=GaZ.mp h;exact c x a b
def aS{α β:Type}{P:Prop}{o:Option α}{k:α->β}{y:β}(h:o.map k=U y)(c:∀x,o=U x->k x=y->P):P:=by obtain⟨x,a,b⟩:=Gab.mp h;exact c x a b
def int_inv{α:Type}{d:DL.D}{F:Int->Option α}{y:α}(q:(match d with
  | .int i=>F i
  |_=>J)=U y):∃i,d= .int i/\F i=U y:=by
 cases d<;>first|exact⟨_,rfl,q⟩|cases q
def D3{α:Type}{d e:DL.D}{F:Int->Int->Option α}{y:α}(q:(match d,e with
  | .int i,.int j=>F i j
  |_,_=>J)=U y):∃i j,d= .int i/\e= .int j/\F i j=U y:=by
 cases d<;>try (cases q;done)
 cases e<;>first|exact⟨_,_,rfl,rfl,q⟩|cases q
def GA{α:Type}{d:DL.D}{F:List DL.D->Option α}{y:α}(q:(match d with
  | .tup i=>F i
  |_=>J)=U y):∃i,d= .tup i/\F i=U y:=by
 cases d<;>first|exact⟨_,rfl,q⟩|cases q
def GB{α:Type}{x:Option α}{y:α}(q:(if b=O then x else J)=U y):b=O/\x=U y:=by
 cases b
 .cases q
 .exact⟨rfl,q⟩
class Wd where
 p:Vn
 w:World
abbrev kk [Wd]:HeapKind Wd.p Wd.w (List Key):=tupleKind (keyKind Wd.p Wd.w)
section
variable [Wd]
def At:D->Vf->Prop
 | .non,.none=>True
 | .bl b,.bool c=>b=c
 | .int i,.int j _=>i=j
 | .str x,.str y _=>x=y
 |_,_=>False
@[elab_as_elim] theorem At.el{P:D->Vf->Prop}(h:At d u)(n:P .non .none)(b:∀b,P (.bl b) (.bool b))(i:∀i t,P (.int i) (.int i t))(s:∀x t,P (.str x) (.str x t)):P d u:=by
 cases d<;>first|exact False.elim h|(cases u<;>first|exact False.elim h|exact n|(cases h;first|exact b _|exact i _ _|exact s _ _))
set_option genInjectivity true in
inductive Shp where
 |of (c:String)
 |dt (ks:List (List Key))
 |any
 |ob (C:Vh)
 |ex (C:Vh)
 |xn (n:Str)
instance:Coe String Shp:=⟨.of⟩
abbrev Shp.z:Shp->Nat
 | .of _=>sizeLine
 | .dt _=>sizeLine+sizeLine
 | .any=>0
 | .ob _=>0
 | .ex _=>1
 | .xn _=>1
abbrev kyT (ks:List Key):D:= .tup (ks.map CZ)
def sqD:D->Option (Shp×List D)
 | .lst ds=>U ("list",ds)
 | .tup ds=>U ("tuple",ds)
 | .scr ns=>U ("list",ns.map .int)
 | .opq=>U (.any,[])
 | .ins C=>U (.ob C,[])
 | .exc C n d=>U (.ex C,[.xd n d])
 | .xd n d=>U (.xn n,[d])
 | .dT eA=>U (.dt (eA.map (·.1)),eA.map (·.2)++eA.map λp=>kyT p.1)
 |_=>J
abbrev Ent:=List Key×Vh×Vf
inductive vO (h:Vj) (a:Vh) (xs:List Ent):Prop
 |mk (o es ep:_) (_:h.get? a=U o) (_:o.ExactDict) (_:o.data= .dict es ep) (_:es.toList=xs.map (entryOfKey kk)):vO h a xs
abbrev GC (xs:List Ent):List Vf:=xs.map (·.2.2)++xs.map λx=> .ref x.2.1
def SqA(h:Vj)(a:Vh)(c:Shp)(eo:Array Vf):Prop:=match c with
 | .of c=>∃o n,h.get? a=U o/\o.cls= .type c/\(c="tuple"\/o.dict=J/\o.slots=#[])/\o.data= .seq eo n
 | .dt ks=>(a==sysModules)=M/\ks.Nodup/\∃xs:List Ent,vO h a xs/\xs.map (·.1)=ks/\eo.toList=GC xs
 | .any=>∃o es ep,h.get? a=U o/\o.ExactDict/\o.data= .dict es ep
 | .ob C=>∃dx,h.get? a=U (PySem.W.instObj C dx)
 | .ex C=>∃dx vs sl,h.get? a=U {cls:= .ref C,dict:=U dx,data:= .fields vs,slots:=sl}/\eo=#[.ref dx]
 | .xn n=>∃m v,h.Ns1 a m/\m n=U v/\eo=#[v]
def qW(o:Vo):Prop:=o.cls= .type "tuple"/\∃eo n,o.data= .seq eo n
def ItO(o:Vo):Prop:=∃n vs,o.cls= .type n/\o.data= .fields vs
def Th(h:Vj)(a:Vh):Prop:=h.get? a≠J
inductive Rep (F:Vh->Prop) (h:Vj):D->Vf->Prop where
 |one {d u} (e:At d u):Rep F h d u
 |sq {d c ds a eo} (q:sqD d=U (c,ds)) (f:F a) (t:SqA h a c eo) (z:eo.size<=c.z) (l:ds.length=eo.size) (r:∀(i:Nat) d v,ds[i]? =U d->eo[i]? =U v->Rep F h d v):Rep F h d (.ref a)
def aP(F:Vh->Prop)(h:Vj)(ds:List D)(us:List Vf):Prop:=ds.length=us.length/\∀(i:Nat) d v,ds[i]? =U d->us[i]? =U v->Rep F h d v
inductive Top (F:Vh->Prop) (h:Vj) (d:D) (a:Vh):Prop
 |mk (c ds eo:_) (_:sqD d=U (c,ds)) (_:SqA h a c eo) (_:eo.size<=c.z) (_:aP F h ds eo.toList):Top F h d a
section
variable{F:Vh->Prop}{h:Vj}{d:D}{u:Vf}{ds:List D}{a:Vh}{c:Shp}{eo:Array Vf}
theorem SqA.keep{h' :Vj}(t:SqA h a c eo)(k:∀o,h.get? a=U o->¬ItO o->h'.get? a=U o):SqA h' a c eo:=match c,t with
 | .of _,⟨o,n,e,e1,e2,e3⟩=> ⟨o,n,k o e (λ⟨_,_,_,z⟩=>by rw[e3] at z;cases z),e1,e2,e3⟩
 | .any,⟨o,es,ep,e,e2,e3⟩=> ⟨o,es,ep,k o e (λ⟨_,_,_,z⟩=>by rw[e3] at z;cases z),e2,e3⟩
 | .ob _,⟨dx,e⟩=> ⟨dx,k _ e λ⟨_,_,_,z⟩=>by cases z⟩
 | .ex _,⟨dx,vs,sl,e,e1⟩=> ⟨dx,vs,sl,k _ e (λ⟨_,_,z,_⟩=>by cases z),e1⟩
 | .xn _,⟨m,v,⟨o,es,ep,e,e1,e2⟩,e3⟩=> ⟨m,v,⟨o,es,ep,k o e (λ⟨_,_,_,z⟩=>by rw[e1] at z;cases z),e1,e2⟩,e3⟩
 | .dt _,⟨e0,e1,xs,⟨o,es,ep,e,e2,e3,e4⟩,e5⟩=> ⟨e0,e1,xs,⟨o,es,ep,k o e (λ⟨_,_,_,z⟩=>by rw[e3] at z;cases z),e2,e3,e4⟩,e5⟩
theorem SqA.obj(t:SqA h a c eo):∃o,h.get? a=U o/\¬ItO o:=match c,t with
 | .of _,⟨o,_,e,_,_,e3⟩=> ⟨o,e,λ⟨_,_,_,z⟩=>by rw[e3] at z;cases z⟩
 | .any,⟨o,_,_,e,_,e3⟩=> ⟨o,e,λ⟨_,_,_,z⟩=>by rw[e3] at z;cases z⟩
 | .ob _,⟨_,e⟩=> ⟨_,e,λ⟨_,_,_,z⟩=>by cases z⟩
 | .ex _,⟨_,_,_,e,_⟩=> ⟨_,e,λ⟨_,_,z,_⟩=>by cases z⟩
 | .xn _,⟨_,_,⟨o,_,_,e,e1,_⟩,_⟩=> ⟨o,e,λ⟨_,_,_,z⟩=>by rw[e1] at z;cases z⟩
 | .dt _,⟨_,_,_,⟨o,_,_,e,_,e3,_⟩,_⟩=> ⟨o,e,λ⟨_,_,_,z⟩=>by rw[e3] at z;cases z⟩
def Th.of(e:h.get? a=U o):Th h a:=by unfold Th;rw[e];nofun
def SqA.th(t:SqA h a c eo):Th h a:=by obtain⟨_,e,_⟩:=t.obj;exact .of e
theorem Rep.keep{h' :Vj}(r:Rep F h d u)(k:∀b o,F b->h.get? b=U o->¬ItO o->F' b/\h'.get? b=U o):Rep F' h' d u:=by
 induction r with
 |one e=>exact .one e
 |sq q f t z l r ih=>
  have⟨o,e,n⟩:=t.obj;exact .sq q (k _ o f e n).1 (t.keep λo e i=>(k _ o f e i).2) z l ih
def Rep.imp(r:Rep F h d u)(k:∀b,F b->Th h b->F' b):Rep F' h d u:=r.keep λb _ f e _=> ⟨k b f (.of e),e⟩
theorem aP.keep{h' :Vj}(r:aP F h ds us)(k:∀b o,F b->h.get? b=U o->¬ItO o->F' b/\h'.get? b=U o):aP F' h' ds us:=⟨r.1,λi d v e1 e2=>(r.2 i d v e1 e2).keep k⟩
theorem Top.keep{h' :Vj}(t:Top F h d a)(k:∀b o,F b->h.get? b=U o->¬ItO o->F' b/\h'.get? b=U o)(ka:∀o,h.get? a=U o->¬ItO o->h'.get? a=U o):Top F' h' d a:=
 by obtain⟨c,ds,eo,q,t,z,r⟩:=t;exact⟨c,ds,eo,q,t.keep ka,z,r.keep k⟩
def Top.imp(t:Top F h d a)(k:∀b,F b->F' b):Top F' h d a:=t.keep (λb o f e _=> ⟨k b f,e⟩) λ_ e _=>e
def Top.rep(t:Top F h d a)(f:F a):Rep F h d (.ref a):=by
 refine hde λG fin=> ?_;obtain⟨c,ds,eo,q,t,z,l,r⟩:=t;exact fin (.sq q f t z (by simpa using l) λi d v e1 e2=>r i d v e1 (by simp_all))
def Inn(F T:Vh->Prop)(h:Vj)(d:D)(u:Vf):Prop:=At d u\/∃a,u= .ref a/\T a/\Top F h d a
def Rep.inn(r:Rep F h d u):Inn F F h d u:=by
 cases r with
 |one e=>exact .inl e
 |sq q f t z l r=>exact .inr ⟨_,rfl,f,_,_,_,q,t,z,by simpa using l,λi d v e1 e2=>r i d v e1 (by simp_all)⟩
section
variable{T:Vh->Prop}
theorem Inn.int(r:Inn F T h (.int i) u):∃t,u= .int i t:=by
 rcases r with e| ⟨_,_,_,_,_,_,q,_⟩
 .cases u<;>first|exact False.elim e|(cases e;exact⟨_,rfl⟩)
 .cases q
theorem Inn.str(r:Inn F T h (.str x) u):∃t,u= .str x t:=by
 rcases r with e| ⟨_,_,_,_,_,_,q,_⟩
 .cases u<;>first|exact False.elim e|(cases e;exact⟨_,rfl⟩)
 .cases q
theorem Inn.bl(r:Inn F T h (.bl b) u):u= .bool b:=by
 rcases r with e| ⟨_,_,_,_,_,_,q,_⟩
 .cases u<;>first|exact False.elim e|(cases e;rfl)
 .cases q
theorem Inn.non(r:Inn F T h .non u):u= .none:=by
 rcases r with e| ⟨_,_,_,_,_,_,q,_⟩
 .cases u<;>first|exact False.elim e|rfl
 .cases q
inductive SqR (F T:Vh->Prop) (h:Vj) (u:Vf) (c:Shp) (ds:List D):Prop
 |mk (a eo:_) (_:u= .ref a) (_:T a) (_:SqA h a c eo) (_:eo.size<=c.z) (_:aP F h ds eo.toList):SqR F T h u c ds
def Inn.sq(r:Inn F T h d u)(q:sqD d=U (c,ds)):SqR F T h u c ds:=by
 rcases r with e| ⟨a,e,t,_,_,eo,q',r1,r2,r3⟩
 .cases d<;>first|(cases q;done)|(cases u<;>exact False.elim e)
 .rw[q] at q';cases q';exact⟨a,eo,e,t,r1,r2,r3⟩
end
def aP.nil:aP F h [] []:=⟨rfl,λi d v e=>by simp at e⟩
theorem aP.cons{us:List Vf}(x:Rep F h d u)(r:aP F h ds us):aP F h (d::ds) (u::us):=⟨by simp[r.1],λi d v e1 e2=>by
 cases i with
 |zero=>cases e1;cases e2;exact x
 |succ i=>exact r.2 i d v e1 e2⟩
def aP.get{i:Nat}(r:aP F h ds us)(e:ds[i]? =U d):∃v,us[i]? =U v/\Rep F h d v:=by
 have hi:i<us.length:=by rw[<-r.1];exact(Gae.mp e).1
 exact⟨us[i],by simp,r.2 i d _ e (by simp)⟩
def aP.gM(r:aP F h (d::ds) us):∃v vs,us=v::vs/\Rep F h d v/\aP F h ds vs:=by
 cases us with
 |nil=>cases r.1
 |cons v vs=>exact⟨v,vs,rfl,r.2 0 d v rfl rfl,by simpa using r.1,λi x w e1 e2=>r.2 (i+1) x w e1 e2⟩
def aP.empty(r:aP F h [] us):us=[]:=Gdf r.1.symm
def aP.append(r:aP F h ds us)(q:aP F h es vs):aP F h (ds++es) (us++vs):=by
 induction ds generalizing us with
 |nil=>rw[r.empty];exact q
 |cons d ds ih=>obtain⟨v,ws,rfl,x,r⟩:=r.gM;exact(ih r).cons x
end
structure Mod(K:FrW)(mg:Str->Option Vf)(base:Vj):Prop where
 kin:K.In base
 glob:base.Ns mainGlobals mg
 blt:∃mb,base.Ns builtinsNs mb/\∀x:Str,x≠"__name__"->mb x=bootBuiltins x
 nolimit:base.NoLimit
abbrev f7:=PySem.Env
abbrev aM:=DL.Env
structure Ob where
 a:Vh
 dx:Vh
 C:Vh
 h:Nat
 fs:List (Str×Nat)
structure Cx where
 ob:List Ob
 K:FrW
 mg:Str->Option Vf
 base:Vj
 A:Vm
 N:List Str
 s₀:Vg
 env:f7
 outer:List f7
 stack:List f7
 ex:List Vh
 fn:Str->Bool
 calm:Bool
 ni:Bool
 bad:Vh->Prop
 xe:VSP
abbrev Cx.prog (_:Cx):Vn:=Wd.p
abbrev Cx.w (_:Cx):World:=Wd.w
def frs(l:List f7):List Vh:=l.filterMap (·.frame)
abbrev wpX {α:Type} (X:Cx) (m:Sem α) (Q:α->Vg->Prop) (E:VSP) (s:Vg):Prop:=wpAny (model X.prog X.w) X.A m Q E s
abbrev Cx.fs (X:Cx):List Vh:=frs X.outer
def Vis(sc:Vp)(x:Str):Prop:=sc.names.lookup x=U .local\/sc.names.lookup x=U .cell\/sc.names.lookup x=U .free
def Loc(X:Cx)(x:Str):Prop:=(X.env.scope.names.lookup x=U .local\/X.env.scope.names.lookup x=U .cell)/\∀o∈X.ob,X.N[o.h]? ≠U x
def Look(env:f7)(h:Vj)(m:Str->Option Vf)(x:Str)(u:Vf):Prop:=
 (env.kindOf x=U .local/\m x=U u)\/((env.kindOf x=U .cell\/env.kindOf x=U .free)/\∃c,env.cells.lookup x=U c/\h.IsCell c (U u))
def Cx.frm(X:Cx)(b:Vh):Prop:=b=X.env.locals\/b∈X.fs
def Cx.vol(X:Cx)(b:Vh):Prop:=X.frm b\/∃x,X.env.cells.lookup x=U b
structure Cx.Ok(X:Cx):Prop where
 mod:Mod X.K X.mg X.base
 kind:X.env.scope.kind= .function
 glob:X.env.globals=mainGlobals
 blt:X.env.builtins=builtinsNs
 above:X.s₀.heap.get? X.env.locals=J
 inj:∀x y c,X.env.cells.lookup x=U c->X.env.cells.lookup y=U c->x=y
 has:∀x,(X.env.kindOf x=U .cell\/X.env.kindOf x=U .free)->∃c,X.env.cells.lookup x=U c
 cab:∀x c,X.fn x=O->X.env.cells.lookup x=U c->X.s₀.heap.get? c=J
 hd:X.calm=O->X.A.handled=J
 frames:X.A.frames=U X.stack
 stk:X.stack=X.outer\/(X.stack=X.env::X.outer/\X.env.frame=U X.env.locals)
 exf:∀b∈X.ex,¬X.vol b
 bs:∀b o,X.base.get? b=U o->X.s₀.heap.get? b=U o
 Jj:∀b o,X.base.get? b=U o->b∉X.ex
 lG:X.s₀.heap.FunFrames X.base X.outer
 vb:∀b,X.vol b->X.bad b
 cf:∀x c,X.env.cells.lookup x=U c->c∉X.fs
 ob:∀o∈X.ob,X.bad o.dx/\¬X.vol o.dx/\¬X.vol o.a/\∀n i,(n,i)∈o.fs->∀x,X.N[i]? =U x->¬Vis X.env.scope x
def ud(e:aM)(Z:Nat->Vf)(h:Vj)(o:Ob):Prop:=h.get? o.a=U (PySem.W.instObj o.C o.dx)/\o.dx≠o.a/\(Z o.h= .ref o.a/\∃t,e[o.h]? =U (U t))/\∃mA,h.Ns1 o.dx mA/\(∀n,mA n≠J->n∈o.fs.map (·.1))/\∀n i,(n,i)∈o.fs->((∃t,e[i]? =U (U t))->mA n=U (Z i))/\((¬∃t,e[i]? =U (U t))->mA n=J)
def ud.keep{h h' :Vj}{o:Ob}(x:ud e Z h o)(ka:∀b,h.get? o.a=U b->h'.get? o.a=U b)(kd:∀b,h.get? o.dx=U b->h'.get? o.dx=U b)(kh:Z' o.h=Z o.h/\((∃t,e'[o.h]? =U (U t))↔∃t,e[o.h]? =U (U t)))(ke:∀n i,(n,i)∈o.fs->Z' i=Z i/\((∃t,e'[i]? =U (U t))↔∃t,e[i]? =U (U t))):ud e' Z' h' o:=by
 refine hde λG fin=> ?_;obtain⟨e1,e2,⟨e5,e6⟩,mA,⟨ob,es,ep,g,r⟩,e3,e4⟩:=x;refine fin (⟨ka _ e1,e2,⟨kh.1.trans e5,kh.2.mpr e6⟩,mA,⟨ob,es,ep,kd _ g,r⟩,e3,λn i m=>(hde λG fin=> ?_)⟩);obtain⟨k1,k2⟩:=ke n i m;refine fin ?_;rw[k1,k2];exact e4 n i m
def ud.same(x:ud e Z h o)(ke:∀i:Nat,(∃t,e'[i]? =U (U t))↔∃t,e[i]? =U (U t)):ud e' Z h o:=x.keep (λ_ g=>g) (λ_ g=>g) ⟨rfl,ke _⟩ λ_ i _=> ⟨rfl,ke i⟩
def qX:Option (Option Slot)->Prop
 |some (U (.own _))=>True
 |_=>False
def lF:Option (Option Slot)->Prop
 |some (U (.own _))=>True
 |some (U (.lok _))=>True
 |_=>False
def ba:Option (Option Slot)->Prop
 |some (U (.sh _))=>False
 |some (U _)=>True
 |_=>False
abbrev Vl:=Nat->Vf
def Cln(X:Cx)(e:aM)(Z:Vl)(b:Vh):Prop:=¬X.bad b/\∀i:Nat,ba e[i]? ->Z i≠ .ref b
def Own(e:aM)(Z:Vl)(b:Vh):Prop:=∃i:Nat,qX e[i]? /\Z i= .ref b
def Slt(F:Vh->Prop)(X:Cx)(h:Vj)(u:Vf):Slot->Prop
 | .sh d=>Rep F h d u
 | .own d=>d.top=O/\∃a,u= .ref a/\X.s₀.heap.get? a=J/\¬X.bad a/\Top F h d a
 | .lok d=>d.top=O/\∃a,u= .ref a/\X.s₀.heap.get? a=J/\¬X.bad a/\Top F h d a
 | .bor d=>d.top=O/\∃a,u= .ref a/\¬X.bad a/\Top F h d a
structure Inv(X:Cx)(e:aM)(Z:Vl)(s:Vg):Prop where
 ok:X.Ok
 os:s.os=X.s₀.os
 bare:AllBare s.gens
 base:∀b o,X.s₀.heap.get? b=U o->b∉X.fs->b∉X.ex->s.heap.get? b=U o
 slot:∀b o,X.s₀.heap.get? b=U o->b∈X.fs->∃sl,s.heap.get? b=U {o with slots:=sl}
 loc:∃m,s.heap.Ns X.env.locals m/\∀(i:Nat) x,X.N[i]? =U x->(∃t,e[i]? =U (U t))->Vis X.env.scope x->Look X.env s.heap m x (Z i)
 cell:∀x c,X.env.cells.lookup x=U c->∃v,s.heap.IsCell c v
 sl:∀(i:Nat) t,e[i]? =U (U t)->Slt (Cln X e Z) X s.heap (Z i) t
 dj:∀(i j:Nat) a,lF e[i]? ->ba e[j]? ->Z i= .ref a->Z j= .ref a->i=j
 len:e.length=X.N.length
 bt:∀b,X.bad b->Th s.heap b
 th0:∀b,Th X.s₀.heap b->Th s.heap b
 bt2:∀b o,X.bad b->s.heap.get? b=U o->¬qW o
 fl:∀o∈X.ob,ud e Z s.heap o
structure Ex0(X:Cx)(W:Vh->Prop)(s s' :Vg):Prop where
 os:s'.os=s.os
 bare:AllBare s.gens->AllBare s'.gens
 keep:∀b o,s.heap.get? b=U o->¬X.frm b->¬W b->s'.heap.get? b=U o
 slot:∀b o,s.heap.get? b=U o->X.frm b->∃sl,s'.heap.get? b=U {o with slots:=sl}
structure Ext(X:Cx)(W:Vh->Prop)(s s' :Vg):Prop where
 ex:Ex0 X W s s'
 th:∀b,Th s.heap b->Th s'.heap b
def isB:Slot->Prop
 | .lok _=>True
 | .bor _=>True
 |_=>False
structure Stp(X:Cx)(W:Vh->Prop)(e:aM)(Z:Vl)(s:Vg)(e' :aM)(Z' :Vl)(s' :Vg):Prop where
 keep:∀b o,s.heap.get? b=U o->¬X.vol b->¬Own e Z b->¬W b->s'.heap.get? b=U o
 own:∀b,Own e' Z' b->Own e Z b\/s.heap.get? b=J
 cl:∀b,Cln X e Z b->Th s.heap b->Cln X e' Z' b
 lk:∀i t,isB t->e'[i]? =U (U t)->e[i]? =U (U t)/\Z' i=Z i
 th:∀b,Th s.heap b->Th s'.heap b
abbrev No:Vh->Prop:=λ_=>False
theorem Ext.keep{X:Cx}{s s' :Vg}(x:Ext X W s s'):∀b o,s.heap.get? b=U o->¬X.frm b->¬W b->s'.heap.get? b=U o:=x.ex.keep
def Ext.refl:Ext X W s s:=⟨⟨rfl,id,λ_ _ e _ _=>e,λ_ o e _=> ⟨_,e⟩⟩,λ_ t=>t⟩
theorem Ext.trans(x:Ext X W s s1)(y:Ext X W s1 s2):Ext X W s s2:=
 ⟨⟨y.ex.os.trans x.ex.os,λb=>y.ex.bare (x.ex.bare b),λb o e v w=>y.keep b o (x.keep b o e v w) v w,λb o e v=>by obtain⟨_,e⟩:=x.ex.slot b o e v;obtain⟨sl,e⟩:=y.ex.slot b _ e v;exact⟨sl,e⟩⟩,λb t=>y.th b (x.th b t)⟩
theorem Stp.trans(x:Stp X W e Z s e' Z' s1)(y:Stp X W e' Z' s1 e2 Z2 s2):Stp X W e Z s e2 Z2 s2:=by
 refine⟨λb o g v w n=>y.keep b o (x.keep b o g v w n) v (λz=> ?_) n,λb z=> ?_,λb c l=>y.cl b (x.cl b c l) (x.th b l),λi d w g=> ?_,λb t=>y.th b (x.th b t)⟩
 .exact(x.own b z).elim w λl=>by rw[g] at l;cases l
 .exact(y.own b z).elim (x.own b) λl=> .inr (GaO λn=>x.th b n l)
 .have⟨g1,g2⟩:=y.lk i d w g;have⟨g3,g4⟩:=x.lk i d w g1;exact⟨g3,g2.trans g4⟩
def Ext.stp(x:Ext X W s s'):Stp X W e Z s e Z s' :=⟨λb o g v _ n=>x.keep b o g (λz=>v (.inl z)) n,λ_ z=> .inl z,λ_ c _=>c,λ_ _ _ g=> ⟨g,rfl⟩,x.th⟩
theorem Stp.refl:Stp X W e Z s e Z s:=Ext.refl.stp
theorem Slt.keep{X:Cx}{h h' :Vj}(q:Slt F X h u t)(k:∀b o,F b->h.get? b=U o->¬ItO o->F' b/\h'.get? b=U o)(ka:∀a o,¬X.bad a->u= .ref a->h.get? a=U o->¬ItO o->h'.get? a=U o):Slt F' X h' u t:=by
 cases t with
 |sh d=>exact Rep.keep q k
 |own d=>have⟨tp,a,e,h1,h2,h4⟩:=q;exact⟨tp,a,e,h1,h2,h4.keep k λo=>ka a o h2 e⟩
 |lok d=>have⟨tp,a,e,h1,h2,h4⟩:=q;exact⟨tp,a,e,h1,h2,h4.keep k λo=>ka a o h2 e⟩
 |bor d=>have⟨tp,a,e,h1,h2⟩:=q;exact⟨tp,a,e,h1,h2.keep k λo=>ka a o h1 e⟩
theorem Inv.lG{X:Cx}{s:Vg}(I:Inv X e Z s):s.heap.FunFrames X.base X.outer:=by
 have all:∀l,(∀b∈frs l,b∈X.fs)->X.s₀.heap.FunFrames X.base l->s.heap.FunFrames X.base l:=by
  intro l;induction l with
  |nil=>intro _ _;trivial
  |cons env r ih=>
   intro hs ⟨hk,⟨L,o,hf,hn,ho,hd⟩,hr⟩;have⟨sl,g⟩:=I.slot L o ho (hs L (by unfold frs;rw[Gev,hf];exact Gai));exact⟨hk,⟨L,_,hf,hn,g,hd⟩,ih (λb hb=>hs b (by unfold frs;rw[Gev,hf];exact Gaf _ hb)) hr⟩
 exact all _ (λ_ hb=>hb) I.ok.lG
theorem Inv.stack{X:Cx}{s:Vg}(I:Inv X e Z s):s.heap.FunFrames X.base X.stack:=by
 rcases I.ok.stk with g| ⟨g,hf⟩
 .rw[g];exact I.lG
 .rw[g];have⟨m,hn,_⟩:=I.loc;exact .cons (by rw[I.ok.kind];decide) hf hn (by cases g:X.base.get? _ with|none=>rfl|some o=>have:=I.ok.bs _ o g;rw[I.ok.above] at this;cases this) I.lG
def Inv.cA{X:Cx}(I:Inv X e Z s):∀b∈frs X.stack,b=X.env.locals\/b∈X.fs:=λb hb=>by
 rcases I.ok.stk with g| ⟨g,hf⟩
 .simp_all
 .rw[g] at hb;unfold frs at hb;rw[Gev,hf] at hb;exact Gaq.mp hb
def Cx.Ok.Qb{X:Cx}(ok:X.Ok)(g:X.base.get? b=U o):b∉X.fs:=λhb=>by
 have:=(ok.lG.mem hb).1;lia
def Inv.bk{X:Cx}{s:Vg}(I:Inv X e Z s):∀b o,X.base.get? b=U o->s.heap.get? b=U o:=λb o g=>I.base b o (I.ok.bs b o g) (I.ok.Qb g) (I.ok.Jj b o g)
def Inv.kIn{X:Cx}{s:Vg}(I:Inv X e Z s):X.K.In s.heap:=I.ok.mod.kin.keeps I.bk
def Inv.ex0{X:Cx}{s s' :Vg}(I:Inv X e Z s)(x:Ex0 X W s s')(tb:∀b,X.bad b->Th s'.heap b)(t0:∀b,Th X.s₀.heap b->Th s'.heap b)(hW:∀b,W b->(b∈X.ex\/X.s₀.heap.get? b=J)/\¬X.bad b/\∀o,s.heap.get? b=U o->ItO o):Inv X e Z s' :=by
 have nW:∀b o,¬ItO o->s.heap.get? b=U o->¬W b:=λb o n g z=>n ((hW b z).2.2 o g);have nb:∀b,¬X.bad b->¬X.frm b:=λb n v=>n (I.ok.vb b (.inl v));have ck:∀x c v,X.env.cells.lookup x=U c->s.heap.IsCell c v->s'.heap.IsCell c v:=λy c v l yy=>by
  obtain⟨o,g,z⟩:=yy;by_cases f:X.frm c
  .have⟨_,g⟩:=x.slot c o g f;exact⟨_,g,z⟩
  .exact⟨o,x.keep c o g f (nW c o (λ⟨_,_,_,q⟩=>by rw[z] at q;cases q) g),z⟩
 refine⟨I.ok,x.os.trans I.os,x.bare I.bare,λb o g f ne=> ?_,λb o g f=> ?_, ?_,λy c l=> ?_,λi t g=>(I.sl i t g).keep (λb o f g n=> ⟨f,x.keep b o g (nb b f.1) (nW b o n g)⟩) λa o n _ g i=>x.keep a o g (nb a n) (nW a o i g),I.dj,I.len,tb,t0,λb o' z g' => ?_,λo ho=>(I.fl o ho).keep (λb g=>x.keep o.a b g (λz=>(I.ok.ob o ho).2.2.1 (.inl z)) λz=>by
  obtain⟨_,_,_,q⟩:=(hW _ z).2.2 b g;rw[(I.fl o ho).1] at g;cases g;cases q) (λb g=>x.keep o.dx b g (λz=>(I.ok.ob o ho).2.1 (.inl z)) λz=>(hW _ z).2.1 (I.ok.ob o ho).1) ⟨rfl,.rfl⟩ λ_ _ _=> ⟨rfl,.rfl⟩⟩
 .exact x.keep b o (I.base b o g f ne) (λv=>v.elim (λz=>by rw[z,I.ok.above] at g;cases g) f) λz=>(hW b z).1.elim ne λl=>by rw[g] at l;cases l
 .have⟨sl,g1⟩:=I.slot b o g f;have⟨sl,g2⟩:=x.slot b _ g1 (.inr f);exact⟨sl,g2⟩
 .have⟨m,⟨o,es,ep,g,r⟩,lk⟩:=I.loc;have⟨sl,g'⟩:=x.slot _ o g (.inl rfl);exact⟨m,⟨_,es,ep,g',r⟩,λi y h1 h2 h3=>(lk i y h1 h2 h3).imp id λyz=>by obtain⟨k,c,l,z⟩:=yz;exact⟨k,c,l,ck y c _ l z⟩⟩
 .have⟨v,z⟩:=I.cell y c l;exact⟨v,ck y c v l z⟩
 .cases g:s.heap.get? b with
  |none=>exact absurd g (I.bt b z)
  |some o=>
   by_cases f:X.frm b
   .have⟨sl,q⟩:=x.slot b o g f;rw[q] at g';cases g';exactλt=>I.bt2 b o z g t
   .rw[x.keep b o g f λw=>(hW b w).2.1 z] at g';cases g';exact I.bt2 b _ z g
def Inv.ext{X:Cx}{s:Vg}(I:Inv X e Z s)(x:Ext X W s s')(hW:∀b,W b->(b∈X.ex\/X.s₀.heap.get? b=J)/\¬X.bad b/\∀o,s.heap.get? b=U o->ItO o):Inv X e Z s' :=I.ex0 x.ex (λb z=>x.th b (I.bt b z)) (λb z=>x.th b (I.th0 b z)) hW
end
section
variable [Wd]
def cM(X:Cx)(e:aM)(Z:Vl)(s s' :Vg)(r:RV)(u:Vf):Prop:=
 match r.k with
 | .c=>Rep (Cln X e Z) s'.heap r.d u
 | .tn=>r.d.top=O/\∃a,u= .ref a/\s.heap.get? a=J/\Top (λb=>Cln X e Z b/\b≠a) s'.heap r.d a
 | .to=>r.d.top=O/\∃a,u= .ref a/\X.s₀.heap.get? a=J/\¬X.bad a/\Top (λb=>Cln X e Z b/\b≠a) s'.heap r.d a
 | .tb=>r.d.top=O/\∃a,u= .ref a/\¬X.bad a/\¬Own e Z a/\Top (Cln X e Z) s'.heap r.d a
abbrev InE (X:Cx) (e:aM) (Z:Vl) (s:Vg) (d:D) (u:Vf):Prop:=Inn (Cln X e Z) (λa=>¬X.bad a/\(d.top=M->Cln X e Z a)) s.heap d u
def PE(X:Cx)(e:Vi)(f:DE):Prop:=∀env Z s r,Inv X env Z s->f env=U r->wpX X (eval e X.env) (λu s' =>Ext X No s s' /\cM X env Z s s' r u) X.xe s
def PT(X:Cx)(e:Vi)(t:DT):Prop:=∀env Z s b,Inv X env Z s->t env=U b->wpX X (isTrue e X.env (eval e X.env)) (λc s' =>c=b/\Ext X No s s') X.xe s
def PW(X:Cx)(e:Vi)(t:DT):Prop:=∀whole env Z s b,Inv X env Z s->t env=U b->wpX X (isTrue e X.env whole) (λc s' =>c=b/\Ext X No s s') X.xe s
def PA(X:Cx)(es:List Vi)(a:DA):Prop:=∀pos env Z s rs,Inv X env Z s->a env=U rs->wpX X (spliced (backTo pos (starEach es X.env))) (λus s' =>Ext X No s s' /\Paired (cM X env Z s s') rs us) X.xe s
section
variable{X:Cx}{env:aM}{Z:Vl}{s s' :Vg}{r:RV}{u v:Vf}
def Inv.exp(I:Inv X env Z s)(x:Ext X No s s'):Inv X env Z s' :=I.ext x λ_ z=>z.elim
def Inv.ri(I:Inv X env Z s)(h:ba env[j]?):∃a,Z j= .ref a/\Th s.heap a/\¬X.bad a:=by
 have th:∀{d a},Top (Cln X env Z) _ d a->Th s.heap a:=λeU=>by obtain⟨_,_,_,_,t,_⟩:=eU;exact t.th
 match q:env[j]?,h with
 |some (U (.own d)),_=>obtain⟨_,a,h1,_,h2,h3⟩:=I.sl j _ q;exact⟨a,h1,th h3,h2⟩
 |some (U (.lok d)),_=>obtain⟨_,a,h1,_,h2,h3⟩:=I.sl j _ q;exact⟨a,h1,th h3,h2⟩
 |some (U (.bor d)),_=>obtain⟨_,a,h1,h2,h3⟩:=I.sl j _ q;exact⟨a,h1,th h3,h2⟩
def Inv.cl(I:Inv X env Z s)(h:s.heap.get? b=J):Cln X env Z b:=
 ⟨λz=>I.bt b z h,λi t e=>by obtain⟨a,e2,th,_⟩:=I.ri t;rw[e] at e2;cases e2;exact th h⟩
def qX.ol(h:qX q):lF q:=by
 match q,h with
 |some (U (.own _)),_=>trivial
def Inv.vP(I:Inv X env Z s)(t:ba env[i]?)(e:Z i= .ref a)(n:¬qX env[i]?):¬Own env Z a:=λxI=>by obtain⟨j,h1,h2⟩:=xI;exact n (I.dj j i a h1.ol t h2 e▸h1)
def Inv.n0(I:Inv X env Z s)(h:s.heap.get? b=J):X.s₀.heap.get? b=J:=GaO λn=>I.th0 b n h
def Ext.n0(x:Ext X No s s')(h:s'.heap.get? b=J):s.heap.get? b=J:=GaO λn=>x.th b n h
def aJ{h:Vj}:h.get? h.objs.size=J:=Gbc (GaN _)
def Ext.nf(I:Inv X env Z s)(x:Ext X No s s')(n:¬X.bad b)(g:s.heap.get? b=U o):s'.heap.get? b=U o:=x.keep b o g (λz=>n (I.ok.vb b (.inl z))) id
def cM.later(h:cM X env Z s s1 r u)(I:Inv X env Z s)(I1:Inv X env Z s1)(x:Ext X No s1 s2):cM X env Z s s2 r u:=by
 obtain⟨k,d⟩:=r;have ck:∀{F:Vh->Prop},(∀b,F b->¬X.bad b)->∀b o,F b->s1.heap.get? b=U o->¬ItO o->F b/\s2.heap.get? b=U o:=λhF b o f g _=> ⟨f,Ext.nf I1 x (hF b f) g⟩;cases k with
 |c=>exact Rep.keep h (ck λb z=>z.1)
 |tn=>have⟨tp,a,e,h1,h3⟩:=h;exact⟨tp,a,e,h1,h3.keep (ck λb z=>z.1.1) λo g _=>Ext.nf I1 x (I.cl h1).1 g⟩
 |to=>have⟨tp,a,e,h1,h2,h4⟩:=h;exact⟨tp,a,e,h1,h2,h4.keep (ck λb z=>z.1.1) λo g _=>Ext.nf I1 x h2 g⟩
 |tb=>have⟨tp,a,e,h1,h0,h2⟩:=h;exact⟨tp,a,e,h1,h0,h2.keep (ck λb z=>z.1) λo g _=>Ext.nf I1 x h1 g⟩
def cM.from(x:Ext X No s s1)(h:cM X env Z s1 s2 r u):cM X env Z s s2 r u:=by
 obtain⟨k,d⟩:=r;cases k with
 |tn=>have⟨tp,a,e,h1,h2⟩:=h;exact⟨tp,a,e,x.n0 h1,h2⟩
 |_=>exact h
theorem cM.inn(h:cM X env Z s s' r u)(I:Inv X env Z s):InE X env Z s' r.d u:=by
 obtain⟨k,d⟩:=r;have nt:d.top=O->∀{P:Prop},d.top=M->P:=λt _ f=>by rw[t] at f;cases f
 cases k with
 |c=>exact(Rep.inn h).imp id λ⟨a,e,h1,h2⟩=> ⟨a,e,⟨h1.1,λ_=>h1⟩,h2⟩
 |tn=>have⟨tp,a,e,h1,h2⟩:=h;exact .inr ⟨a,e,⟨(I.cl h1).1,nt tp⟩,h2.imp λb z=>z.1⟩
 |to=>have⟨tp,a,e,h1,h2,h3⟩:=h;exact .inr ⟨a,e,⟨h2,nt tp⟩,h3.imp λb z=>z.1⟩
 |tb=>have⟨tp,a,e,h1,_,h2⟩:=h;exact .inr ⟨a,e,⟨h1,nt tp⟩,h2⟩
theorem cM.rep(h:cM X env Z s s' r u)(I:Inv X env Z s)(hf:r.free=O):Rep (Cln X env Z) s'.heap r.d u:=by
 obtain⟨k,d⟩:=r;cases k with
 |c=>exact h
 |tn=>have⟨_,a,e,h1,h2⟩:=h;subst e;exact(h2.imp λb z=>z.1).rep (I.cl h1)
 |to=>cases hf
 |tb=>cases hf
def Inv.kept{h' :Vj}(I:Inv X env Z s)(k:∀b o,s.heap.get? b=U o->h'.get? b=U o)(t:Nat):Ext X No s {s with heap:=h',toks:=t}:=
 ⟨⟨rfl,id,λb o g _ _=>k b o g,λb p g _=> ⟨_,k b p g⟩⟩,λb t=>by cases g:s.heap.get? b with|none=>exact absurd g t|some o=>exact .of (k b o g)⟩
theorem Inv.push(I:Inv X env Z s)(o:Vo)(t:Nat):Ext X No s {s with heap:=s.heap.push o,toks:=t}:=I.kept (λ_ _ g=>Gag _ g) t
def Ext.tok(t:Nat):Ext X No s {s with toks:=t}:=⟨⟨rfl,id,λ_ _ g _ _=>g,λ_ p g _=> ⟨_,g⟩⟩,λ_ t=>t⟩
def fF(I:Inv X env Z s)(h:∃t,env[i]? =U (U t))(hN:X.N[i]? =U x)(hv:Vis X.env.scope x)(hd:(x==Dgs)=M)(eO:(x==("__classdict__":Str))=M)(fin:Q (Z i) s):wpX X (eval (.Name x pos) X.env) Q E s:=by
 obtain⟨m,hn,hl⟩:=I.loc;rcases hl i x hN h hv with⟨hk,hm⟩| ⟨hk,c,hc,xR⟩
 .exact wpAny_Name (Gel I.ok.kind hk hn hm fin) hd
 .rcases hk with hk|hk
  .exact wpAny_Name (wpAny_loadName_cell I.ok.kind hk hc xR fin) hd
  .exact wpAny_Name (wpAny_loadName_free I.ok.kind hk hc xR fin eO) hd
def K2(i:Nat)(hN:X.N[i]? =U x)(hv:Vis X.env.scope x)(hd:autoParam ((x==Dgs)=M) Za2._auto_1)(eO:autoParam ((x==("__classdict__":Str))=M) Za2._auto_1):PE X (.Name x pos) (vE i):=by
 intro env Z s r I e;have:(∃t,env[i]? =U (U t))/\cM X env Z s s r (Z i):=by
  unfold vE at e
  match q:env[i]?,e with
  |some (U (.sh d)),e=>cases e;exact⟨⟨_,rfl⟩,I.sl i _ q⟩
  |some (U (.own d)),e=>cases e;have⟨tp,a,h1,h2,h3,h5⟩:=I.sl i _ q;exact⟨⟨_,rfl⟩,tp,a,h1,h2,h3,h5.imp λb z=> ⟨z,λn=>z.2 i (by rw[q];trivial) (n▸h1)⟩⟩
  |some (U (.lok d)),e=>cases e;have⟨tp,a,h1,h2,h3,h5⟩:=I.sl i _ q;exact⟨⟨_,rfl⟩,tp,a,h1,h3,I.vP (by rw[q];trivial) h1 (by rw[q];exact id),h5⟩
  |some (U (.bor d)),e=>cases e;have⟨tp,a,h1,h3,h5⟩:=I.sl i _ q;exact⟨⟨_,rfl⟩,tp,a,h1,h3,I.vP (by rw[q];trivial) h1 (by rw[q];exact id),h5⟩
 exact fF I this.1 hN hv hd eO ⟨.refl,this.2⟩
def D4:PE X (.Constant (.int i) j pos) (kE (.int i)):=λ_ _ _ _ _ e=>by cases e;exact wpAny_Constant_int ⟨.tok _,.one rfl⟩
def NH:PE X (.Constant (.bool b) j pos) (kE (.bl b)):=λ_ _ _ _ _ e=>by cases e;exact Constant_bool ⟨.refl,.one rfl⟩
def K3:PE X (.Constant .none j pos) (kE .non):=λ_ _ _ _ _ e=>by cases e;exact Constant_none ⟨.refl,.one trivial⟩
def K4:PE X (.Constant (.str x) j pos) (kE (.str x)):=λ_ _ _ _ _ e=>by cases e;exact Calls.Constant_str ⟨.tok _,.one rfl⟩
def Gl(X:Cx)(x:Str):Prop:=X.env.kindOf x=U .globalImplicit
def je(I:Inv X env Z s)(hg:Gl X x)(hm:X.mg x=U u)(h:Q u s)(hd:autoParam ((x==Dgs)=M) Za2._auto_1):wpX X (eval (.Name x pos) X.env) Q E s:=
 GcG I.ok.kind hg (Calls.loadGlobal_global (by rw[I.ok.glob];exact I.ok.mod.glob.keeps I.bk) hm h) hd
def jf(I:Inv X env Z s)(hg:Gl X x)(hm:X.mg x=J)(hv:bootBuiltins x=U u)(h:Q u s)(hn:autoParam (x≠"__name__") Za2._auto_1)(hd:autoParam ((x==Dgs)=M) Za2._auto_1):wpX X (eval (.Name x pos) X.env) Q E s:=
 have⟨_,h1,h2⟩:=I.ok.mod.blt
 GcG I.ok.kind hg (Calls.loadGlobal_builtin (by rw[I.ok.glob];exact I.ok.mod.glob.keeps I.bk) hm (by rw[I.ok.blt];exact h1.keeps I.bk) ((h2 x hn).trans hv) h) hd
def bin{a b:Vi}{f g:DE}{fn:Vf->Vf->Sem Vf}{x y:RV}(ha:PE X a f)(hb:PE X b g)(I:Inv X env Z s)(hx:f env=U x)(hy:g env=U y)
  (k:∀v u s2,Ext X No s s2->Inv X env Z s2->InE X env Z s2 x.d v->InE X env Z s2 y.d u->wpX X (fn v u) Q X.xe s2):
  wpX X (eval a X.env) (λv s₁=>wpX X (eval b X.env) (λu s₂=>wpX X (fn v u) Q X.xe s₂) X.xe s₁) X.xe s:=
 thn (ha env Z s x I hx) λv s1 yx=>by obtain⟨x1,r1⟩:=yx;exact thn (hb env Z s1 y (I.exp x1) hy) λu s2 yy=>by obtain⟨x2,r2⟩:=yy;exact k v u s2 (x1.trans x2) (I.exp (x1.trans x2)) ((r1.later I (I.exp x1) x2).inn I) (r2.inn (I.exp x1))
def ue(X:Cx)(fn:Vf->Vf->Sem Vf)(o:D->D->Option RV):Prop:=∀env Z s x y v u r,Inv X env Z s->InE X env Z s x v->InE X env Z s y u->o x y=U r->wpX X (fn v u) (λw s' =>Ext X No s s' /\cM X env Z s s' r w) X.xe s
def rm(ho:ue X (binaryOp op) o)(ha:PE X a f)(hb:PE X b g):PE X (.BinOp a op b pos) (Ve o f g):=λenv Z s r I e=>
 a6 e λx hx e=>a6 e λy hy e=>wpAny_BinOp (bin ha hb I hx hy λv u s2 x1 I2 i1 i2=>thn (ho env Z s2 _ _ v u r I2 i1 i2 e) λw s3 zD=>by obtain⟨x2,h⟩:=zD;exact⟨x1.trans x2,h.from x1⟩)
def opI{fn:Vf->Vf->Sem Vf}{o:D->D->Option RV}{C:Int->Int->Prop}{gi:Int->Int->Int}(h:∀x y r,o x y=U r->∃i j,x= .int i/\y= .int j/\C i j/\r=⟨.c,.int (gi i j)⟩)
  (rule:∀(i j:Int) t u s Q E,C i j->Q (.int (gi i j) s.toks) {s with toks:=s.toks+1}->wpX X (fn (.int i t) (.int j u)) Q E s):ue X fn o:=by
 intro env Z s x y v u r I i1 i2 e;obtain⟨i,j,rfl,rfl,c,rfl⟩:=h x y r e;obtain⟨t,rfl⟩:=i1.int;obtain⟨t',rfl⟩:=i2.int;exact rule i j t t' s _ _ c ⟨.tok _,.one rfl⟩
def K5:ue X (binaryOp .Sub) ip:=opI (C:=λ_ _=>True) (λx y r e=>by unfold ip at e;split at e<;>simp_all) λ_ _ _ _ _ _ _ _ q=>sub_int q
def K6:ue X (binaryOp .Mod) nV:=opI (C:=λ_ j=>0<j) (gi:=λi j=>i%j) (λx y r e=>by unfold nV at e;split at e<;>simp_all) λi j _ _ _ _ _ hc q=>mod_int' (by lia) (by rw[Int.fmod_eq_emod_of_nonneg i (by exact Gbk ‹_›)];exact q)
def GF:ue X (binaryOp .FloorDiv) jG:=opI (C:=λ_ j=>0<j/\j<1073741824) (gi:=λi j=>i/j) (λx y r e=>by unfold jG at e;split at e<;>simp_all) λi j _ _ _ _ _ hc q=>
 floordiv_int (by lia) (by rw[Int.fdiv_eq_ediv_of_nonneg i (by lia)];exact q) (.inl (PyProof.noPylong_small (by lia)))
end
end
section
variable [Wd]
def JA(h:SeqAt.RcAt A s u v k)(hf:∀b t,u≠ .float b t)(hi:u=v->k=O):SeqAt.EqAt A s u v k:=λprog w E Q hq=>by
 refine GbB (wpAny_ite_split (λUd=> ?_) λ_=> ?_)
 .have:=hi (eq_of_beq Ud);subst this;exact Gad (Gct (Gao hq))
 .cases u<;>first|exact absurd rfl (hf _ _)|exact Gad (h prog w E _ (Gbv hq))
def SqA.tup{h:Vj}(t:SqA h a "tuple" eo):h.IsTuple a eo:=by obtain⟨o,n,e,e1,_,e3⟩:=t;exact⟨o,e,e1,n,e3⟩
def SqA.lst(t:SqA h a "list" eo):PlainL h a eo:=by obtain⟨o,n,e,e1,e2,e3⟩:=t;exact⟨o,n,e,e1,(e2.resolve_left (by decide)).1,e3⟩
def SqA.ex{h:Vj}(t:SqA h a "list" eo):∃n,h.get? a=U {cls:= .type "list",data:= .seq eo n}:=by
 refine hde λG fin=> ?_;obtain⟨⟨_,_,_,_⟩,n,e,rfl,e2,rfl⟩:=t;obtain⟨rfl,rfl⟩:=e2.resolve_left (by decide);exact fin (⟨n,e⟩)
def SqA.inj{a:Vh}{c:String}(t:SqA h a c x)(q:SqA h a c' y):c' = .of c/\x=y:=by
 obtain⟨o,n,e,e1,_,e3⟩:=t;cases c' with
 |of _=>obtain⟨o',n',e',zZ,_,yq⟩:=q;rw[e] at e';cases e';rw[e1] at zZ;rw[e3] at yq;cases zZ;cases yq;exact⟨rfl,rfl⟩
 |dt _=>obtain⟨_,_,_,⟨o',_,_,e',_,yq,_⟩,_⟩:=q;rw[e] at e';cases e';rw[e3] at yq;cases yq
 |any=>obtain⟨o',_,_,e',_,yq⟩:=q;rw[e] at e';cases e';rw[e3] at yq;cases yq
 |ob _=>obtain⟨_,e'⟩:=q;rw[e] at e';cases e';cases e3
 |ex _=>obtain⟨_,_,_,e',_⟩:=q;rw[e] at e';cases e';cases e3
 |xn _=>obtain⟨_,_,⟨o',_,_,e',yq,_⟩,_⟩:=q;rw[e] at e';cases e';rw[e3] at yq;cases yq
theorem jU:∀{xs ys},lE xs ys=((List.range (min xs.length ys.length)).all (λj=>eqD (xs.getD j .non) (ys.getD j .non))&&xs.length==ys.length)
 |[],[]=>rfl
 |[],y::ys=>by simp
 |x::xs,[]=>by simp
 |x::xs,y::ys=>by
  rw[lE,jU,GaC,GaC,Nat.succ_min_succ,List.range_succ_eq_map];simp[Function.comp_def,Bool.and_assoc]
def fG{ds:List D}(p:bK n d=O)(q:sqD d=U (c,ds)):∃m,n=m+1/\ds.all (bK m)=O/\(d= .lst ds/\c="list"\/d= .tup ds/\c="tuple"):=by
 cases d<;>cases q<;>cases n<;>first|cases p|exact⟨_,rfl,p,by first|exact .inl ⟨rfl,rfl⟩|exact .inr ⟨rfl,rfl⟩⟩
def JB(h1:At x u)(h2:At y u):eqD x y=O:=by
 revert h2;refine At.el h1 ?_ ?_ ?_ ?_<;>intros<;>(rename_i h2;cases y<;>first|exact False.elim h2|(cases h2;simp))
def D5(n:Nat):∀{x y u},bK n x=O->bK n y=O->Rep F h x u->Rep G h y u->eqD x y=O:=by
 induction n using Nat.strongRecOn with|_ n ih=> ?_
 intro x y u p1 p2 r1 r2;rcases r1.inn with e1| ⟨a,rfl,_,c,ds,eo,q,t,_,k⟩
 .rcases r2.inn with e2| ⟨_,rfl,_⟩
  .exact JB e1 e2
  .cases x<;>exact False.elim e1
 .rcases r2.inn with e2| ⟨a',e,_,c',xC,xo,q',t',_,k'⟩
  .cases y<;>exact False.elim e2
  .cases e;obtain⟨m,e,pa,hd⟩:=fG p1 q;obtain⟨m',e',zI,xU⟩:=fG p2 q';have hi:c' =c/\eo=xo :=by rcases hd with⟨_,rfl⟩| ⟨_,rfl⟩<;>exact t.inj t'
   obtain⟨hc,rfl⟩:=hi;obtain rfl:m=m' :=by simp_all
   have:lE ds xC =O:=by
    rw[jU,k.1,k'.1];simp only[GeL,beq_self_eq_true,GeD,Gal,Gcc];intro j hj;have h1:j<ds.length:=by rw[k.1];exact hj
    have h2:j<xC.length:=by rw[k'.1];exact hj
    rw[Gbp,Gbp,Gaa h1,Gaa h2];exact ih m (by simp[*]) (Gal.mp pa _ (Gap h1)) (Gal.mp zI _ (Gap h2)) (k.2 j _ _ (Gaa h1) (Gaa hj)) (k'.2 j _ _ (Gaa h2) (Gaa hj))
   rcases hd with⟨rfl,z⟩| ⟨rfl,z⟩<;>rcases xU with⟨rfl,z'⟩| ⟨rfl,z'⟩<;>first|exact this|(rw[z,z'] at hc;exact absurd (Shp.of.inj hc) (by decide))
def K7{s:Vg}(n:Nat):∀{F G T S x y u v A},bK n x=O->bK n y=O->Inn F T s.heap x u->Inn G S s.heap y v->A.units+n<cLine->SeqAt.RcAt A s u v (eqD x y)/\SeqAt.RcNeAt A s u v (!eqD x y):=by
 induction n using Nat.strongRecOn with|_ n ih=> ?_
 intro F G T S x y u v A p1 p2 r1 r2 hu;have hu0:A.units<cLine:=by lia
 have sqk:∀{a:Vh} {c:Shp} {ds:List D} {eo:Array Vf} {d:D},bK n d=O->sqD d=U (c,ds)->SqA _ a c eo->(d= .lst ds/\s.heap.IsList a eo)\/(d= .tup ds/\s.heap.IsTuple a eo):=λp q t=>by
  obtain⟨m,_,_,⟨e,rfl⟩| ⟨e,rfl⟩⟩:=fG p q
  .exact .inl ⟨e,t.lst.isList⟩
  .exact .inr ⟨e,t.tup⟩
 rcases r1 with e1| ⟨a,rfl,_,c,ds,eo,q,t,_,k⟩
 .rcases r2 with e2| ⟨a',rfl,_,c',xC,xo,q',t',_,k'⟩
  .clear ih p1 p2 sqk;exact At.el e1 (At.el e2 ⟨.none_none,.none_none⟩ (λ_=> ⟨.none_bool _,.none_bool _⟩) (λ_ _=> ⟨.none_int _ _,.none_int _ _⟩) λ_ _=> ⟨.none_str _ _,.none_str _ _⟩)
    (λ_=>At.el e2 ⟨.bool_none _,.bool_none _⟩ (λ_=> ⟨.bool_bool _ _,.bool_bool _ _⟩) (λ_ _=> ⟨.bool_int _ _ _,.bool_int _ _ _⟩) λ_ _=> ⟨.bool_str _ _ _,.bool_str _ _ _⟩)
    (λ_ _=>At.el e2 ⟨.int_none _ _,.int_none _ _⟩ (λ_=> ⟨.int_bool _ _ _,.int_bool _ _ _⟩) (λ_ _=> ⟨.int_int _ _ _ _,.int_int _ _ _ _⟩) λ_ _=> ⟨.int_str _ _ _ _,.int_str _ _ _ _⟩)
    λ_ _=>At.el e2 ⟨.str_none _ _,.str_none _ _⟩ (λ_=> ⟨.str_bool _ _ _,.str_bool _ _ _⟩) (λ_ _=> ⟨.str_int _ _ _ _,.str_int _ _ _ _⟩) λ_ _=> ⟨.str_str _ _ _ _,.str_str _ _ _ _⟩
  .rcases sqk p2 q' t' with⟨rfl,l⟩| ⟨rfl,l⟩
   .exact At.el e1 ⟨.none_list l hu0,.none_list l hu0⟩ (λ_=> ⟨.bool_list _ l hu0,.bool_list _ l hu0⟩) (λ_ _=> ⟨.int_list _ _ l hu0,.int_list _ _ l hu0⟩) λ_ _=> ⟨.str_list _ _ l hu0,.str_list _ _ l hu0⟩
   .exact At.el e1 ⟨.none_tuple l hu0,.none_tuple l hu0⟩ (λ_=> ⟨.bool_tuple _ l hu0,.bool_tuple _ l hu0⟩) (λ_ _=> ⟨.int_tuple _ _ l hu0,.int_tuple _ _ l hu0⟩) λ_ _=> ⟨.str_tuple _ _ l hu0,.str_tuple _ _ l hu0⟩
 .have h1:=sqk p1 q t;obtain⟨m,e,pa,_⟩:=fG p1 q;rcases r2 with e2| ⟨a',rfl,_,c',xC,xo,q',t',_,k'⟩
  .rcases h1 with⟨rfl,l⟩| ⟨rfl,l⟩
   .exact At.el e2 ⟨.list_none l hu0,.list_none l hu0⟩ (λ_=> ⟨.list_bool _ l hu0,.list_bool _ l hu0⟩) (λ_ _=> ⟨.list_int _ _ l hu0,.list_int _ _ l hu0⟩) λ_ _=> ⟨.list_str _ _ l hu0,.list_str _ _ l hu0⟩
   .exact At.el e2 ⟨.tuple_none l hu0,.tuple_none l hu0⟩ (λ_=> ⟨.tuple_bool _ l hu0,.tuple_bool _ l hu0⟩) (λ_ _=> ⟨.tuple_int _ _ l hu0,.tuple_int _ _ l hu0⟩) λ_ _=> ⟨.tuple_str _ _ l hu0,.tuple_str _ _ l hu0⟩
  .have h2:=sqk p2 q' t';obtain⟨m',e',zI,_⟩:=fG p2 q';obtain rfl:m=m' :=by simp_all
   have items:∀j (h1:j<eo.size) (h2:j<xo.size),SeqAt.EqAt A.in1 s eo[j] xo[j] ((λj=>eqD (ds.getD j .non) (xC.getD j .non)) j):=λj h1 h2=>by
    have g1:j<ds.length:=by rw[k.1];simpa using h1
    have g2:j<xC.length:=by rw[k'.1];simpa using h2
    show SeqAt.EqAt _ _ _ _ (eqD (ds.getD j .non) (xC.getD j .non));rw[Gbp,Gbp,Gaa g1,Gaa g2];have r1:=k.2 j _ eo[j] (Gaa g1) (by simp[h1]);have r2:=k'.2 j _ xo[j] (Gaa g2) (by simp[h2]);have q1:=Gal.mp pa _ (Gap g1);have q2:=Gal.mp zI _ (Gap g2);exact JA (ih m (by simp[*]) q1 q2 r1.inn r2.inn (by show A.units+1+m<cLine;simp_all+arith)).1 (λb t z=>by rcases r1.inn with e| ⟨_,e,_⟩<;>rw[z] at e<;>first|cases e|(revert e;generalize ds[j]=d;cases d<;>exact id)) λz=>D5 m q1 q2 r1 (by rw[z];exact r2)
   have s1:eo.size=ds.length:=by rw[k.1];simp
   have s2:xo.size=xC.length:=by rw[k'.1];simp
   have fn:ds.length≠xC.length->lE ds xC =M:=λhl=>by rw[jU,show(ds.length==xC.length)=M by simpa using hl,Gez]
   rcases h1 with⟨rfl,l⟩| ⟨rfl,l⟩<;>rcases h2 with⟨rfl,l'⟩| ⟨rfl,l'⟩
   .show SeqAt.RcAt A s _ _ (lE ds xC)/\SeqAt.RcNeAt A s _ _ (!lE ds xC);by_cases hl:ds.length=xC.length
    .rw[jU,<-hl,GeL,beq_self_eq_true,GeD,<-s1];exact⟨.lists l l' (by simp[*]) hu0 items,.lists l l' (by simp[*]) hu0 items⟩
    .rw[fn hl];exact⟨.lists_lengths l l' (by simpa[s1,s2] using hl) hu0,.lists_lengths l l' (by simpa[s1,s2] using hl) hu0⟩
   .exact⟨.list_tuple l l' hu0,.list_tuple l l' hu0⟩
   .exact⟨.tuple_list l l' hu0,.tuple_list l l' hu0⟩
   .show SeqAt.RcAt A s _ _ (lE ds xC)/\SeqAt.RcNeAt A s _ _ (!lE ds xC);rw[jU,<-s1,<-s2];exact⟨.tuples l l' hu0 items,.tuples l l' hu0 items⟩
end
end NL
namespace HT
open PySem PyProof.Rows
section
open PySem.SeqAt
open PySem.AutoSeq1 (wpAny_loadPart')
open PySem.MeetsSeq PySem.MeetsSeq2 PySem.MeetsSeq3
end
section
variable{ws:List Vf}
def D6{s:Vg}(ht:IsTup s.heap t #[])(hb:IsTup s.heap b ws.toArray)(h:Q (.ref b) s):wpAny (model prog w) A (binaryOp .Add (.ref t) (.ref b)) Q E s:=by
 obtain⟨⟨cls,dd,data,sl⟩,ho,hc,n,hd⟩:=id ht;obtain⟨⟨Sr,R5,data2,zt⟩,za,QW,n2,hd2⟩:=id hb;subst hc hd QW hd2;exact concat_meets ⟨_,ho,rfl⟩ ⟨_,za,rfl⟩ noFill_tuple_add seq_tuple_add GdW GdM (GdF _ _)
  (tuple_addW0 t b #[] _ n n2 dd R5 sl zt rfl) ⟨ho,za,h⟩
def GH{s:Vg}{vs:List Vf}(ht:IsTup s.heap t vs.toArray)(hb:IsTup s.heap b ws.toArray)(hv:vs≠[])
  (h1:ws=[]->Q (.ref t) s)(h2:ws≠[]->Q (.ref s.heap.objs.size) {s with heap:=s.heap.push {cls:= .type "tuple",data:= .seq (vs++ws).toArray}})
  (yu:vs.length+ws.length<=sizeLine):wpAny (model prog w) A (binaryOp .Add (.ref t) (.ref b)) Q E s:=by
 obtain⟨⟨cls,dd,data,sl⟩,ho,hc,n,hd⟩:=id ht;obtain⟨⟨Sr,R5,data2,zt⟩,za,QW,n2,hd2⟩:=id hb;subst hc hd QW hd2;have e:vs.toArray++ws.toArray=(vs++ws).toArray:=by simp
 by_cases hw:ws=[]
 .exact concat_meets ⟨_,ho,rfl⟩ ⟨_,za,rfl⟩ noFill_tuple_add seq_tuple_add GdW GdM (GdF _ _)
   (tuple_addW1 t b _ _ n n2 dd R5 sl zt (by simp_all) (by simp[hw])) ⟨ho,za,h1 hw⟩
 .refine concat_meets ⟨_,ho,rfl⟩ ⟨_,za,rfl⟩ noFill_tuple_add seq_tuple_add GdW GdM (GdF _ _)
   (tuple_addW2 t b _ _ n n2 dd R5 sl zt (by simp_all) (by simp_all) (by simp_all)) ⟨ho,za, ?_⟩
  rw[e];exact h2 hw
def sIx(n d:Nat):Option Int->Nat
 |none=>d
 |some v=>if v<0 then(v+(n:Int)).toNat else min v.toNat n
def Ao(v:Int)(n d:Nat):(if v<0 then max (v+(n:Int)) 0 else min v (n:Int))=((sIx n d (U v):Nat):Int):=by
 show _=(((if v<0 then(v+_).toNat else min _ n):Nat):Int)
 grind
def vQ(lo hi:Option Int)(n:Nat):Builtin.Slice.sliceAdjust lo hi 1 (n:Int)=(((sIx n 0 lo:Nat):Int),((sIx n n hi:Nat):Int)):=by
 refine Prod.ext ?_ ?_
 .cases lo with
  |none=>rfl
  |some v=>exact Ao v n 0
 .cases hi with
  |none=>rfl
  |some v=>exact Ao v n n
def vS(i j:Nat):Builtin.Slice.slicePlaces (i:Int) (j:Int) 1=j -i:=by
 unfold Builtin.Slice.slicePlaces;have h1:(1:Int)>0:=by exact Int.natCast_nonneg _
 simp only[h1,Gdm,Int.ediv_one];split<;>lia
def pN(p:IsPart v o)(h:Q o s):wpAny (model prog w) A (Builtin.Slice.slicePartIndex v) Q E s:=by
 cases p with
 |none=>exact slicePart_none h
 |int i t=>exact slicePart_int h
variable{lo:Option Int}
def nX{prog:Vn}{w:World}{s:Vg}{n:Nat}{Q:Int×Int×Nat->Vg->Prop}(hs:s.heap.IsSliceOf sl vl vu .none)(pl:IsPart vl lo)(pu:IsPart vu hi)
  (h:Q (((sIx n 0 lo:Nat):Int),1,sIx n n hi -sIx n 0 lo) s):wpAny (model prog w) A (Builtin.Slice.sliceApplied (.ref sl) (pure (n:Int))) Q E s:=by
 obtain⟨os,yk,yw,xB⟩:=id hs;refine Gad (Gad (wpAny_field yk xB (x:=vl) rfl (Gad (wpAny_field yk xB (x:=vu) rfl (Gad (wpAny_field yk xB rfl (Gao (Gad (slicePart_none (Gad (pN pl (Gad (pN pu (Gad (Gao ?_)))))))))))))));show wpAny _ _ (match Builtin.Slice.sliceAdjust lo hi 1 _ with|(lo,hi)=>pure (lo,_,Builtin.Slice.slicePlaces lo hi 1)) _ _ s;rw[vQ lo hi n];show wpAny _ _ (pure _) _ _ s;rw[vS];exact Gao h
def D7(xs:Array Vf)(i k:Nat):((List.range k).filterMap λ(m:Nat)=>xs[((i:Int)+(m:Int)*1).toNat]?).toArray=((xs.toList.drop i).take k).toArray:=by
 have e:(λ(m:Nat)=>xs[((i)+(m:Int)*1).toNat]?)=λm=>xs[i+m]? :=by
  funext m
  have:((i)+(m:Int)*1).toNat=i+m:=by lia
  rw[this]
 rw[e];have:=pick_run xs i k;rw[List.filterMap_map] at this;have e2:(_∘λx=>i+x)=λm=>xs[i+m]? :=rfl;simp_all
def mK{prog:Vn}{w:World}{s:Vg}{items:Array Vf}{Q:VSP}(ht:IsTup s.heap t items)(hs:s.heap.IsSliceOf sl vl vu .none)(pl:IsPart vl lo)(pu:IsPart vu hi)
  (hw:¬(sIx items.size 0 lo=0/\sIx items.size items.size hi=items.size))
  (h:Q (.ref s.heap.objs.size) {s with heap:=s.heap.push {cls:= .type "tuple",data:= .seq ((items.toList.drop (sIx items.size 0 lo)).take (sIx items.size items.size hi -sIx items.size 0 lo)).toArray}})
  (yu:items.size<=sizeLine):wpAny (model prog w) A (getItem (.ref t) (.ref sl)) Q E s:=by
 have htake:sizeOk (.seq ((items.toList.drop (sIx items.size 0 lo)).take (sIx items.size items.size hi -sIx items.size 0 lo)).toArray):=by
  show((items.toList.drop _).take _).toArray.size<=sizeLine;rw[Gcn,Gdr,Geb];exact Gak (Nat.min_le_right _ _) (Gak (Gds _ _) yu)
 obtain⟨os,yk,yw,xB⟩:=id hs;unfold getItem
 try with_reducible refine GbB ?_
 refine Gad (wpAny_sequenceKey ht.typeIs rfl ?_);refine Gad (GdN ht.typeIs GcT
  (GcP GcT ht.typeIs entry_tuple_getitem ?_ (args_tuple_getitem _ _)))
 show wpAny _ _ (Builtin.Tuple.tupleItemsOf _>>=_) _ _ s;refine Gad (tupleItemsOf_ ht (Gad (wpAny_typeOf (⟨os,yk,yw⟩) (Gad (nX hs pl pu ?_)))));have RQ:¬((((sIx items.size 0 lo):Int)==0&&(1:Int)==1&&(sIx items.size items.size hi -sIx items.size 0 lo)==items.size)=O):=by
  intro q;rw[Gac,Gac] at q;have q1:=eq_of_beq q.1.1;have q2:=eq_of_beq q.2;exact hw ⟨by simp_all,by simp_all⟩
 show wpAny _ _ (if _=O then _ else _) _ _ s;rw[Gaw RQ,D7]
 first
  |exact Gad _
  |exact Gad (GbN (Gad (Gao (Gao ⟨_,rfl,Gao h⟩))) htake)
  |exact Gad _
  |exact Gad _
end
end HT
namespace NL
open PySem PySem.Spec PyProof.Rows DL
section
variable [Wd]
def eL:a9=sizeLine:=by rw[Gdy];rfl
def nn{α:Type _}{P:Prop}{o:Option α}{y:α}(e:o=U y)(n:o=J):P:=by rw[n] at e;exact nomatch e
section
variable{X:Cx}{env:aM}{Z:Vl}{s s' :Vg}{u v w:Vf}{x y:D}{b e:Vi}{t:DT}{o:D->D->Option Bool}{op:Vt}
def jN(X:Cx)(op:Vt)(o:D->D->Option Bool):Prop:=∀env Z s x y v u b,Inv X env Z s->InE X env Z s x v->InE X env Z s y u->o x y=U b->wpX X (compareOp op v u) (λw s' =>w= .bool b/\Ext X No s s') X.xe s
def K8(ho:jN X op o)(ha:PE X a f)(hb:PE X b g)(hm:behindInMarks op b=M):PT X (.Compare a [op] [b] pos) (ao o f g):=λenv Z s bb I e=>
 a6 e λx hx e=>a6 e λy hy e=>wpAny_isTrue_Compare1 (bin ha hb I hx hy λv u s2 x1 I2 i1 i2=>thn (ho env Z s2 _ _ v u bb I2 i1 i2 e) λw s3 ⟨h,x2⟩=>by cases h;exact Gbv ⟨rfl,x1.trans x2⟩) hm
def K9(ho:jN X op o)(ha:PE X a f)(hb:PE X b g)(hm:behindInMarks op b=M):PE X (.Compare a [op] [b] pos) (bE (ao o f g)):=λenv Z s r I e=>
 aS e λbb e h=>a6 e λx hx e=>a6 e λy hy e=>wpAny_Compare1 (bin ha hb I hx hy λv u s2 x1 I2 i1 i2=>thn (ho env Z s2 _ _ v u bb I2 i1 i2 e) λw s3 ⟨h',x2⟩=>by cases h';cases h;exact⟨x1.trans x2,.one rfl⟩) hm
def D8(ho:jN X op o)(zN :jN X op' o')(ha:PE X a f)(hb:PE X b g)(hc:PE X c h)(hm:lastMarks [op,op'] [b,c]=M:=by with_unfolding_all rfl):PT X (.Compare a [op,op'] [b,c] pos) (sL o o' f g h):=λenv Z s bb I e=>
 a6 e λx hx e=>a6 e λy hy e=>a6 e λb1 h1 e=>by
  refine isTrue_chain (thn (ha env Z s x I hx) λv s1 ⟨x1,r1⟩=>test_link (thn (hb env Z s1 y (I.exp x1) hy) λu s2 ⟨x2,r2⟩=> ?_)) hm;have I1:=I.exp x1;have I2:=I1.exp x2;refine thn (ho env Z s2 _ _ v u b1 I2 ((r1.later I I1 x2).inn I) (r2.inn I1) h1) λw s3 ⟨e1,x3⟩=> ?_;subst e1;refine Gbv ?_;cases b1 with
  |false=>cases e;exact ite_ff ⟨rfl,x1.trans (x2.trans x3)⟩
  |true=>
   refine a6 e λz hz e=>ite_tt (test_last (thn (hc env Z s3 z (I2.exp x3) hz) λw s4 ⟨x4,r4⟩=> ?_));have I3:=I2.exp x3;exact thn (zN env Z s4 _ _ u w bb (I3.exp x4) ((r2.later I1 I2 (x3.trans x4)).inn I1) (r4.inn I3) e) λw' s5 eU=>by
    obtain⟨rfl,x5⟩:=eU;exact Gbv ⟨rfl,x1.trans (x2.trans (x3.trans (x4.trans x5)))⟩
def D9(ho:jN X op o)(zN :jN X op' o')(ha:PE X a f)(hb:PE X b g)(hc:PE X c h)(hm:lastMarks [op,op'] [b,c]=M:=by with_unfolding_all rfl):PE X (.Compare a [op,op'] [b,c] pos) (bE (sL o o' f g h)):=λenv Z s r I e=>
 aS e λbb e hr=>a6 e λx hx e=>a6 e λy hy e=>a6 e λb1 h1 e=>by
  subst hr;refine Compare_chain (thn (ha env Z s x I hx) λv s1 ⟨x1,r1⟩=>chain_link (thn (hb env Z s1 y (I.exp x1) hy) λu s2 ⟨x2,r2⟩=> ?_)) hm;have I1:=I.exp x1;have I2:=I1.exp x2;refine thn (ho env Z s2 _ _ v u b1 I2 ((r1.later I I1 x2).inn I) (r2.inn I1) h1) λw s3 ⟨e1,x3⟩=> ?_;subst e1;refine Gbv ?_;cases b1 with
  |false=>cases e;exact ite_ff ⟨x1.trans (x2.trans x3),.one rfl⟩
  |true=>
   refine a6 e λz hz e=>ite_tt (chain_last (thn (hc env Z s3 z (I2.exp x3) hz) λw s4 ⟨x4,r4⟩=> ?_));have I3:=I2.exp x3;exact thn (zN env Z s4 _ _ u w bb (I3.exp x4) ((r2.later I1 I2 (x3.trans x4)).inn I1) (r4.inn I3) e) λw' s5 zC=>by
    obtain⟨rfl,x5⟩:=zC;exact⟨x1.trans (x2.trans (x3.trans (x4.trans x5))),.one rfl⟩
def cpI{bi:Int->Int->Bool}(h:∀x y b,o x y=U b->∃i j,x= .int i/\y= .int j/\b=bi i j)
  (rule:∀(i j:Int) t u s Q E,Q (.bool (bi i j)) s->wpX X (compareOp op (.int i t) (.int j u)) Q E s):jN X op o:=by
 intro env Z s x y v u b I i1 i2 e;obtain⟨i,j,rfl,rfl,rfl⟩:=h x y b e;obtain⟨t,rfl⟩:=i1.int;obtain⟨t',rfl⟩:=i2.int;exact rule i j t t' s _ _ ⟨rfl,.refl⟩
def NI:jN X .Lt ltB:=cpI (λx y b e=>by unfold ltB at e;split at e<;>simp_all) λ_ _ _ _ _ _ _ q=>lt_int q
def NJ:jN X .LtE leB:=cpI (λx y b e=>by unfold leB at e;split at e<;>simp_all) λ_ _ _ _ _ _ _ q=>le_int q
def NK:jN X .Gt gtB:=cpI (λx y b e=>by unfold gtB at e;split at e<;>simp_all) λ_ _ _ _ _ _ _ q=>gt_int q
def NM:jN X .GtE geB:=cpI (λx y b e=>by unfold geB at e;split at e<;>simp_all) λ_ _ _ _ _ _ _ q=>ge_int q
def NN(hu:X.A.units+20<cLine):jN X .Eq eqB:=λenv Z s x y v u b I i1 i2 e=>by
 unfold eqB at e;split at e
 .rename_i z;rw[Gac] at z;cases e;exact(K7 20 z.1 z.2 i1 i2 hu).1 _ _ _ _ ⟨rfl,.refl⟩
 .cases e
def NO(hu:X.A.units+20<cLine):jN X .NotEq neB:=λenv Z s x y v u b I i1 i2 e=>by
 unfold neB at e;split at e
 .rename_i z;rw[Gac] at z;cases e;exact(K7 20 z.1 z.2 i1 i2 hu).2 _ _ _ _ ⟨rfl,.refl⟩
 .cases e
def vN:Vf->Bool
 | .none=>O
 |_=>M
def Dc(i:Inn F T h x v):fV x=vN v:=by
 rcases i with e| ⟨a,rfl,_,_,_,_,q,_⟩
 .exact At.el e rfl (λ_=>rfl) (λ_ _=>rfl) λ_ _=>rfl
 .cases x<;>first|rfl|cases q
def NP:jN X .Is g8:=λenv Z s x y v u b I i1 i2 e=>by
 unfold g8 at e;split at e<;>cases e
 cases y<;>first|(rename_i q;cases q;done)|skip
 cases i2.non;exact is_none_gen ⟨by rw[Dc i1];cases v<;>rfl,.refl⟩
def Dd:jN X .IsNot gK:=λenv Z s x y v u b I i1 i2 e=>by
 unfold gK at e;split at e<;>cases e
 cases y<;>first|(rename_i q;cases q;done)|skip
 cases i2.non;exact isnot_none_gen ⟨by rw[Dc i1];cases v<;>rfl,.refl⟩
def GI(ha:PT X a t):PW X (.BoolOp .And [a] pos) t:=λwh env Z s b I e=>isTrue_and (thn (ha env Z s b I e) λc s1 q=>by cases c<;>first|exact isTrue_and_nil q|exact q)
def Ka(ha:PT X a t):PW X (.BoolOp .Or [a] pos) t:=λwh env Z s b I e=>isTrue_or (thn (ha env Z s b I e) λc s1 q=>by cases c<;>first|exact isTrue_or_nil q|exact q)
theorem Kb(ha:PT X a t)(hb:PW X (.BoolOp .And (b::rest) pos) t'):PW X (.BoolOp .And (a::b::rest) pos) (cK t t'):=λwh env Z s bb I e=>a6 e λk hk e=>isTrue_and (thn (ha env Z s k I hk) λc s1 Rr=>by
 obtain⟨rfl,x⟩:=Rr;cases c with
 |true=>exact thn (hb wh env Z s1 bb (I.exp x) e) λc s2 ⟨q,y⟩=> ⟨q,x.trans y⟩
 |false=>cases e;exact⟨rfl,x⟩)
theorem NQ(ha:PT X a t)(hb:PW X (.BoolOp .Or (b::rest) pos) t'):PW X (.BoolOp .Or (a::b::rest) pos) (orT t t'):=λwh env Z s bb I e=>a6 e λk hk e=>isTrue_or (thn (ha env Z s k I hk) λc s1 yP=>by
 obtain⟨rfl,x⟩:=yP;cases c with
 |true=>cases e;exact⟨rfl,x⟩
 |false=>exact thn (hb wh env Z s1 bb (I.exp x) e) λc s2 ⟨q,y⟩=> ⟨q,x.trans y⟩)
def Kc(ha:PT X a t):PT X (.UnaryOp .Not a pos) (pK t):=λenv Z s b I e=>aS e λk hk e=>isTrue_not (thn (ha env Z s k I hk) λc s1 Rn=>by obtain⟨q,x⟩:=Rn;exact⟨by subst q;exact e,x⟩)
def PB(X:Cx)(e:Vi)(t:DT):Prop:=∀env Z s b,Inv X env Z s->t env=U b->wpX X (eval e X.env) (λu s' =>u= .bool b/\Ext X No s s') X.xe s
def PB.pe(h:PB X a t):PE X a (bE t):=λenv Z s r I e=>aS e λb hb e=>thn (h env Z s b I hb) λu s1 ⟨q,x⟩=>by subst e q;exact⟨x,.one rfl⟩
def PE.pb(h:PE X a (bE t)):PB X a t:=λenv Z s b I e=>thn (h env Z s ⟨.c,.bl b⟩ I (by simp_all)) λu s1 Rl=>by obtain⟨x,r⟩:=Rl;exact⟨(r.inn I).bl,x⟩
def Kd{a:Vi}{pos:Pos}{op}(ha:PB X a t):PB X (.BoolOp op [a] pos) t:=λenv Z s b I e=>BoolOp_one (ha env Z s b I e)
theorem Ke(ha:PB X a t)(hb:PB X (.BoolOp .And (b::rest) pos) t'):PB X (.BoolOp .And (a::b::rest) pos) (cK t t'):=λenv Z s bb I e=>a6 e λk hk e=>BoolOp_and (thn (ha env Z s k I hk) λc s1 Rj=>by
 obtain⟨rfl,x⟩:=Rj;refine Gbv ?_;cases k with
 |true=>exact thn (hb env Z s1 bb (I.exp x) e) λc s2 ⟨q,y⟩=> ⟨q,x.trans y⟩
 |false=>cases e;exact⟨rfl,x⟩)
theorem NR(ha:PB X a t)(hb:PB X (.BoolOp .Or (b::rest) pos) t'):PB X (.BoolOp .Or (a::b::rest) pos) (orT t t'):=λenv Z s bb I e=>a6 e λk hk e=>BoolOp_or (thn (ha env Z s k I hk) λc s1 Ri=>by
 obtain⟨rfl,x⟩:=Ri;refine Gbv ?_;cases k with
 |true=>cases e;exact⟨rfl,x⟩
 |false=>exact thn (hb env Z s1 bb (I.exp x) e) λc s2 ⟨q,y⟩=> ⟨q,x.trans y⟩)
theorem NS(hc:PT X c t)(ha:PE X a f)(hb:PE X b g):PE X (.IfExp c a b pos) (ifE t f g):=λenv Z s r I e=>a6 e λk hk e=>wpAny_IfExp (thn (hc env Z s k I hk) λd s1 Rh=>by
 obtain⟨rfl,x⟩:=Rh;cases d with
 |true=>exact thn (ha env Z s1 r (I.exp x) e) λu s2 ⟨y,z⟩=> ⟨x.trans y,z.from x⟩
 |false=>exact thn (hb env Z s1 r (I.exp x) e) λu s2 ⟨y,z⟩=> ⟨x.trans y,z.from x⟩)
def iQ:PA X [] aL:=λ_ env Z s rs I e=>by cases e;exact GbA ⟨.refl,.nil⟩
def fg(ha:PE X e f)(hr:PA X es ra)(hs:autoParam (starEach (e::es) X.env=(M,eval e X.env)::starEach es X.env) Za1._auto_1):PA X (e::es) (ae f ra):=λpos env Z s rs I q=>a6 q λx hx q=>a6 q λxs TC q=>by
 cases q;rw[hs];show wpAny _ _ (spliced ((M,eval e _)::backTo pos _)) _ _ s;exact GaX (thn (ha env Z s x I hx) λu s1 Rf=>by obtain⟨x1,r1⟩:=Rf;exact thn (hr pos env Z s1 xs (I.exp x1) TC) λus s2 Rg=>by obtain⟨x2,rs⟩:=Rg;exact⟨x1.trans x2,.cons (r1.later I (I.exp x1) x2) (Paired.uc rs λ_ _ h=>h.from x1)⟩)
variable{rs:List RV}
def gG(I:Inv X env Z s)(p:Paired (cM X env Z s s') rs us):rs.all (·.free)=O->aP (Cln X env Z) s'.heap (rs.map (·.d)) us:=by
 induction p with
 |nil=>exactλ_=> .nil
 |cons h t ih=>intro f;rw[GbK,Gac] at f;exact .cons (h.rep I f.1) (ih f.2)
def Inv.new{us:Array Vf}(I:Inv X env Z s)(hr:aP F s.heap ds us.toList)(hz:us.size<=sizeLine)(hq:sqD d=U (.of c,ds)):
  Top (λb=>F b/\b≠s.heap.objs.size) (s.heap.push {cls:= .type c,data:= .seq us}) d s.heap.objs.size:=
 ⟨c,ds,us,hq,⟨_,0,Gat _ rfl,rfl,.inr ⟨rfl,rfl⟩,rfl⟩,hz,hr.keep λb o f e _=> ⟨⟨f,λz=>by rw[z,aJ] at e;cases e⟩,Gag _ e⟩⟩
def Inv.lay{us:List Vf}(I:Inv X env Z s)(r:aP (Cln X env Z) s.heap ds us)(z:us.length<=sizeLine)(t:Nat):
  (Ext X No s {s with heap:=s.heap.push {cls:= .type "tuple",data:= .seq us.toArray},toks:=t}/\cM X env Z s {s with heap:=s.heap.push {cls:= .type "tuple",data:= .seq us.toArray},toks:=t} ⟨.c,.tup ds⟩ (.ref s.heap.objs.size))/\
  (Ext X No s {s with heap:=s.heap.push {cls:= .type "list",data:= .seq us.toArray},toks:=t}/\cM X env Z s {s with heap:=s.heap.push {cls:= .type "list",data:= .seq us.toArray},toks:=t} ⟨.tn,.lst ds⟩ (.ref s.heap.objs.size)):=
 have n c d:=I.new (c:=c) (d:=d) (by simp_all) (by simp_all)
 ⟨⟨I.push _ _,((n "tuple" _ rfl).imp λb z=>z.1).rep (I.cl aJ)⟩,I.push _ _,rfl,_,rfl,aJ,n "list" _ rfl⟩
def uf{s1:Vg}{us:List Vf}(I:Inv X env Z s)(x1:Ext X No s s1)(p:Paired (cM X env Z s s1) rs us)(q:(rs.all (·.free)&&decide (rs.length<=a9))=O):aP (Cln X env Z) s1.heap (rs.map (·.d)) us/\us.length<=sizeLine:=by
 rw[Gac] at q;have rp:=gG I p q.1;exact⟨rp,by rw[<-rp.1,Gah];exact Gay q.2⟩
def Kf(ha:PA X es ra):PE X (.Tuple es j pos) (cX ra):=λenv Z s r I e=>a6 e λrs hr e=>by
 split at e<;>cases e
 refine wpAny_Tuple_spliced (thn (ha pos env Z s rs I hr) λus s1 ⟨x1,p⟩=> ?_);obtain⟨rp,z⟩:=uf I x1 p (by assumption);have⟨y,k⟩:=((I.exp x1).lay rp z s1.toks).1;exact⟨z,x1.trans y,k.from x1⟩
def De(ha:PA X es ra):PE X (.List es pos) (bQ ra):=λenv Z s r I e=>a6 e λrs hr e=>by
 split at e<;>cases e
 refine wpAny_List_spliced (thn (ha pos env Z s rs I hr) λus s1 ⟨x1,p⟩=> ?_);obtain⟨rp,z⟩:=uf I x1 p (by assumption);have⟨y,k⟩:=((I.exp x1).lay rp z s1.toks).2;exact⟨z,x1.trans y,k.from x1⟩
end
end
section
variable [Wd]
theorem kQ:∀{l:List α} {m:List β},l.length=m.length->(∀(i:Nat) a b,l[i]? =U a->m[i]? =U b->R a b)->Paired R l m
 |[],[],_,_=> .nil
 |a::l,b::m,h,k=> .cons (k 0 a b rfl rfl) (kQ (by simp_all) λi x y e1 e2=>k (i+1) x y e1 e2)
def Paired.ix{R:α->β->Prop}{l:List α}(p:Paired R l m):∀{i:Nat} {a:α},l[i]? =U a->∃b,m[i]? =U b/\R a b:=by
 induction p with
 |nil=>intro i a e;cases e
 |cons h t ih=>intro i a e;cases i with
  |zero=>cases e;exact⟨_,rfl,h⟩
  |succ i=>exact ih e
theorem fH:∀{ds k},keysOf ds=U k->ds=k.map CZ
 |[],_,h=>by cases h;rfl
 |d::ds,k,h=>a6 h λx hx h=>aS h λy hy h=>by
  subst h;rw[Gav,<-fH hy];cases d<;>cases hx<;>rfl
section
variable{F:Vh->Prop}{h:Vj}{eA:List (List Key×D)}{xs:List Ent}
theorem rn:∀{ks us},aP F h (ks.map CZ) us->ItemsAre (keyKind Wd.p Wd.w) ks us
 |[],us,r=>by rw[r.empty];exact .nil
 |k::ks,us,r=>by
  obtain⟨v,vs,rfl,x,r⟩:=r.gM;refine .cons ?_ (rn r);cases k with
  |inl i=>obtain⟨t,rfl⟩:=x.inn.int;simp[keyKind,kIs,intKind,Value.isInt]
  |inr y=>obtain⟨t,rfl⟩:=x.inn.str;simp[keyKind,kIs,PySem.strKind,Value.isStrOf]
def iD(r:Inn F T h (kyT k) (.ref a)):kk.is h k a:=by
 refine hde λG fin=> ?_;obtain⟨_,eo,e,_,⟨o,n,g,e1,_,e3⟩,_,rp⟩:=r.sq rfl;cases e;exact fin (⟨o,eo,n,g,e1,e3,rn rp⟩)
def Kts(F:Vh->Prop)(h:Vj)(eA:List (List Key×D))(xs:List Ent):Prop:=Paired (λp x=>p.1=x.1/\Rep F h p.2 x.2.2/\Rep F h (kyT p.1) (.ref x.2.1)) eA xs
def Kts.keys(q:Kts F h eA xs):xs.map (·.1)=eA.map (·.1):=by
 induction q with
 |nil=>rfl
 |cons e _ ih=>rw[Gav,Gav,ih,e.1]
def Kts.len(q:Kts F h eA xs):eA.length=xs.length:=Gdv q
def vT{eo:Array Vf}(t:SqA h a (.dt (eA.map (·.1))) eo)(r:aP F h (eA.map (·.2)++eA.map λp=>kyT p.1) eo.toList):(a==sysModules)=M/\∃xs,h.DictOfH kk a xs/\Kts F h eA xs:=by
 obtain⟨hs,nd,xs,⟨o,es,ep,ho,hx,hd,he⟩,hk,hi⟩:=t;rw[hi] at r;have hl:eA.length=xs.length:=by have:=congrArg List.length hk;simpa using this.symm
 have q:Kts F h eA xs:=kQ hl λi p x e1 e2=>by
  refine⟨?_,r.2 i _ _ ?_ ?_,r.2 (eA.length+i) _ _ ?_ ?_⟩
  .have:=congrArg (·[i]?) hk;refine hde λG fin=> ?_;simp only[Gaj,e1,e2,Gcj,Gdh] at this;simp_all
  .rw[GaS (by simpa using((Gae.mp e1).1)),Gaj,e1]
   rfl
  .rw[GaS (by simpa using((Gae.mp e2).1)),Gaj,e2]
   rfl
  .rw[GaW (by simp)];simp[e1]
  .rw[GaW (by simp[hl])];simp[hl,e2]
 refine⟨hs,xs,⟨o,es,ep,ho,hx,hd,he,λx hx=>(hde λG fin=> ?_),hk▸nd⟩,q⟩;obtain⟨i,hi⟩:=GbC.mp hx;obtain⟨p,e1⟩:∃p,eA[i]? =U p:=⟨_,Gaa (by rw[hl];exact(Gae.mp hi).1)⟩
 obtain⟨y,e2,e3,_,e5⟩:=Paired.ix q e1;rw[hi] at e2;cases e2;refine fin ?_;rw[<-e3];exact iD e5.inn
def Kts.GJ(q:Paired R eA xs)(w:∀p x,R p x->Rep F h (f p) (g x)):aP F h (eA.map f) (xs.map g):=by
 induction q with
 |nil=>exact .nil
 |cons e _ ih=>exact .cons (w _ _ e) ih
def Kg(hs:(a==sysModules)=M)(dd:h.DictOfH kk a xs)(q:Kts F h eA xs):SqA h a (.dt (eA.map (·.1))) (GC xs).toArray/\aP F h (eA.map (·.2)++eA.map λp=>kyT p.1) (GC xs).toArray.toList:=by
 refine hde λG fin=> ?_;obtain⟨o,es,ep,ho,hx,hd,he,_,nd⟩:=dd;exact fin (⟨⟨hs,q.keys▸nd,xs,⟨o,es,ep,ho,hx,hd,he⟩,q.keys,rfl⟩,aP.append (Kts.GJ q (λ_ _ e=>e.2.1)) (Kts.GJ q (λ_ _ e=>e.2.2))⟩)
def Ap:look (p::eA) k=if p.1=k then U p.2 else look eA k:=by
 unfold look;by_cases e:p.1=k<;>simp[e]
def ug{x:Ent}:atKey (x::xs) k=if x.1=k then U x.2 else atKey xs k:=by
 unfold atKey;by_cases e:x.1=k<;>simp[e]
theorem Kts.look(q:Kts F h eA xs)(k:List Key):(∃d p,DL.look eA k=U d/\atKey xs k=U p/\Rep F h d p.2/\Rep F h (kyT k) (.ref p.1))\/DL.look eA k=J/\atKey xs k=J:=by
 induction q with
 |nil=>exact .inr ⟨rfl,rfl⟩
 | @cons p x ps xs e t ih=>
  rw[Ap,ug,<-e.1];by_cases z:p.1=k
  .rw[Gar z,Gar z];exact .inl ⟨_,_,rfl,rfl,e.2.1,z▸e.2.2⟩
  .rwa[Gaw z,Gaw z]
def Df:(eA.any λkv=>decide (kv.1=k))=(look eA k).isSome:=by
 induction eA with
 |nil=>rfl
 |cons p ps ih=>rw[List.any_cons,Ap,ih];by_cases e:p.1=k<;>simp[e]
theorem Kts.put(q:Kts F h eA xs)(hb:Rep F h (kyT k) (.ref b))(hv:Rep F h d v):Kts F h (put eA k d) (storedH xs k b v):=by
 unfold DL.put storedH;rw[Df];rcases q.look k with⟨_,_,e1,e2,_⟩| ⟨e1,e2⟩
 .rw[e1,e2];refine kQ (by simpa using q.len) λi p x h1 h2=> ?_;refine hde λG fin=> ?_;rw[Option.isSome_some,Gar rfl,Gaj] at h1 h2;obtain⟨p',g1,rfl⟩:=Gab.mp h1;obtain⟨x',g2,rfl⟩:=Gab.mp h2;obtain⟨y,g3,e3,e4,e5⟩:=Paired.ix q g1;rw[g2] at g3;cases g3
  refine fin ?_;unfold putAt;rw[<-e3];by_cases z:p'.1=k
  .rw[Gar z,Gar z];exact⟨rfl,hv,e5⟩
  .rw[Gaw z,Gaw z];exact⟨e3,e4,e5⟩
 .rw[e1,e2];exact Paired.snoc q ⟨rfl,hv,hb⟩
theorem Kts.keep{h' :Vj}(q:Kts F h eA xs)(kp:∀b o,F b->h.get? b=U o->¬ItO o->F' b/\h'.get? b=U o):Kts F' h' eA xs:=Paired.uc q λ_ _ e=> ⟨e.1,e.2.1.keep kp,e.2.2.keep kp⟩
def vU:(put eA k d).length<=eA.length+1:=by unfold DL.put;split<;>simp
end
end
section
variable [Wd]
def vW:(sizeLine:Nat)<2^63:=by rw[Gdy];decide
section
variable{X:Cx}{env:aM}{Z:Vl}{s s' :Vg}{u:Vf}{b e:Vi}{t:DT}{o:D->D->Option RV}
def Kh:ue X (binaryOp .Mult) bX:=opI (C:=λi j=>bw i j=O) (λx y r e=>by unfold bX at e;(split at e;split at e)<;>simp_all) λi j _ _ _ _ _ hc q=>mul_int q (by
 unfold bw at hc;rw[Gbd,Gbl,Gbl] at hc;exact hc.elim (λh=> .of_left (intBits_le_64 (by lia) (by lia))) λh=> .of_right (intBits_le_64 (by lia) (by lia)))
def Ki:ue X (binaryOp .Pow) mJ:=opI (C:=λi j=>0<=j/\j<=1000/\i.natAbs<1000000) (λx y r e=>by unfold mJ at e;(split at e;split at e)<;>simp_all) λi j _ _ _ _ _ hc q=>pow_int_small hc.1 (by lia) (by lia) q
def Kj(ha:PE X a f):PE X (.UnaryOp .USub a pos) (unE D0 f):=λenv Z s r I e=>a6 e λx hx e=>UnaryOp_ (thn (ha env Z s x I hx) λv s1 eU=>by
 obtain⟨x1,r1⟩:=eU;have i:=r1.inn I;generalize x.d=d at i e;cases d<;>cases e
 obtain⟨t,rfl⟩:=i.int;exact neg_int ⟨x1.trans (.tok _),.one rfl⟩)
def Kk:ue X (binaryOp .Add) aw:=λenv Z s x y v u r I i1 i2 e=>by
 unfold aw at e;split at e
 .cases e;obtain⟨t,rfl⟩:=i1.int;obtain⟨t',rfl⟩:=i2.int;exact add_int ⟨.tok _,.one rfl⟩
 .split at e<;>cases e
  rename_i q;rw[eL] at q;obtain⟨t,rfl⟩:=i1.str;obtain⟨t',rfl⟩:=i2.str;exact add_str (λt' tk=> ⟨.tok _,.one rfl⟩) q
 .split at e<;>cases e
  rename_i xs ys q;rw[eL] at q
  obtain⟨a,eo,rfl,na,h1,z1,r1⟩:=i1.sq rfl;obtain⟨b,xS,rfl,nb,h2,z2,r2⟩:=i2.sq rfl
  have z:eo.toList.length+xS.toList.length<=sizeLine:=by rw[<-r1.1,<-r2.1];exact q
  by_cases hx:eo.toList=[]
  .have e1:eo=#[]:=Array.toList_eq_nil_iff.mp hx;subst e1;have:xs=[]:=Gdf (by rw[r1.1];rfl);subst this;exact HT.D6 (ws:=xS.toList) h1.tup h2.tup ⟨.refl,Top.rep ⟨_,_,xS,rfl,h2,z2,r2⟩ (nb.2 rfl)⟩
  refine HT.GH (vs:=eo.toList) (ws:=xS.toList) h1.tup h2.tup hx (λz=> ⟨.refl, ?_⟩) (λ_=>((I.lay (r1.append r2) (by simpa using z) s.toks).1)) z;have:ys=[]:=Gdf (by rw[r2.1,z];rfl);subst this;rw[GbE];exact Top.rep ⟨_,_,eo,rfl,h1,z1,r1⟩ (na.2 rfl)
 .split at e<;>cases e
  rename_i q;rw[eL] at q
  obtain⟨a,eo,rfl,na,h1,_,r1⟩:=i1.sq rfl;obtain⟨b,xS,rfl,nb,h2,_,r2⟩:=i2.sq rfl
  obtain⟨n1,e1⟩:=h1.ex;obtain⟨n2,e2⟩:=h2.ex
  have z:(eo.toList++xS.toList).length<=sizeLine:=by rw[GaF,<-r1.1,<-r2.1];exact q
  have fin:=(I.lay (r1.append r2) z s.toks).2;rw[<-Array.toList_append,Array.toArray_toList] at fin;exact P.add_list e1 e2 fin (by simpa using z)
 .cases e
def Aq(b:Vi):Prop:=∀o i,subscripted b M o i=operate [o,i] (getItem o i)
def Dg{xs:List α}{i:Int}(e:atD xs i=U d):∃j,seqIndex? i xs.length=U j/\xs[j]? =U d/\-(xs.length:Int)<=i/\i<xs.length/\(0<=i->i.toNat=j)/\(i<0->(i+xs.length).toNat=j):=by
 unfold atD at e;split at e
 .have:=(Gae.mp e).1;exact⟨_,seqIndex_of (by simp_all) (by simp_all),e,by lia,by simp_all,λ_=>rfl,λ_=>by lia⟩
 .split at e<;>first|cases e;done|skip
  rename_i h1 h2;have:=(Gae.mp e).1
  exact⟨_,StrLaws.seqIndex_neg (by simp_all) h2,e,h2,by lia,λ_=>by simp_all,λ_=>rfl⟩
def GK{β:Type}{f:α->β}{xs:List α}(e:atD xs i=U y):atD (xs.map f) i=U (f y):=by
 unfold atD at*;split<;>simp_all
def pO{t:Tok}{eo:Array Vf}(hc:c="list"\/c="tuple")(ht:SqA s.heap p c eo)(hz:eo.size<=sizeLine)(rp:aP F s.heap ds eo.toList)(e:atD ds i=U d)
  (k:∀w,Rep F s.heap d w->Q w s)(hs:subscripted b M (.ref p) (.int i t)=operate [.ref p,.int i t] (getItem (.ref p) (.int i t))):wpAny (model X.prog X.w) A (subscriptTail a b (.ref p) (.int i t)) Q E s:=by
 have hn:=vW;obtain⟨j,h1,h2,h3,h4,h5,h6⟩:=Dg e;obtain⟨w,hw,zH⟩:=rp.get h2;have hl:eo.size=ds.length:=by have:=rp.1;simpa using this.symm
 have hw' :eo[j]? =U w:=by simpa using hw
 rcases hc with rfl|rfl
 .have pl:=ht.lst.isList;by_cases h0:0<=i
  .exact tail_any pl.typeIs slot_list_getitem.lookup (wpAny_getItem_list pl h0 (by lia) (by rw[h5 h0];exact hw') (k w zH)) hs
  .exact tail_any pl.typeIs slot_list_getitem.lookup (wpAny_getItem_list_neg pl (by lia) (by simp_all) (by lia) (by simp_all) (k w zH)) hs
 .exact tail_any (IsTup.typeIs ht.tup) slot_tuple_getitem.lookup (PyProof.Rows.getItem_tuple ht.tup (by lia) (by lia) (by rw[hl];exact h1) hw' (k w zH)) hs
def NT(hu:X.A.units+20<cLine)(ha:PE X a f)(hb:PE X b g)(hs:Aq b):PE X (.Subscript a b pos) (Vd f g):=λenv Z s r I e0=>a6 e0 λx hx e1=>a6 e1 λy hy e2=>aS e2 λd e h=>Subscript_ (bin ha hb I hx hy λv u s2 x1 I2 i1 i2=>by
 subst h;clear e0 e1 e2;generalize x.d=dx at i1 e;generalize y.d=dy at i2 e;have fin:∀{d:D} {w:Vf},Rep _ _ d w->Ext X No s s2/\cM X env Z s s2 ⟨.c,d⟩ w:=λh=> ⟨x1,h⟩;unfold ixD at e;split at e
 .obtain⟨t,rfl⟩:=i2.int;obtain⟨p,eo,rfl,_,ht,hz,rp⟩:=i1.sq rfl;exact pO (.inl rfl) ht hz rp e (λw=>fin) (hs _ _)
 .obtain⟨t,rfl⟩:=i2.int;obtain⟨p,eo,rfl,_,ht,hz,rp⟩:=i1.sq rfl;exact pO (.inr rfl) ht hz rp e (λw=>fin) (hs _ _)
 .obtain⟨t,rfl⟩:=i2.int;obtain⟨t',rfl⟩:=i1.str;split at e
  .rename_i z _ hz;obtain⟨c,e',rfl⟩:=Gab.mp e;rw[eL] at hz;have hn:=vW;obtain⟨j,h1,h2,h3,h4,_⟩:=Dg e';have hl:z.cps.toList.length=z.length:=by simp[Str.length]
   exact tail_any (typeIs_str s2 z t') slot_str_getitem.lookup (PyProof.Rows.getItem_str (c:=c) (by
    rw[GaR (by lia),GaR (by lia)];rfl) (by rw[<-hl,h1];simpa using h2) ⟨x1.trans (.tok _),.one rfl⟩) (hs _ _)
  .cases e
 .obtain⟨p,eo,rfl,_,ht,_,rp⟩:=i1.sq rfl;obtain⟨k,hk,e⟩:=GaZ.mp e;obtain⟨_,xs,dd,q⟩:=vT ht rp;rw[fH hk] at i2;obtain⟨b,_,rfl,_⟩:=i2.sq rfl;rcases q.look k with⟨_,y,e1,e2,r2,_⟩| ⟨e1,_⟩<;>rw[e] at e1<;>cases e1
  exact tail_any dd.typeIs slot_dict_getitem.lookup (wpAny_getItem_heap (Gcx (by lia)) (iD i2) dd e2 ⟨x1.trans (.tok _),r2⟩) (hs _ _)
 .obtain⟨t,rfl⟩:=i2.int;obtain⟨p,eo,rfl,_,ht,hz,rp⟩:=i1.sq rfl;obtain⟨n,e',rfl⟩:=Gab.mp e;exact pO (d:= .int n) (.inl rfl) ht hz rp (GK e') (λw=>fin) (hs _ _)
 .cases e)
def PO(X:Cx)(e:Option Vi)(t:DO):Prop:=∀env Z s o,Inv X env Z s->t env=U o->wpX X (evalPart e X.env) (λu s' =>IsPart u o/\Ext X No s s') X.xe s
def GL:PO X J noO:=λ_ _ _ _ I e=>by cases e;exact Gao ⟨.none,.refl⟩
def GN(h:PE X a f):PO X (U a) (jS f):=λenv Z s o I e=>a6 e λx hx e=>thn (h env Z s x I hx) λu s1 yz=>by
 obtain⟨x1,r1⟩:=yz;have i:=r1.inn I;generalize x.d=d at i e;cases d<;>cases e
 obtain⟨t,rfl⟩:=i.int;exact⟨.int _ t,x1⟩
def sO(lo hi:Option Int)(n:Nat):(sliceBounds lo hi J n).1=((HT.sIx n 0 lo:Nat):Int)/\(sliceBounds lo hi J n).2.1=((HT.sIx n n hi:Nat):Int)/\(sliceBounds lo hi J n).2.2=1:=by
 refine⟨?_, ?_,rfl⟩
 .cases lo with
  |none=>simp[sliceBounds,HT.sIx]
  |some i=>simp only[sliceBounds,HT.sIx,Option.getD_none,show(1:Int)>0 by decide,Gdm];split<;>lia
 .cases hi with
  |none=>simp[sliceBounds,HT.sIx]
  |some i=>simp only[sliceBounds,HT.sIx,Option.getD_none,show(1:Int)>0 by decide,Gdm];split<;>lia
def qY(eo:List Vf)(lo hi:Option Int):slicePick eo.toArray lo hi J=((eo.drop (HT.sIx eo.length 0 lo)).take (HT.sIx eo.length eo.length hi -HT.sIx eo.length 0 lo)).toArray:=by
 obtain⟨h1,h2,h3⟩:=sO lo hi _;unfold slicePick;rw[h1,h2,h3];simp only[sliceRange_one,pick_run]<;>rfl
def Dh{o:Option Int}:HT.sIx n k o=DL.sIx n k o:=by cases o<;>rfl
def aP.cut{us:List Vf}(r:aP F h ds us)(lo hi:Option Int):aP F h (DL.cutD ds lo hi) ((us.drop (HT.sIx us.length 0 lo)).take (HT.sIx us.length us.length hi -HT.sIx us.length 0 lo)):=by
 unfold DL.cutD;rw[Dh,Dh,<-r.1];refine⟨by simp[r.1],λi d v e1 e2=> ?_⟩;rw[GcV] at e1 e2;split at e1
 .rename_i hi;rw[Gar hi,Gbf] at e2;rw[Gbf] at e1;exact r.2 _ d v e1 e2
 .cases e1
def Di{a:Vi}{lo:Option Vi}{th:DO}(he:PE X a f)(hl:PO X lo tl)(hu:PO X hi th):PE X (.Subscript a (.Slice lo hi J p2) pos) (slE f tl th):=λenv Z s r I e0=>a6 e0 λx hx e1=>a6 e1 λl TS e2=>a6 e2 λh hh e=>Subscript_ (thn (he env Z s x I hx) λv s1 ⟨x1,r1⟩=>wpAny_Slice (thn (hl env Z s1 l (I.exp x1) TS) λvl s2 ⟨pl,x2⟩=>thn (hu env Z s2 h ((I.exp x1).exp x2) hh) λvu s3 ⟨pu,x3⟩=>Gao (by
 have x13:=x1.trans (x2.trans x3);have I3:=I.exp x13;have i1:=((r1.later I (I.exp x1) (x2.trans x3)).later I I3 (I3.push {cls:= .type "slice",data:= .fields #[vl,vu,.none]} s3.toks)).inn I;have I4:=I3.exp (I3.push {cls:= .type "slice",data:= .fields #[vl,vu,.none]} s3.toks);have x4:=x13.trans (I3.push {cls:= .type "slice",data:= .fields #[vl,vu,.none]} s3.toks);have hs:Heap.IsSliceOf _ s3.heap.objs.size vl vu .none:=Heap.IsSliceOf.new ..;generalize x.d=dx at i1 e;have ll:∀{ds:List D},sqD dx=U (.of "list",ds)->wpX X (subscriptTail a (.Slice lo hi J p2) v _) (λw s' =>Ext X No s s' /\cM X env Z s s' ⟨.tn,.lst (DL.cutD ds l h)⟩ w) X.xe {s3 with heap:=s3.heap.push {cls:= .type "slice",data:= .fields #[vl,vu,.none]}}:=λq=>by
  obtain⟨p,eo,rfl,_,ht,hz,rp⟩:=i1.sq q;refine tail_any ht.lst.isList.typeIs slot_list_getitem.lookup (wpAny_getItem_list_slice ht.lst.isList hs pl pu .none (by simp) ?_ hz) rfl;have e:eo=eo.toList.toArray:=by simp
  rw[qY];have⟨y,k⟩:=(I4.lay (rp.cut l h) (by rw[Gdr];simp;lia) s3.toks).2;exact⟨x4.trans y,k.from x4⟩
 unfold slD at e;split at e
 .cases e;exact ll rfl
 .split at e<;>cases e
  rename_i xs hw;obtain⟨p,eo,rfl,_,ht,hz,rp⟩:=i1.sq rfl;have eP:eo.size=xs.length:=by have:=rp.1;simpa using this.symm
  refine tail_any (IsTup.typeIs ht.tup) GcT.lookup (HT.mK ht.tup hs pl pu (by rw[eP];exact hw) ?_ hz) (by with_unfolding_all rfl);have⟨y,k⟩:=(I4.lay (rp.cut l h) (by rw[Gdr];simp;lia) s3.toks).1;exact⟨x4.trans y,k.from x4⟩
 .cases e;exact ll rfl
 .cases e)))
end
end
section
variable [Wd]
def iR(Z:Vl)(i:Nat)(u:Vf):Vl:=λj=>if j=i then u else Z j
def bp:iR Z i u i=u:=Gar rfl
def aX(h:j≠i):iR Z i u j=Z j:=Gaw h
def eK{α:Type}{l:List α}{i j:Nat}{x y:α}(e:(l.set i x)[j]? =U y):(j=i/\y=x)\/(j≠i/\l[j]? =U y):=by
 by_cases h:j=i
 .subst h;rw[Gdi] at e;simp at e;exact .inl ⟨rfl,e.2.symm⟩
 .rw[Gax (Gbg h)] at e;exact .inr ⟨h,e⟩
def pP{N:List Str}{i j:Nat}(hN:N.Nodup)(a:N[i]? =U x)(b:N[j]? =U x):i=j:=
 have⟨_,e1⟩:=Gae.mp a;have⟨_,e2⟩:=Gae.mp b
 (List.getElem_inj hN).mp (e1.trans e2.symm)
def TupAt(h:Vj)(b:Vh):Prop:=∃eo,SqA h b "tuple" eo
theorem kT:∀{ds:List D},ay ds=O->∀(i:Nat) d,ds[i]? =U d->d.imm=O
 |[],_,i,d,e=>by cases e
 |x::xs,m,i,d,e=>by rw[ay,Gac] at m;cases i with|zero=>cases e;exact m.1|succ i=>exact kT m.2 i d e
def Rep.uh{d:D}(r:Rep F h d u)(m:d.imm=O):Rep (TupAt h) h d u:=by
 induction r with
 |one e=>exact .one e
 | @sq d c ds a eo q f t z l r ih=>
  cases d<;>cases q<;>first|(simp at m;done)|skip
  exact .sq rfl ⟨eo,t⟩ t z l λi d v e1 e2=>ih i d v e1 e2 (kT m i d e1)
theorem pQ:∀{ds es},ay ds=O->ay es=O->ay (ds++es)=O
 |[],_,_,h=>h
 |d::ds,es,m,h=>by rw[ay,Gac] at m;rw[List.cons_append,ay,Gac];exact⟨m.1,pQ m.2 h⟩
theorem pR:∀{k:List Key},ay (k.map CZ)=O
 |[]=>rfl
 |x::k=>by rw[Gav,ay,Gac];exact⟨by cases x<;>rfl,pR⟩
def ui{d:D}(m:d.oQ=O)(tp:d.top=O)(q:sqD d=U (c,ds)):ay ds=O:=by
 cases d<;>cases q<;>first|(cases tp;done)|exact m|rfl|skip
 refine pQ m ?_;rename_i eA;clear m tp;induction eA with
 |nil=>rfl
 |cons p eA ih=>rw[Gav,ay,Gac];exact⟨by rw[D.imm];exact pR,ih⟩
theorem Top.uh{d:D}(r:Top F h d a)(m:d.oQ=O)(tp:d.top=O):Top (TupAt h) h d a:=by
 refine hde λG fin=> ?_;obtain⟨c,ds,eo,q,t,z,l,rp⟩:=r;exact fin (⟨_,_,eo,q,t,z,l,λi d v e1 e2=>(rp i d v e1 e2).uh (kT (ui m tp q) i d e1)⟩)
def Res(N:Vh->Prop)(s0 s:Vg)(d:D)(u:Vf):Prop:=
 (d.top=O->∃a,u= .ref a/\s0.heap.get? a=J/\Top (λb=>TupAt s.heap b\/(N b/\b≠a)) s.heap d a)/\(d.top=M->Rep (λb=>TupAt s.heap b\/N b) s.heap d u)
theorem Res.imp(r:Res N s0 s d u)(k:∀b,N b->N' b):Res N' s0 s d u:=
 ⟨λt=>by obtain⟨a,e,n,p⟩:=r.1 t;exact⟨a,e,n,p.imp λb z=>z.imp id λz=> ⟨k b z.1,z.2⟩⟩,λt=>(r.2 t).imp λb z _=>z.imp id (k b)⟩
def Cx.rN(X:Cx)(b:Vh):Prop:=X.ni=O/\¬X.bad b
def SP(X:Cx)(e:aM)(Z:Vl)(s:Vg)(o:Out)(f:Flow)(s' :Vg):Prop:=match o,f with
 | .nx e',.next=>∃Z',Inv X e' Z' s' /\Stp X No e Z s e' Z' s'
 | .bk e',.brk=>∃Z',Inv X e' Z' s' /\Stp X No e Z s e' Z' s'
 | .ct e',.cont=>∃Z',Inv X e' Z' s' /\Stp X No e Z s e' Z' s'
 | .ret d,.ret u=>(∃e' Z',Inv X e' Z' s')/\Res X.rN X.s₀ s' d u
 |_,_=>False
def PS(X:Cx)(st:Vk)(f:DS):Prop:=∀env Z s o,Inv X env Z s->f env=U o->wpX X (exec st X.env) (SP X env Z s o) X.xe s
def PSs(X:Cx)(st:List Vk)(f:DS):Prop:=∀env Z s o,Inv X env Z s->f env=U o->wpX X (execs st X.env) (SP X env Z s o) X.xe s
section
variable{X:Cx}{env env' e' :aM}{Z Z' :Vl}{s s' s0:Vg}{r:RV}{u w:Vf}{d:D}{a b:Vi}{f g h:DE}{t:DT}{i:Nat}
def Stp.sp(x:Stp X No env Z s env' Z' s1)(h:SP X env' Z' s1 o fl s2):SP X env Z s o fl s2:=by
 unfold SP at*;split at h<;>first|exact h|(have⟨τ,I,y⟩:=h;exact⟨τ,I,x.trans y⟩)
def store{t:Slot}(I:Inv X env Z s)(hN:X.N.Nodup)(hi:X.N[i]? =U x)(hx:Loc X x)
  (hf:X.fn x=O\/X.env.scope.names.lookup x=U .local)
  (hs:∀j t',(env.set i (U t))[j]? =U (U t')->Slt (Cln X (env.set i (U t)) (iR Z i u)) X s.heap (iR Z i u j) t')
  (hd:∀j k a,lF (env.set i (U t))[j]? ->ba (env.set i (U t))[k]? ->iR Z i u j= .ref a->iR Z i u k= .ref a->j=k)
  (h:∀s',Inv X (env.set i (U t)) (iR Z i u) s' ->(∀b o,s.heap.get? b=U o->¬X.vol b->s'.heap.get? b=U o)->(∀b,Th s.heap b->Th s'.heap b)->Q () s'):wpAny UT A (storeName X.env x u) Q E s:=by
 have hh:∀o∈X.ob,o.h≠i:=λo ho z=>hx.2 o ho (z▸hi);replace hx:=hx.1;obtain⟨m,hn,hl⟩:=I.loc;have go:∀(c) (h') (tk),X.vol c->X.s₀.heap.get? c=J->c∉_->Heap.SameBut c _ h' ->(Th h' c/\∀o,h'.get? c=U o->¬qW o)->(∃m',h'.Ns _ m' /\∀(j) y,X.N[j]? =U y->_->Vis _ y->Look _ h' m' y _)->
   (∀y c',X.env.cells.lookup y=U c' ->∃v,h'.IsCell c' v)->Q _ {s with heap:=h',toks:=tk}:=λc h' tk hv hc U9 sb xI lo ce=>by
  refine hde λG fin=> ?_;obtain⟨ht,hk⟩:=xI;refine fin ?_;have nb:∀b,¬X.vol b->b≠c:=λb n z=>n (z▸hv);have th:∀b,Th _ b->Th h' b:=λb t=>by
   by_cases e:b=c
   .subst e;exact ht
   .unfold Th
    rwa[sb.2 b e]
  refine h _ ⟨I.ok,I.os,I.bare,λb o g f ne=> ?_,λb o g f=> ?_,lo,ce,λj t' g=> ?_,hd,by simpa using I.len,λb z=>th b (I.bt b z),λb z=>th b (I.th0 b z),λb o z g=> ?_,λo ho=> ?_⟩ (λb o g n=>(sb.2 b (nb b n)).trans g) th
  .exact(sb.2 b (λz=>by rw[z,hc] at g;cases g)).trans (I.base b o g f ne)
  .have⟨sl,g1⟩:=I.slot b o g f;exact⟨sl,(sb.2 b (λz=>U9 (z▸f))).trans g1⟩
  rotate_left
  .by_cases e:b=c
   .subst e;exact hk o g
   .exact I.bt2 b o z ((sb.2 b e).symm.trans g)
  .have⟨_,k2,k3,k4⟩:=I.ok.ob o ho;refine(I.fl o ho).keep (λb g=>(sb.2 _ (nb _ k3)).trans g) (λb g=>(sb.2 _ (nb _ k2)).trans g) ⟨aX (hh o ho),by rw[Gax (Gbg (hh o ho))]⟩ λn j m=> ?_;have hj:j≠i:=λz=>k4 n j m x (z▸hi) (hx.imp id .inl);exact⟨aX hj,by rw[Gax (Gbg hj)]⟩
  .exact(hs j t' g).keep (λb o f g _=> ⟨f,(sb.2 b (nb b λz=>f.1 (I.ok.vb b z))).trans g⟩) λa o n _ g _=>(sb.2 a (nb a λz=>n (I.ok.vb a z))).trans g
 have old:∀j y,X.N[j]? =U y->j≠i->(∃t',(env.set i (U t))[j]? =U (U t'))->Vis X.env.scope y->Look X.env s.heap m y (Z j):=λj y h1 h2 ⟨t',h3⟩ h4=>hl j y h1 ⟨t',by rwa[Gax (Gbg h2)] at h3⟩ h4;have cne:∀y c,X.env.cells.lookup y=U c->c≠X.env.locals:=λy c l z=>by
  have⟨_,o,g,q⟩:=I.cell y c l;have⟨o',_,_,g',q',_⟩:=hn;rw[z,g'] at g;cases g;rw[q] at q';cases q'
 have lnf:X.env.locals∉X.fs:=λz=>by
  have⟨_,o,g,_⟩:=I.ok.lG.mem z;rw[I.ok.above] at g;cases g
 rcases hx with hk|hk
 .refine wpAny_storeName_local hk hn (λh' xh sb=>go _ h' _ (.inl (.inl rfl)) I.ok.above lnf sb (let⟨_,_,_,g,q,_⟩:=xh;⟨.of g,λo g' ⟨_,_,_,z⟩=>by rw[g] at g';cases g';rw[q] at z;cases z⟩) ⟨_,xh,λj y h1 h2 h3=> ?_⟩ λy c l=>let⟨v,z⟩:=I.cell y c l;⟨v,z.sameBut sb (cne y c l)⟩) (by rw[I.ok.kind];rfl);by_cases hj:j=i
  .subst hj;rw[hi] at h1;cases h1;exact .inl ⟨hk,by simp[bp]⟩
  .rw[aX hj];refine(old j y h1 hj h2 h3).imp (λ⟨k,q⟩=> ⟨k, ?_⟩) λ⟨k,c,l,z⟩=> ⟨k,c,l,z.sameBut sb (cne y c l)⟩;have:y≠x:=λz=>hj (pP hN h1 (z▸hi));simp[this,q]
 .obtain⟨c,hc⟩:=I.ok.has x (.inl hk);obtain⟨w',z⟩:=I.cell x c hc;refine wpAny_storeName_cell I.ok.kind hk hc z λh' zB sb=>go c h' _ (.inr ⟨x,hc⟩) (I.ok.cab x c (hf.elim id λz=>by rw[z] at hk;cases hk) hc) (I.ok.cf x c hc) sb (let⟨_,g,q⟩:=zB;⟨.of g,λo g' ⟨_,_,_,z⟩=>by rw[g] at g';cases g';rw[q] at z;cases z⟩) ⟨m,hn.sameBut sb (Gbg (cne x c hc)),λj y h1 h2 h3=> ?_⟩ λy c' l=> ?_
  .by_cases hj:j=i
   .subst hj;rw[hi] at h1;cases h1;exact .inr ⟨.inl hk,c,hc,by rw[bp];exact zB⟩
   .rw[aX hj];refine(old j y h1 hj h2 h3).imp id λ⟨k,c',l,z'⟩=> ⟨k,c',l,z'.sameBut sb ?_⟩;rintro rfl;exact hj (pP hN h1 (I.ok.inj _ _ _ l hc▸hi))
  .by_cases hcc:c' =c
   .subst hcc;exact⟨_,zB⟩
   .have⟨v,z2⟩:=I.cell y c' l;exact⟨v,z2.sameBut sb hcc⟩
def gH{t:Slot}(h:ba (env.set i (U t))[j]?):(j=i/\ba (U (U t)))\/(j≠i/\ba env[j]?):=by
 by_cases hj:j=i
 .subst hj;rw[Gdi] at h;split at h<;>first|(split at h<;>first|exact .inl ⟨rfl,h⟩|exact h.elim)|exact absurd rfl ‹_›
 .rw[Gax (Gbg hj)] at h;exact .inr ⟨hj,h⟩
def mL{t:Slot}(h:lF (env.set i (U t))[j]?):(j=i/\lF (U (U t)))\/(j≠i/\lF env[j]?):=by
 by_cases hj:j=i
 .subst hj;rw[Gdi] at h;split at h<;>first|(split at h<;>first|exact .inl ⟨rfl,h⟩|exact h.elim)|exact absurd rfl ‹_›
 .rw[Gax (Gbg hj)] at h;exact .inr ⟨hj,h⟩
def jV{t:Slot}(h:qX (env.set i (U t))[j]?):(j=i/\qX (U (U t)))\/(j≠i/\qX env[j]?):=by
 by_cases hj:j=i
 .subst hj;rw[Gdi] at h;split at h<;>first|(split at h<;>first|exact .inl ⟨rfl,h⟩|exact h.elim)|exact absurd rfl ‹_›
 .rw[Gax (Gbg hj)] at h;exact .inr ⟨hj,h⟩
def lF.top(h:lF q):ba q:=by
 match q,h with
 |some (U (.own _)),_=>trivial
 |some (U (.lok _)),_=>trivial
inductive StR (X:Cx) (env e' :aM) (i:Nat) (Z:Vl) (u:Vf) (s0 s:Vg):Prop
 |mk (t:_) (_:e' =env.set i (U t)) (_:¬isB t) (_:∀j t',e'[j]? =U (U t')->Slt (Cln X e' (iR Z i u)) X s.heap (iR Z i u j) t') (_:∀j k a,lF e'[j]? ->ba e'[k]? ->iR Z i u j= .ref a->iR Z i u k= .ref a->j=k) (_:∀b,Own e' (iR Z i u) b->Own env Z b\/s0.heap.get? b=J) (_:∀b,Cln X env Z b->Th s0.heap b->Cln X e' (iR Z i u) b):StR X env e' i Z u s0 s
def kU(I0:Inv X env Z s0)(y:Ext X No s0 s)(hr:cM X env Z s0 s r u)(h:stored i r env=U e'):StR X env e' i Z u s0 s:=by
 have I:=I0.exp y;obtain⟨k,d⟩:=r;cases k with
 |c=>
  cases h;have cl:∀b,Cln X env Z b->Cln X (env.set i (U (.sh d))) (iR Z i u) b:=λb z=> ⟨z.1,λj t=>by
   rcases gH t with⟨_,q⟩| ⟨hj,q⟩
   .exact q.elim
   .rw[aX hj];exact z.2 j q⟩
  refine⟨_,rfl,id,λj t' g=> ?_,λj k a h1 h2=> ?_,λb ⟨j,h1,h2⟩=> ?_,λb z _=>cl b z⟩
  .rcases eK g with⟨rfl,q⟩| ⟨hj,q⟩
   .cases q;rw[bp];exact Rep.imp hr λb z _=>cl b z
   .rw[aX hj];exact(I.sl j t' q).keep (λb o f g _=> ⟨cl b f,g⟩) λ_ _ _ _ g _=>g
  .rcases mL h1 with⟨_,q⟩| ⟨hj,q⟩
   .exact q.elim
   .rcases gH h2 with⟨_,q2⟩| ⟨hk,q2⟩
    .exact q2.elim
    .rw[aX hj,aX hk];exact I.dj j k a q q2
  .rcases jV h1 with⟨_,q⟩| ⟨hj,q⟩
   .exact q.elim
   .rw[aX hj] at h2;exact .inl ⟨j,q,h2⟩
 |tn=>
  cases h;obtain⟨tp,a,rfl,h1,h2⟩:=hr;have cl:∀b,Cln X env Z b->b≠a->Cln X (env.set i (U (.own d))) (iR Z i (.ref a)) b:=λb z n=> ⟨z.1,λj t=>by
   rcases gH t with⟨rfl,_⟩| ⟨hj,q⟩
   .rw[bp];exactλe=>n (by cases e;rfl)
   .rw[aX hj];exact z.2 j q⟩
  have ne:∀j,ba env[j]? ->Z j≠ .ref a:=λj t e=>by
   obtain⟨b,e2,l,_⟩:=I0.ri t;rw[e] at e2;cases e2
   exact l h1
  refine⟨_,rfl,id,λj t' g=> ?_,λj k b q1 q2 e1 e2=> ?_,λb ⟨j,q1,q2⟩=> ?_,λb z l=>cl b z (λq=>l (q▸h1))⟩
  .rcases eK g with⟨rfl,q⟩| ⟨hj,q⟩
   .cases q;rw[bp]
    exact⟨tp,a,rfl,I0.n0 h1,(I0.cl h1).1,h2.imp λb z=>cl b z.1 z.2⟩
   .rw[aX hj];exact(I0.sl j t' q).keep (λb o f g _=> ⟨cl b f (λz=>by rw[z,h1] at g;cases g),Ext.nf I0 y f.1 g⟩) λb o n _ g _=>Ext.nf I0 y n g
  .rcases mL q1 with⟨rfl,_⟩| ⟨hj,q⟩
   .rcases gH q2 with⟨rfl,_⟩| ⟨hk,q'⟩
    .rfl
    .rw[bp] at e1;rw[aX hk] at e2;exact absurd (e2.trans e1.symm) (ne k q')
   .rcases gH q2 with⟨rfl,_⟩| ⟨hk,q'⟩
    .rw[bp] at e2;rw[aX hj] at e1;exact absurd (e1.trans e2.symm) (ne j q.top)
    .rw[aX hj] at e1;rw[aX hk] at e2;exact I0.dj j k b q q' e1 e2
  .rcases jV q1 with⟨rfl,_⟩| ⟨hj,q⟩
   .rw[bp] at q2;cases q2;exact .inr h1
   .rw[aX hj] at q2;exact .inl ⟨j,q,q2⟩
 |to=>cases h
 |tb=>cases h
def fX(I0:Inv X env Z s0)(y:Ext X No s0 s)(hr:cM X env Z s0 s r u)(xu:stored i r env=U e')(hN:X.N.Nodup)(hi:X.N[i]? =U x)(hx:Loc X x)
  (hf:X.fn x=O\/X.env.scope.names.lookup x=U .local):wpAny UT A (storeName X.env x u) (λ_ s' =>∃Z',Inv X e' Z' s' /\Stp X No env Z s0 e' Z' s') E s:=by
 refine hde λG fin=> ?_;obtain⟨t,rfl,h1,h2,h3,h4,h5⟩:=kU I0 y hr xu;refine fin (store (I0.exp y) hN hi hx hf h2 h3 λs' I' k z=> ⟨_,I',λb o g v _ _=>k b o (y.keep b o g (λz=>v (.inl z)) id) v,h4,h5,λj t' w g=> ?_,λb t=>z b (y.th b t)⟩);rcases eK g with⟨_,q⟩| ⟨hj,q⟩
 .lia
 .exact⟨q,aX hj⟩
def Inv.quiet(I:Inv X env Z s):interactive X.env=M:=by simp[interactive,I.ok.kind]
def Dj{pos:Pos}(hN:X.N.Nodup)(hi:X.N[i]? =U x)(hx:Loc X x)(hf:X.fn x=O\/X.env.scope.names.lookup x=U .local)(he:PE X e f)(hs:swapsWith e (U (.Name x pos')) pos.line X.env=pure M):PS X (.Assign [.Name x pos'] e pos) (au i f):=λenv Z s o I q=>
 a6 q λr hr q=>aS q λe' h1 h2=>by
  subst h2;exact Gco (thn (he env Z s r I hr) λv s1 yT=>by obtain⟨x1,r1⟩:=yT;exact fX I x1 r1 h1 hN hi hx hf) hs
def GO:PSs X [] aC:=λenv Z s o I q=>by cases q;exact GbF ⟨Z,I,.refl⟩
def GP:PS X (.Pass pos) aC:=λenv Z s o I q=>by cases q;exact wpAny_Pass ⟨Z,I,.refl⟩
def Dk:PS X (.Break pos) bkS:=λenv Z s o I q=>by cases q;exact wpAny_Break ⟨Z,I,.refl⟩
def GQ:PS X (.Continue pos) ctS:=λenv Z s o I q=>by cases q;exact wpAny_Continue ⟨Z,I,.refl⟩
def uj{fs:DS}{st:Vk}(h1:PS X st fs)(h2:PSs X rest gs):PSs X (st::rest) (ak fs gs):=λenv Z s o I q=>a6 q λo1 hq q=>Gbq (thn (h1 env Z s o1 I hq) λfl s1 k=>by
 cases o1<;>cases fl<;>first|exact False.elim k|skip
 .obtain⟨Z1,I1,x1⟩:=k;exact thn (h2 _ Z1 s1 o I1 q) λfl s2 k=>x1.sp k
 all_goals (cases q;exact k))
theorem NU(hc:PT X c t)(ha:PSs X ss fs)(hb:PSs X rest gs):PS X (.If c ss rest pos) (ifS t fs gs):=λenv Z s o I q=>a6 q λb hq q=>wpAny_If (thn (hc env Z s b I hq) λd s1 yS=>by
 obtain⟨rfl,x1⟩:=yS;have I1:=I.exp x1;cases d with
 |true=>exact thn (ha env Z s1 o I1 q) λfl s2 k=>x1.stp.sp k
 |false=>exact thn (hb env Z s1 o I1 q) λfl s2 k=>x1.stp.sp k)
theorem Kl(he:PE X e f):PS X (.Return (U e) pos) (UW f):=λenv Z s o I q=>a6 q λr hr q=>by
 split at q<;>cases q
 rename_i ok;refine Gdj (thn (he env Z s r I hr) λv s1 ⟨x1,r1⟩=> ⟨⟨env,Z,I.exp x1⟩, ?_⟩);obtain⟨k,d⟩:=r;cases k with
 |c=>exact⟨λtp=>by cases d<;>first|(cases tp;done)|exact absurd ok (by simp),λ_=>(Rep.uh r1 ok).imp λ_ t _=> .inl t⟩
 |tn=>obtain⟨tp,a,h1,h2,h3⟩:=r1;exact⟨λ_=> ⟨a,h1,I.n0 h2,(h3.uh ok tp).imp λ_ t=> .inl t⟩,λn=>by rw[show _=O from tp] at n;cases n⟩
 |to=>obtain⟨tp,a,h1,h2,h3,h4⟩:=r1;exact⟨λ_=> ⟨a,h1,h2,(h4.uh ok tp).imp λ_ t=> .inl t⟩,λn=>by rw[show _=O from tp] at n;cases n⟩
 |tb=>cases ok
def jW(f:DE):DS:=λenv=>(f env).bind λr=>if r.k= .tb\/(r.k= .c/\r.d.top=O) then J else U (.ret r.d)
theorem GR(hn:X.ni=O)(he:PE X e f):PS X (.Return (U e) pos) (jW f):=λenv Z s o I q=>a6 q λr hr q=>by
 split at q<;>cases q
 rename_i ok;refine Gdj (thn (he env Z s r I hr) λv s1 ⟨x1,r1⟩=> ⟨⟨env,Z,I.exp x1⟩, ?_⟩);obtain⟨k,d⟩:=r;have nt:∀{P:Prop},d.top=O->d.top=M->P:=λt f=>by rw[t] at f;cases f
 cases k with
 |c=>exact⟨λtp=>absurd (.inr ⟨rfl,tp⟩) ok,λ_=>Rep.imp r1 λb z _=> .inr ⟨hn,z.1⟩⟩
 |tn=>obtain⟨tp,a,h1,h2,h3⟩:=r1;exact⟨λ_=> ⟨a,h1,I.n0 h2,h3.imp λb z=> .inr ⟨⟨hn,z.1.1⟩,z.2⟩⟩,nt tp⟩
 |to=>obtain⟨tp,a,h1,h2,h3,h4⟩:=r1;exact⟨λ_=> ⟨a,h1,h2,h4.imp λb z=> .inr ⟨⟨hn,z.1.1⟩,z.2⟩⟩,nt tp⟩
 |tb=>exact absurd (.inl rfl) ok
def GS:PS X (.Return J pos) Jx:=λenv Z s o I q=>by cases q;exact wpAny_Return_none (show SP X env Z s _ _ s from⟨⟨env,Z,I⟩,(λh=>nomatch h),λ_=> .one trivial⟩)
def ItR(w:Bool)(F:Vh->Prop)(h:Vj)(d:D)(u:Vf):Prop:=if w=O then Inn F (λ_=>True) h d u else Rep F h d u
def PG(X:Cx)(w:Bool)(tg:Vi)(g:DG):Prop:=∀env Z s d u env',Inv X env Z s->g d env=U env' ->ItR w (Cln X env Z) s.heap d u->wpX X (assign tg X.env u) (λ_ s' =>∃Z',Inv X env' Z' s' /\Stp X No env Z s env' Z' s') X.xe s
def Ar(hN:X.N.Nodup)(hi:X.N[i]? =U x)(hx:Loc X x)(hf:X.fn x=O\/X.env.scope.names.lookup x=U .local):PG X M (.Name x pos) (gN i):=λenv Z s d u env' I q r=>wpAny_assign_Name (fX (r:=⟨.c,d⟩) I .refl r q hN hi hx hf)
def PGs(X:Cx)(ts:List Vi)(is:List Nat):Prop:=∀env Z s ds us env',Inv X env Z s->gNs is ds env=U env' ->aP (Cln X env Z) s.heap ds us->wpX X (assignInOrder ((assignEach ts X.env).map (·.2)) us) (λ_ s' =>∃Z',Inv X env' Z' s' /\Stp X No env Z s env' Z' s') X.xe s
def GU:PGs X [] []:=λenv Z s ds us env' I q r=>by
 cases ds<;>cases q
 exact assignInOrder_nil ⟨Z,I,.refl⟩
def Stp.rep{d:D}{u:Vf}(x:Stp X No env Z s env' Z' s')(I:Inv X env Z s)(r:Rep (Cln X env Z) s.heap d u):Rep (Cln X env' Z') s'.heap d u:=r.keep λb o f g n=> ⟨x.cl b f (.of g),x.keep b o g (λz=>f.1 (I.ok.vb b z)) (λRq=>by obtain⟨j,h1,h2⟩:=Rq;exact f.2 j h1.ol.top h2) id⟩
def Stp.GJ(x:Stp X No env Z s env' Z' s')(I:Inv X env Z s)(r:aP (Cln X env Z) s.heap ds us):aP (Cln X env' Z') s'.heap ds us:=⟨r.1,λi d v h1 h2=>x.rep I (r.2 i d v h1 h2)⟩
theorem Dl(h1:PG X M e (gN i))(h2:PGs X es is)(hs:(assignEach (e::es) X.env).map (·.2)=assign e X.env::(assignEach es X.env).map (·.2)):PGs X (e::es) (i::is):=λenv Z s ds us env' I q r=>by
 cases ds with
 |nil=>cases q
 |cons d ds=>
  obtain⟨v,vs,rfl,r1,r2⟩:=r.gM;rw[hs];exact assignInOrder_cons (thn (h1 env Z s d v _ I rfl r1) λ_ s1 yQ=>by obtain⟨Z1,I1,x1⟩:=yQ;exact thn (h2 _ Z1 s1 ds vs env' I1 q (x1.GJ I r2)) λ_ s2 yR=>by obtain⟨Z2,I2,x2⟩:=yR;exact⟨Z2,I2,x1.trans x2⟩)
theorem As:∀{is:List Nat} {ds:List D} {env:aM},gNs is ds env=U env' ->is.length=ds.length
 |[],[],_,_=>rfl
 |_::_,_::_,_,h=>congrArg (· +1) (As (show gNs _ _ _=_ from h))
 |[],_::_,_,h=>nomatch h
 |_::_,[],_,h=>nomatch h
def Km{w:Bool}{is:List Nat}(hc:X.calm=O)(h:PGs X es is)(hn:(assignEach es X.env).length=is.length)(xu:(assignEach es X.env).findIdx? (·.1)=J):PG X w (.Tuple es k pos) (gT is):=λenv Z s d u env' I q r=>by
 have r:Inn (Cln X env Z) (λ_=>True) s.heap d u:=by cases w<;>first|exact r|exact(Rep.inn r).imp id λyP=>by obtain⟨a,e,_,h⟩:=yP;exact⟨a,e,trivial,h⟩
 cases d<;>first|cases q;done|skip
 obtain⟨a,eo,rfl,f,ht,hz,rp⟩:=r.sq rfl;refine assign_Tuple_tuple (I.ok.hd hc) ht.tup (by rw[hn,As q,rp.1];simp) xu λh' hx=> ?_;have k:=λb o g=>hx b o (λz=>by rw[z,aJ] at g;cases g) g;have x1:Ext X No s {s with heap:=h' }:=I.kept k _;exact thn (h env Z _ _ _ env' (I.exp x1) q (rp.keep λb o f g _=> ⟨f,k b o g⟩)) λ_ s2 Rp=>by obtain⟨Z2,I2,x2⟩:=Rp;exact⟨Z2,I2,x1.stp.trans x2⟩
end
end
open PySem.W (KTurns)
section
variable [Wd]
section
variable{X:Cx}{env:aM}{Z:Vl}{s s' s1 s2:Vg}{v:Vf}{d:D}{b:Vi}{h:DE}{i:Nat}{o:Out}{tg iter:Vi}{w:Bool}{ds:List D}{src:DI}
inductive Src(X:Cx)(w:Bool)(tg:Vi)(env:aM)(Z:Vl)(s:Vg)(ds:List D)(yJ:Vf)(s2:Vg):Prop
 |mk (I:Vh) (fp wr:List Vh) (P Md:Nat->Vf->Vj->Prop) (St:Nat->Vj->Prop) (G:Vh->Prop) (_:yJ= .ref I) (_:Ext X No s s2) (_:KTurns X.prog X.w X.A tg I fp wr ds.length P Md St) (_:St 0 s2.heap) (_:(∀b∈fp,¬X.bad b/\¬Own env Z b/\Th s2.heap b)) (_:(∀b∈wr,s.heap.get? b=J)) (_:(∀i h,St i h->∀b∈wr,∃o,h.get? b=U o/\ItO o)) (_:(∀b,G b->Cln X env Z b/\Th s2.heap b/\b∉wr)) (_:(∀s Q E,St 0 s.heap->Q (.ref I) s->wpX X (pyIter (.ref I)) Q E s)) (_:∀i v h d,ds[i]? =U d->P i v h->(∀b o,G b->s2.heap.get? b=U o->h.get? b=U o)->ItR w G h d v):Src X w tg env Z s ds yJ s2
def PI(X:Cx)(w:Bool)(tg iter:Vi)(src:DI):Prop:=∀env Z s ds,Inv X env Z s->src env=U ds->wpX X (eval iter X.env) (λv s1=>wpX X (pyIter v) (Src X w tg env Z s ds) X.xe s1) X.xe s
theorem ItR.imp{h:Vj}(r:ItR w F h d u)(k:∀b,F b->Th h b->F' b):ItR w F' h d u:=by
 cases w with
 |false=>exact Rep.imp r k
 |true=>exact(show Inn _ _ _ _ _ from r).imp id λeU=>by obtain⟨a,e,t,c,ds,eo,q,t1,z,rp⟩:=eU;exact⟨a,e,t,c,ds,eo,q,t1,z,rp.keep λb o f g _=> ⟨k b f (.of g),g⟩⟩
def Kp(wr:List Vh)(s s' :Vg):Prop:=∃h' tk,s' ={s with heap:=h',toks:=tk}/\∀b o,b∉wr->s.heap.get? b=U o->h'.get? b=U o
theorem Kp.th(k:Kp wr s s'):∀b,Th s.heap b->b∉wr->Th s'.heap b:=λb z m=>by
 obtain⟨_,_,rfl,k⟩:=k;cases g:s.heap.get? b with
 |none=>exact absurd g z
 |some o=>exact .of (k b o m g)
def Kp.ex0(k:Kp wr s s')(hv:∀b∈wr,¬X.vol b):Ex0 X (· ∈wr) s s' :=by
 obtain⟨_,_,rfl,k⟩:=k;exact⟨rfl,id,λb o g _ n=>k b o n g,λb o g f=> ⟨_,k b o (λm=>hv b m (.inl f)) g⟩⟩
def Kp.inv{St:Nat->Vj->Prop}(k:Kp wr s s')(UR:Inv X env Z s)(st:St i s.heap)(hw:∀b∈wr,X.s₀.heap.get? b=J/\¬X.bad b)(hi:∀i h,St i h->∀b∈wr,∃o,h.get? b=U o/\ItO o):Inv X env Z s' :=
 UR.ex0 (k.ex0 λb m z=>(hw b m).2 (UR.ok.vb b z)) (λb z=>k.th b (UR.bt b z) λm=>(hw b m).2 z) (λb z=>k.th b (UR.th0 b z) λm=>z (hw b m).1) λb m=> ⟨.inr (hw b m).1,(hw b m).2,λo g=>by
  obtain⟨o',g',z⟩:=hi i _ st b m;rw[g] at g';cases g';exact z⟩
def draw{P:Nat->Vf->Vj->Prop}{St:Nat->Vj->Prop}(W:KTurns X.prog X.w X.A tg I fp wr n P Md St)(UR:Inv X env Z s)(st:St i s.heap)(hw:∀b∈wr,X.s₀.heap.get? b=J/\¬X.bad b)(hi:∀i h,St i h->∀b∈wr,∃o,h.get? b=U o/\ItO o)(hU:i<n):
  wpX X (pyNext (.ref I)) (λr s4=>∃v,r=U v/\wpX X (letOwnedTupleGo tg (.ref I) v) (λ_ s5=>P i v s5.heap/\St (i+1) s5.heap/\Inv X env Z s5/\Kp wr s s5) X.xe s4) X.xe s:=
 W.item i s _ _ hU st λv h' tk md k=> ⟨v,rfl,W.go i v _ _ _ md λh2 p Rv k2=>have kk:Kp wr s {s with heap:=h2,toks:=tk}:=⟨_,_,rfl,λb o n g=>k2 b o n (k b o n g)⟩;⟨p,Rv,kk.inv UR st hw hi,kk⟩⟩
def drawn{St:Nat->Vj->Prop}(W:KTurns X.prog X.w X.A tg I fp wr n P Md St)(UR:Inv X env Z s)(st:St n s.heap)(hw:∀b∈wr,X.s₀.heap.get? b=J/\¬X.bad b)(hi:∀i h,St i h->∀b∈wr,∃o,h.get? b=U o/\ItO o):
  wpX X (pyNext (.ref I)) (λr s4=>r=J/\Inv X env Z s4/\Kp wr s s4) X.xe s:=
 W.done s _ _ st λh' tk k=>have kk:Kp wr s {s with heap:=h',toks:=tk}:=⟨_,_,rfl,k⟩;⟨rfl,kk.inv UR st hw hi,kk⟩
def Kp.keep{b:Vh}{o:Vo}(k:Kp wr s s')(m:b∉wr)(g:s.heap.get? b=U o):s'.heap.get? b=U o:=by obtain⟨_,_,rfl,k⟩:=k;exact k b o m g
def turns{fs:DS}{P:Nat->Vf->Vj->Prop}{St:Nat->Vj->Prop}{G:Vh->Prop}{R:Result->Vg->Prop}(hp:PassesOwn (model X.prog X.w) X.A X.env X.xe)(W:KTurns X.prog X.w X.A tg I fp wr ds.length P Md St)(I0:Inv X env Z s)(x0:Ext X No s s2)(yU:St 0 s2.heap)
  (hf:∀b∈fp,¬X.vol b/\¬Own env Z b/\Th s2.heap b)(hw:∀b∈wr,s.heap.get? b=J)(hi:∀i h,St i h->∀b∈wr,∃o,h.get? b=U o/\ItO o)(hG:∀b,G b->Cln X env Z b/\Th s2.heap b/\b∉wr)
  (rep:∀i v h d,ds[i]? =U d->P i v h->(∀b o,G b->s2.heap.get? b=U o->h.get? b=U o)->ItR w G h d v)
  (hg:PG X w tg gd)(hb:PSs X body fs)(q:UX gd fs ds env=U o)(hR:∀fl s',SP X env Z s o fl s' ->R (.ok fl) s')(zv:∀e s',notedBy (model X.prog X.w) X.A X.env (cameBackBy (model X.prog X.w) X.A X.env X.xe) e s' ->notedBy (model X.prog X.w) X.A X.env (λe s' =>R (.error e) s') e s'):
  codeAny (model X.prog X.w) X.A (.forLoop tg (.ref I) body [] X.env) R s2:=by
 have hw2:∀b∈wr,X.s₀.heap.get? b=J/\¬X.bad b:=λb m=> ⟨I0.n0 (hw b m),λz=>I0.bt b z (hw b m)⟩;have ps:∀{α:Type} {t:Sem α} {Q:α->Vg->Prop} {s},wpAny _ _ t Q _ s->wpAny _ _ t Q _ s:=λh=>GaB (Gem hp h) (λ_ _ q=>q) zv;refine codeAny_forLoop_any (λn s' =>∃i e' Z',Inv X e' Z' s' /\Stp X (· ∈wr) env Z s2 e' Z' s' /\St i s'.heap/\i<=ds.length/\n=_ -i/\UX gd fs (ds.drop i) e' =U o) ?_ ds.length ⟨0,env,Z,I0.exp x0,.refl,yU,Gbm _,rfl,q⟩;rintro n s3 ⟨i,e3,Z3,I3,x3,yA,hle,rfl,q3⟩;have fin:∀{e' Z' s'},Inv X e' Z' s' ->(∀b o,s2.heap.get? b=U o->¬X.vol b->¬Own env Z b->b∉wr->s'.heap.get? b=U o)->(∀b,Own e' Z' b->Own env Z b\/s2.heap.get? b=J)->(∀b,Cln X env Z b->Th s2.heap b->Cln X e' Z' b)->
   (∀i t,isB t->e'[i]? =U (U t)->env[i]? =U (U t)/\Z' i=Z i)->(∀b,Th s2.heap b->b∉wr->Th s'.heap b)->Stp X No env Z s e' Z' s' :=λ_ kp ow cl lk th=> ⟨λb o g v w _=>kp b o (x0.keep b o g (λz=>v (.inl z)) id) v w (λm=>by rw[hw b m] at g;cases g),
  λb z=>(ow b z).imp id x0.n0,λb c t=>cl b c (x0.th b t),lk,λb t=>th b (x0.th b t) λm=>t (hw b m)⟩
 by_cases hU:i<ds.length
 .refine ps (thn (draw W I3 yA hw2 hi hU) λr s4 ⟨v,hr,h4⟩=> ?_);subst hr;refine ps (thn h4 λ_ s5 ⟨p,yh,I5,k5⟩=> ?_);have x5:Ext X (· ∈wr) s3 s5:=⟨k5.ex0 (λb m=>(hf b (W.sub b m)).1),λb z=>(Classical.em (b∈wr)).elim (λm=>let⟨o,g,_⟩:=hi _ _ yh b m;.of g) (k5.th b z)⟩
  rw[(Gbz hU)] at q3;refine a6 q3 λe4 zx q4=>a6 q4 λo5 zT q5=> ?_;have gk:∀b o,G b->s2.heap.get? b=U o->s5.heap.get? b=U o:=λb o z g=>by
   obtain⟨c,t,n⟩:=hG b z;exact k5.keep n (x3.keep b o g (λz=>c.1 (I0.ok.vb b z)) (λ⟨j,h1,h2⟩=>c.2 j h1.ol.top h2) n)
  refine ps (thn (hg e3 Z3 _ _ _ e4 I5 zx ((rep i v _ ds[i] (by simp[hU]) p gk).imp (F' :=Cln X e3 Z3) λb z _=>x3.cl b (hG b z).1 (hG b z).2.1)) λ_ s6 ⟨Z6,I6,x6⟩=>ps (thn (hb e4 Z6 s6 o5 I6 zT) λfl s7 k7=> ?_));have up:∀{e7 Z7},Stp X No e4 Z6 s6 e7 Z7 s7->Stp X (· ∈wr) env Z s2 e7 Z7 s7:=λx7=>
   x3.trans (x5.stp.trans (let y:=x6.trans x7;⟨λb o g v w _=>y.keep b o g v w id,y.own,y.cl,y.lk,y.th⟩))
  have again:∀{e7 Z7},Inv X e7 Z7 s7->Stp X No e4 Z6 s6 e7 Z7 s7->UX gd fs (ds.drop (i+1)) e7=U o->∃m,m<ds.length -i/\∃i e' Z',Inv X e' Z' s7/\Stp X (· ∈wr) env Z s2 e' Z' s7/\St i s7.heap/\i<=ds.length/\m=ds.length -i/\UX gd fs (ds.drop i) e' =U o:=λI7 x7 q=> ⟨_,by lia,i+1,_,_,I7,up x7,(λx7=>W.frame _ _ _ yh λb m o g=>(x6.trans x7).keep b o g (hf b m).1 ((λb hb z=>(x3.own b z).elim (hf b hb).2.1 λn=>(hf b hb).2.2 n) b m) id) x7,hU,rfl,q⟩;cases o5<;>cases fl<;>first|exact False.elim k7|skip
  .obtain⟨Z7,I7,x7⟩:=k7;exact again I7 x7 q5
  .cases q5;exact hR _ _ k7
  .cases q5;obtain⟨Z7,I7,x7⟩:=k7;have y:=up x7;exact hR _ _ ⟨Z7,I7,fin I7 y.keep y.own y.cl y.lk λb t _=>y.th b t⟩
  .obtain⟨Z7,I7,x7⟩:=k7;exact again I7 x7 q5
 .have eV :i=ds.length:=by lia
  subst eV;rw[GbS] at q3;cases q3;refine ps (thn (drawn W I3 yA hw2 hi) λr s4 ⟨hr,I4,k4⟩=> ?_);subst hr;exact ps (GbF (hR _ _ ⟨Z3,I4,fin I4 (λb o g v w m=>k4.keep m (x3.keep b o g v w m)) x3.own x3.cl x3.lk λb t m=>k4.th b (x3.th b t) m⟩))
end
end
section
variable [Wd]
def Au{s:Vg}{o:Vo}(ho:s.heap.get? it=U o)(hc:o.cls= .type n)(hd:o.data= .fields vs)
  (hn:["enumerate","zip","dict_itemiterator","dict_reverseitemiterator","odict_iterator","itertools.zip_longest","itertools.pairwise"].contains n=M)(hQ:Q () s):wpAny UT A (letOwnedTupleGo tg (.ref it) u) Q E s:=by
 cases tg<;>first
  |exact Gao hQ
  |(cases u<;>first
    |exact Gao hQ
    |(refine Gad (wpAny_load ho ?_)
      rw[hc,hd];show wpAny UT A (if _=O then _ else _) Q E s;rw[Gaw (by intro h;rw[hn] at h;cases h)];exact Gao hQ))
def jX{env:aM}(h:env[i]? =U (U t))(ht:ba (U (U t))/\ba (U (U t')))(j:Nat):ba (env.set i (U t'))[j]? ↔ba env[j]? :=by
 by_cases hj:j=i
 .subst hj;rw[h,Gau (Gae.mp h).1];exact⟨λ_=>ht.1,λ_=>ht.2⟩
 .rw[Gax (Gbg hj)]
def Inv.swap{env:aM}(I:Inv X env Z s)(h:env[i]? =U (U t))(ht:(t= .own d/\t' = .lok d)\/(t= .lok d/\t' = .own d)):Inv X (env.set i (U t')) Z s:=by
 have tt:ba (U (U t))/\ba (U (U t'))/\lF (U (U t)):=by rcases ht with⟨rfl,rfl⟩| ⟨rfl,rfl⟩<;>exact⟨trivial,trivial,trivial⟩
 have top:=jX h ⟨tt.1,tt.2.1⟩;have cl:∀b,Cln X env Z b->Cln X _ Z b:=λb z=> ⟨z.1,λj q=>z.2 j ((top j).mp q)⟩;have old:∀{j t2},(env.set i (U t'))[j]? =U (U t2)->∃t3,env[j]? =U (U t3)/\(Slt (Cln X env Z) X s.heap (Z j) t3->Slt (Cln X env Z) X s.heap (Z j) t2):=λ{j t2} g=>by
  rcases eK g with⟨rfl,e⟩| ⟨_,e⟩
  .cases e;exact⟨t,h,by rcases ht with⟨rfl,rfl⟩| ⟨rfl,rfl⟩<;>exact id⟩
  .exact⟨t2,e,id⟩
 refine⟨I.ok,I.os,I.bare,I.base,I.slot, ?_,I.cell,λj t2 g=> ?_,λj k b h1 h2=>I.dj j k b ?_ ((top k).mp h2),by simpa using I.len,I.bt,I.th0,I.bt2,λo ho=>(I.fl o ho).same λj=> ?_⟩
 .have⟨m,hn,hl⟩:=I.loc;exact⟨m,hn,λj y h1 eU=>by obtain⟨t2,g⟩:=eU;exact let⟨t3,g3,_⟩:=old g;hl j y h1 ⟨t3,g3⟩⟩
 .have⟨t3,g3,k⟩:=old g;exact(k (I.sl j t3 g3)).keep (λb o f g _=> ⟨cl b f,g⟩) λ_ _ _ _ g _=>g
 .rcases mL h1 with⟨rfl,_⟩| ⟨_,q⟩
  .rw[h];exact tt.2.2
  .exact q
 .by_cases z:i=j
  .subst z;rw[h,Gau (Gae.mp h).1];exact⟨λ_=> ⟨_,rfl⟩,λ_=> ⟨_,rfl⟩⟩
  .simp_all
theorem mM:∀{ds:List D} {e:aM} {o:Out},UX g fs ds e=U o->(∃e',o= .nx e')\/∃d,o= .ret d
 |[],_,_,h=>by cases h;exact .inl ⟨_,rfl⟩
 |d::ds,e,o,h=>a6 h λe1 _ h=>a6 h λo1 _ h=>by
  cases o1 with
  |nx _=>exact mM h
  |ct _=>exact mM h
  |bk _=>cases h;exact .inl ⟨_,rfl⟩
  |ret d=>cases h;exact .inr ⟨_,rfl⟩
theorem Kn{X:Cx}(hp:PassesOwn (model X.prog X.w) X.A X.env X.xe)(hi:PI X w tg iter src)(hg:PG X w tg gd)(hb:PSs X body fs)(hs:∀x,foldedSetIterable iter X.env x=pure x):PS X (.For tg iter body [] pos) (dN l src gd fs):=λenv Z s o I q=>a6 q λds hd q=>aS q λo1 hl ho=>by
 have go:∀{e1:aM},Inv X e1 Z s->src e1=U ds->UX gd fs ds e1=U o1->(∀fl s',SP X e1 Z s o1 fl s' ->SP X env Z s o fl s')->wpAny _ _ (exec (.For tg iter body [] pos) _) _ _ s:=λ{e1} I1 hd hl hR=>
  wpAny_For (thn (hi e1 Z s ds I1 hd) λv s1 h1=>thn h1 λyJ s2 zC=>by
   obtain⟨I,fp,wr,P,Md,St,G,e,x2,W,yU,h1,h2,h3,h4,_,h5⟩:=zC;subst e;exact turns hp W I1 x2 yU (λb m=> ⟨λz=>(h1 b m).1 (I1.ok.vb b z),(h1 b m).2⟩) h2 h3 h4 h5 hg hb hl hR λ_ _ z=>z) hs
 have no:bL l env=env->D1 l env=M->wpAny _ _ _ (SP X env Z s o) _ s:=λe n=>by
  rw[e] at hd hl;rw[n] at ho;subst ho;refine go I hd hl λfl s' k=> ?_;cases o1<;>exact k
 cases l with
 |none=>exact no rfl rfl
 |some i=>
  unfold bL D1 at*
  match q:env[i]? with
  |some (U (.own d))=>
   simp only[q] at hd hl ho;have I1:=I.swap q (.inl ⟨rfl,rfl⟩);refine go I1 hd hl λfl s' k=> ?_;have top:=jX (t' := .lok d) q ⟨trivial,trivial⟩;have sub:∀b,Own (env.set i (U (.lok d))) Z b->Own env Z b:=λb R9=>by
    obtain⟨j,h1,h2⟩:=R9;rcases jV h1 with⟨_,z⟩| ⟨_,z⟩
    .exact z.elim
    .exact⟨j,z,h2⟩
   have fin:∀{e1 Z1},Inv X e1 Z1 s' ->Stp X No _ Z s e1 Z1 s' ->∃Z2,Inv X (lV (U i) e1) Z2 s' /\Stp X No env Z s (lV (U i) e1) Z2 s' :=λ{e1 Z1} I1 x1=>by
    have cl:∀b,Cln X env Z b->Th _ b->Cln X e1 Z1 b:=λb z t=>x1.cl b ⟨z.1,λj q=>z.2 j ((top j).mp q)⟩ t;have kp:∀b o,s.heap.get? b=U o->¬X.vol b->¬Own env Z b->¬No b->s'.heap.get? b=U o:=λb o g v w n=>x1.keep b o g v (λz=>w (sub b z)) n;have lk:∀j t',isB t' ->e1[j]? =U _->j≠i->env[j]? =U _/\Z1 j=Z j:=λj t' w g n=>by
     have⟨h1,h2⟩:=x1.lk j t' w g;rw[Gax (Gbg n)] at h1;exact⟨h1,h2⟩
    by_cases hx:∃d1,e1[i]? =U (U (.lok d1))
    .obtain⟨d1,g⟩:=hx;have fe:lV (U i) e1=e1.set i (U (.own d1)):=by simp[lV,g]
     have⟨h1,h2⟩:=x1.lk i (.lok d1) trivial g;rw[fe];refine⟨Z1,I1.swap g (.inr ⟨rfl,rfl⟩),kp,λb ⟨j,z1,z2⟩=> ?_,λb z t=> ⟨(cl b z t).1,λj q=>(cl b z t).2 j (((jX (t' := .own d1) g ⟨trivial,trivial⟩) j).mp q)⟩,λj t' w g' => ?_,x1.th⟩
     .rcases jV z1 with⟨rfl,_⟩| ⟨_,z⟩
      .exact .inl ⟨j,by rw[q];trivial,h2▸z2⟩
      .exact(x1.own b ⟨j,z,z2⟩).imp (sub b) id
     .rcases eK g' with⟨_,z⟩| ⟨n,z⟩
      .cases z;exact w.elim
      .exact lk j t' w z n
    .have fe:lV (U i) e1=e1:=by
      show(match e1[i]? with|some (U (.lok d))=>e1.set i (U (.own d))|_=>e1)=e1;split
      .exact absurd ⟨_,‹_›⟩ hx
      .rfl
     rw[fe];refine⟨Z1,I1,kp,λb z=>(x1.own b z).imp (sub b) id,cl,λj t' w g=>lk j t' w g λz=> ?_,x1.th⟩;subst z;have g1:=(x1.lk j t' w g).1;rw[(Gau ((Gae.mp q).1))] at g1;cases g1;exact hx ⟨_,g⟩
   subst ho;cases o1 with
   |nx e1=>cases fl<;>first|exact False.elim k|(obtain⟨Z1,I1,x1⟩:=k;exact fin I1 x1)
   |ret d=>cases fl<;>exact k
   |bk e1=>rcases mM hl with⟨_,z⟩| ⟨_,z⟩<;>cases z
   |ct e1=>rcases mM hl with⟨_,z⟩| ⟨_,z⟩<;>cases z
  |some (U (.sh d))=>exact no (by simp only[q]) (by simp only[q])
  |some (U (.lok d))=>exact no (by simp only[q]) (by simp only[q])
  |some (U (.bor d))=>exact no (by simp only[q]) (by simp only[q])
  |some J=>exact no (by simp only[q]) (by simp only[q])
  |none=>exact no (by simp only[q]) (by simp only[q])
end
section
variable [Wd]
section
variable{X:Cx}{env:aM}{Z:Vl}{s1:Vg}{u:Vf}{a c:Vi}{ds:List D}
inductive WkR(X:Cx)(env:aM)(Z:Vl)(s1:Vg)(u:Vf)(c:Shp)(ds:List D):Prop
 |mk (a eo:_) (_:u= .ref a) (_:¬X.bad a) (_:¬Own env Z a) (_:Th s1.heap a) (_:SqA s1.heap a c eo) (_:eo.size<=c.z) (_:aP (Cln X env Z) s1.heap ds eo.toList):WkR X env Z s1 u c ds
def cM.walk{r:RV}{c:Shp}(h:cM X env Z s s1 r u)(I:Inv X env Z s)(hk:r.k≠ .to)(q:sqD r.d=U (c,ds)):WkR X env Z s1 u c ds:=by
 obtain⟨k,d⟩:=r;have tp:∀{F a},Top F s1.heap d a->∃eo,SqA _ a c eo/\_<=_/\aP F _ ds _:=λ⟨_,_,eo,q',t,z,r⟩=>by rw[q] at q';cases q';exact⟨eo,t,z,r⟩
 cases k with
 |c=>
  refine hde λG fin=> ?_;obtain⟨a,eo,rfl,f,t,z,rp⟩:=(Rep.inn h).sq q;exact fin (⟨a,eo,rfl,f.1,λeU=>by obtain⟨j,h1,h2⟩:=eU;exact f.2 j h1.ol.top h2,t.th,t,z,rp⟩)
 |tn=>
  refine hde λG fin=> ?_;obtain⟨_,a,rfl,n,t⟩:=h;obtain⟨eo,t,z,rp⟩:=tp t;exact fin (⟨a,eo,rfl,(I.cl n).1,λxI=>by obtain⟨j,h1,h2⟩:=xI;exact(I.cl n).2 j h1.ol.top h2,t.th,t,z,rp.keep λb o f g _=> ⟨f.1,g⟩⟩)
 |to=>exact absurd rfl hk
 |tb=>
  refine hde λG fin=> ?_;obtain⟨_,a,rfl,n,no,t⟩:=h;obtain⟨eo,t,z,rp⟩:=tp t;exact fin (⟨a,eo,rfl,n,no,t.th,t,z,rp⟩)
def ito{h:Vj}{o:Vo}(g:h.get? I=U o)(c:o.cls= .type n)(d:o.data= .fields vs):∀b∈[I],∃o,h.get? b=U o/\ItO o:=λb hb=>by
 rw[Gam.mp hb];exact⟨o,g,n,vs,c,d⟩
def Ko(hc:X.calm=O)(he:PE X iter f):PI X M tg iter (cy f):=λenv Z s ds I q=>a6 q λr hr q=>thn (he env Z s r I hr) λv s1 zD=>by
 obtain⟨x1,r1⟩:=zD;split at q
 .cases q
 rename_i hk;have I1:=I.exp x1;have hh:=I1.ok.hd hc;have run:∀{c},sqD _=U (c,ds)->(c="list"\/c="tuple")->wpX X (pyIter v) (Src X M tg env Z s ds) X.xe s1:=λq hc=>by
  obtain⟨l,eo,rfl,nv,no,th,t,z,rp⟩:=r1.walk I hk q;have hl:eo.size=ds.length:=by have:=rp.1;simpa using this.symm
  have ne:l≠_:=λz=>by rw[z] at th;exact th aJ
  have nw:∀b∈[s1.heap.objs.size],s.heap.get? b=J:=λb hb=>by rw[Gam.mp hb];exact x1.n0 aJ
  have nf:∀{o:Vo} _,∀b∈[s1.heap.objs.size,l],¬X.bad b/\¬Own env Z b/\Th (s1.heap.push o) b:=λ{o} ho b hb=>by
   rcases Gaq.mp hb with rfl|hb
   .have c:=I1.cl aJ;exact⟨c.1,λyx=>by obtain⟨j,h1,h2⟩:=yx;exact c.2 j h1.ol.top h2,.of (Gat _ ho)⟩
   .rw[Gam.mp hb];exact⟨nv,no,(I1.push o s1.toks).th l th⟩
  have rep:∀{o:Vo} i v h d,ds[i]? =U d->eo[i]? =U v->(∀b o',_->(s1.heap.push o).get? b=U o' ->h.get? b=U o')->Rep _ h d v:=λ{o} i v h d h1 h2 k=>
   (rp.2 i d v h1 (by simpa using h2)).keep λb o' f g _=>by
    have g' :=Gag o g;have z:Cln X env Z b/\Th _ b/\b∉[s1.heap.objs.size]:=⟨f,.of g',λm=>by rw[Gam.mp m,aJ] at g;cases g⟩
    exact⟨z,k b o' z g'⟩
  rcases hc with rfl|rfl
  .have W:=KTurns.ofWalks (target:=tg) (Walks.list (prog:=X.prog) (w:=X.w) hh _ l ne eo) λi v s Q E st hq=>by obtain⟨o,g,c,d⟩:=st.1;exact Au g c d rfl hq
   rw[hl] at W;exact wpAny_pyIter_list t.lst.isList ⟨_,[s1.heap.objs.size,l],[s1.heap.objs.size],_,_,_,_,rfl,x1.trans (I1.push _ _),W,⟨⟨_,Gat _ rfl,rfl,rfl⟩,t.lst.isList.at λo g=>Gag _ g⟩,nf rfl,nw,λi h st=>by obtain⟨o,g,c,d⟩:=st.1;exact ito g c d,λb z=>z,λ_ _ _ st h=>wpAny_pyIter_listiter st.1 h,rep⟩
  .have W:=KTurns.ofWalks (target:=tg) (Walks.tuple (prog:=X.prog) (w:=X.w) hh s1.heap.objs.size l ne eo) λi v s Q E st hq=>by obtain⟨o,g,c,d⟩:=st.1;exact Au g c d (by decide) hq
   rw[hl] at W;exact GcW t.tup ⟨s1.heap.objs.size,[s1.heap.objs.size,l],[s1.heap.objs.size],_,_,_,_,rfl,x1.trans (I1.push _ _),W,⟨⟨_,Gat _ rfl,rfl,rfl⟩,IsTup.keeps t.tup λb o g=>Gag _ g⟩,nf rfl,nw,λi h st=>by obtain⟨o,g,c,d⟩:=st.1;exact ito g c d,λb z=>z,λ_ _ _ st h=>wpAny_pyIter_tupleiter st.1 h,rep⟩
 generalize r.d=d at q run;cases d<;>cases q
 .exact run rfl (.inr rfl)
 .exact run rfl (.inl rfl)
 .exact run rfl (.inl rfl)
def rq{s2:Vg}{lo:Int}{u:Tok}(I:Inv X env Z s)(x2:Ext X No s s2)(hc:X.calm=O)(h1:aU lo=O)(h2:aU hi=O)(hd:ds=aN lo (hi -lo).toNat)(Tw:IsRange s2.heap rr lo hi 1 t u v):
  wpX X (pyIter (.ref rr)) (Src X M tg env Z s ds) E s2:=by
 have I2:=I.exp x2;have sm:Builtin.Range.small lo hi 1=O:=by
  unfold aU at h1 h2;simp only[Gac,Gbl] at h1 h2;exact small_one (by simp[*]) (by simp[*]) (by simp[*]) (by simp[*])
 have hl:(hi -lo).toNat=ds.length:=by rw[hd];simp[aN]
 have c:=I2.cl aJ;have W:=KTurns.ofWalks (target:=tg) (Walks.range (prog:=X.prog) (w:=X.w) (I2.ok.hd hc) s2.heap.objs.size lo 1 (hi -lo).toNat) λi v s Q E st hq=>Au st rfl rfl rfl hq;rw[hl] at W;refine wpAny_pyIter_range Tw sm ⟨_,[s2.heap.objs.size],[s2.heap.objs.size],_,_,_,No,rfl,x2.trans (I2.push _ _),W, ?_,λb hb=> ?_,λb hb=> ?_,λi h st=>ito st rfl rfl,λb z=>z.elim,λ_ _ _ st h=>wpAny_pyIter_rangeiter st h,λi v h d g ⟨t,e⟩ _=> ?_⟩
 .rw[<-hl,show lo+_*1=lo by simp,show _ -_=Builtin.Range.rangeSize lo hi 1 by rw[rangeSize_one];split<;>lia];exact Gat _ rfl
 .rw[Gam.mp hb];exact⟨c.1,λ⟨j,h1,h2⟩=>c.2 j h1.ol.top h2,.of (Gat _ rfl)⟩
 .rw[Gam.mp hb];exact x2.n0 aJ
 .subst e;rw[hd,aN,Gaj] at g;obtain⟨k,hk,rfl⟩:=Gab.mp g;have:=Gae.mp hk;obtain⟨_,e⟩:=this;rw[List.getElem_range] at e;subst e;exact .one (by show lo+_=lo+_*1;simp)
def BG(hc:X.calm=O)(hg:Gl X "range")(hm:X.mg "range"=J)(ha:PE X a f)(hs:starEach [a] X.env=[(M,eval a X.env)]):PI X M tg (.Call (.Name "range" p) [a] [] pos) (cz f):=λenv Z s ds I q=>a6 q λr hr q=>by
 refine Call_ (jf I hg hm boot_range (GbU (thn (fg ha iQ (by rw[hs];rfl) pos env Z s [r] I (by show(f env).bind _=_;rw[hr];rfl)) λus s1 ⟨x1,rs⟩=> ?_) hs rfl));cases rs with|cons r1 tl=> ?_
 cases tl;have i1:=r1.inn I;obtain⟨i,e9,q⟩:=int_inv q;rw[e9] at i1;obtain⟨t,rfl⟩:=i1.int;split at q
 .rename_i z;cases q;exact call_range_1 (rq I (x1.trans ((I.exp x1).push _ _)) hc rfl z (by simp) (IsRange.new ..))
 .cases q
def BH(hc:X.calm=O)(hg:Gl X "range")(hm:X.mg "range"=J)(ha:PE X a f)(hb:PE X b g)(hs:starEach [a,b] X.env=[(M,eval a X.env),(M,eval b X.env)])(eQ:starEach [b] X.env=[(M,eval b X.env)]):PI X M tg (.Call (.Name "range" p) [a,b] [] pos) (pD f g):=λenv Z s ds I q=>a6 q λr hr q=>a6 q λr' xJ q=>by
 refine Call_ (jf I hg hm boot_range (GbU (thn (fg ha (fg hb iQ (by rw[eQ];rfl)) (by rw[hs,eQ]) pos env Z s [r,r'] I (by show(f env).bind _=_;rw[hr];show((g env).bind _).bind _=_;rw[xJ];rfl)) λus s1 ⟨x1,rs⟩=> ?_) (by rw[hs,eQ]) (by rw[eQ];rfl)));cases rs with|cons r1 tl=> ?_
 cases tl with|cons r2 tl=> ?_
 cases tl;have i1:=r1.inn I;have i2:=r2.inn I;obtain⟨i,i',e9,e8,q⟩:=D3 q;rw[e9] at i1;rw[e8] at i2;obtain⟨t,rfl⟩:=i1.int;obtain⟨t,rfl⟩:=i2.int;split at q
 .rename_i z;cases q;rw[Gac] at z;exact call_range_2 (rq I (x1.trans ((I.exp x1).push _ _)) hc z.1 z.2 rfl (IsRange.new ..))
 .cases q
end
end
section
variable [Wd]
structure bU(k:Nat)(A:Vm):Prop where
 hd:A.handled=J
 dp:A.depth+3*k+5<recursionLimit
 un:A.units+16*k+200<cLine
theorem bU.deeper{A:Vm}(r:bU (k+1) A)(env:f7):bU k (A.deeper env):=
 ⟨r.hd,by have:=r.dp;show _+1+3*k+5<_;lia,by have:=r.un;show _+3+16*k+200<_;lia⟩
structure bH(N P:List Str)(sc:Vp):Prop where
 kind:sc.kind= .function
 co:sc.isCoroutine=M
 gen:sc.isGenerator=M
 nd:N.Nodup
 pre:N.take P.length=P
 par:∀x∈P,sc.names.lookup x=U .local\/sc.names.lookup x=U .cell
 MY:∀y∈sc.names,y.2≠ .free
theorem ry{kindOf:Str->Option Vq}:∀{binds m},(∀v,(x,v)∉binds)->bindL kindOf binds m x=m x
 |[],_,_=>rfl
 |(n,v)::r,m,h=>by
  unfold bindL;rw[ry λw hw=>h w (Gaf _ hw)];split
  .have:x≠n:=by rintro rfl;exact h v Gai
   simp[this]
  .rfl
theorem gI{kindOf:Str->Option Vq}:∀{P:List Str} {vs:List Vf} {i:Nat} {m:Str->Option Vf},P.Nodup->P[i]? =U x->vs[i]? =U v->kindOf x=U .local->
  bindL kindOf (P.zip vs) m x=U v
 |[],_,_,_,_,h,_,_=>by simp at h
 |_::_,[],_,_,_,_,h,_=>by simp at h
 |p::P,w::vs,0,m,nd,h1,h2,hk=>by
  simp at h1 h2;subst h1;subst h2;show bindL kindOf (_::P.zip vs) m p=_;unfold bindL;rw[ry λv hv=>(GbO.mp nd).1 (GcA hv).1,Gar hk];simp
 |p::P,w::vs,i+1,m,nd,h1,h2,hk=>by
  show bindL kindOf (_::P.zip vs) m x=_;exact gI (GbO.mp nd).2 (by simpa using h1) (by simpa using h2) hk
theorem rA{kindOf:Str->Option Vq}:∀{binds m},(∀v,(x,v)∉binds)->bindC kindOf binds m x=m x
 |[],_,_=>rfl
 |(n,v)::r,m,h=>by
  unfold bindC;rw[rA λw hw=>h w (Gaf _ hw)];split
  .rfl
  .have:x≠n:=by rintro rfl;exact h v Gai
   simp[this]
theorem rC{kindOf:Str->Option Vq}:∀{P:List Str} {vs:List Vf} {i:Nat} {m:Str->Option Vf},P.Nodup->P[i]? =U x->vs[i]? =U v->kindOf x≠U .local->
  bindC kindOf (P.zip vs) m x=U v
 |[],_,_,_,_,h,_,_=>by simp at h
 |_::_,[],_,_,_,_,h,_=>by simp at h
 |p::P,w::vs,0,m,nd,h1,h2,hk=>by
  simp at h1 h2;subst h1;subst h2;show bindC kindOf (_::P.zip vs) m p=_;unfold bindC;rw[rA λv hv=>(GbO.mp nd).1 (GcA hv).1,Gaw hk];simp
 |p::P,w::vs,i+1,m,nd,h1,h2,hk=>by
  show bindC kindOf (_::P.zip vs) m x=_;exact rC (GbO.mp nd).2 (by simpa using h1) (by simpa using h2) hk
def uk{sc:Vp}(h:sc.names.lookup x=U .cell):∃c,(cellsFrom n sc.names []).lookup x=U c:=by
 exact Option.isSome_iff_exists.mp (GbX _ n [] (.inl h))
theorem bU.depth{A:Vm}(r:bU k A):A.depth<recursionLimit:=by have:=r.dp;lia
structure pj(K:FrW)(mg:Str->Option Vf)(base:Vj)(A:Vm)(outer:List f7)(B:Vh->Prop)(s:Vg):Prop where
 frames:A.frames=U outer
 mod:Mod K mg base
 bs:∀b o,base.get? b=U o->s.heap.get? b=U o
 lG:s.heap.FunFrames base outer
 bare:AllBare s.gens
 nt:∀b∈frs outer,∀o,s.heap.get? b=U o->¬qW o
 bth:∀b,B b->Th s.heap b
 bnt:∀b o,B b->s.heap.get? b=U o->¬qW o
structure iE(outer:List f7)(s s' :Vg):Prop where
 os:s'.os=s.os
 bare:AllBare s'.gens
 keep:∀b o,s.heap.get? b=U o->b∉frs outer->s'.heap.get? b=U o
 slot:∀b o,s.heap.get? b=U o->b∈frs outer->∃sl,s'.heap.get? b=U {o with slots:=sl}
 th:∀b,Th s.heap b->Th s'.heap b
abbrev nN (ni:Bool) (B:Vh->Prop) (b:Vh):Prop:=ni=O/\¬B b
structure nY(K:FrW)(mg:Str->Option Vf)(base:Vj)(ni:Bool)(k:Nat)(f:Vh)(fd:Vr)(ps:List Str)(sp:SpF):Prop where
 len:∀ds d,sp ds=U d->ds.length=ps.length
 run:∀(A:Vm) (outer:List f7) (B:Vh->Prop) (s:Vg) (args:Args) (us:List Vf) (ds:List D) (d:D),bU k A->pj K mg base A outer B s->BindsTo s fd args (ps.zip us)->aP (λb=>b∉frs outer/\¬B b) s.heap ds us->sp ds=U d->
  codeAny (model Wd.p Wd.w) A (.call (.ref f) args) (λr s' =>∃u,r= .ok (.ret u)/\iE outer s s' /\Res (nN ni B) s s' d u) s
def Kq(env:f7)(outer:List f7)(b:Vh):Prop:=(b=env.locals\/b∈frs outer)\/∃x,env.cells.lookup x=U b
def lW(K:FrW)(mg:Str->Option Vf)(base:Vj)(ni:Bool)(B:Vh->Prop)(N:List Str)(qual:Str)(scope:Vp)(f:Vh)(cd:Vf)(A:Vm)(outer:List f7)(s:Vg):Cx where
 K:=K
 mg:=mg
 base:=base
 A:=A.deeper (envOfC qual scope s.heap.objs.size f cd)
 N:=N
 s₀:=s
 env:=envOfC qual scope s.heap.objs.size f cd
 outer:=outer
 stack:=envOfC qual scope s.heap.objs.size f cd::outer
 ob:=[]
 ex:=[]
 calm:=O
 ni:=ni
 fn:=λ_=>O
 bad:=λb=>Kq (envOfC qual scope s.heap.objs.size f cd) outer b\/B b
 xe:=λ_ _=>False
def sP{i:Nat}:¬ba (bY n ds)[i]? :=λh=>by
 unfold bY at h;by_cases hi:i<ds.length
 .rw[GaS (by simp_all),Gaj] at h;cases q:ds[i]? with
  |none=>rw[q] at h;exact h
  |some d=>rw[q] at h;exact h
 .rw[GaW (by simp_all),GdO] at h;split at h<;>exact h
def um{i:Nat}(e:(bY n ds)[i]? =U (U t)):∃d,ds[i]? =U d/\t= .sh d:=by
 unfold bY at e;by_cases hi:i<ds.length
 .rw[GaS (by simp_all),Gaj] at e;cases q:ds[i]? with
  |none=>rw[q] at e;cases e
  |some d=>rw[q] at e;cases e;exact⟨d,rfl,rfl⟩
 .rw[GaW (by simp_all),GdO] at e;split at e<;>cases e
variable{N ps:List Str}
def rD{B:Vh->Prop}{K:FrW}{scope:Vp}{A:Vm}{s:Vg}{us:List Vf}{ds:List D}
  (S:bH N ps scope)(hd:A.handled=J)(e0:pj K mg base A outer B s)(hl:ds.length=ps.length)(r:aP (λb=>b∉frs outer/\¬B b) s.heap ds us)
  (x:InCallC s s.heap.objs.size (bindL (envOfC qual scope s.heap.objs.size f cd).kindOf (ps.zip us) λ_=>J) (cellsFrom (s.heap.objs.size+1) scope.names []) (bindC (envOfC qual scope s.heap.objs.size f cd).kindOf (ps.zip us) λ_=>J) s1):
  Inv (lW K mg base ni B N qual scope f cd A outer s) (bY N.length ds) (λi=>us.getD i .none) s1:=by
 have xg:ps.length<=N.length:=by have:=congrArg List.length S.pre;rw[Gdr] at this;lia
 obtain⟨h1,tk,rfl,hk⟩:=x.done;have th:∀b,Th _ b->Th h1 b:=λb t=>by cases g:s.heap.get? b with|none=>exact absurd g t|some o=>exact .of (hk b o g)
 have lo:=λy c h=>x.above y c (GbV h);have fth:∀b∈frs outer,Th _ b:=λb hb=>let⟨_,o,g,_⟩:=e0.lG.mem hb;.of g
 have vn:∀b,Th _ b->b∉frs outer->¬Kq (envOfC qual scope s.heap.objs.size f cd) outer b:=λb t n=>by
  rintro((rfl|v)| ⟨y,v⟩)
  .exact t aJ
  .exact n v
  .exact t (Gbc (GaJ (lo y b v)))
 have ht:=x.toInCall.ns;refine⟨⟨e0.mod,S.kind,rfl,rfl,aJ,λy z c h1 h2=> ?_,λy hy=> ?_,λy c _ h=>Gbc (GaJ (lo y c h)),λ_=>hd,Around.frames_deeper e0.frames,.inr ⟨rfl,rfl⟩,(λb z=>nomatch z),e0.bs,(λb _ _ z=>nomatch z),e0.lG,λb v=> .inl v,λy c h z=>fth c z (Gbc (GaJ (lo y c h))),(λ_ z=>nomatch z)⟩,
  rfl,e0.bare,λb o g _ _=>hk b o g,λb o g _=> ⟨_,hk b o g⟩,⟨_,ht,λi y h1 ⟨t,h2⟩ h3=> ?_⟩,λy c h=> ⟨_,x.cell y c h⟩,λi t g=> ?_,λi j a t _ _ _=>(sP t.top).elim,by simp only[bY];show _=N.length;simp[*],λb v=> ?_,th,λb o v g=> ?_,(λ_ z=>nomatch z)⟩
 .exact name_of_addr x.apart (GbV h1) (GbV h2)
 .rcases hy with hy|hy
  .exact uk hy
  .exact absurd rfl (S.MY _ (GbV hy))
 .obtain⟨d,hd,rfl⟩:=um h2;obtain⟨u,hu,_⟩:=r.get hd;have hi:i<ps.length:=by rw[<-hl];exact(Gae.mp hd).1
  have hp:ps[i]? =U y:=by rw[<-S.pre,Gbh (by simp[*])];exact h1
  have ndP:ps.Nodup:=by rw[<-S.pre];exact S.nd.sublist (List.take_sublist _ _)
  have eu:us.getD i .none=u:=by rw[Gbp,hu];rfl
  rw[eu];rcases S.par y (GaH hp) with k|k
  .exact .inl ⟨k,gI ndP hp hu k⟩
  .obtain⟨c,e⟩:=uk k;refine .inr ⟨.inl k,c,e, ?_⟩;have q:=x.cell y c e
   rwa[rC ndP hp hu (by show scope.names.lookup y≠_;rw[k];decide)] at q
 .obtain⟨d,hd,rfl⟩:=um g;obtain⟨u,hu,rp⟩:=r.get hd;rw[Gbp,hu];exact rp.keep λb o f g _=> ⟨⟨λz=>z.elim (vn b (.of g) f.1) f.2,λj t=>(sP t).elim⟩,hk b o g⟩
 .rcases v with((rfl|v)| ⟨y,v⟩)|v
  .exact let⟨_,_,_,g,_⟩:=ht;.of g
  .exact th b (fth b v)
  .exact let⟨_,g,_⟩:=x.cell y b v;.of g
  .exact th b (e0.bth b v)
 .rcases v with((rfl|v)| ⟨y,v⟩)|v
  .obtain⟨_,_,_,g',q,_⟩:=ht;rw[show(envOfC qual scope s.heap.objs.size f cd).locals=s.heap.objs.size from rfl,g'] at g;cases g
   exactλ⟨_,_,_,z⟩=>by rw[q] at z;cases z
  .cases g0:s.heap.get? b with
   |none=>exact absurd g0 (fth b v)
   |some o0=>have:=hk b o0 g0;rw[g] at this;cases this;exact e0.nt b v o g0
  .obtain⟨_,g',q⟩:=x.cell y b v;rw[g] at g';cases g'
   exactλ⟨_,_,_,z⟩=>by rw[q] at z;cases z
  .cases g0:s.heap.get? b with
   |none=>exact absurd g0 (e0.bth b v)
   |some o0=>have:=hk b o0 g0;rw[g] at this;cases this;exact e0.bnt b o v g0
def JC{K:FrW}
    (lk:K.lookup f=U ⟨oc,od,.func (PySem.W.fnOf name qual params body scope dV kV doc pm an eS ct),xY⟩)(eO:PySem.W.codeIn K eS qual=O)(S:bH N ps scope)(xN:ps.length=np)
  (xk:∀A outer B s,bU k (A.deeper (envOfC qual scope s.heap.objs.size f eS))->PSs (lW K mg base ni B N qual scope f eS A outer s) body b):
  nY K mg base ni (k+1) f (PySem.W.fnOf name qual params body scope dV kV doc pm an eS ct) ps (bF N.length np b):=by
 have len:∀ds d,bF N.length np b ds=U d->ds.length=ps.length:=λds d h=>by unfold bF at h;split at h<;>first|(rw[xN];assumption)|cases h
 refine⟨len,λA outer B s args us ds d hr e0 hb r eW=> ?_⟩;have hl:=len _ _ eW;have KX:=e0.mod.kin.keeps e0.bs;have hkind:∀y∈ps.zip us,scope.names.lookup y.1=U .local\/(scope.names.lookup y.1=U .cell/\((cellsFrom (s.heap.objs.size+1) _ []).lookup y.1).isSome=O):=λ⟨n,v⟩ hy=>by
  rcases S.par n (GcA hy).1 with q|q
  .exact .inl q
  .exact .inr ⟨q,GbX _ _ _ (.inl q)⟩
 refine GcB hr.depth (KX _ _ lk) rfl S.co S.gen rfl (GcX KX eO) (hb _ _ _ _ (GbZ S.kind hkind λenv he s1 x=> ?_));subst he;refine⟨(e0.mod.nolimit.keeps e0.bs).keeps x.toInCall.keep,Geo ?_⟩;unfold bF at eW;rw[Gar (by rw[<-xN];exact hl)] at eW;refine a6 eW λo ho q=>GaB (xk A outer B s (hr.deeper _) _ _ s1 o (rD (ni:=ni) S hr.hd e0 hl r x) ho) (λfl s' hs=> ?_) λe s' z=>False.elim z;have fin:∀{e' Z'},Inv (lW K mg base ni B N qual scope f eS A outer s) e' Z' s' ->iE outer s s' :=λI' => ⟨I'.os,I'.bare,λb o g n=>I'.base b o g n (λz=>nomatch z),λb o g n=>I'.slot b o g n,I'.th0⟩;cases o<;>cases fl<;>first|exact False.elim hs|skip
 .cases q;obtain⟨Z',I',_⟩:=hs;exact⟨_,rfl,fin I',(λh=>nomatch h),λ_=> .one trivial⟩
 .cases q;obtain⟨⟨e',Z',I'⟩,rs⟩:=hs;exact⟨_,rfl,fin I',rs.imp λb z=> ⟨z.1,λy=>z.2 (.inr y)⟩⟩
 .cases q
 .cases q
end
end NL
namespace Att
open PySem PySem.W PySem.Calls PyProof.Rows
def pk:∀ns vs,WellAll P h vs (ns.map WData.int)->IntsAre vs ns:=by
 intro ns;induction ns with
 |nil=>
  intro vs w;cases w;exact .nil
 |cons n ns ih=>
  intro vs w;cases w with
  |cons a b=>
   cases a;exact .cons _ _ (ih _ b)
def BI{l:OpenLaw}{h:Vj}(hn:l.most=U n)
  (yC:l.row.toRowW.claim.pre args=O)(RF:WellAll P h vals args):
  ∃a vs ns,vals=[Value.ref a]/\args=[WData.list (ns.map WData.int)]/\h.get? a=U {cls:= .type "list",data:= .seq vs.toArray}/\IntsAre vs ns/\ns.length<=n:=by
 have hc:l.pre.holds [] {args:=args}=O:=(pre_splitW yC).2;obtain⟨d,r,rfl,h1,h2⟩:=hasAllW_cons ((pre_splitW yC).1);obtain rfl:=hasAllW_nil h2;obtain⟨xs,rfl,h3⟩:=hasW_list h1;obtain⟨ns,rfl⟩:=items_int h3;have eP:ns.length<=n:=by
  have h4:(WTm.not (.lt (.lit (.int (n))) (.len (.arg 0)))).holds [] {args:=[.list (ns.map .int)]}=O:=by
   have h4:=(holds_andW hc).1
   rwa[hn] at h4
  have h5:=condW_of h4 (w_not (w_lt w_lit (w_len_list (w_arg rfl))));simp_all
 cases RF with
 |cons w1 w2=>
  cases w2;cases w1 with
  |list ho hall=>exact⟨_,_,ns,rfl,rfl,ho,pk ns _ hall,eP⟩
def BJ(l:OpenLaw)(args:List WData):l.row.toRowW.claim.post args (.bool O) args=O:=
 postW_of
  (show WShape.has [] _ .bool=O by first|rfl|decide|simp)
  (show(WTm.eq .res _).value [] {args:=args,res:=U _,after:=args}=U _ from w_eq_bool (w_res rfl) w_lit) rfl
def uo{l:OpenLaw}{d:DefRec}
  (hn:l.most=U n)(zQ:d.params.defaults=[])
  (call:∀w s₀ s₁ mg mb fa o pm cd doc a vs ns,
   Ground q loose [] XP w s₀ mg mb s₁.heap->YP w s₁.heap->
   s₁.heap.get? fa=U o->o.data= .func (docDef d.name d.params d.body d.scope pm cd doc)->s₁.heap.CodeRec cd d.name->mg d.name=U (.ref fa)->
   s₁.heap.get? a=U {cls:= .type "list",data:= .seq vs.toArray}->IntsAre vs ns->ns.length<=n->s₁.gens=#[]->
   codeAny (model l.prog w) callerA (.call (.ref fa) ⟨[.ref a],[]⟩) (λr s' =>r= .ok (.ret (.bool O))/\OldK s₁.heap s'.heap/\s'.os=s₁.os/\AllBare s'.gens) s₁):
  WalkO q loose XP YP l.row.toRowW d [] (λf vs=>PySem.call f vs):=by
 intro w s₀ s₁ mg mb G Y fa o pm cd doc dV kV ho hd eO hD yl hg args vals as yC hlay hrd RF SK;obtain rfl:dV= .none:=Dflts.none hD zQ;obtain rfl:kV= .none:=Dflts.noKw hD;obtain⟨a,vs,ns,rfl,rfl,z0,hints,eP⟩:=BI hn yC RF;refine enter_call (Gdn (call w s₀ s₁ mg mb fa o pm cd doc a vs ns G Y ho (fd_plain hd) eO yl z0 hints eP hg) λr s' hq=> ?_);obtain⟨rfl,h2,h3,h4⟩:=hq;exact⟨.inl ⟨.bool O,.bool O,[],rfl,λ_=>rfl,.bool O,BJ l _,λ_=> ⟨List.Pairwise.nil,λ_ hm=>(nomatch hm)⟩⟩,h2,h3,h4⟩
end Att
namespace NL
open PySem PySem.Spec PyProof.Rows DL
section
variable [Wd]
section
variable{X:Cx}{env:aM}{Z:Vl}{s s' :Vg}{r:RV}{u:Vf}{a:Vi}{ds:List D}{us:List Vf}{rs:List RV}{sp:SpF}{o:SpV}
def Inv.sQ(I:Inv X env Z s)(t:TupAt s.heap b):Cln X env Z b:=by
 refine hde λG fin=> ?_;obtain⟨eo,t⟩:=t;refine fin (⟨λz=>let⟨o,n,g,e1,_,e3⟩:=t;I.bt2 b o z g ⟨e1,eo,n,e3⟩,λi q e=> ?_⟩);have no:∀{d F},d.top=O->Top F s.heap d b->False:=λ{d F} tp ⟨c,ds,xo,q,t',_,_⟩=>by
  obtain⟨hc,_⟩:=t.inj t';cases d<;>cases q<;>first|cases hc;done|cases tp;done|exact absurd (Shp.of.inj hc) (by lia)
 match q:env[i]?,q with
 |some (U (.own d)),_=>obtain⟨tp,a,h1,_,_,h3⟩:=I.sl i _ q;rw[e] at h1;cases h1;exact no tp h3
 |some (U (.lok d)),_=>obtain⟨tp,a,h1,_,_,h3⟩:=I.sl i _ q;rw[e] at h1;cases h1;exact no tp h3
 |some (U (.bor d)),_=>obtain⟨tp,a,h1,_,h3⟩:=I.sl i _ q;rw[e] at h1;cases h1;exact no tp h3
def Res.rv(I' :Inv X env Z s')(x:Ext X No s s')(I:Inv X env Z s)(h:Res N s s' d u)(hN:∀b,N b->Cln X env Z b):cM X env Z s s' (dZ d) u:=by
 unfold dZ;by_cases tp:d.top=O
 .rw[Gar tp];obtain⟨a,e,n,t⟩:=h.1 tp;refine⟨tp,a,e,n,t.imp λb z=>z.elim (λz=> ⟨I'.sQ z,λq=> ?_⟩) λz=> ⟨hN b z.1,z.2⟩⟩;obtain⟨c,ds,eo,q1,t1,_⟩:=t;obtain⟨xo,t'⟩:=z;obtain⟨hc,_⟩:=(q▸t').inj t1;cases d<;>cases q1<;>first|cases hc;done|cases tp;done|exact absurd (Shp.of.inj hc) (by decide)
 .rw[Gaw tp];exact Rep.imp (h.2 (by simp_all)) λb z _=>z.elim I'.sQ (hN b)
def Inv.Dm(I:Inv X env Z s)(ni:Bool):pj X.K X.mg X.base X.A X.stack (nN ni (Cln X env Z)) s:=by
 have th:∀b,¬Cln X env Z b->Th _ b/\¬TupAt _ b:=λb n=> ⟨λg=>n (I.cl g),λt=>n (I.sQ t)⟩;refine⟨I.ok.frames,I.ok.mod,I.bk,I.stack,I.bare,λb hb o g=>I.bt2 b o (I.ok.vb b (.inl (I.cA b hb))) g,λb z=>(th b z.2).1,λb o z g t=> ?_⟩;by_cases hb:X.bad b
 .exact I.bt2 b o hb g t
 .obtain⟨i,ti,e⟩:∃i,ba env[i]? /\Z i= .ref b:=GaO λn=>z.2 ⟨hb,λi t e=>n ⟨i,t,e⟩⟩;have no:∀{d F},d.top=O->Top F s.heap d b->False:=λ{d F} tp ⟨c,ds,xo,q,t',_,_⟩=>by
   obtain⟨e1,eo,n,e3⟩:=t;obtain⟨hc,_⟩:=SqA.inj (⟨o,n,g,e1,.inl rfl,e3⟩:SqA _ b (.of "tuple") eo) t';cases d<;>cases q<;>first|cases hc;done|cases tp;done|exact absurd (Shp.of.inj hc) (by decide)
  match q:env[i]?,ti with
  |some (U (.own d)),_=>obtain⟨tp,a,h1,_,_,h3⟩:=I.sl i _ q;rw[e] at h1;cases h1;exact no tp h3
  |some (U (.lok d)),_=>obtain⟨tp,a,h1,_,_,h3⟩:=I.sl i _ q;rw[e] at h1;cases h1;exact no tp h3
  |some (U (.bor d)),_=>obtain⟨tp,a,h1,_,h3⟩:=I.sl i _ q;rw[e] at h1;cases h1;exact no tp h3
def iE.ext(I:Inv X env Z s)(c:iE X.stack s s'):Ext X No s s' :=
 ⟨⟨c.os,λ_=>c.bare,λb o g f _=>c.keep b o g λm=>f (I.cA b m),λb o g _=>(Classical.em _).elim (c.slot b o g) λn=> ⟨_,c.keep b o g n⟩⟩,c.th⟩
def Binds(K:FrW)(fd:Vr)(ps:List Str):Prop:=∀(s:Vg) (us:List Vf),K.In s.heap->us.length=ps.length->BindsTo s fd ⟨us,[]⟩ (ps.zip us)
def Binds.all{K:FrW}{ps:List Str}(h:∀us,us.length=ps.length->bindArgs fd ⟨us,[]⟩=pure (ps.zip us)):Binds K fd ps:=λs us _ hl=> .of_eq (h us hl)
def Dn(F:nY X.K X.mg X.base ni k f fd ps sp)(hr:bU k X.A)(hb:Binds X.K fd ps)(I:Inv X env Z s)(r:aP (λb=>¬X.bad b/\(ni=O->Cln X env Z b)) s.heap ds us)(h:sp ds=U d):
  wpX X (call (.ref f) us) (λu s' =>Ext X No s s' /\cM X env Z s s' (dZ d) u) X.xe s:=by
 refine GcJ (Gdn (F.run _ _ _ s ⟨us,[]⟩ us ds d hr (I.Dm ni) (hb s us I.kIn (by rw[<-r.1];exact F.len _ _ h)) (r.keep λb o n g _=> ⟨⟨λm=>n.1 (I.ok.vb b (.inl (I.cA b m))),λz=>z.2 (n.2 z.1)⟩,g⟩) h) λr s' eX=>hde λG eJ=> ?_);obtain⟨u,e,c,q⟩:=eX;refine eJ ?_;subst e;have x:=c.ext I;exact⟨x,q.rv (I.exp x) x I λb z=>GaO λn=>z.2 ⟨z.1,n⟩⟩
def BK{s1:Vg}(I:Inv X env Z s)(p:Paired (cM X env Z s s1) rs us):aP (λb=>¬X.bad b) s1.heap (rs.map (·.d)) us:=by
 induction p with
 |nil=>exact .nil
 |cons h t ih=>
  refine .cons ?_ ih;rcases h.inn I with e| ⟨a,rfl,n,t⟩
  .exact .one e
  .exact(t.imp λb z=>z.1).rep n.1
def GV(F:nY X.K X.mg X.base M k fa fd ps sp)(hr:bU k X.A)(hg:Gl X x)(hm:X.mg x=U (.ref fa))(hk:PySem.W.keepIn X.K (.ref fa)=O)(hb:Binds X.K fd ps)
  (ha:PA X (e::es) ra)(xw:(x==Dgs)=M)(he:starEach (e::es) X.env=(M,eval e X.env)::starEach es X.env)(xg:(backTo pos (starEach es X.env)).any (·.1)=M):PE X (.Call (.Name x p) (e::es) [] pos) (ai sp ra):=λenv Z s r I q=>
 a6 q λrs xp q=>aS q λd hd xJ =>by
  subst xJ;exact Gbu (je I hg hm (Gce I.ok.mod.kin hk (thn (ha pos env Z s rs I xp) λus s1 ⟨x1,p⟩=> ⟨(I.exp x1).kIn,(thn (Dn F hr hb (I.exp x1) ((BK I p).keep λb o n g _=> ⟨⟨n,λz=>nomatch z⟩,g⟩) hd) λu s2 ⟨x2,q⟩=> ⟨x1.trans x2,q.from x1⟩)⟩) he xg) xw)
@[simp]noncomputable def vX(sp:SpF)(a:DA):DE:=λenv=>(a env).bind λrs=>if rs.all (·.free)=O then(sp (rs.map (·.d))).map dZ else J
def Dp(F:nY X.K X.mg X.base O k fa fd ps sp)(hr:bU k X.A)(hg:Gl X x)(hm:X.mg x=U (.ref fa))(hk:PySem.W.keepIn X.K (.ref fa)=O)(hb:Binds X.K fd ps)
  (ha:PA X (e::es) ra)(xw:(x==Dgs)=M)(he:starEach (e::es) X.env=(M,eval e X.env)::starEach es X.env)(xg:(backTo pos (starEach es X.env)).any (·.1)=M):PE X (.Call (.Name x p) (e::es) [] pos) (vX sp ra):=λenv Z s r I q=>
 a6 q λrs xp q=>by
  split at q<;>first|cases q;done|skip
  rename_i hf;refine aS q λd hd xJ => ?_;subst xJ;exact Gbu (je I hg hm (Gce I.ok.mod.kin hk (thn (ha pos env Z s rs I xp) λus s1 ⟨x1,p⟩=> ⟨(I.exp x1).kIn,(thn (Dn F hr hb (I.exp x1) ((gG I p hf).keep λb o n g _=> ⟨⟨n.1,λ_=>n⟩,g⟩) hd) λu s2 ⟨x2,q⟩=> ⟨x1.trans x2,q.from x1⟩)⟩) he xg) xw)
def gh(X:Cx)(fv:Vf)(o:SpV):Prop:=∀env Z s ds us r,Inv X env Z s->Paired (InE X env Z s) ds us->o ds=U r->wpX X (call fv us) (λu s' =>Ext X No s s' /\cM X env Z s s' r u) X.xe s
def pS(I:Inv X env Z s)(p:Paired (cM X env Z s s1) rs us):Paired (InE X env Z s1) (rs.map (·.d)) us:=by
 induction p with
 |nil=>exact .nil
 |cons h t ih=>exact .cons (h.inn I) ih
def lX{e:Vi}{id:String}(hc:gh X (.builtin id) o)(hg:Gl X x)(hm:X.mg x=J)(hv:bootBuiltins x=U (.builtin id))(ha:PA X (e::es) ra)
  (hn:x≠"__name__")(xw:(x==Dgs)=M)(he:starEach (e::es) X.env=(M,eval e X.env)::starEach es X.env)(xg:(backTo pos (starEach es X.env)).any (·.1)=M):PE X (.Call (.Name x p) (e::es) [] pos) (g9 o ra):=λenv Z s r I q=>a6 q λrs xp q=>by
 exact Gbu (jf I hg hm hv (Gck (thn (ha pos env Z s rs I xp) λus s1 ⟨x1,p⟩=>thn (hc env Z s1 _ us r (I.exp x1) (pS I p) q) λu s2 ⟨x2,q⟩=> ⟨x1.trans x2,q.from x1⟩) he xg) hn xw)
def uq(hc:gh X (.type T) o)(hg:Gl X x)(hm:X.mg x=J)(hv:bootBuiltins x=U (.type T))(ha:PA X (e::es) ra)
  (hn:x≠"__name__")(xw:(x==Dgs)=M)(he:starEach (e::es) X.env=(M,eval e X.env)::starEach es X.env)(xg:(backTo pos (starEach es X.env)).any (·.1)=M):PE X (.Call (.Name x p) (e::es) [] pos) (g9 o ra):=λenv Z s r I q=>a6 q λrs xp q=>by
 exact Gbu (jf I hg hm hv (GbU (thn (ha pos env Z s rs I xp) λus s1 ⟨x1,p⟩=>thn (hc env Z s1 _ us r (I.exp x1) (pS I p) q) λu s2 ⟨x2,q⟩=> ⟨x1.trans x2,q.from x1⟩) he xg) hn xw)
def gO{α:Type}{R:α->β->Prop}{d:α}{us:List β}(h:Paired R [d] us):∃v,us=[v]/\R d v:=by
 cases h with|cons h t=>cases t;exact⟨_,rfl,h⟩
def Dq{α:Type}{R:α->β->Prop}{d d2:α}{us:List β}(h:Paired R [d,d2] us):∃v w,us=[v,w]/\R d v/\R d2 w:=by
 cases h with|cons h t=>cases t with|cons h2 t=>cases t;exact⟨_,_,rfl,h,h2⟩
def Dr:gh X (.builtin "len") b5:=λenv Z s ds us r I ps e=>by
 have Sl:=vW;have sl:∀{d:D} {c:String} {xs:List D},ds=[d]->sqD d=U (.of c,xs)->(c="list"\/c="tuple")->r=⟨.c,.int xs.length⟩->wpX X (call _ us) (λu s' =>Ext X No s s' /\cM X env Z s s' r u) X.xe s:=λhd q hc hr=>by
  subst hd hr;obtain⟨v,rfl,i⟩:=gO ps;obtain⟨a,eo,rfl,_,t,z,rp⟩:=i.sq q;have hl:(_:Int)=_:=congrArg Nat.cast (by have:=rp.1;simpa using this.symm);rcases hc with rfl|rfl
  .exact Calls.call_len_list t.lst.isList (by lia) ⟨.tok _,.one hl.symm⟩
  .exact PyProof.Rows.len_tuple t.tup (by lia) ⟨.tok _,.one hl.symm⟩
 unfold b5 at e;split at e
 .cases e;exact sl rfl rfl (.inl rfl) rfl
 .cases e;exact sl rfl rfl (.inr rfl) rfl
 .split at e<;>cases e
  rename_i q;rw[eL] at q;obtain⟨v,rfl,i⟩:=gO ps;obtain⟨t,rfl⟩:=i.str;exact PyProof.Rows.len_str (by lia) ⟨.tok _,.one rfl⟩
 .cases e;exact sl rfl rfl (.inl rfl) (by simp)
 .cases e
def BL(hc:X.calm=O):gh X (.builtin "min") j4:=λenv Z s ds us r I ps e=>by
 unfold j4 at e;split at e<;>cases e
 obtain⟨v,w,rfl,i1,i2⟩:=Dq ps;obtain⟨t,rfl⟩:=i1.int;obtain⟨t',rfl⟩:=i2.int;refine min_two_ints (I.ok.hd hc) λh' tk k=> ⟨I.kept k _, ?_⟩;split<;>exact .one rfl
end
end
end NL
namespace DL
open PySem
def b6:D->List Int
 | .non=>[0]
 | .int i=>[1,i]
 | .str x=>2::x.cps.toList.map Int.ofNat
 |_=>[3]
def dO{α:Type} [DecidableEq α](lt:α->α->Bool):List α->List α->Bool
 |[],[]=>M
 |[],_::_=>O
 |_::_,[]=>M
 |a::as,b::bs=>if a=b then dO lt as bs else lt a b
def ltI(a b:Int):Bool:=decide (a<b)
def ltC:List (List Int)->List (List Int)->Bool:=dO (dO ltI)
def code:D->List (List Int)
 | .tup ds=>ds.map b6
 |d=>[b6 d]
def BM(d:D):List D->List D
 |[]=>[d]
 |e::es=>if ltC (code d) (code e) then d::e::es else e::BM d es
def bT:List D->List D
 |[]=>[]
 |d::ds=>BM d (bT ds)
def tyD:D->Nat
 | .non=>0
 | .int _=>1
 | .str _=>2
 |_=>3
def jY(d:D):Bool:=tyD d !=3
def lJ:List D->List D->Bool
 |a::as,b::bs=>if b6 a=b6 b then lJ as bs else(tyD a==tyD b&&(tyD a==1||tyD a==2))
 |_,_=>O
def BN:D->Bool
 | .int _=>O
 |_=>M
def mO(t:Nat):D->Bool
 | .tup (f::r)=>tyD f==t&&r.all jY
 |_=>M
def ur:D->D->Bool
 | .tup a,.tup b=>lJ a b
 |_,_=>M
def Vb(ds:List D):Bool:=ds.all BN||((ds.all (mO 1)||ds.all (mO 2))&&ds.all λx=>ds.all λy=>ur x y)
def UZ:SpV:=one λds=>if decide (ds.length<64)&&Vb ds then U ⟨.tn,.lst (bT ds)⟩ else J
structure sS{α:Type}(lt:α->α->Bool):Prop where
 irr:∀a,lt a a=M
 tr:∀a b c,lt a b=O->lt b c=O->lt a c=O
 tot:∀a b,lt a b=M->lt b a=M->a=b
def Qc:sS ltI:=⟨λa=>by simp[ltI],λa b c h1 h2=>by simp[ltI] at*;lia,λa b h1 h2=>by simp[ltI] at*;lia⟩
section
variable{α:Type} [DecidableEq α]
def sS.lex{lt:α->α->Bool}(L:sS lt):sS (dO lt):=by
 refine⟨λa=> ?_,λa=> ?_,λa=> ?_⟩
 .induction a with
  |nil=>rfl
  |cons x xs ih=>simp[dO,ih]
 .induction a with
  |nil=>
   intro b c h1 h2;cases c with
   |nil=>cases b<;>simp[dO] at h1 h2
   |cons z zs=>rfl
  |cons x xs ih=>
   intro b c h1 h2;cases b with
   |nil=>simp[dO] at h1
   |cons y ys=>
    cases c with
    |nil=>simp[dO] at h2
    |cons z zs=>
     unfold dO at h1 h2⊢;by_cases e1:x=y
     .subst e1;rw[Gar rfl] at h1;by_cases e2:x=z
      .subst e2;rw[Gar rfl] at h2⊢;exact ih ys zs h1 h2
      .simp_all
     .rw[Gaw e1] at h1;by_cases e2:y=z
      .simp_all
      .rw[Gaw e2] at h2;by_cases e3:x=z
       .subst e3;have:=L.tr x y x h1 h2;rw[L.irr] at this;cases this
       .rw[Gaw e3];exact L.tr x y z h1 h2
 .induction a with
  |nil=>
   intro b h1 h2;cases b with
   |nil=>rfl
   |cons y ys=>simp[dO] at h1
  |cons x xs ih=>
   intro b h1 h2;cases b with
   |nil=>simp[dO] at h2
   |cons y ys=>
    unfold dO at h1 h2;by_cases e:x=y
    .subst e;rw[Gar rfl] at h1 h2;rw[ih ys h1 h2]
    .rw[Gaw e] at h1;rw[Gaw (Gbg e)] at h2;exact absurd (L.tot x y h1 h2) e
def sS.nt{lt:α->α->Bool}{k x y:α}(L:sS lt)(h1:lt k y=O)(h2:lt x y=M):lt k x=O:=by
 cases h:lt y x with
 |true=>exact L.tr k y x h1 h
 |false=>rw[L.tot x y h2 h];exact h1
def sS.Qd{lt:α->α->Bool}{x y:α}(L:sS lt)(h:lt x y=O):lt y x=M:=by
 cases q:lt y x with
 |false=>rfl
 |true=>have:=L.tr x y x h q;rw[L.irr] at this;cases this
end
def BO:sS ltC:=Qc.lex.lex
def rank(cs:List (List (List Int)))(i:Nat):Int:=((cs.filter λc=>ltC c (cs[i]?.getD [])).length:Nat)
theorem lY{α:Type}{p q:α->Bool}:∀{l:List α},(∀x∈l,p x=O->q x=O)->(l.filter p).length<=(l.filter q).length
 |[],_=>GaN _
 |x::l,h=>by
  have ih:=lY λy hy=>h y (Gaf _ hy);have hx:=h x Gai;cases hp:p x with
  |false=>
   rw[Gbx,hp];refine Gak ih ?_;rw[Gbx];split
   .simp_all
   .exact GaN _
  |true=>rw[Gbx,Gbx,hp,hx hp];simp;exact ih
theorem lK{α:Type}{p q:α->Bool}:∀{l:List α} {z:α},z∈l->p z=M->q z=O->(∀x∈l,p x=O->q x=O)->(l.filter p).length<(l.filter q).length
 |[],z,hz,_,_,_=>by cases hz
 |x::l,z,hz,h1,h2,h=>by
  rcases Gaq.mp hz with e|hz
  .subst e;have:=lY λy hy=>h y (Gaf _ hy);rw[Gbx,Gbx,h1,h2];simp;lia
  .have ih:=lK hz h1 h2 λy hy=>h y (Gaf _ hy);have hx:=h x Gai;cases hp:p x with
   |false=>
    rw[Gbx,hp];simp only[Gcy,if_false];rw[Gbx];split
    .rw[GaC];lia
    .exact ih
   |true=>rw[Gbx,Gbx,hp,hx hp];simp;exact ih
def Av{cs:List (List (List Int))}(hi:i<cs.length)(hj:j<cs.length):decide (rank cs i<rank cs j)=ltC cs[i] cs[j]:=by
 unfold rank;rw[Gaa hi,Gaa hj];cases h:ltC cs[i] cs[j] with
 |true=>
  exact GaI (GcQ.mpr (lK (Gap hi) (BO.irr _) h λc _ hc=>BO.tr _ _ _ hc h))
 |false=>
  exact GaR (GdI.mpr (Int.ofNat_le.mpr (lY λc _ hc=>BO.nt hc h)))
def iF(ds:List D):Prop:=ds.Pairwise λa b=>ltC (code b) (code a)=M
theorem nZ(d:D):∀es,(BM d es).Perm (d::es)
 |[]=>List.Perm.refl _
 |e::es=>by
  unfold BM;split
  .exact List.Perm.refl _
  .exact((nZ d es).cons e).trans (List.Perm.swap d e es)
theorem dP:∀ds,(bT ds).Perm ds
 |[]=>List.Perm.refl _
 |d::ds=>(nZ d _).trans ((dP ds).cons d)
theorem oR(d:D):∀{es},iF es->iF (BM d es)
 |[],_=>Gcp _ _
 |e::es,h=>by
  have h' :=GbG.mp h;unfold BM;split
  .rename_i c;refine GbG.mpr ⟨λb hb=> ?_,h⟩;rcases Gaq.mp hb with q|q
   .subst q;exact BO.Qd c
   .cases z:ltC (code b) (code d) with
    |false=>rfl
    |true=>have:=BO.tr _ _ _ z c;rw[h'.1 b q] at this;cases this
  .rename_i c;refine GbG.mpr ⟨λb hb=> ?_,oR d h'.2⟩;rcases Gaq.mp ((nZ d es).mem_iff.mp hb) with q|q
   .subst q;simpa using c
   .exact h'.1 b q
theorem gz:∀ds,iF (bT ds)
 |[]=>List.Pairwise.nil
 |d::ds=>oR d (gz ds)
theorem lL:∀{xs ys},xs.Perm ys->iF xs->iF ys->(∀a∈xs,∀b∈xs,code a=code b->a=b)->xs=ys
 |[],ys,hp,_,_,_=>(List.nil_perm.mp hp).symm
 |x::xs,ys,hp,hx,hy,hi=>by
  cases ys with
  |nil=>exact absurd (List.perm_nil.mp hp) (by simp)
  |cons y ys=>
   have px:=GbG.mp hx;have py:=GbG.mp hy;have e:x=y:=by
    have my:=hp.mem_iff.mpr Gai;rcases Gaq.mp (hp.mem_iff.mp Gai) with q|q
    .exact q
    .rcases Gaq.mp my with r|r
     .exact r.symm
     .exact hi x Gai y my (BO.tot _ _ (py.1 x q) (px.1 y r)).symm.symm
   subst e;rw[lL (List.perm_cons x|>.mp hp) px.2 py.2 λa ha b hb=>hi a (Gaf _ ha) b (Gaf _ hb)]
@[simp] noncomputable def dU:Nat->List D->List D
 |_,[]=>[]
 |i,x::xs=> .tup [.int i,x]::dU (i+1) xs
@[simp]noncomputable def rE(f:DE):DI:=λenv=>(f env).bind λr=>if r.k= .to then J else match r.d with
 | .lst xs=>U (dU 0 xs)
 | .tup xs=>U (dU 0 xs)
 |_=>J
theorem kW:∀i xs,(dU i xs).length=xs.length
 |_,[]=>rfl
 |i,x::xs=>by simp[kW _ xs]
theorem kX:∀(k:Nat) (xs:List D) (i:Nat),(dU k xs)[i]? =(xs[i]?).map λx=> .tup [.int ((k+i:Nat)),x]
 |_,[],i=>by simp
 |k,x::xs,i=>by
  cases i with
  |zero=>simp
  |succ i=>
   simp only[dU,List.getElem?_cons_succ];rw[kX _ xs i,show k+1+i=k+(i+1) by lia]
def rF(x:D)(ds:List D):Option Bool:=if bK 10 x&&ds.all (bK 10) then U (ds.any λy=>eqD y x) else J
def inB(x y:D):Option Bool:=match y with
 | .dT eA=>match x with
  | .tup ks=>(keysOf ks).map λk=>(look eA k).isSome
  |_=>J
 | .lst ds=>rF x ds
 | .tup ds=>rF x ds
 |_=>J
def NV(x y:D):Option Bool:=(inB x y).map (!·)
@[simp] theorem Qe:inB (.tup ks) (.dT eA)=(keysOf ks).map λk=>(look eA k).isSome:=rfl
def qZ:SpV
 |[.int i]=>U ⟨.c,.int i⟩
 |[.bl b]=>U ⟨.c,.int (if b then 1 else 0)⟩
 |_=>J
@[simp] theorem NW:qZ [.int i]=U ⟨.c,.int i⟩:=rfl
@[simp] theorem PH:qZ [.bl b]=U ⟨.c,.int (if b then 1 else 0)⟩:=rfl
def jH{α:Type}(xs:List α)(i:Int)(y:α):List α:=xs.take (if i<0 then(i+(xs.length:Int)).toNat else min i.toNat xs.length)++y::xs.drop (if i<0 then(i+(xs.length:Int)).toNat else min i.toNat xs.length)
def pT(xs:List α)(i:Int)(y:α):(jH xs i y).Perm (y::xs):=by
 refine List.perm_middle.trans ?_;simp_all
def BP(xs:List α)(i:Int)(y:α):(jH xs i y).length=xs.length+1:=(pT xs i y).length_eq
@[simp]noncomputable def Kr(i:Nat)(k v:DE):DS:=λenv=>(k env).bind λx=>(v env).bind λr=>(ownAt i env).bind λd=>match d,x.d with
 | .lst xs,.int j=>if r.free&&(decide (xs.length<a9)&&aU j) then U (.nx (env.set i (U (.own (.lst (jH xs j r.d)))))) else J
 |_,_=>J
def mmD(best:Int->List Int->Int)(dv:D)(d:D):Option RV:=(jR d).bind λds=>(jQ ds).map λns=>match ns with
 |[]=> ⟨.c,dv⟩
 |n::ns=> ⟨.c,.int (best n ns)⟩
@[simp]noncomputable def mmE(best:Int->List Int->Int)(dv:D)(f:DE):DE:=λenv=>(f env).bind λr=>mmD best dv r.d
def unI:D->Int
 | .int i=>i
 |_=>0
def Ks:D->D->Option (Option D)
 | .dT eA,.tup ks=>(keysOf ks).map λk=>look eA k
 |_,_=>J
@[simp]noncomputable def Ds(o k d:DE):DE:=λenv=>(o env).bind λx=>(k env).bind λy=>(d env).bind λr=>if r.k= .c then(Ks x.d y.d).map λv=> ⟨.c,v.getD r.d⟩ else J
@[simp] theorem PJ:Ks (.dT eA) (.tup ks)=(keysOf ks).map λk=>look eA k:=rfl
def cG(eA:List (List Key×D)):List D:=eA.map λp=> .tup [.tup (p.1.map CZ),p.2]
@[simp]noncomputable def Dt(vw:List (List Key×D)->List D)(f:DE):DI:=λenv=>(f env).bind λr=>if r.k= .tn then match r.d with
 | .dT eA=>U (vw eA)
 |_=>J
 else J
@[simp] noncomputable def NX(i:Nat)(env:Env):Bool:=(List.range env.length).all λj=>j==i||match env[j]? with
 |some (U (.bor _))=>M
 |_=>O
@[simp]noncomputable def dictAt(i:Nat)(env:Env):Option (List (List Key×D)):=match env[i]? with
 |some (U (.own (.dT eA)))=>U eA
 |some (U (.lok (.dT eA)))=>U eA
 |some (U (.bor (.dT eA)))=>if NX i env then U eA else J
 |_=>J
@[simp]noncomputable def pU(vw:List (List Key×D)->List D)(i n:Nat)(aq:List Nat)(g:DG)(t:DT)(f:DE):DE:=λenv=>(dictAt i env).bind λeA=>
 if(vw eA).length<=a9 then(bz g t f (vw eA) (UY n aq (env.set i J))).map λrs=> ⟨.tn,.lst rs⟩ else J
@[simp]noncomputable def NY(env:Env):Bool:=env.all λz=>match z with
 |some (.bor _)=>M
 |_=>O
def gP:SpV:=one λds=>if decide (ds.length<1000000)&&Vb ds then U ⟨.tn,.lst (bT ds)⟩ else J
def dd1(ks:List Int)(k:Int):List Int:=if k∈ks then ks else ks++[k]
def ddF(ns:List Int):List Int:=ns.foldl dd1 []
abbrev Rws:=List (List Key×D)
abbrev DM:=Env->Rws->Option (Env×Rws)
@[simp]noncomputable def Kt(f g:DM):DM:=λenv rows=>(f env rows).bind λq=>g q.1 q.2
@[simp]noncomputable def setM(j:Nat)(f:DE):DM:=λenv rows=>(f env).bind λr=>match r.k with
 | .c=>U (env.set j (U (.sh r.d)),rows)
 |_=>J
def vY(eA:Rws)(k:List Key)(d:D):Option Rws:=if eA.length<a9 then match eA.findIdx? (λp=>decide (p.1=k)) with
 |some j=>match eA[j]? with
  |some (_,.lst ds)=>if ds.length<a9 then U (eA.set j (k,.lst (ds++[d]))) else J
  |_=>J
 |none=>U (eA++[(k,.lst [d])])
 else J
@[simp]noncomputable def GW(k f:DE):DM:=λenv rows=>(k env).bind λy=>(f env).bind λr=>match y.d with
 | .tup ks=>if r.d.imm&&NY env then(keysOf ks).bind λk=>(vY rows k r.d).map λeM =>(env,eM) else J
 |_=>J
@[simp]noncomputable def pV(j:Nat)(f:DM):List D->DM
 |[],env,rows=>U (env,rows)
 |d::ds,env,rows=>(f (env.set j (U (.sh d))) rows).bind λq=>pV j f ds q.1 q.2
@[simp]noncomputable def Du(j:Nat)(e:DE)(f:DM):DM:=λenv rows=>(e env).bind λr=>match r.d with
 | .tup xs=>if ay xs then pV j f xs env rows else J
 |_=>J
end DL
namespace NL
open PySem PySem.Spec PyProof.Rows DL
section
variable [Wd]
section
variable{X:Cx}{env:aM}{Z:Vl}{s s' s0:Vg}{r:RV}{d d' :D}{t:DT}{ra:DA}{i:Nat}{xs:List D}{us:List Vf}{rs:List RV}{q:Vh}{h' :Vj}
def Inv.owned(I:Inv X env Z s)(o:ownAt i env=U d):env[i]? =U (U (.own d))/\∃q,Z i= .ref q/\d.top=O/\X.s₀.heap.get? q=J/\¬X.bad q/\Top (Cln X env Z) s.heap d q/\¬Cln X env Z q:=by
 unfold ownAt at o;split at o<;>cases o
 refine hde λG fin=> ?_;rename_i g;obtain⟨tp,q,h1,h2,h3,h4⟩:=I.sl i _ g;exact fin (⟨g,q,h1,tp,h2,h3,h4,λz=>z.2 i (by rw[g];trivial) h1⟩)
theorem Inv.NZ{o:Ob}{i:Nat}(I:Inv X env Z s)(ho:o∈X.ob)(g:ba env[i]?)(e:Z i= .ref q):o.a≠q:=λz=>by
 have no:∀{d F},d.top=O->Top F s.heap d q->False:=λ{d F} tp eU=>by
  obtain⟨c,_,eo,k,t,_⟩:=eU;have g1:=(I.fl o ho).1;rw[z] at g1;cases d<;>cases k<;>first|cases tp;done|(obtain⟨_,_,g2,_,_,g3⟩:=t;rw[g1] at g2;cases g2;cases g3)|(obtain⟨_,_,_,⟨_,_,_,g2,_,g3,_⟩,_⟩:=t;rw[g1] at g2;cases g2;cases g3)|(obtain⟨_,_,_,g2,_,g3⟩:=t;rw[g1] at g2;cases g2;cases g3)
 match h:env[i]?,g with
 |some (U (.own d)),_=>obtain⟨tp,a,e1,_,_,t⟩:=I.sl i _ h;rw[e] at e1;cases e1;exact no tp t
 |some (U (.lok d)),_=>obtain⟨tp,a,e1,_,_,t⟩:=I.sl i _ h;rw[e] at e1;cases e1;exact no tp t
 |some (U (.bor d)),_=>obtain⟨tp,a,e1,_,t⟩:=I.sl i _ h;rw[e] at e1;cases e1;exact no tp t
def Inv.write(I:Inv X env Z s)(o:ownAt i env=U d)(e:Z i= .ref q)(sb:Heap.SameBut q s.heap h')(tp:d'.top=O)(T:Top (Cln X env Z) h' d' q)(t:Nat):
  Inv X (env.set i (U (.own d'))) Z {s with heap:=h',toks:=t}/\Stp X No env Z s (env.set i (U (.own d'))) Z {s with heap:=h',toks:=t}:=by
 obtain⟨g,q',e',_,h2,h3,_,h5⟩:=I.owned o;rw[e] at e';cases e';have top:=jX (t' := .own d') g ⟨trivial,trivial⟩;have cl:∀b,Cln X env Z b->Cln X _ Z b:=λb z=> ⟨z.1,λj w=>z.2 j ((top j).mp w)⟩;have th:∀b,Th s.heap b->Th h' b:=λb w=>by
  by_cases hb:b=q
  .subst hb;obtain⟨_,_,_,_,t,_⟩:=T;exact t.th
  .unfold Th
   rwa[sb.2 b hb]
 have ne:∀b,X.vol b->b≠q:=λb w z=>h3 (z▸I.ok.vb b w);have vs:∀j:Nat,(∃t,(env.set i (U (.own d')))[j]? =U (U t))↔∃t,env[j]? =U (U t):=λj=>by
  by_cases z:i=j
  .subst z;rw[g,Gau ((Gae.mp g).1)];exact⟨λ_=> ⟨_,rfl⟩,λ_=> ⟨_,rfl⟩⟩
  .rw[Gax z]
 refine⟨⟨I.ok,I.os,I.bare,λb o w f n=>(sb.2 b λz=>by rw[z,h2] at w;cases w).trans (I.base b o w f n),λb o w f=> ?_, ?_,λy c l=> ?_,λj t' w=> ?_,λj k b w1 w2=>I.dj j k b ?_ ((top k).mp w2),by simpa using I.len,λb z=>th b (I.bt b z),λb z=>th b (I.th0 b z),λb o z w=>I.bt2 b o z ((sb.2 b λy=>h3 (y▸z)).symm.trans w),λo ho=>(I.fl o ho).keep (λb w=>(sb.2 _ (I.NZ ho (i:=i) (by rw[g];trivial) e)).trans w) (λb w=>(sb.2 _ λy=>h3 (y▸(I.ok.ob o ho).1)).trans w) ⟨rfl,vs _⟩ λn j _=> ⟨rfl,vs j⟩⟩,
  λb o w _ n _=>(sb.2 b λz=>n ⟨i,by rw[g];trivial,z▸e⟩).trans w,λb ⟨j,w1,w2⟩=> .inl ⟨j,(λj w=>(jV w).elim (λz=>by rw[z.1,g];trivial) (·.2)) j w1,w2⟩,λb z _=>cl b z,λj t' bt w=> ?_,th⟩
 .have⟨sl,z⟩:=I.slot b o w f;exact⟨sl,(sb.2 b (ne b (.inl (.inr f)))).trans z⟩
 .have⟨m,⟨o,es,ep,w,z⟩,lk⟩:=I.loc;refine⟨m,⟨o,es,ep,(sb.2 _ (ne _ (.inl (.inl rfl)))).trans w,z⟩,λj y h1 ⟨t',h2⟩ h3=>(lk j y h1 ?_ h3).imp id λ⟨k,c,l,o,w,z⟩=> ⟨k,c,l,o,(sb.2 c (ne c (.inr ⟨y,l⟩))).trans w,z⟩⟩;rcases eK h2 with⟨rfl,_⟩| ⟨_,z⟩
  .exact⟨_,g⟩
  .exact⟨t',z⟩
 .have⟨v,o,w,z⟩:=I.cell y c l;exact⟨v,o,(sb.2 c (ne c (.inr ⟨y,l⟩))).trans w,z⟩
 .rcases eK w with⟨rfl,z⟩| ⟨hj,z⟩
  .cases z;exact⟨tp,q,e,h2,h3,T.imp cl⟩
  .refine(I.sl j t' z).keep (λb o f w _=> ⟨cl b f,(sb.2 b λy=>h5 (y▸f)).trans w⟩) λb o n ub w _=>(sb.2 b λy=> ?_).trans w;subst y;cases t' with
   |sh d=>exact h5 ((Rep.inn (I.sl j _ z)).elim (λat' =>by rw[ub] at at';cases d<;>exact at'.elim) λ⟨_,y,f,_⟩=>by rw[ub] at y;cases y;exact f)
   |_=>exact hj (I.dj i j b (by rw[g];trivial) (by rw[z];trivial) e ub).symm
 .rcases mL w1 with⟨rfl,_⟩| ⟨_,z⟩
  .rw[g]
   trivial
  .exact z
 .rcases eK w with⟨_,z⟩| ⟨_,z⟩
  .cases z;exact bt.elim
  .exact⟨z,rfl⟩
def Chg(X:Cx)(env:aM)(Z:Vl)(q:Vh)(d' :D)(s s' :Vg):Prop:=∃h' t,s' ={s with heap:=h',toks:=t}/\Heap.SameBut q s.heap h' /\d'.top=O/\Top (Cln X env Z) h' d' q
def aP.sz{ds:List D}{eo:Array Vf}(r:aP F h ds eo.toList):ds.length=eo.size:=r.1.trans GdB
def sT(t:s.heap.get? q=U {cls:= .type "list",data:= .seq eo n})(nf:¬Cln X env Z q)(r:aP (Cln X env Z) s.heap xs (fn eo).toList)(z:(fn eo).size<=sizeLine)(k:Nat):Chg X env Z q (.lst xs) s {s with heap:=s.heap.update q (Obj.mapSeq fn),toks:=k}:=
 ⟨_,_,rfl,GcS ..,rfl,_,xs,_,rfl,⟨_,_,PySem.IsL.update t fn,rfl,.inr ⟨rfl,rfl⟩,rfl⟩,z,r.keep λb o f g _=> ⟨f,(GbL _ _ λy=>nf (by simp_all)).trans g⟩⟩
def GX(X:Cx)(T id:String)(o:D->List RV->Option D):Prop:=(∀(s:Vg) (F:Vh->Prop) (d:D) (q:Vh) (rs:List RV) (d' :D),o d rs=U d' ->Top F s.heap d q->s.TypeIs (.ref q) T/\∃ob,s.heap.get? q=U ob/\ob.dict=J)/\
 ∀env Z s0 s rs us q d d',Inv X env Z s0->Ext X No s0 s->Top (Cln X env Z) s.heap d q->¬Cln X env Z q->Paired (cM X env Z s0 s) rs us->o d rs=U d' ->wpX X (call (.builtin id) (.ref q::us)) (λ_ s' =>Chg X env Z q d' s s') X.xe s
def mtS(i:Nat)(o:D->List RV->Option D)(ra:DA):DS:=λenv=>(ra env).bind λrs=>(ownAt i env).bind λd=>(o d rs).map λd' => .nx (env.set i (U (.own d')))
def Inv.O0(I:Inv X env Z s)(x:Ext X No s s')(o:ownAt i env=U d)(e:Z i= .ref q):Top (Cln X env Z) s'.heap d q:=by
 obtain⟨_,q',e',_,_,_,t,_⟩:=(I.exp x).owned o;lia
def Chg.sp(I0:Inv X env Z s0)(x:Ext X No s0 s)(o:ownAt i env=U d)(e:Z i= .ref q)(c:Chg X env Z q d' s s'):SP X env Z s0 (.nx (env.set i (U (.own d')))) .next s' :=by
 obtain⟨h',t,rfl,sb,tp,T⟩:=c;have⟨I,y⟩:=(I0.exp x).write o e sb tp T t;exact⟨Z,I,x.stp.trans y⟩
def Dv{e:Vi}{pos:Pos}{id:String}{o:D->List RV->Option D}{apos eG:Pos}(pa:PlainAttrs T)(slot:Slot T name id)(zL:typeOf (.builtin id)=pure (.type "method_descriptor"))(hm:GX X T id o)(hN:X.N[i]? =U x)(hv:Vis X.env.scope x)(ha:PA X (e::es) ra)(hd:(x==Dgs)=M)(eO:(x==("__classdict__":Str))=M)
  (he:starEach (e::es) X.env=(M,eval e X.env)::starEach es X.env)(eY:attributeBase (.Name x px) name X.env (eval (.Name x px) X.env)=eval (.Name x px) X.env)
  (xv:((backTo eG (starEach (e::es) X.env)).all (λx=> !x.1)&&(backToKw eG (keywordEach [] X.env)).all (λx=>x.1.isSome)
   &&decide ((e::es).length+([]:List Keyword).length+(if([]:List Keyword).isEmpty then 0 else 1)<30))=O)
  (eN:(apos.endLine==eG.line)=O)(xg:(backTo eG (starEach es X.env)).any (·.1)=M)(hs:swapsWith (.Call (.Attribute (.Name x px) name apos) (e::es) [] eG) J pos.line X.env=pure M):
  PS X (.Expr (.Call (.Attribute (.Name x px) name apos) (e::es) [] eG) pos) (mtS i o ra):=λenv Z s out I w=>a6 w λrs xp w=>a6 w λd xU w=>aS w λd' h1 h2=>by
 refine hde λG fin=> ?_;subst h2;obtain⟨gi,q,hq,tp,n0,nb,T0,nc⟩:=I.owned xU;refine fin (GeA (wpAny_Call_method_late eY xv eN rfl (fF I ⟨_,gi⟩ hN hv hd eO ?_)) I.quiet hs);rw[hq];have⟨ty,dn⟩:=hm.1 s _ d q rs d' h1 T0;refine⟨T,id,pa,slot,zL,ty,λa z=>by cases z;exact dn, ?_⟩;have hA:=ha eG env Z s rs I xp;rw[he] at hA⊢;exact GbY (by show(M||(backTo eG _).any _)=M;rw[xg];rfl) (GcK (thn hA λus s1 ⟨x1,p⟩=>
  thn (hm.2 env Z s s1 rs us q d d' I x1 (I.O0 x1 xU hq) nc p h1) λ_ s2 c=>c.sp I x1 xU hq))
def vZ{o:D->List RV->Option D}(h:∀d rs d',o d rs=U d' ->∃xs,d= .lst xs):∀(s:Vg) (F:Vh->Prop) (d:D) (q:Vh) (rs:List RV) (d' :D),o d rs=U d' ->Top F s.heap d q->s.TypeIs (.ref q) "list"/\∃ob,s.heap.get? q=U ob/\ob.dict=J:=λs F d q rs d' h1 Rd=>by
 obtain⟨c,ds,eo,h2,t,_⟩:=Rd;obtain⟨xs,rfl⟩:=h _ _ _ h1;cases h2;obtain⟨n,e⟩:=t.ex;exact⟨t.lst.isList.typeIs,_,e,rfl⟩
def Dw(h:n<=sizeLine):Builtin.List.listTooLong n=M:=GaR (by simp[*])
def Dx:D->List RV->Option D
 | .lst xs,[r]=>if r.free&&decide (xs.length<a9) then U (.lst (xs++[r.d])) else J
 |_,_=>J
def rG:GX X "list" "list.append" Dx:=by
 refine⟨vZ λd rs d' h=> ?_,λenv Z s0 s rs us q d d' I x t nc p h=> ?_⟩<;>unfold Dx at h<;>split at h<;>first|cases h;done|skip
 .exact⟨_,rfl⟩
 split at h<;>cases h
 refine hde λG fin=> ?_;rename_i f;rw[Gac,eL] at f;obtain⟨v,rfl,rv⟩:=gO p;obtain⟨_,_,eo,e,t,z,rp⟩:=t;cases e;obtain⟨n,e⟩:=t.ex;have f2:=Gay f.2;rw[rp.sz] at f2;refine fin (call_meets F.slot_list_append ⟨_,e,rfl⟩ F.entry_list_append (F.args_list_append_2 _ _) (PySem.list_append q eo n v (by lia)) ⟨e,sT e nc (by rw[Gdk];exact rp.append (.cons (rv.rep I f.1) .nil)) (by grind) _⟩)
def GY:D->List RV->Option D
 | .lst xs,[⟨.tn,.lst ys⟩]=>if xs.length+ys.length<=a9 then U (.lst (xs++ys)) else J
 |_,_=>J
def BQ:GX X "list" "list.extend" GY:=by
 refine⟨vZ λd rs d' h=> ?_,λenv Z s0 s rs us q d d' I x t nc p h=> ?_⟩<;>unfold GY at h<;>split at h<;>first|cases h;done|skip
 .exact⟨_,rfl⟩
 split at h<;>cases h
 refine hde λG fin=> ?_;rename_i f;rw[eL] at f;obtain⟨v,rfl,rv⟩:=gO p;obtain⟨_,_,eo,e,t,z,rp⟩:=t;cases e;obtain⟨n,e⟩:=t.ex;obtain⟨_,b,rfl,_,_,_,Tz,e2,t2,z2,yI⟩:=rv;cases e2;obtain⟨n2,e2⟩:=t2.ex;rw[rp.sz,yI.sz] at f;refine fin (call_meets F.slot_list_extend ⟨_,e,rfl⟩ F.entry_list_extend (F.args_list_extend_2 _ _) (AutoSeq1.list_extend_list_list_0 q eo n b Tz n2 (by rw[Dw f];lia) (by lia) (by lia)) ⟨e,e2,sT e nc (by rw[Array.toList_append];exact rp.append (yI.keep λb o f g _=> ⟨f.1,g⟩)) (by simp_all) _⟩)
end
end
section
variable [Wd]
section
variable{r:RV}{j:Nat}{xs:List D}
theorem Dy{X:Cx}(hp:PassesOwn (model X.prog X.w) X.A X.env X.xe)(hc:PT X c t)(hb:PSs X body fs):PS X (.While c body [] pos) (pM t fs):=λenv Z s o I q=>by
 refine wpAny_While (codeAny_whileLoop (λn s' =>∃e' Z',Inv X e' Z' s' /\Stp X No env Z s e' Z' s' /\iN t fs n e' =U o) ?_ 100000 ⟨env,Z,I,.refl,q⟩);rintro n s1 ⟨e1,Z1,I1,x1,q⟩;cases n with
 |zero=>cases q
 |succ n=>
  refine a6 q λb yn q=>Gem hp (thn (hc e1 Z1 s1 b I1 yn) λc s2 ⟨hc,x2⟩=> ?_);subst hc;have I2:=I1.exp x2;have y:=x1.trans x2.stp;cases c with
  |false=>cases q;exact GbF ⟨Z1,I2,y⟩
  |true=>
   refine a6 q λo1 hq q=>Gem hp (thn (hb e1 Z1 s2 o1 I2 hq) λfl s3 k=> ?_);cases o1<;>cases fl<;>first|exact False.elim k|skip
   .obtain⟨Z3,I3,x3⟩:=k;exact⟨n,by simp,_,Z3,I3,y.trans x3,q⟩
   .cases q;exact k
   .cases q;obtain⟨Z3,I3,x3⟩:=k;exact⟨Z3,I3,y.trans x3⟩
   .obtain⟨Z3,I3,x3⟩:=k;exact⟨n,by simp,_,Z3,I3,y.trans x3,q⟩
def PS.of{fs gs:DS}{st:Vk}(h:PS X st fs)(k:∀env o,gs env=U o->fs env=U o):PS X st gs:=λenv Z s o I q=>h env Z s o I (k env o q)
def Ku(env:aM)(o:Out)(h:gw i f env=U o):mtS i Dx (ae f aL) env=U o:=by
 refine a6 h λr hr h=>a6 h λd hd h=> ?_;unfold mtS ae aL Dx;split at h
 .simp_all
 .cases h
def Kv(env:aM)(o:Out)(h:JY i f env=U o):mtS i GY (ae f aL) env=U o:=by
 refine a6 h λr hr h1=>a6 h1 λd hd h2=> ?_;clear h h1;unfold mtS ae aL GY;rw[hr,hd];split at h2
 .rename_i e;split at h2<;>cases h2
  rename_i c;obtain⟨k,_⟩:=r;cases e
  rw[Gac,Gbl] at c;obtain⟨c1,c2⟩:=c;cases eq_of_beq c1;exact congrArg (Option.map _) (Gar c2)
 .cases h2
theorem aP.take{ds:List D}{us:List Vf}(r:aP F hp ds us)(n:Nat):aP F hp (ds.take n) (us.take n):=⟨by simp[r.1],λi d v e1 e2=>by
 rw[GcV] at e1 e2;split at e1
 .rw[Gar (by assumption)] at e2;exact r.2 i d v e1 e2
 .cases e1⟩
theorem aP.drop{ds:List D}{us:List Vf}(r:aP F hp ds us)(n:Nat):aP F hp (ds.drop n) (us.drop n):=⟨by simp[r.1],λi d v e1 e2=>by
 rw[Gbf] at e1 e2;exact r.2 _ d v e1 e2⟩
def aP.ins(r:aP F hp ds us)(x:Rep F hp d u)(i:Int):aP F hp (jH ds i d) (jH us i u):=by
 unfold jH;rw[r.1];exact(r.take _).append ((r.drop _).cons x)
def GZ:D->List RV->Option D
 | .lst xs,[⟨_,.int j⟩,r]=>if r.free&&(decide (xs.length<a9)&&aU j) then U (.lst (jH xs j r.d)) else J
 |_,_=>J
def BR:GX X "list" "list.insert" GZ:=by
 refine⟨vZ λd rs d' h=> ?_,λenv Z s0 s rs us q d d' I x t nc p h=> ?_⟩<;>unfold GZ at h<;>split at h<;>first|cases h;done|skip
 .exact⟨_,rfl⟩
 split at h<;>cases h
 rename_i f;rw[Gac,Gac] at f;obtain⟨f1,f2,f3⟩:=f;obtain⟨w,v,rfl,zH,rv⟩:=Dq p;obtain⟨tk,rfl⟩:=(zH.inn I).int;obtain⟨_,_,eo,e,t,z,rp⟩:=t;cases e;obtain⟨n,e⟩:=t.ex;have f2:=Gay f2;rw[rp.sz] at f2;unfold aU at f3;have ie:∀k:Nat,((eo.extract 0 k).push v++eo.extract k).toList=eo.toList.take k++v::eo.toList.drop k:=λk=>by simp;exact GbM (by simp)
 refine call_meets F.slot_list_insert ⟨_,e,rfl⟩ F.entry_list_insert (F.args_list_insert_3 _ _ _) (PySem.AutoSeq1.list_insert_list_int_val_1 q eo n _ tk v (by
  rw[Gac,Gbl,Gbl] at f3;simp[Builtin.List.listFitsIndex];exact⟨Gdo (by simp) f3.1,GaA f3.2 (by simp)⟩) (by lia)) ⟨e,sT e nc ?_ ?_ _⟩
 .rw[ie];exact rp.ins (rv.rep I f1) _
 .rwa[<-GdB,ie,List.perm_middle.length_eq,Gbn]
def Kw(env:aM)(o:Out)(h:Kr i f g env=U o):mtS i GZ (ae f (ae g aL)) env=U o:=by
 refine a6 h λr hr h1=>a6 h1 λr2 yK h2=>a6 h2 λd hd h3=> ?_;clear h h1 h2;unfold mtS ae aL GZ;rw[hr,yK,hd];split at h3
 .rename_i e;split at h3<;>cases h3
  rename_i c;obtain⟨k,_⟩:=r;cases e
  exact congrArg (Option.map _) (Gar c)
 .cases h3
end
end
open PySem.W (KTurns)
section
variable [Wd]
theorem lZ{env:PySem.Env}:∀(names:List (Str×Vq)),(∀y∈names,y.2= .free->∃c,env.cells.lookup y.1=U c)->∀(cs:List (Str×Vh)),(∀n c,cs.lookup n=U c->env.cells.lookup n=U c)->
  ∃cl:List (Str×Vh),(forIn names cs λx r=>(do
    if(x.2==NameKind.free)=O then pure (ForInStep.yield ((x.1,<-cellOf env x.1)::r)) else pure (ForInStep.yield r):Sem (ForInStep (List (Str×Vh)))))=pure cl/\
   (∀n c,cl.lookup n=U c->env.cells.lookup n=U c)/\(∀y∈names,y.2= .free->∃c,cl.lookup y.1=U c)/\∀n c,cs.lookup n=U c->∃c',cl.lookup n=U c'
 |[],_,cs,h=>by
  refine⟨cs,rfl,h, ?_,λn c e=> ⟨c,e⟩⟩;intro y hy;cases hy
 |(x,k)::names,hf,cs,h=>by
  by_cases hk:k= .free
  .subst hk;obtain⟨c,hc⟩:=hf _ Gai rfl;have xR:cellOf env x=pure c:=by unfold cellOf;rw[hc]<;>rfl
   obtain⟨cl,h1,h2,h3,h4⟩:=lZ names (λy hy=>hf y (Gaf _ hy)) ((x,c)::cs) (λn c' e=>by
    by_cases z:n=x
    .simp_all
    .have z' :(n==x)=M:=by simpa using z
     simp[Gbr,z'] at e;exact h n c' e)
   refine⟨cl, ?_,h2,λy hy QQ=> ?_,λn c' e=> ?_⟩
   .rw[List.forIn_cons];simp only[xR];exact h1
   .rcases Gaq.mp hy with rfl|hy
    .exact h4 x c (by simp)
    .exact h3 y hy QQ
   .by_cases z:n=x
    .simp_all
    .have z' :(n==x)=M:=by simpa using z
     exact h4 n c' (by simp[Gbr,z',e])
  .have xO :(k==NameKind.free)=M:=by simpa using hk
   obtain⟨cl,h1,h2,h3,h4⟩:=lZ names (λy hy=>hf y (Gaf _ hy)) cs h;refine⟨cl, ?_,h2,λy hy QQ=> ?_,h4⟩
   .rw[List.forIn_cons];simp only[xO];exact h1
   .rcases Gaq.mp hy with rfl|hy
    .exact absurd QQ hk
    .exact h3 y hy QQ
def lM{env:PySem.Env}{scope:Vp}(hf:∀y∈scope.names,y.2= .free->∃c,env.cells.lookup y.1=U c):
  ∃cl,closureFor scope env=pure cl/\(∀n c,cl.lookup n=U c->env.cells.lookup n=U c)/\∀y∈scope.names,y.2= .free->∃c,cl.lookup y.1=U c:=by
 obtain⟨cl,h1,h2,h3,_⟩:=lZ _ hf [] (λn c e=>by simp at e);exact⟨cl,((congrArg (λm=>m>>=pure) h1).trans rfl),h2,h3⟩
theorem ma{env:PySem.Env}:∀{names:List (Str×Vq)},(∀y∈names,y.2≠ .cell)->((names.map λ(n,k)=>if(k==NameKind.free&&env.scope.kind== .function&&env.kindOf n==U .cell) then(n,NameKind.cell) else(n,k)).lookup x=U .cell\/
   (names.map λ(n,k)=>if(k==NameKind.free&&env.scope.kind== .function&&env.kindOf n==U .cell) then(n,NameKind.cell) else(n,k)).lookup x=U .free)->(x,NameKind.free)∈names
 |[],_,h=>by simp at h
 |(n,k)::r,hc,h=>by
  rw[Gav] at h;dsimp only at h;split at h
  .have q1:k= .free:=by
    simp_all
   subst q1;rw[Gbr] at h;cases hx:x==n with
   |true=>rw[Gas] at hx;subst hx;exact Gai
   |false=>rw[hx] at h;exact Gaf _ (ma (λy hy=>hc y (Gaf _ hy)) h)
  .rw[Gbr] at h;cases hx:x==n with
   |true=>
    simp_all
   |false=>rw[hx] at h;exact Gaf _ (ma (λy hy=>hc y (Gaf _ hy)) h)
theorem fh{env:PySem.Env}:∀{names:List (Str×Vq)},names.lookup x=U .free->((names.map λ(n,k)=>if(k==NameKind.free&&env.scope.kind== .function&&env.kindOf n==U .cell) then(n,NameKind.cell) else(n,k)).lookup x=U .cell\/
   (names.map λ(n,k)=>if(k==NameKind.free&&env.scope.kind== .function&&env.kindOf n==U .cell) then(n,NameKind.cell) else(n,k)).lookup x=U .free)
 |[],h=>by simp at h
 |(n,k)::r,h=>by
  rw[Gbr] at h;rw[Gav];dsimp only;cases hx:x==n with
  |true=>
   rw[hx] at h;cases h
   split
   .left;rw[Gbr,hx]
   .right;rw[Gbr,hx]
  |false=>
   rw[hx] at h;split
   .rw[Gbr,hx];exact fh h
   .rw[Gbr,hx];exact fh h
variable{j:Nat}
def H0{aq:List Nat}{n:Nat}{α:Type}{f:Nat->Option α}{y:α}(h:(List.replicate n (J:Option α)++aq.map f)[j]? =U (U y)):∃i,aq[j -n]? =U i/\n<=j/\f i=U y:=by
 by_cases hj:j<n
 .rw[GaS (by simp_all)] at h;simp_all
 .rw[GaW (by simp_all),List.length_replicate,Gaj] at h;cases q:aq[j -n]? with
  |none=>rw[q] at h;cases h
  |some i=>rw[q] at h;simp only[Gcj,Gdh] at h;exact⟨i,rfl,by simp_all,h⟩
def uu:Option Vq->Bool
 |some .cell=>O
 |some .free=>O
 |_=>M
structure jg(X:Cx)(scope:Vp)(N:List Str)(n:Nat)(aq:List Nat):Prop where
 cell:(scope.names.all λy=>y.2 != .cell)=O
 kind:scope.kind= .function
 names:(scope.names.all λy=>y.2 != .local||scope.names.lookup y.1==U .local)=O
 free:(scope.names.all λy=>y.2 != .free||uu (X.env.kindOf y.1))=O
 cap:N.drop n=aq.map λi=>(X.N[i]?).getD ("":Str)
 le:n<=N.length
 lt:(aq.all λi=>decide (i<X.N.length))=O
 fr:((N.drop n).all λx=>scope.names.lookup x==U .free)=O
 st:∀b,X.frm b->b∈frs X.stack
def pW(n:Nat)(aq:List Nat)(Z:Vl):Vl:=λj=>if n<=j then Z (aq[j -n]?.getD 0) else .none
def blk(X:Cx)(scope:Vp)(N:List Str)(cl:List (Str×Vh))(C:Vh)(s:Vg)(bad:Vh->Prop):Cx:=
 {X with ob:=[],N:=N,s₀:=s,env:=compEnvC scope cl C X.env,outer:=X.stack,ex:=[],fn:=λ_=>M,bad:=bad,xe:=λ_ _=>False}
def Sub(e₀ e:aM):Prop:=∀(j:Nat) t,e₀[j]? =U (U t)->e[j]? =U (U t)
def Sub.top{e:aM}(h:Sub e₀ e)(t:ba e₀[j]?):ba e[j]? :=by
 match q:e₀[j]?,t with
 |some (U t),z=>rw[h j t q];exact z
def iz(X:Cx)(e e₀:aM)(Z:Vl)(n:Nat)(aq:List Nat)(p C b:Vh):Prop:=b=p\/b=C\/(¬Cln X e Z b/\∀j:Nat,ba (UY n aq e₀)[j]? ->pW n aq Z j≠ .ref b)
section
variable{j:Nat}
def gQ{e:aM}(h:(UY n aq e)[j]? =U (U t)):∃i,aq[j -n]? =U i/\n<=j/\pW n aq Z j=Z i/\∃t',e[i]? =U (U t')/\dH (U t')=U t:=by
 obtain⟨i,h1,h2,h3⟩:=H0 h;refine⟨i,h1,h2,by unfold pW;rw[Gar h2,h1];rfl, ?_⟩
 match e[i]?,h3 with
 |some (U t'),h3=>exact⟨t',rfl,h3⟩
def sU{e:aM}(h:ba (UY n aq e)[j]?):∃i,ba e[i]? /\pW n aq Z j=Z i:=by
 match q:_[j]?,h with
 |some (U t),h=>
  obtain⟨i,_,_,h3,t',h4,h5⟩:=gQ q;refine⟨i, ?_,h3⟩;rw[h4];cases t' <;>first|trivial|(cases h5;exact h)
theorem jg.cells{X:Cx}{scope:Vp}(S:jg X scope N n aq)(I:Inv X env Z s):∀y∈scope.names,y.2= .free->∃c,X.env.cells.lookup y.1=U c:=λy hy hf=>by
 have hk:=Gal.mp S.free y hy;rw[hf] at hk;refine I.ok.has _ ?_;cases q:X.env.kindOf _ with
 |none=>rw[q] at hk;cases hk
 |some z=>rw[q] at hk;cases z<;>first|(cases hk;done)|exact .inl rfl|exact .inr rfl
variable{scope:Vp}
def jg.Dz(S:jg X scope N n aq):∀y∈scope.names,y.2= .local->scope.names.lookup y.1=U .local:=λy hy hl=>by
 have:=Gal.mp S.names y hy;simp_all
def Inv.DB{s:Vg}(I:Inv X e Z s)(h:¬Cln X e Z b):Th s.heap b:=λz=>h (I.cl z)
def H3{X:Cx}{s2:Vg}{cl:List (Str×Vh)}{h₁:Vj}(S:jg X scope N n aq)(hv:Sub e₀ e)(I:Inv X e Z s)(x2:Ext X No s s2)(ym:∀x c,cl.lookup x=U c->X.env.cells.lookup x=U c)(ya:∀y∈scope.names,y.2= .free->∃c,cl.lookup y.1=U c)
  (hp:s2.heap.get? p=J)(hC:s2.heap.get? C=J)(pC:p≠C)(old:∀b o,s2.heap.get? b=U o->h₁.get? b=U o)(yo:SqA h₁ p "list" #[])(xZ:h₁.Ns C λ_=>J):
  Inv (blk X scope N cl C s (iz X e e₀ Z n aq p C)) (UY n aq e₀) (pW n aq Z) {s2 with heap:=h₁,toks:=tk}:=by
 have I2:=I.exp x2;have th:∀b,Th _ b->Th h₁ b:=λb t=>by cases g:s2.heap.get? b with|none=>exact absurd g t|some o=>exact .of (old b o g)
 have vb:∀b,X.vol b->iz X e e₀ Z n aq p C b:=λb v=> .inr (.inr ⟨λz=>z.1 (I.ok.vb b v),λj t z=>by
  obtain⟨i,t',e'⟩:=sU (Z:=Z) t;obtain⟨a,h1,_,h2⟩:=I.ri (hv.top t');rw[e',h1] at z;cases z;exact h2 (I.ok.vb _ v)⟩)
 have cln:∀b,Cln X e Z b->Th s2.heap b->Cln (blk X scope N cl C s (iz X e e₀ Z n aq p C)) _ (pW n aq Z) b:=λb z t=> ⟨λw=>by
  rcases w with rfl|rfl|w
  .exact t hp
  .exact t hC
  .exact w.1 z,λj t z' =>let⟨i,t',e'⟩:=sU (Z:=Z) t;z.2 i (hv.top t') (e'.symm.trans z')⟩
 have cne:∀y c,X.env.cells.lookup y=U c->c≠_:=λy c l z=>by
  have⟨_,o,g,q⟩:=I.cell y c l;obtain⟨_,⟨o',_,_,g',q',_⟩,_⟩:=I.loc;rw[z,g'] at g;cases g;rw[q] at q';cases q'
 refine⟨⟨I.ok.mod,S.kind,I.ok.glob,I.ok.blt,x2.n0 hC,λx y c e1 e2=>I.ok.inj x y c (ym x c e1) (ym y c e2),λx hx=> ?_,λx c e=>(by cases e),I.ok.hd,I.ok.frames,.inl rfl,(λb z=>nomatch z),I.bk,(λb _ _ z=>nomatch z),I.stack,λb v=> ?_,λx c h z=> ?_,(λ_ z=>nomatch z)⟩,
  x2.ex.os,I2.bare,λb o g f _=>old b o (x2.keep b o g (λz=>f (S.st b z)) id),λb o g f=> ?_,⟨_,xZ,λj x h1 ⟨t,h2⟩ h3=> ?_⟩,λx c h=> ?_,λj t h=> ?_,λj k a h1 _ _ _=> ?_, ?_,λb z=> ?_,λb z=>th b (x2.th b z),λb o z g=> ?_,(λ_ z=>nomatch z)⟩
 .obtain⟨c,hc⟩:=ya _ (ma (λy hy z=>by have:=Gal.mp S.cell y hy;rw[z] at this;simp at this) hx) rfl;exact⟨c,hc⟩
 .rcases v with(rfl|v)| ⟨x,v⟩
  .exact .inr (.inl rfl)
  .exact vb b (.inl (I.cA b v))
  .exact vb b (.inr ⟨x,ym x b v⟩)
 .exact(I.cA c z).elim (cne x c (ym x c h)) (I.ok.cf x c (ym x c h))
 .obtain⟨sl,g⟩:=x2.ex.slot b o g (I.cA b f);exact⟨sl,old b _ g⟩
 .obtain⟨i,f1,f2,f3,t',h4,h5⟩:=gQ (Z:=Z) h2;have hd:(N.drop n)[j -n]? =U x:=by rw[Gbf,show n+(j -n)=j by simp[*]];exact h1
  have hxf:scope.names.lookup x=U .free:=by simpa using Gal.mp S.fr x (GaH hd)
  have hx:=GbV hxf;rw[S.cap,Gaj,f1] at hd;have hXN:X.N[i]? =U x:=by
   simp only[Gcj,Gdh] at hd;rw[Gaa (Gay (Gal.mp S.lt i (GaH f1)))] at hd⊢
   simpa using hd
  have xO :X.env.kindOf x=U .cell\/X.env.kindOf x=U .free:=by
   have hk:uu (X.env.kindOf x)=O:=by simpa using Gal.mp S.free (x,.free) hx
   match q:X.env.kindOf x,hk with
   |some .cell,_=>exact .inl rfl
   |some .free,_=>exact .inr rfl
  obtain⟨m,hm,look⟩:=I2.loc;rcases look i x hXN ⟨t',hv i t' h4⟩ (.inr xO) with⟨l,_⟩| ⟨_,c,hc,o,g,d⟩
  .rcases xO with z|z<;>rw[l] at z<;>cases z
  .obtain⟨c',zB⟩:=ya (x,.free) hx rfl;have:=ym x c' zB;rw[hc] at this;cases this;exact .inr ⟨fh hxf,c,zB,o,old _ _ g,by rw[f3];exact d⟩
 .obtain⟨v,o,g,q⟩:=I2.cell x c (ym x c h);exact⟨v,o,old _ _ g,q⟩
 .obtain⟨i,f1,f2,f3,t',h4,h5⟩:=gQ (Z:=Z) h;rw[f3];have kp:∀b o,Cln X e Z b->s2.heap.get? b=U o->¬ItO o->Cln (blk X scope N cl C s (iz X e e₀ Z n aq p C)) (DL.UY n aq e₀) (pW n aq Z) b/\h₁.get? b=U o:=λb o f g _=> ⟨cln b f (.of g),old b o g⟩;have q:=I2.sl i t' (hv i t' h4);have bo:∀{a d},t= .bor d->Z i= .ref a->Top (Cln X e Z) s2.heap d a->¬iz X e e₀ Z n aq p C a/\Top (Cln (blk X scope N cl C s (iz X e e₀ Z n aq p C)) (DL.UY n aq e₀) (pW n aq Z)) h₁ d a:=λ{a d} ht u T=>by
   refine⟨λz=> ?_,T.keep kp λo g _=>old a o g⟩;have t:=let⟨_,_,_,_,t,_,_⟩:=T
   t.th
   rcases z with rfl|rfl|z
   .exact t hp
   .exact t hC
   .exact z.2 j (by rw[h,ht];trivial) (f3.trans u)
  cases t' <;>cases h5
  .exact Rep.keep q kp
  .obtain⟨tp,a,h1,_,_,h3⟩:=q;exact⟨tp,a,h1,bo rfl h1 h3⟩
  .obtain⟨tp,a,h1,_,_,h3⟩:=q;exact⟨tp,a,h1,bo rfl h1 h3⟩
  .obtain⟨tp,a,h1,_,h3⟩:=q;exact⟨tp,a,h1,bo rfl h1 h3⟩
 .match q:(UY n aq e₀)[j]?,h1 with
  |some (U (.own d)),_=>obtain⟨_,_,_,_,t',_,h5⟩:=gQ (Z:=Z) q;cases t' <;>cases h5
  |some (U (.lok d)),_=>obtain⟨_,_,_,_,t',_,h5⟩:=gQ (Z:=Z) q;cases t' <;>cases h5
 .have:=congrArg List.length S.cap;rw[Geb,Gah] at this;have:=S.le;show(DL.UY n aq e₀).length=N.length;simp[DL.UY];lia
 .rcases z with rfl|rfl|z
  .exact yo.th
  .exact let⟨_,_,_,g,_⟩:=xZ
   .of g
  .exact th b (I2.DB z.1)
 .rcases z with rfl|rfl|z
  .obtain⟨o',_,g',e1,_⟩:=yo;rw[show(({s2 with heap:=h₁,toks:=tk}:Vg).heap)=h₁ from rfl,g'] at g;cases g
   exactλ⟨z,_⟩=>by rw[e1] at z;exact absurd z (by decide)
  .obtain⟨_,_,_,g',q,_⟩:=xZ;rw[show(({s2 with heap:=h₁,toks:=tk}:Vg).heap)=h₁ from rfl,g'] at g;cases g
   exactλ⟨_,_,_,z⟩=>by rw[q] at z;cases z
  .have t:=I2.DB z.1;cases g' :s2.heap.get? b with
   |none=>exact absurd g' t
   |some o' =>
    have:=(old b o' g').symm.trans g;cases this
    exactλ⟨c,eo,n,d⟩=>z.1 (I2.sQ ⟨eo,_,n,g',c,.inl rfl,d⟩)
end
end
section
variable [Wd]
def DC(X:Cx)(ifs:List Vi)(t:DT):Prop:=∀env Z s b,Inv X env Z s->t env=U b->
 wpX X (forIn ifs O λc r=>if r=O then do let ok<-isTrue c X.env (eval c X.env);pure (ForInStep.yield ok) else pure (ForInStep.yield r)) (λc s' =>c=b/\Ext X No s s') X.xe s
def Tgt(n:Nat)(gd:DG):Prop:=∀d e e',gd d e=U e' ->∀j:Nat,e'[j]? =e[j]? \/(j<n/\∃d,e'[j]? =U (U (.sh d)))
structure Blk(X:Cx)(scope:Vp)(N:List Str)(w:Bool)(tg elt:Vi)(ifs:List Vi)(gd:DG)(t:DT)(f:DE):Prop where
 g:∀cl C s bad,PG (blk X scope N cl C s bad) w tg gd
 t:∀cl C s bad,DC (blk X scope N cl C s bad) ifs t
 e:∀cl C s bad,PE (blk X scope N cl C s bad) elt f
section
variable{X:Cx}{e e₀ env:aM}{Z:Vl}{s s' s1 s3:Vg}{n i:Nat}{aq:List Nat}{scope:Vp}{N:List Str}{cl:List (Str×Vh)}{C p q:Vh}{j:Nat}{ds rs:List D}{gd:DG}{t:DT}{f:DE}{w:Bool}{tg iter:Vi}{x:Str}
def BS:DC X [] dS:=λenv Z s b I q=>by cases q;exact wpAny_tests_nil ⟨rfl,.refl⟩
def BU(h:PT X c t):DC X [c] t:=λenv Z s b I q=>wpAny_tests_one (h env Z s b I q)
def Aw(h:i<n)(j:Nat):(e.set i (U (.sh d)))[j]? =e[j]? \/(j<n/\∃d',(e.set i (U (.sh d)))[j]? =U (U (.sh d'))):=by
 by_cases z:i=j
 .subst z;by_cases hl:i<e.length
  .exact .inr ⟨h,d,Gau hl⟩
  .rw[GcC (by simp_all),GcC (by simp_all)];exact .inl rfl
 .exact .inl (Gax z)
def Kx(h:i<n):Tgt n (gN i):=λd e e' q j=>by cases q;exact Aw h j
theorem Ax:∀(is:List Nat) (ds:List D) (e e' :aM),(is.all λi=>decide (i<n))=O->gNs is ds e=U e' ->∀j:Nat,e'[j]? =e[j]? \/(j<n/\∃d,e'[j]? =U (U (.sh d)))
 |[],[],_,_,_,q,_=>by cases q;exact .inl rfl
 |i::is,d::ds,e,e',h,q,j=>by
  rw[GbK,Gac] at h;rcases Ax is ds _ e' h.2 q j with z|z
  .rw[z];exact Aw (Gay h.1) j
  .exact .inr z
 |[],_::_,_,_,_,q,_=>by cases q
 |_::_,[],_,_,_,q,_=>by cases q
def Ky{is:List Nat}(h:(is.all λi=>decide (i<n))=O):Tgt n (gT is):=λd e e' q=>by
 unfold gT at q;split at q
 .exact Ax is _ e e' h q
 .cases q
def Inv.O1(I:Inv X e Z s)(hb:X.bad q)(nv:¬X.vol q)(n0:X.s₀.heap.get? q=J)(sb:Heap.SameBut q s.heap h')(t:SqA h' q "list" eo)(t0:∃its0,SqA s.heap q "list" its0)(k:Nat):
  Inv X e Z {s with heap:=h',toks:=k}/\Stp X (· =q) e Z s e Z {s with heap:=h',toks:=k}:=by
 have ne:∀b,X.vol b->b≠q:=λb w z=>nv (z▸w);have kp:∀b o,b≠q->s.heap.get? b=U o->h'.get? b=U o:=λb o n g=>(sb.2 b n).trans g;have th:∀b,Th s.heap b->Th h' b:=λb w=>by
  by_cases z:b=q
  .subst z;exact t.th
  .unfold Th
   rwa[sb.2 b z]
 refine⟨⟨I.ok,I.os,I.bare,λb o g f n=>kp b o (λz=>by rw[z,n0] at g;cases g) (I.base b o g f n),λb o g f=> ?_, ?_,λy c l=> ?_,λi t w=>(I.sl i t w).keep (λb o f g _=> ⟨f,kp b o (λz=>f.1 (z▸hb)) g⟩) λa o n _ g _=>kp a o (λz=>n (z▸hb)) g,I.dj,I.len,λb z=>th b (I.bt b z),λb z=>th b (I.th0 b z),λb o z g=> ?_,λo ho=>(I.fl o ho).keep (λb g=>kp _ b (λy=> ?_) g) (λb g=>kp _ b (λy=> ?_) g) ⟨rfl,.rfl⟩ λ_ _ _=> ⟨rfl,.rfl⟩⟩,λb o g _ _ n=>kp b o n g,λb z=> .inl z,λb z _=>z,λ_ _ _ z=> ⟨z,rfl⟩,th⟩
 .have⟨sl,z⟩:=I.slot b o g f;exact⟨sl,kp b _ (ne b (.inl (.inr f))) z⟩
 .have⟨m,⟨o,es,ep,w,z⟩,lk⟩:=I.loc;exact⟨m,⟨o,es,ep,kp _ _ (ne _ (.inl (.inl rfl))) w,z⟩,λj y h1 h2 h3=>(lk j y h1 h2 h3).imp id λ⟨k,c,l,o,w,z⟩=> ⟨k,c,l,o,kp _ _ (ne c (.inr ⟨y,l⟩)) w,z⟩⟩
 .have⟨v,o,w,z⟩:=I.cell y c l;exact⟨v,o,kp _ _ (ne c (.inr ⟨y,l⟩)) w,z⟩
 .by_cases y:b=q
  .subst y;obtain⟨o',_,g',c,_⟩:=t;rw[g'] at g;cases g
   exactλ⟨z,_⟩=>by rw[c] at z;exact absurd z (by lia)
  .exact I.bt2 b o z ((sb.2 b y).symm.trans g)
 .obtain⟨_,o',_,g',_,_,e3⟩:=t0;rw[<-y,(I.fl o ho).1] at g';cases g';cases e3
 .obtain⟨_,o',_,g',_,_,e3⟩:=t0;obtain⟨_,_,_,_,⟨o2,_,_,g2,e2,_⟩,_⟩:=I.fl o ho;lia
def DD{s3:Vg}(x:Stp (blk X scope N cl C s (iz X e e₀ Z n aq p C)) W (DL.UY n aq e₀) (pW n aq Z) s3 e' Z' s')(bi:∀j,e'[j]? =(DL.UY n aq e₀)[j]? \/(j<n/\∃d,e'[j]? =U (U (.sh d))))
  (h:Cln (blk X scope N cl C s (iz X e e₀ Z n aq p C)) e' Z' b):Cln X e Z b/\b≠p/\b≠C:=by
 refine⟨GaO λz=>h.1 (.inr (.inr ⟨z,λj t y=> ?_⟩)),λz=>h.1 (.inl z),λz=>h.1 (.inr (.inl z))⟩
 match g:_[j]?,t with
 |some (U t),tt=>
  obtain⟨i,_,f2,_,t',_,h5⟩:=gQ (Z:=Z) g;have g' :=(bi j).elim (λz=>z.trans g) λz=>absurd z.1 (by lia);exact h.2 j (by simp_all) ((x.lk j t (by cases t' <;>cases h5<;>first|trivial|exact tt) g').2.trans y)
theorem Stp.top(x:Stp X W e Z s e' Z' s')(I:Inv X e Z s)(T:Top (Cln X e Z) s.heap d a)(nw:∀b o,s.heap.get? b=U o->¬ItO o->¬W b)(na:¬X.vol a/\¬Own e Z a/\¬W a):Top (Cln X e' Z') s'.heap d a:=
 T.keep (λb o f g n=> ⟨x.cl b f (.of g),x.keep b o g (λz=>f.1 (I.ok.vb b z)) (λ⟨j,h1,h2⟩=>f.2 j h1.ol.top h2) (nw b o g n)⟩) λo g _=>x.keep a o g na.1 na.2.1 na.2.2
def Stp.wide(x:Stp X W e Z s e' Z' s')(h:∀b,W b->W' b):Stp X W' e Z s e' Z' s' :=⟨λb o g v w n=>x.keep b o g v w λz=>n (h b z),x.own,x.cl,x.lk,x.th⟩
structure CoI(X:Cx)(scope:Vp)(N:List Str)(cl:List (Str×Vh))(C p:Vh)(s s3:Vg)(e e₀:aM)(Z:Vl)(n:Nat)(aq:List Nat)(wr:List Vh)(St:Nat->Vj->Prop)(gd:DG)(t:DT)(f:DE)(ds rs:List D)(m:Nat)(s' :Vg)(i:Nat)(ei:aM)(Zi:Vl)(dn rest:List D):Prop where
 em:m=ds.length -i
 hi:i<=ds.length
 I:Inv (blk X scope N cl C s (iz X e e₀ Z n aq p C)) ei Zi s'
 st:St i s'.heap
 x:Stp (blk X scope N cl C s (iz X e e₀ Z n aq p C)) (λb=>b∈wr\/b=p) (DL.UY n aq e₀) (pW n aq Z) s3 ei Zi s'
 bi:∀j:Nat,ei[j]? =(DL.UY n aq e₀)[j]? \/(j<n/\∃d,ei[j]? =U (U (.sh d)))
 acc:Top (Cln (blk X scope N cl C s (iz X e e₀ Z n aq p C)) ei Zi) s'.heap (.lst dn) p
 dl:dn.length<=i
 ci:bz gd t f (ds.drop i) ei=U rest
 eq:dn++rest=rs
def sV(bi:∀j,e'[j]? =(DL.UY n aq e₀)[j]? \/(j<n/\∃d,e'[j]? =U (U (.sh d)))):¬Own e' Z' b:=λ⟨j,h,_⟩=>by
 rcases bi j with z| ⟨_,d,z⟩
 .rw[z] at h
  match g:_[j]?,h with
  |some (U (.own d)),_=>obtain⟨_,_,_,_,t',_,h5⟩:=gQ (Z:=Z') g;cases t' <;>cases h5
 .rwa[z] at h
def rH{RR:Vf->Vh->Result->Vg->Prop}(S:jg X scope N n aq)(B:Blk X scope N w tg elt ifs gd t f)(hg:Tgt n gd)(hv:Sub e₀ e)(I:Inv X e Z s)(src:Src X w tg e Z s ds yJ s2)(hz:ds.length<=a9)(hl:bz gd t f ds (DL.UY n aq e₀)=U rs)
  (ym:∀x c,cl.lookup x=U c->X.env.cells.lookup x=U c)(ya:∀y∈scope.names,y.2= .free->∃c,cl.lookup y.1=U c)
  (Ug:∀p C s' m,s'.heap.Ns C m->Ext X No s s' ->s.heap.get? p=J->s.heap.get? C=J->p≠C->Top (λb=>Cln X e Z b/\b≠p/\b≠C) s'.heap (.lst rs) p->RR (.ref p) C (.ok .next) s'):
  wpX X (newList []) (λacc s₃=>wpX X (newFunctionEnv scope X.env.globals cl [] X.env.qual J .none (U X.env)) (λQH s₄=>
   codeAny (model X.prog X.w) X.A (.compStart (.ListComp elt [⟨tg,iter,ifs,0⟩] scope pos) 0 yJ acc {QH with scope:=relabel scope X.env}) (RR acc QH.locals) s₄) E s₃) E s2:=by
 obtain⟨it,fp,wr,P,Md,St,G,rfl,x2,W,Rv,hf,hw,hi,hG,self,rep⟩:=src;replace hf:∀b∈fp,¬X.vol b/\¬Own e Z b/\Th s2.heap b:=λb m=> ⟨λz=>(hf b m).1 (I.ok.vb b z),(hf b m).2⟩;refine GbN (wpAny_newFunctionEnv (λy hy z=>by have:=Gal.mp S.cell y hy;rw[z] at this;simp at this) (by intro y hy;simp at hy) (λh₁ hns₁ hsb₁=> ?_) S.kind);dsimp only at hns₁ hsb₁⊢;generalize hH2:s2.heap.push {cls:= .type "list",dict:=J,data:= .seq ([]:List Vf).toArray}=H2 at hns₁ hsb₁⊢;have hC:s2.heap.objs.size+1=H2.objs.size:=by rw[<-hH2,GdJ]
 have hDC:s2.heap.objs.size≠H2.objs.size:=by rw[<-hC];exact Gbi (Nat.lt_succ_self _)
 have hCn:s2.heap.get? H2.objs.size=J:=Gbc (by rw[<-hC];exact Gdz _);have old:∀b o,s2.heap.get? b=U o->h₁.get? b=U o:=λb o e=>hsb₁.extBut b o (by rw[<-hC];exact Gbi (GdQ (Gbj e))) (Gag _ (hH2▸Gag _ e));have yo:SqA h₁ s2.heap.objs.size "list" #[]:=⟨_,0,hsb₁.extBut _ _ hDC (Gag _ (hH2▸Gat _ rfl)),rfl,.inr ⟨rfl,rfl⟩,rfl⟩
 have hpn:s2.heap.get? s2.heap.objs.size=J:=aJ;have I2:=I.exp x2;generalize H2.objs.size=C at*;generalize s2.heap.objs.size=p at*;have I1:=H3 (tk:=s2.toks+([]:List (Str×Vf)).length) S hv I x2 ym ya hpn hCn hDC old yo (by
  have z:(λx:Str=>([]:List (Str×Vf)).reverse.lookup x)=λ_=>J:=by funext x;rfl
  rw[z] at hns₁;exact hns₁)
 have Sx:St 0 h₁:=W.frame 0 _ _ Rv λb _ o e=>old b o e;have np:s.heap.get? p=J:=x2.n0 hpn;have vp:∀cl' :Prop,¬(blk X scope N cl C s (iz X e e₀ Z n aq p C)).vol p:=λ_ z=>by
  rcases z with(z|z)| ⟨y,z⟩
  .exact hDC z
  .exact I.bt _ (I.ok.vb p (.inl (I.cA p z))) np
  .exact I.bt _ (I.ok.vb p (.inr ⟨y,ym y p z⟩)) np
 have fv:∀b∈fp,¬(blk X scope N cl C s (iz X e e₀ Z n aq p C)).vol b/\b≠p:=λb m=> ⟨λz=>by
  obtain⟨h1,_,h3⟩:=hf b m;rcases z with(z|z)| ⟨y,z⟩
  .exact h3 (z▸hCn)
  .exact h1 (.inl (I.cA b z))
  .exact h1 (.inr ⟨y,ym y b z⟩),λz=>(hf b m).2.2 (z▸hpn)⟩
 have hw2:∀b∈wr,(blk X scope N cl C s (iz X e e₀ Z n aq p C)).s₀.heap.get? b=J/\¬(blk X scope N cl C s (iz X e e₀ Z n aq p C)).bad b:=λb m=> ⟨hw b m,λz=>by
  rcases z with z|z|z
  .exact(fv b (W.sub b m)).2 z
  .exact(hf b (W.sub b m)).2.2 (z▸hCn)
  .exact z.1 (I.cl (hw b m))⟩
 have loop:codeAny (model X.prog X.w) X.A (.compLoop (.ListComp elt [⟨tg,iter,ifs,0⟩] scope pos) 0 (.ref it) (.ref p) (compEnvC scope cl C X.env)) (RR (.ref p) C) {s2 with heap:=h₁,toks:=s2.toks+([]:List (Str×Vf)).length}:=by
  refine codeAny_loop rfl (λm s' =>∃i ei Zi dn rest,CoI X scope N cl C p s {s2 with heap:=h₁,toks:=s2.toks+([]:List (Str×Vf)).length} e e₀ Z n aq wr St gd t f ds rs m s' i ei Zi dn rest) ?_ ds.length ?_
  .rintro m s3 ⟨i,e3,Z3,dn,rest,UR⟩;have hm:=UR.em;subst hm;show wpAny _ X.A ((compTurn (.ListComp elt [⟨tg,iter,ifs,0⟩] scope pos) 0 (.ref it) (.ref p) (compEnvC scope cl C X.env)).onRaise (λx=>do noteFrame x (compEnvC scope cl C X.env);theTreesLotGoes x)) _ _ s3;refine wpAny_noted ?_;rw[compTurn_list];refine Gad (GdX (Gad ?_));have ps:∀{α:Type} {t:Sem α} {Q:α->Vg->Prop} {E:VSP} {s},wpX X t Q (λ_ _=>False) s->wpX X t Q E s:=λh=>GaB h (λ_ _ q=>q) λ_ _ z=>z.elim;have pw:p∉wr:=λm=>(fv p (W.sub p m)).2 rfl;have no3:=λb=>sV (Z' :=Z3) UR.bi (b:=b);by_cases hU:i<ds.length
   .refine ps (thn (draw (X:=blk X scope N cl C s (iz X e e₀ Z n aq p C)) W UR.I UR.st hw2 hi hU) λr s4 ⟨v,hr,h4⟩=> ?_);subst hr;refine Gad (ps (thn h4 λ_ s5 ⟨p5,yh,I5,k5⟩=> ?_));have ci:=UR.ci;rw[(Gbz hU)] at ci;refine a6 ci λe4 zx ci=>a6 ci λbb TH ci=> ?_;have gc:∀b,G b->Cln (blk X scope N cl C s (iz X e e₀ Z n aq p C)) (DL.UY n aq e₀) (pW n aq Z) b/\Th h₁ b/\b∉wr:=λb z=>by
     obtain⟨c,t,nw⟩:=hG b z;refine⟨⟨λw=> ?_,λj t z' =>let⟨i,t',e'⟩:=sU (Z:=Z) t;c.2 i (hv.top t') (e'.symm.trans z')⟩, ?_,nw⟩
     .rcases w with rfl|rfl|w
      .exact t hpn
      .exact t hCn
      .exact w.1 c
     .cases g:s2.heap.get? b with
      |none=>exact absurd g t
      |some o=>exact .of (old b o g)
    have gk:∀b o,G b->s2.heap.get? b=U o->s5.heap.get? b=U o:=λb o z g=>
     have⟨c,_,nw⟩:=gc b z
     k5.keep nw (UR.x.keep b o (old b o g) (λy=>c.1 (I1.ok.vb b y)) (sV λj=> .inl rfl) λy=>y.elim nw λy=>c.1 (.inl y))
    refine Gad (ps (thn (B.g cl C s _ e3 Z3 s5 _ v e4 I5 zx ((rep i v _ ds[i] (by simp[hU]) p5 gk).imp (F' :=Cln (blk X scope N cl C s (iz X e e₀ Z n aq p C)) e3 Z3) λb z _=>UR.x.cl b (gc b z).1 (gc b z).2.1)) λ_ s6 ⟨Z6,I6,x6⟩=> ?_));have bi:∀j:Nat,e4[j]? =(DL.UY n aq e₀)[j]? \/(j<n/\∃d,e4[j]? =U (U (.sh d))):=λj=>(hg _ _ _ zx j).elim (λz=>by rw[z];exact UR.bi j) .inr;refine Gad (ps (thn (B.t cl C s _ e4 Z6 s6 bb I6 TH) λc s7 ⟨hc,x7⟩=> ?_));subst hc;have I7:=I6.exp x7;have y57:=x6.trans x7.stp;have y37:=(Ext.stp ⟨k5.ex0 λb m=>(fv b (W.sub b m)).1,λb z=>(Classical.em (b∈wr)).elim (λm=>let⟨o,g,_⟩:=hi _ _ yh b m;.of g) (k5.th b z)⟩).trans (Stp.wide (W:=No) y57 λb z=>z.elim);have acc7:=y37.top UR.I UR.acc (λb o g n m=>by obtain⟨o',g',z⟩:=hi _ _ UR.st b m;rw[g] at g';cases g';exact n z) ⟨vp True,no3 p,pw⟩;have again:∀{s8 dn' yi},Inv (blk X scope N cl C s (iz X e e₀ Z n aq p C)) e4 Z6 s8->Stp (blk X scope N cl C s (iz X e e₀ Z n aq p C)) (· =p) e4 Z6 s7 e4 Z6 s8->Top (Cln (blk X scope N cl C s (iz X e e₀ Z n aq p C)) e4 Z6) s8.heap (.lst dn') p->dn'.length<=i+1->bz gd t f (ds.drop (i+1)) e4=U yi ->dn' ++yi =rs->
      ∃m,m<ds.length -i/\∃i ei Zi dn rest,CoI X scope N cl C p s {s2 with heap:=h₁,toks:=s2.toks+([]:List (Str×Vf)).length} e e₀ Z n aq wr St gd t f ds rs m s8 i ei Zi dn rest:=λI8 x8 a8 l8 c8 q8=>
     ⟨ds.length -(i+1),by lia,i+1,_,_,_,_,⟨rfl,hU,I8,W.frame _ _ _ (W.frame _ _ _ yh λb m o g=>y57.keep b o g (fv b m).1 (no3 b) id) λb m o g=>x8.keep b o g (fv b m).1 (sV bi) (fv b m).2,UR.x.trans ((y37.wide λb z=> .inl z).trans (x8.wide λb z=> .inr z)),bi,a8,l8,c8,q8⟩⟩
    cases c with
    |false=>
     rw[Gaw Bool.false_ne_true] at ci;exact Gao ⟨rfl,again I7 (Stp.wide (W:=No) .refl λb z=>z.elim) acc7 (GeF UR.dl) ci UR.eq⟩
    |true=>
     rw[Gar rfl] at ci;refine a6 ci λr hr ci=> ?_;split at ci
     .rename_i hfree;refine aS ci λyi c8 q8=>Gad (Gad (ps (thn (B.e cl C s _ e4 Z6 s7 r I7 hr) λy s8 ⟨x8,r8⟩=> ?_)));have acc8:=x8.stp.top I7 acc7 (λ_ _ _ _=>id) ⟨vp True,sV bi,id⟩;have hap:Dx (.lst dn) [r]=U (.lst (dn++[r.d])):=by
       have:=UR.dl;show(if(r.free&&decide (dn.length<a9))=O then _ else _)=_;rw[hfree,GaI (by lia)]
       rfl
      refine Gad (ps (thn (rG.2 e4 Z6 s7 s8 [r] [y] p (.lst dn) _ I7 x8 acc8 (λz=>z.1 (.inl rfl)) (.cons r8 .nil) hap) λ_ s9 ⟨h',tk,e9,sb,_,T⟩=> ?_));subst e9;have t9:=let⟨_,_,eo,q,t,_,_⟩:=T
      (show∃eo,SqA h' p "list" eo from by cases q;exact⟨eo,t⟩)
      obtain⟨eo,t9⟩:=t9;have⟨I9,x9⟩:=(I7.exp x8).O1 (.inl rfl) (vp True) np sb t9 (let⟨_,_,eo,q,t,_,_⟩:=acc8;by cases q;exact⟨eo,t⟩) tk;exact Gao (Gao ⟨rfl,again I9 ((Stp.wide (W:=No) x8.stp λb z=>z.elim).trans x9) T (by have:=UR.dl;simp;simp[*]) c8 (by rw[<-UR.eq,<-q8,Gaz];rfl)⟩)
     .cases ci
   .have eV :i=ds.length:=by have:=UR.hi;lia
    subst eV;have ci:=UR.ci;rw[GbS] at ci;cases ci;have eq:=UR.eq;rw[GbE] at eq;subst eq;refine ps (thn (drawn (X:=blk X scope N cl C s (iz X e e₀ Z n aq p C)) W UR.I UR.st hw2 hi) λr s4 ⟨hr,I4,k4⟩=> ?_);subst hr;obtain⟨m,hm,_⟩:=I4.loc;refine Gao (Ug p C s4 m hm ⟨⟨I4.os,λ_=>I4.bare,λb o g nf _=>I4.base b o g (λz=>nf (I.cA b z)) (λz=>nomatch z),λb o g f=>I4.slot b o g (S.st b f)⟩,I4.th0⟩ np (x2.n0 hCn) hDC ?_);exact UR.acc.keep (λb o z g n=> ⟨DD UR.x UR.bi z,k4.keep (λm=>by obtain⟨o',g',z⟩:=hi _ _ UR.st b m;rw[g] at g';cases g';exact n z) g⟩) λo g n=>k4.keep pw g
  .exact⟨0,_,_,[],rs,⟨by simp,Gbm _,I1,Sx,.refl,λj=> .inl rfl,⟨_,_,_,rfl,yo,Gbm _,.nil⟩,GaN _,by simpa using hl,rfl⟩⟩
 exact codeAny_compStart_list loop (self _ _ _ Sx loop)
def Ext.drop(x:Ext X No s s')(n:s.heap.get? C=J)(sb:Heap.SameBut C s'.heap h'):Ext X No s {s' with heap:=h' }:=
 have ne:∀b,Th _ b->b≠C:=λb t z=>t (z▸n)
 ⟨⟨x.ex.os,x.ex.bare,λb o g nf w=>(sb.2 b (ne b (.of g))).trans (x.keep b o g nf w),λb o g f=>let⟨sl,z⟩:=x.ex.slot b o g f;⟨sl,(sb.2 b (ne b (.of g))).trans z⟩⟩,λb t=>by unfold Th;rw[sb.2 b (ne b t)];exact x.th b t⟩
def Inv.O2(I:Inv X e Z s)(nb:¬X.bad C)(n0:X.s₀.heap.get? C=J)(nt:∀i t,e[i]? =U (U t)->Z i≠ .ref C)(sl:∀i t,e[i]? =U (U t)->Slt (λb=>Cln X e Z b/\b≠C) X s.heap (Z i) t)(sb:Heap.SameBut C s.heap h')(hC:∃m,s.heap.Ns C m):Inv X e Z {s with heap:=h' }:=by
 have nv:∀b,X.vol b->b≠C:=λb v z=>nb (I.ok.vb C (z▸v));have kp:∀b o,b≠C->s.heap.get? b=U o->h'.get? b=U o:=λb o n g=>(sb.2 b n).trans g;have th:∀b,b≠C->Th s.heap b->Th h' b:=λb z w=>by unfold Th;rw[sb.2 b z];exact w
 refine⟨I.ok,I.os,I.bare,λb o g f n=>kp b o (λz=>by rw[z,n0] at g;cases g) (I.base b o g f n),λb o g f=> ?_, ?_,λy c l=> ?_,λi t w=>(sl i t w).keep (λb o f g _=> ⟨f.1,kp b o f.2 g⟩) λa o n u g _=>kp a o (λz=>nt i t w (z▸u)) g,I.dj,I.len,λb z=>th b (λy=>nb (y▸z)) (I.bt b z),λb z=>th b (λy=>z (y▸n0)) (I.th0 b z),λb o z g=>I.bt2 b o z ((sb.2 b λy=>nb (y▸z)).symm.trans g),λo ho=>(I.fl o ho).keep (λb g=>kp _ b (λy=> ?_) g) (λb g=>kp _ b (λy=>nb (y▸(I.ok.ob o ho).1)) g) ⟨rfl,.rfl⟩ λ_ _ _=> ⟨rfl,.rfl⟩⟩
 .have⟨sl,z⟩:=I.slot b o g f;exact⟨sl,kp b _ (nv b (.inl (.inr f))) z⟩
 .have⟨m,⟨o,es,ep,w,z⟩,lk⟩:=I.loc;exact⟨m,⟨o,es,ep,kp _ _ (nv _ (.inl (.inl rfl))) w,z⟩,λj y h1 h2 h3=>(lk j y h1 h2 h3).imp id λ⟨k,c,l,o,w,z⟩=> ⟨k,c,l,o,kp _ _ (nv c (.inr ⟨y,l⟩)) w,z⟩⟩
 .have⟨v,o,w,z⟩:=I.cell y c l;exact⟨v,o,kp _ _ (nv c (.inr ⟨y,l⟩)) w,z⟩
 .obtain⟨_,o',_,_,g',e',_⟩:=hC;rw[<-y,(I.fl o ho).1] at g';cases g';cases e'
def Inv.lock(I:Inv X env Z s)(l:Option Nat):Inv X (bL l env) Z s/\(∀b,Cln X (bL l env) Z b↔Cln X env Z b)/\∀n aq,DL.UY n aq (bL l env)=DL.UY n aq env:=by
 have no:bL l env=env->Inv X _ Z s/\(∀b,Cln X _ Z b↔Cln X env Z b)/\∀n aq,DL.UY n aq (bL l env)=DL.UY n aq env:=λz=>by rw[z];exact⟨I,λb=> .rfl,λ_ _=>rfl⟩
 unfold bL at*;cases l with
 |none=>exact no rfl
 |some i=>
  dsimp only at*;split
  .rename_i d q;refine⟨I.swap q (.inl ⟨rfl,rfl⟩),λb=> ?_,λn aq=> ?_⟩
   .have top:=jX (t' := .lok d) q ⟨trivial,trivial⟩;exact⟨λz=> ⟨z.1,λj t=>z.2 j ((top j).mpr t)⟩,λz=> ⟨z.1,λj t=>z.2 j ((top j).mp t)⟩⟩
   .unfold DL.UY;congr 1;refine GaV λk _=> ?_;by_cases z:i=k
    .subst z;rw[Gau (Gae.mp q).1,q]
     rfl
    .simp_all
  .refine⟨?_, ?_, ?_⟩<;>first|exact I|exactλb=> .rfl|exactλ_ _=>rfl
def Inv.O3{t:Slot}(I:Inv X e Z s)(g:e[j]? =U (U t))(u:Z j= .ref a):Th s.heap a:=by
 have tt:ba _->Th _ a:=λh=>by obtain⟨b,e,z,_⟩:=I.ri (j:=j) (by rw[g];exact h);rw[u] at e;cases e;exact z
 cases t with
 |sh d=>
  rcases Rep.inn (I.sl j _ g) with z| ⟨b,e,_,_,_,_,_,t,_⟩
  .rw[u] at z;cases d<;>exact z.elim
  .rw[u] at e;cases e;exact t.th
 |_=>exact tt trivial
abbrev CS:=aM->Option (aM×aM×List D)
def BV(X:Cx)(w:Bool)(tg iter:Vi)(cs:CS):Prop:=∀env Z s q,Inv X env Z s->cs env=U q->Inv X q.1 Z s/\(∀b,Cln X q.1 Z b↔Cln X env Z b)/\Sub q.2.1 q.1/\wpX X (eval iter X.env) (λv s1=>wpX X (pyIter v) (Src X w tg q.1 Z s q.2.2) X.xe s1) X.xe s
def mP(n:Nat)(aq:List Nat)(cs:CS)(gd:DG)(t:DT)(f:DE):DE:=λenv=>(cs env).bind λq=>if q.2.2.length<=a9 then(bz gd t f q.2.2 (DL.UY n aq q.2.1)).map λrs=> ⟨.tn,.lst rs⟩ else J
def csE(l:Option Nat)(src:DI):CS:=λenv=>(src (bL l env)).map λds=>(bL l env,bL l env,ds)
def O4(hi:PI X w tg iter src):BV X w tg iter (csE l src):=λenv Z s q I h=>aS h λds xB hq=>by
 subst hq;obtain⟨I',cl,_⟩:=I.lock l;exact⟨I',cl,λ_ _ z=>z,hi _ Z s ds I' xB⟩
def csV(i:Nat)(g:aM->Option (List D)):CS:=λenv=>(g (bL (U i) env)).map λds=>(bL (U i) env,env.set i J,ds)
def rI{j:Nat}(h:l≠U j):(bL l env)[j]? =env[j]? :=by
 cases l with
 |none=>rfl
 |some i=>
  unfold bL;dsimp only;split
  .simp_all
  .rfl
def H4(hi:PI X w tg iter src):BV X w tg iter (csV i src):=λenv Z s q I h=>aS h λds xB hq=>by
 subst hq;obtain⟨I',cl,_⟩:=I.lock (U i);refine⟨I',cl,λj t z=> ?_,hi _ Z s ds I' xB⟩;by_cases e:i=j
 .rw[Gdi] at z;lia
 .rw[Gax e] at z
  rwa[rI (by simpa using e)]
def H5(e:aM)(v:RV)(h:dR l n aq src gd t f e=U v):mP n aq (csE l src) gd t f e=U v:=by
 have ce:DL.UY n aq (bL l e)=DL.UY n aq e:=by
  unfold DL.UY;congr 1;refine GaV λk _=> ?_;by_cases z:l=U k
  .subst z;unfold bL;dsimp only;split
   .rename_i d q;rw[Gau (Gae.mp q).1,q];rfl
   .rfl
  .rw[rI z]
 obtain⟨ds,h1,h2⟩:=GaZ.mp h;unfold mP csE;rw[h1];show(if _ then _ else _)=_;rw[ce];exact h2
def PE.of{f:DE}(h:PE X a f)(k:∀e v,g e=U v->f e=U v):PE X a g:=λenv Z s r I q=>h env Z s r I (k env r q)
def H6(S:jg X scope N n aq)(hi:BV X w tg iter cs)(hg:Tgt n gd)(B:Blk X scope N w tg elt ifs gd t f)(hs:∀x,foldedSetIterable iter X.env x=pure x):PE X (.ListComp elt [⟨tg,iter,ifs,0⟩] scope pos) (mP n aq cs gd t f):=λenv Z s r I q=>a6 q λp xB q=>by
 split at q
 .rename_i hz;refine aS q λrs xp hr=> ?_;subst hr;obtain⟨I',cl,sub,run⟩:=hi env Z s _ I xB;obtain⟨cs,h1,h2,h3⟩:=lM (S.cells I);exact wpAny_comprehension_free rfl hs h1 S.kind S.Dz (thn run λv s1 q1=>thn q1 λyJ s2 src=>rH S B hg sub I' src hz xp h2 h3 λp C s' m hm x np nC pC T=> ⟨m,hm,λh' sb=> ⟨x.drop nC sb,rfl,p,rfl,np,(T.keep (λb o z g _=> ⟨⟨(cl b).mp z.1,z.2.1⟩,(sb.2 b z.2.2).trans g⟩) λo g _=>(sb.2 p pC).trans g)⟩⟩)
 .cases q
def H7{pos:Pos}(hN:X.N.Nodup)(eV :X.N[i]? =U x)(hx:Loc X x)(hf:X.fn x=O\/X.env.scope.names.lookup x=U .local)(S:jg X scope N n aq)(hi:BV X w tg iter cs)(hg:Tgt n gd)(B:Blk X scope N w tg elt ifs gd t f)
  (TK:swapsWith (.ListComp elt [⟨tg,iter,ifs,0⟩] scope lpos) (U (.Name x pos')) pos.line X.env=pure O)(hs:∀x,foldedSetIterable iter X.env x=pure x):PS X (.Assign [.Name x pos'] (.ListComp elt [⟨tg,iter,ifs,0⟩] scope lpos) pos) (au i (mP n aq cs gd t f)):=λenv Z s o I q=>a6 q λr hr q=>aS q λe' xu ho=>a6 hr λp xB hr=>by
 subst ho;split at hr
 .rename_i hz;refine aS hr λrs xp hr=> ?_;subst hr;obtain⟨I',cl,sub,run⟩:=hi env Z s _ I xB;obtain⟨cs,h1,h2,h3⟩:=lM (S.cells I);rw[exec_Assign_Name_used _ _ _ _ TK];refine Gad (GdX (Gad (Gad (GaB (wpAny_comprehension_free rfl hs h1 S.kind S.Dz (thn run λv s1 q1=>thn q1 λyJ s2 src=>rH S B hg sub I' src hz xp h2 h3 λp C s' m hm xx np nC pC T=> ?_)) (λ_ s' hq=>Gao (Gao hq)) λ_ _ e=>e))));cases xu;have nvC:=λv=>I.bt C (I.ok.vb C v) nC;have neC:∀b,Th _ b->b≠C:=λb t z=>t (z▸nC);obtain⟨t,e,h1,h2,h3,h4,h5⟩:=kU (i:=i) (r:=⟨.tn,.lst rs⟩) I xx ⟨rfl,p,rfl,np,(T.keep (λb o z g _=> ⟨⟨(cl b).mp z.1,z.2.1⟩,g⟩) λo g _=>g)⟩ rfl;have et:U (U t)=U (U (Slot.own (.lst rs))):=by
   have hii:i<env.length:=by rw[I.len];exact(Gae.mp eV).1
   have:=congrArg (λl:aM=>l[i]?) e
   simpa[hii] using this.symm
  cases et;refine wpAny_assign_Name (store (I.exp xx) hN eV hx hf h2 h3 λTc Uq k z=> ⟨m,let⟨o,es,ep,g,r⟩:=hm;⟨o,es,ep,k C o g nvC,r⟩,λh' sb=> ⟨_,Uq.O2 (λv=>I.bt C v nC) (I.n0 nC) (λj t' g u=> ?_) (λj t' g=> ?_) sb ⟨m,let⟨o,es,ep,g,r⟩:=hm;⟨o,es,ep,k C o g nvC,r⟩⟩,λb o g v w _=>(sb.2 b (neC b (.of g))).trans (k b o (xx.keep b o g (λz=>v (.inl z)) id) v),h4,h5,λj t' w g=> ?_,λb t=>by unfold Th;rw[sb.2 b (neC b t)];exact z b (xx.th b t)⟩⟩)
  .rcases eK g with⟨rfl,q⟩| ⟨hj,q⟩
   .rw[bp] at u;cases u;exact pC rfl
   .rw[aX hj] at u;exact I.O3 q u nC
  .rcases eK g with⟨rfl,y⟩| ⟨hj,y⟩
   .cases y;rw[bp];refine⟨rfl,p,rfl,I.n0 np,(I.cl np).1,T.keep (λb o z g _=> ⟨⟨⟨z.1.1,λj' t u=> ?_⟩,z.2.2⟩,k b o g λv=>z.1.1 (I.ok.vb b v)⟩) λo g _=>k p o g λv=>I.bt p (I.ok.vb p v) np⟩;rcases gH t with⟨rfl,_⟩| ⟨hj,q⟩
    .rw[bp] at u;cases u;exact z.2.1 rfl
    .rw[aX hj] at u;exact((cl b).mp z.1).2 j' q u
   .rw[aX hj];have kp:∀b o,¬X.bad b->s.heap.get? b=U o->Tc.heap.get? b=U o:=λb o n g=>k b o (xx.keep b o g (λz=>n (I.ok.vb b (.inl z))) id) λz=>n (I.ok.vb b z);exact(I.sl j t' y).keep (λb o f g _=> ⟨⟨h5 b f (.of g),neC b (.of g)⟩,kp b o f.1 g⟩) λa o n _ g _=>kp a o n g
  .rcases eK g with⟨_,q⟩| ⟨hj,q⟩
   .cases q;exact w.elim
   .exact⟨q,aX hj⟩
 .cases hr
end
end
section
variable [Wd]
section
variable{X:Cx}
def uv{s1 s2:Vg}{l:Vh}{eo:Array Vf}{St:Nat->Vj->Prop}(I:Inv X env Z s)(x1:Ext X No s s1)(x2:Ext X No s1 s2)(W:KTurns X.prog X.w X.A (.Tuple elts k tp) ew [ew,it,l] [ew,it] eo.size (λi v h=>∃T vals,v= .ref T/\(∃t x,eo[i]? =U x/\vals=#[.int i t,x])/\h.IsTuple T vals) Md St)
  (st:St 0 s2.heap)(ne:s1.heap.get? ew=J)(ni:s1.heap.get? it=J)(te:Th s2.heap ew)(ti:Th s2.heap it)(hl:¬X.bad l/\¬Own env Z l/\Th s1.heap l)(hi:∀i h,St i h->∀b∈[ew,it],∃o,h.get? b=U o/\ItO o)
  (self:∀s Q E,St 0 s.heap->Q (.ref ew) s->wpX X (pyIter (.ref ew)) Q E s)(rp:aP (Cln X env Z) s1.heap xs eo.toList)(kp:∀b o,s1.heap.get? b=U o->s2.heap.get? b=U o):Src X O (.Tuple elts k tp) env Z s (dU 0 xs) (.ref ew) s2:=by
 have nw:∀b∈[ew,it],s1.heap.get? b=J:=λb hb=>by
  rcases Gaq.mp hb with rfl|hb
  .exact ne
  .simp_all
 have cn:∀b∈[ew,it],¬X.bad b/\¬Own env Z b:=λb hb=>have c:=I.cl (x1.n0 (nw b hb));⟨c.1,λeU=>by obtain⟨j,h1,h2⟩:=eU;exact c.2 j h1.ol.top h2⟩
 have hn:eo.size=(dU 0 xs).length:=by rw[kW];have:=rp.1;simpa using this.symm
 rw[hn] at W;refine⟨ew,_,_,_,_,_,λb=>Cln X env Z b/\Th _ b/\b∉[ew,it],rfl,x1.trans x2,W,st,λb hb=> ?_,λb hb=>x1.n0 (nw b hb),hi,λb z=>z,self,λi v h d hd hp kk=> ?_⟩
 .rcases Gaq.mp hb with rfl|hb
  .exact⟨(cn _ (by simp)).1,(cn _ (by simp)).2,te⟩
  .rcases Gaq.mp hb with rfl|hb
   .exact⟨(cn _ (by simp)).1,(cn _ (by simp)).2,ti⟩
   .rw[Gam.mp hb];exact⟨hl.1,hl.2.1,x2.th l hl.2.2⟩
 .obtain⟨T,vals,rfl,⟨t,x,hx,rfl⟩,o,g,c,n,yO⟩:=hp;rw[kX] at hd;obtain⟨y,hy,rfl⟩:=Gab.mp hd;refine .inr ⟨T,rfl,trivial,_,_,_,rfl,⟨o,n,g,c,.inl rfl,yO⟩,by show 2<=sizeLine;rw[Gdy];decide,.cons (.one ?_) (.cons ?_ .nil)⟩
  .show _=_;simp
  .refine(rp.2 i y x hy (by simp_all)).keep λb o f g _=> ?_;have g2:=kp b o g;have z:Cln X env Z b/\Th _ b/\b∉[ew,it]:=⟨f,.of g2,λm=>by rw[nw b m] at g;cases g⟩
   exact⟨z,kk b o z g2⟩
def uw{A:Vm}{z:Vg}(hh:A.handled=J)(hit:z.heap.IsTupleIter it t i)(ht:z.heap.IsTuple t eo)
  (hQ:∀x h',eo[i]? =U x->h'.IsTupleIter it t (i+1)->Heap.SameBut it z.heap h' ->Q x {z with heap:=h' })
  (hE:∀h' e,eo[i]? =J->Heap.ExtBut it z.heap h' ->(∃o,h'.get? e=U o/\o.cls= .type "StopIteration")->E (.ref e) {z with heap:=h' }):wpAny (model prog w) A (Builtin.SmallTypes.nextOf (.ref it)) Q E z:=by
 have f:FO z.heap it _ _:=hit;obtain⟨ol,TM,_,nl,hdl⟩:=ht
 wp_walk using GdN f.ty F.slot_tuple_iterator_next,GcP F.slot_tuple_iterator_next f.ty F.entry_tuple_iterator_next (ha:=F.args_tuple_iterator_next_1 _),jT (i:=0) (x:= .ref t) f rfl,jT (i:=1) (x:= .int i 0) f rfl,wpAny_seqItems TM hdl
 rw[show eo[(i:Int).toNat]? =eo[i]? by simp];cases h:eo[i]? with
 |some x=>
  wp_walk using iP f
  .exactλh' k=>Gao ⟨_,rfl,Gao (hQ x h' h k.1 k.2)⟩
  .show _<2
   decide
 |none=>
  wp_walk using iP f
  .exactλh1 k=>Jz hh λh' a q=>hE h' a h (λb o n e=>q.1 b o (k.2.extBut b o n e)) q.2
  .show _<2
   decide
theorem BW{A:Vm}(hh:A.handled=J)(it l:Vh)(QS:l≠it)(eo:Array Vf):Draws prog w A it [it,l] eo.size (λi v=>eo[i]? =U v) (λi h=>h.IsTupleIter it l i/\h.IsTuple l eo) where
 live:=λ_ _ st=>by obtain⟨o,ho,_⟩:=st.1;exact⟨o,ho⟩
 frame:=λ_ _ _ st hk=> ⟨st.1.at λo e=>hk it (by simp) o e,by obtain⟨o,ho,r⟩:=st.2;exact⟨o,hk l (by simp) _ ho,r⟩⟩
 item:=λi z Q E hi st hQ=>uw hh st.1 st.2 (λx h' hx S0 xQ =>hQ x h' _ hx ⟨S0,by obtain⟨o,ho,r⟩:=st.2;exact⟨o,xQ.extBut _ _ QS ho,r⟩⟩ xQ) λ_ _ q=>absurd hi (by simp_all)
 done:=λz Q E st hE=>uw hh st.1 st.2 (λ_ _ q=>absurd (GcH.mp q).1 (Nat.lt_irrefl _)) λh' e _=>hE h' e
def DF{b:Bool}{Q:Bool->Vg->Prop}(h:∀b,Q b z):wpAny (model prog w) A (pure b) Q E z:=Gao (h b)
def ux(l:Vh)(items:Array Vf):
  Meets (Builtin.«enumerate.__new__» ⟨[.type "enumerate",.ref l],[]⟩) (λ_ R s=>s.heap.IsTuple l items/\
   R (.ok (.ret (.ref (s.heap.objs.size+1)))) {s with heap:=(s.heap.push {cls:= .type "tuple_iterator",data:= .fields #[.ref l,.int 0 0]}).push {cls:= .type "enumerate",data:= .fields #[.none,.bool M,.ref s.heap.objs.size,rawInt 0,.none,.none]}}):=by
 apply Meets.of_wp;rintro prog w A R s ⟨hl,h⟩;have sub:=sub_enumerate
 wp_walk using GcW hl,wpAny_stack_any
 intro st;refine DF λshort=> ?_;have sz:(s.heap.push {cls:= .type "tuple_iterator",data:= .fields #[.ref l,.int 0 0]}).objs.size=s.heap.objs.size+1:=GdJ ..;rw[<-sz] at h;cases short<;>wp_walk using GcW hl<;>exact⟨_,rfl,h⟩
def w9{z:Vg}(hL:z.heap.IsTuple l items)
  (h:∀h',IsEnum h' (z.heap.objs.size+1) z.heap.objs.size 0 .none->h'.IsTupleIter z.heap.objs.size l 0->(∀b o,z.heap.get? b=U o->h'.get? b=U o)->Q (.ref (z.heap.objs.size+1)) {z with heap:=h' }):
  wpAny (model prog w) A (call (.type "enumerate") [.ref l]) Q E z:=by
 have sz:(z.heap.push {cls:= .type "tuple_iterator",data:= .fields #[.ref l,.int 0 0]}).objs.size=_+1:=GdJ ..;have en:IsEnum _ _ z.heap.objs.size 0 .none:=sz▸Gat _ rfl;exact callType_new F.called_enumerate rfl (F.typeCall_enumerate_1 _) (F.newCall_enumerate_1 _) (λ_=>F.args_object_init_2 _ _) F.entry_enumerate_new (ux l items) ⟨hL,⟨_,en,rfl⟩,h _ en ⟨_,Gag _ (Gat _ rfl),rfl,rfl⟩ λb o q=>Gag _ (Gag _ q)⟩
def H8(hc:X.calm=O)(hg:Gl X "enumerate")(hm:X.mg "enumerate"=J)(he:PE X e f)(hs:starEach [e] X.env=[(M,eval e X.env)]):PI X O (.Tuple elts k tp) (.Call (.Name "enumerate" p) [e] [] pos) (rE f):=λenv Z s ds I q=>a6 q λr hr q=>by
 refine Call_ (jf I hg hm (u:= .type "enumerate") rfl (GbU (thn (fg he iQ (by rw[hs];rfl) pos env Z s [r] I (by show(f env).bind _=_;rw[hr];rfl)) λus s1 ⟨x1,rs⟩=> ?_) hs rfl));obtain⟨v,rfl,r1⟩:=gO rs;split at q
 .cases q
 rename_i hk;have I1:=I.exp x1;have hh:=I1.ok.hd hc;split at q<;>cases q
 .rename_i xs hd;obtain⟨l,eo,rfl,nv,no,th,t,z,rp⟩:=r1.walk I hk (c:="list") (ds:=xs) (by rw[hd];rfl);have lne:l≠s1.heap.objs.size:=λz=>by rw[z] at th;exact th aJ
  have llt:l<s1.heap.objs.size:=by
   cases g:s1.heap.get? l with
   |none=>exact absurd g th
   |some o=>exact Gbj g
  refine call_enumerate_list t.lst.isList λh' hE hI yu xO =>GdR hE ?_;exact uv (s2:={s1 with heap:=h' }) I x1 (I1.kept xO s1.toks) (KTurns.ofWalksU (WalksT.enumerate hh (s1.heap.objs.size+1) s1.heap.objs.size l (Nat.succ_ne_self _) (Gbi (GdQ llt)) (Gbi llt) eo).toU)
   ⟨⟨.none,hE⟩,hI,t.lst.isList.at λo g=>xO l o g⟩ (Gbc (Gdz _)) aJ (.of hE) (let⟨_,g,_⟩:=hI;.of g) ⟨nv,no,th⟩ (λi h yy b hb=>by
    obtain⟨⟨_,g⟩,⟨_,g2,c2,d2⟩,_⟩:=yy;rcases Gaq.mp hb with rfl|hb
    .exact⟨_,g,_,_,rfl,rfl⟩
    .rw[Gam.mp hb];exact⟨_,g2,_,_,c2,d2⟩) (λ_ _ _ st h=>GdR st.1.choose_spec h) rp xO
 .rename_i xs hd;obtain⟨l,eo,rfl,nv,no,th,t,z,rp⟩:=r1.walk I hk (c:="tuple") (ds:=xs) (by rw[hd];rfl);have llt:l<s1.heap.objs.size:=by
   cases g:s1.heap.get? l with
   |none=>exact absurd g th
   |some o=>exact Gbj g
  refine w9 t.tup λh' hE hI xO =>GdR hE ?_;have e0:s1.heap.get? s1.heap.objs.size=J:=aJ;have e1:s1.heap.get? (s1.heap.objs.size+1)=J:=Gbc (Gdz _);exact uv (s2:={s1 with heap:=h' }) I x1 (I1.kept xO s1.toks) (KTurns.ofWalksU (WalksT.enumerateD (BW (A:=X.A.in1) hh s1.heap.objs.size l (Gbi llt) eo) (s1.heap.objs.size+1) (Nat.succ_ne_self _) (by simp;lia) (by simp)).toU)
   ⟨⟨.none,hE⟩,hI,let⟨o,g,r⟩:=t.tup;⟨o,xO l o g,r⟩⟩ e1 e0 (.of hE) (let⟨_,g,_⟩:=hI;.of g) ⟨nv,no,th⟩ (λi h yx b hb=>by
    obtain⟨⟨_,g⟩,⟨_,g2,c2,d2⟩,_⟩:=yx;rcases Gaq.mp hb with rfl|hb
    .exact⟨_,g,_,_,rfl,rfl⟩
    .rw[Gam.mp hb];exact⟨_,g2,_,_,c2,d2⟩) (λ_ _ _ st h=>GdR st.1.choose_spec h) rp xO
end
end
section
variable [Wd]
def range_any(bs:List Bool):(List.range bs.length).any (λi=>bs[i]?.getD M)=bs.any id:=by
 rw[Bool.eq_iff_iff];simp only[Gdt,Gcc];constructor
 .rintro⟨i,hi,h⟩;rw[Gaa hi] at h;exact⟨bs[i],Gap hi,h⟩
 .rintro⟨b,hb,h⟩;obtain⟨i,hi,rfl⟩:=Gew hb;exact⟨i,hi,by rw[Gaa hi];exact h⟩
section
def BX:gh X (.type "int") qZ:=λenv Z s ds us r I ps e=>by
 unfold qZ at e;split at e<;>cases e
 .obtain⟨v,rfl,i⟩:=gO ps;obtain⟨t,rfl⟩:=i.int;exact call_int_int ⟨.refl,.one rfl⟩
 .obtain⟨v,rfl,i⟩:=gO ps;cases i.bl;exact call_int_bool ⟨.tok _,.one rfl⟩
def r7:gh X (.type "tuple") gf:=λenv Z s ds us r I ps e=>by
 unfold gf at e;split at e<;>cases e
 .obtain⟨v,rfl,i⟩:=gO ps;obtain⟨a,eo,rfl,f,t,z,rp⟩:=i.sq rfl;refine call_tuple_list t.lst.isList (λh' kp=> ?_) z;have x1:=I.kept kp s.toks;have⟨y,k⟩:=((I.exp x1).lay (rp.keep λb o f g _=> ⟨f,kp b o g⟩) (by simp_all) s.toks).1;exact⟨x1.trans y,k.from x1⟩
 .obtain⟨v,rfl,i⟩:=gO ps;obtain⟨a,eo,rfl,f,t,z,rp⟩:=i.sq rfl;exact call_tuple_same t.tup ⟨.refl,.sq rfl (f.2 rfl) t z (by simpa using rp.1) λi d v e1 e2=>rp.2 i d v e1 (by simp_all)⟩
def jZ(e:jR d=U xs):∃c,sqD d=U (.of c,xs)/\(c="list"\/c="tuple"):=by
 cases d<;>cases e
 .exact⟨_,rfl,.inr rfl⟩
 .exact⟨_,rfl,.inl rfl⟩
 .exact⟨_,rfl,.inl rfl⟩
def pX(e:one o ds=U r):∃d xs,ds=[d]/\jR d=U xs/\o xs=U r:=by
 unfold one at e;split at e
 .obtain⟨xs,h1,h2⟩:=GaZ.mp e;exact⟨_,xs,rfl,h1,h2⟩
 .cases e
variable{bs:List Bool}
def DH(r:aP F h ds us)(e:jP ds=U bs):us=bs.map Value.bool:=by
 induction ds generalizing us bs with
 |nil=>cases e;exact r.empty
 |cons d ds ih=>
  obtain⟨v,w,rfl,h1,h2⟩:=r.gM;cases d<;>try (cases e;done)
  obtain⟨hV,e',rfl⟩:=Gab.mp e;cases(Rep.inn h1).bl;rw[ih h2 e'];rfl
variable{eo:Array Vf}
def mQ{X:Cx}{s:Vg}{c:String}{A:Vm}(hh:A.handled=J)(t:SqA s.heap a c eo)(hc:c="list"\/c="tuple")
  (k:∀It fp wr St s₂,Walks X.prog X.w A It fp wr eo.size (λi v=>eo[i]? =U v) St->St 0 s₂.heap->(∀b∈fp,b<s₂.heap.objs.size)->(∀h' tk,(∀b o,b∉wr->s₂.heap.get? b=U o->h'.get? b=U o)->(∃zo,({s₂ with heap:=h',toks:=tk}:Vg)={s with heap:=h',toks:=zo})/\∀b o,s.heap.get? b=U o->h'.get? b=U o)->Q (.ref It) s₂):wpAny (model X.prog X.w) A (pyIter (.ref a)) Q E s:=by
 have hU:a<s.heap.objs.size:=by obtain⟨_,_,g,_⟩:=t;exact Gbj g
 have lts:∀{oi:Vo},∀b∈[s.heap.objs.size,a],b<(s.heap.push oi).objs.size:=λ{oi} b hb=>by
  rw[GdJ];rcases Gaq.mp hb with rfl|hb
  .simp_all
  .rw[Gam.mp hb];exact GdQ hU
 have kept:∀{oi:Vo} {h' :Vj},(∀b o,b∉[s.heap.objs.size]->(s.heap.push oi).get? b=U o->h'.get? b=U o)->∀b o,s.heap.get? b=U o->h'.get? b=U o:=λ{oi h'} hk b o e=>
  hk b o (by simp only[Gam];exact Gbi (Gbj e)) (Gag _ e)
 rcases hc with rfl|rfl
 .exact wpAny_pyIter_list t.lst.isList (k _ _ _ _ _ (Walks.list hh _ a (Gbi hU) eo) ⟨⟨_,Gat _ rfl,rfl,rfl⟩,t.lst.isList.push _⟩ lts λh' tk hk=> ⟨⟨_,rfl⟩,kept hk⟩)
 .exact GcW t.tup (k _ _ _ _ _ (Walks.tuple hh _ a (Gbi hU) eo) ⟨⟨_,Gat _ rfl,rfl,rfl⟩,t.tup.at λo e=>Gag _ e⟩ lts λh' tk hk=> ⟨⟨_,rfl⟩,kept hk⟩)
def uy{X:Cx}(h:eo.toList=bs.map Value.bool):TruthOf X.prog X.w A (λi v=>eo[i]? =U v) (λi=>bs[i]?.getD M):=by
 intro i v s Q E p q;have e:eo.toList[i]? =U v:=by simpa using p
 rw[h,Gaj] at e;cases hb:bs[i]? with
 |none=>rw[hb] at e;cases e
 |some b=>rw[hb] at e;cases e;exact Gbv (by simp_all)
def BY{X:Cx}(hc:X.calm=O):gh X (.builtin "any") anyS:=λenv Z s ds us r I ps e=>by
 obtain⟨d,xs,rfl,h1,h2⟩:=pX e;obtain⟨bs,hb,rfl⟩:=Gab.mp h2;obtain⟨v,rfl,i⟩:=gO ps;obtain⟨c,q,hq⟩:=jZ h1;obtain⟨a,eo,rfl,_,t,z,rp⟩:=i.sq q;have hb:=DH rp hb;have hn:eo.size=bs.length:=by have:=congrArg List.length hb;simpa using this
 refine call_any_walk (mQ (I.ok.hd hc) t hq λIt fp wr St s₂ W st lt kept=> ⟨It,fp,wr,_,_,St,_,rfl,W,st,uy hb,λh' tk hk=>(hde λG fin=> ?_)⟩);obtain⟨⟨zo,e⟩,k⟩:=kept h' tk hk;refine fin ?_;rw[hn,range_any,e];exact⟨I.kept k _,.one rfl⟩
end
end
end NL
namespace DL
open PySem PySem.Spec PyProof.Rows NL
open PySem.W (KasT kas_rev kas_asc kas_desc kas_tail3 kas_descPart kas_count kas_place kas_bin kas_sort)
section
variable{rk:Nat->Int}{N:Nat}
def Ord(N:Nat)(p:Array Nat):Prop:=p.toList.Perm (List.range N)
theorem Ord.size{p:Array Nat}(h:Ord N p):p.size=N:=by
 have:=List.Perm.length_eq h
 simpa using this
def Kz(rk:Nat->Int)(p:Array Nat)(i:Nat):Int:=rk (p.getD i 0)
def Up(rk:Nat->Int)(p:Array Nat)(k:Nat):Prop:=∀u v,u<=v->v<k->Kz rk p u<=Kz rk p v
end
open PySem.W (KatLex KatTups kas_sort kas_ask kat_kind kat_lt kat_one kat_run kat_snds BoolBack kat_lt_int)
def FlV:D->Vf->Prop
 | .non,v=>v= .none
 | .int i,v=>∃t,v= .int i t
 | .str x,v=>∃t,v= .str x t
 |_,_=>False
def pY(h:Vj):D->Vf->Prop
 | .int i,v=>∃t,v= .int i t
 | .tup fs,v=>∃a o n us,v= .ref a/\h.get? a=U o/\o.cls= .type "tuple"/\o.data= .seq (List.toArray us) n/\Paired FlV fs us
 |_,_=>False
def uz{α β:Type}{R S:α->β->Prop}{xs:List α}{ys:List β}(h:∀a b,R a b->S a b)(p:Paired R xs ys):Paired S xs ys:=Paired.uc p h
def H9{xs ys:List Nat}(h:xs.map Int.ofNat=ys.map Int.ofNat):xs=ys:=by
 induction xs generalizing ys with
 |nil=>cases ys with
  |nil=>rfl
  |cons=>simp at h
 |cons x xs ih=>cases ys with
  |nil=>simp at h
  |cons y ys=>
   simp only[Gav,List.cons.injEq] at h;rw[ih h.2,Int.ofNat_inj.mp h.1]
def Ha{x y:Str}(h:x.cps.toList=y.cps.toList):x=y:=by
 cases x;simp_all
def o4(ha:jY a=O)(hb:jY b=O)(h:b6 a=b6 b):a=b:=by
 cases a<;>cases b<;>simp[jY,tyD] at ha hb<;>simp[b6] at h
 .rfl
 .rw[h]
 .have:=Ha (H9 h);rw[this]
theorem rJ:∀{as bs:List D},as.all jY=O->bs.all jY=O->as.map b6=bs.map b6->as=bs
 |[],[],_,_,_=>rfl
 |[],_::_,_,_,h=>by simp at h
 |_::_,[],_,_,h=>by simp at h
 |a::as,b::bs,ha,hb,h=>by
  rw[GbK,Gac] at ha hb;simp only[Gav,List.cons.injEq] at h;rw[o4 ha.1 hb.1 h.1,rJ ha.2 hb.2 h.2]
def KA(h:(tyD a==t)=O)(ht:t≠3):jY a=O:=by
 simp_all[jY]
def kY(ht:t≠3)(h:mO t d=O):∃f r,d= .tup (f::r)/\tyD f=t/\(f::r).all jY=O:=by
 unfold mO at h;split at h
 .rename_i f r;rw[Gac] at h;refine⟨f,r,rfl,Gas.mp h.1, ?_⟩;rw[GbK,Gac];exact⟨KA h.1 ht,h.2⟩
 .cases h
def j5(h:BN d=O):∃i,d= .int i:=by
 unfold BN at h;split at h
 .exact⟨_,rfl⟩
 .cases h
def DJ(h:Vb ds=O):∀a∈ds,∀b∈ds,code a=code b->a=b:=by
 intro a ha b hb e;unfold Vb at h;rw[Gbd,Gac,Gbd] at h;have tup:∀t,t≠3->ds.all _=O->a=b:=λt ht hk=>by
  obtain⟨f,r,rfl,_,q1⟩:=kY ht (Gal.mp hk a ha);obtain⟨f',r',rfl,_,q2⟩:=kY ht (Gal.mp hk b hb);rw[rJ q1 q2 e]
 rcases h with h| ⟨h|h,_⟩
 .obtain⟨i,rfl⟩:=j5 (Gal.mp h a ha);obtain⟨j,rfl⟩:=j5 (Gal.mp h b hb);simp[code,b6] at e;rw[e]
 .exact tup 1 (by simp) h
 .exact tup 2 (by simp) h
def Ay:dO ltI (b6 (.int i)) (b6 (.int j))=decide (i<j):=by
 simp only[b6,dO];by_cases e:i=j
 .subst e;simp
 .rw[Gaw e]
  rfl
theorem Az:∀(xs ys:List Nat),dO ltI (xs.map Int.ofNat) (ys.map Int.ofNat)=decide (xs<ys)
 |[],[]=>by simp[dO]
 |[],y::ys=>by simp[dO]
 |x::xs,[]=>by simp[dO]
 |x::xs,y::ys=>by
  simp only[Gav,dO];by_cases e:x=y
  .subst e;rw[Az xs ys];simp
  .rw[Gaw (λz:Int.ofNat x=Int.ofNat y=>e (Int.ofNat_inj.mp z))];have:(x::xs<y::ys)↔x<y:=by rw[List.cons_lt_cons_iff];simp[e]
   simp[ltI,this]
def Hb{x y:Str}:dO ltI (b6 (.str x)) (b6 (.str y))=decide (x.cps.toList<y.cps.toList):=by
 exact Az _ _
section
variable{prog:Vn}{w:World}{A:Vm}{E:VSP}{s:Vg}
def O5(ha:FlV a u)(hb:FlV b v)(ht:tyD a=tyD b)(h:Q (decide (b6 a=b6 b)) s):wpAny (model prog w) A (eqBool u v) Q E s:=by
 cases a<;>cases b<;>simp[tyD] at ht<;>try exact ha.elim
 .cases ha;cases hb;exact Gad (Gct (Gao h))
 .obtain⟨t,rfl⟩:=ha;obtain⟨t',rfl⟩:=hb;refine wpAny_eqBool_int ?_;rename_i i j;have e:decide (b6 (.int i)=b6 (.int j))=(i==j):=by
   simp only[b6];by_cases q:i=j
   .subst q;simp
   .simp[q]
  rwa[e] at h
 .obtain⟨t,rfl⟩:=ha;obtain⟨t',rfl⟩:=hb;refine eqBool_str ?_;rename_i i j;have e:decide (b6 (.str i)=b6 (.str j))=(i==j):=by
   by_cases q:i=j
   .subst q;simp
   .have:¬b6 (.str i)=b6 (.str j):=λz=>q (by
     have:=o4 rfl rfl z;cases this
     rfl)
    simp[q,this]
  rwa[e] at h
def O6{a b:D}{one:Bool}{Q:Bool->Vg->Prop}(ha:FlV a u)(hb:FlV b v)(ht:tyD a=tyD b)(hk:tyD a=1\/tyD a=2)(h:Q (dO ltI (b6 a) (b6 b)) s):wpAny (model prog w) A (oneLt' one u v) Q E s:=by
 cases a<;>cases b<;>simp[tyD] at ht hk
 .obtain⟨t,rfl⟩:=ha;obtain⟨t',rfl⟩:=hb;rw[Ay] at h;cases one with
  |true=>exact oneLt_int h
  |false=>exact kat_one _ _ (PyProof.Rows.lt_int h)
 .obtain⟨t,rfl⟩:=ha;obtain⟨t',rfl⟩:=hb;rw[Hb] at h;cases one with
  |true=>exact oneLt_str h
  |false=>exact kat_one _ _ (PyProof.Rows.lt_str h)
def KC:∀{as bs us vs} i,Paired FlV as us->Paired FlV bs vs->lJ as bs=O->fin=decide (as.length<bs.length)->Q (ltC (as.map b6) (bs.map b6)) s->KatLex prog w A b fin Q (us.zip vs) i s:=by
 intro as;induction as with
 |nil=>
  intro bs us vs i p1 p2 _ hf h;have h' :Q fin s:=by
   rw[hf];cases p2 with
   |nil=>exact h
   |cons _ _=>rw[GaI (by simp)];exact h
  cases p1;exact h'
 |cons a as ih=>
  intro bs us vs i p1 p2 hc hf h;cases p1 with
  | @cons _ u _ us ha ta=>
  cases p2 with
  |nil=>
   exact(by rw[hf];exact h)
  | @cons c v cs vs hb tb=>
  unfold lJ at hc;have h0:ltC ((a::as).map b6) ((c::cs).map b6)=if b6 a=b6 c then ltC _ _ else dO ltI _ _:=rfl
  rw[h0] at h;have ht:tyD a=tyD c:=by
   split at hc
   .rename_i e;cases a<;>first|exact ha.elim|(cases c<;>first|exact hb.elim|rfl|(simp[b6] at e;done))
   .rw[Gac] at hc;exact Gas.mp hc.1
  refine O5 ha hb ht ?_;by_cases e:b6 a=b6 c
  .rw[GaI e];rw[Gar e] at h hc;exact ih _ ta tb hc (by simp_all) h
  .rw[GaR e];rw[Gaw e] at h hc;rw[Gac,Gbd] at hc;exact O6 ha hb ht (hc.2.imp Gas.mp Gas.mp) h
variable{ds:List D}
def DK(hK:Paired (pY s.heap) ds vs)(xA:Vb ds=O)(hY:(ds.all BN=O/\Y=oneType')\/((ds.all (mO 1)||ds.all (mO 2))=O/\(ds.all λx=>ds.all λy=>ur x y)=O/\Y=tuples' O)):
  ∀i j C,i<ds.length->j<ds.length->C (decide (rank (ds.map code) i<rank (ds.map code) j)) s->kas_ask prog w A Y vs i j C s:=by
 intro i j C hi hj h;have hl:=hK.length;rw[Av (by simpa using hi) (by simpa using hj)] at h;simp only[Gcr] at h;unfold kas_ask;have gi:vs.getD i Value.none=vs[i]:=by simp[<-hl,hi]
 have gj:vs.getD j Value.none=vs[j]:=by simp[<-hl,hj]
 rw[gi,gj];have at_:∀{ds:List D} {vs:List Vf},Paired (pY s.heap) ds vs->∀(i) _ (h2:i<vs.length),pY s.heap ds[i] vs[i]:=by
  intro ds vs hK;induction hK with
  |nil=>intro i h1;simp at h1
  |cons h t ih=>
   intro i h1 h2;cases i with
   |zero=>exact h
   |succ i=>exact ih i _ _
 have ki:=at_ hK i hi (by lia);have kj:=at_ hK j hj (by lia);rcases hY with⟨a1,rfl⟩| ⟨a1,a2,rfl⟩
 .obtain⟨x,hx⟩:=j5 (Gal.mp a1 ds[i] (Gap hi));obtain⟨y,hy⟩:=j5 (Gal.mp a1 ds[j] (Gap hj));rw[hx] at ki h;rw[hy] at kj h;obtain⟨t,ei⟩:=ki;obtain⟨t',ej⟩:=kj;rw[ei,ej];refine kat_lt_int ?_;have e:ltC (code (.int x)) (code (.int y))=decide (x<y):=by
   show dO (dO ltI) [b6 (.int x)] [b6 (.int y)]=_;unfold dO;split
   .rename_i z;have:=o4 (a:= .int x) (b:= .int y) rfl rfl z;cases this;simp[dO]
   .exact Ay
  rwa[e] at h
 .have tup:∀d∈ds,∃fs,d= .tup fs:=λd hd=>by
   rw[Gbd] at a1;rcases a1 with a1|a1
   .obtain⟨f,r,e,_⟩:=kY (by decide) (Gal.mp a1 d hd);exact⟨_,e⟩
   .obtain⟨f,r,e,_⟩:=kY (by decide) (Gal.mp a1 d hd);exact⟨_,e⟩
  refine hde λG fin=> ?_;have cm:=Gal.mp (Gal.mp a2 ds[i] (Gap hi)) ds[j] (Gap hj);obtain⟨xs,hx⟩:=tup ds[i] (Gap hi);obtain⟨ys,hy⟩:=tup ds[j] (Gap hj);rw[hx] at ki h cm;rw[hy] at kj h cm;obtain⟨a,o,n,us,ei,h1,h2,h3,h4⟩:=ki;obtain⟨a',o',n',Us,ej,yp,Uh,SX,SW⟩:=kj;refine fin ?_;rw[ei,ej];exact kat_lt h1 h3 yp SX (KC 0 h4 SW cm (by rw[Gcn,Gcn,h4.length,SW.length]) h)
def rK{vs:List Vf}(ht:t≠3)(p:Paired (pY s.heap) ds vs):ds.all (mO t)=O->∃fs,∃gs,KatTups s.heap vs fs/\Paired FlV gs fs/\(∀g∈gs,tyD g=t)/\fs.length=vs.length:=by
 induction p with
 |nil=>exactλ_=> ⟨[],[],trivial,.nil,(by simp),rfl⟩
 |cons h tl ih=>
  intro hk;rw[GbK,Gac] at hk;obtain⟨fs,gs,h1,h2,h3,h4⟩:=ih hk.2;obtain⟨f,r,rfl,q1,q2⟩:=kY ht hk.1;obtain⟨a,o,n,us,rfl,g1,g2,g3,g4⟩:=h;cases g4 with
  |cons p t=>
   refine⟨_::fs,f::gs,KatTups.cons g1 g2 g3 rfl h1,.cons p h2,λg hg=> ?_,by simp[h4]⟩;rcases Gaq.mp hg with e|e
   .subst e;exact q1
   .exact h3 g e
def AA(hd:FlV d v)(ht:tyD d=t):(t=1->PySem.W.Looks UT h (typeOf v) (.type "int"))/\(t=2->PySem.W.Looks UT h (typeOf v) (.type "str")):=by
 subst ht;cases d<;>simp[tyD]<;>try exact _
 .obtain⟨u,rfl⟩:=hd;exact PySem.W.Looks.of_pure rfl
 .obtain⟨u,rfl⟩:=hd;exact PySem.W.Looks.of_pure rfl
def BZ{vs:List Vf}(hK:Paired (pY s.heap) ds vs)(xA:Vb ds=O)(h2:2<=ds.length)
  (h:∀Y,((ds.all BN=O/\Y=oneType')\/((ds.all (mO 1)||ds.all (mO 2))=O/\(ds.all λx=>ds.all λy=>ur x y)=O/\Y=tuples' O))->Q Y s):wpAny (model prog w) A (keyKind' vs.toArray) Q E s:=by
 have hl:=hK.length;unfold Vb at xA;rw[Gbd,Gac] at xA;rcases xA with xA| ⟨xA,hc⟩
 .have ia:∀{ds:List D} {vs:List Vf},Paired (pY s.heap) ds vs->ds.all BN=O->∃ns,IntsAre vs ns:=by
   intro ds vs hK;induction hK with
   |nil=>intro _;exact⟨[],.nil⟩
   |cons p t ih=>
    intro hk;rw[GbK,Gac] at hk;obtain⟨ns,q⟩:=ih hk.2;obtain⟨i,rfl⟩:=j5 hk.1;obtain⟨u,rfl⟩:=p;exact⟨i::ns,.cons i u q⟩
  obtain⟨ns,q⟩:=ia hK xA
  match vs,hl,q with
  |[],e,_=>rw[GcY] at e;lia
  |[_],e,_=>rw[List.length_singleton] at e;lia
  |v1::v2::vr,_,q=>
   rw[keyKind_ints q];exact Gao (h _ (.inl ⟨xA,rfl⟩))
 .have hok' :=xA;rw[Gbd] at hok';rcases hok' with a1|a1
  .obtain⟨fs,gs,q1,q2,q3,q4⟩:=rK (by simp) hK a1;refine kat_kind (T:= .type "int") q1 (by rw[q4,<-hl];exact GaJ ‹_›) (λv hv=> ?_) rfl (h _ (.inr ⟨xA,hc,rfl⟩));obtain⟨g,hg,S8⟩:∃g∈gs,FlV g v:=by
    clear q1 q3 q4;induction q2 with
    |nil=>cases hv
    |cons p t ih=>
     rcases Gaq.mp hv with e|e
     .simp_all
     .obtain⟨g,h1,h2⟩:=ih e;exact⟨g,Gaf _ h1,h2⟩
   exact(AA S8 (q3 g hg)).1 rfl
  .obtain⟨fs,gs,q1,q2,q3,q4⟩:=rK (by simp) hK a1;refine kat_kind (T:= .type "str") q1 (by rw[q4,<-hl];exact GaJ ‹_›) (λv hv=> ?_) rfl (h _ (.inr ⟨xA,hc,rfl⟩));obtain⟨g,hg,S8⟩:∃g∈gs,FlV g v:=by
    clear q1 q3 q4;induction q2 with
    |nil=>cases hv
    |cons p t ih=>
     rcases Gaq.mp hv with e|e
     .subst e;exact⟨_,Gai,p⟩
     .obtain⟨g,h1,h2⟩:=ih e;exact⟨g,Gaf _ h1,h2⟩
   exact(AA S8 (q3 g hg)).2 rfl
def DN(vs:List Vf):(vs.toArray.zip vs.toArray).map (·.2)=vs.toArray:=by
 apply Gea.mp;rw[Array.toList_map,Array.toList_zip];exact List.map_snd_zip (GaN _)
def wa{a:Vh}{vs:List Vf}{P:PySem.Fin->Vg->Prop}{Ok:Array Vf->Prop}(ho:s.heap.get? a=U (seqObj "list" vs.toArray n))(sz:vs.length<=sizeLine)(one:vs.length<2->Ok vs.toArray)(len:∀out,Ok out->out.size=vs.length)
  (big:∀G,(∀b o,b≠a->s.heap.get? b=U o->G.get? b=U o)->2<=vs.length->wpAny (model prog w) A (keyKind' vs.toArray) (λY s1=>wpAny (model prog w) A (sortRuns'.run (SortSt.mk' Y (vs.toArray.zip vs.toArray) #[] 7 J)) (λr s2=>s2={s with heap:=G}/\failedOf r.2=J/\Ok ((arrOf r.2).map (·.2))) E s1) E {s with heap:=G})
  (h:∀out,Ok out->P (.done (.ret .none)) {s with heap:=sortedHeap s.heap a vs out}):wpAny (model prog w) A (Builtin.«list.sort» ⟨[.ref a],[]⟩) P E s:=by
 have⟨ep,e1⟩:∃ep,(s.heap.update a (Obj.mapSeq λ_=>_)).get? a=U (seqObj "list" #[] ep):=⟨_,get?_update_seq ho _⟩
 rw[list_sort_plain];refine Gad (listItems_at ho rfl (Gad (listUpdate_at ho rfl (Gad (seqEpoch_at e1 rfl (Gad (wpAny_newTuple (Gad (wpAny_newList (GbB ?_) (Gbm _))) sz)))) (by simp_all) (Gbm _))));have e2:=Gag (seqObj "list" #[] 0) (Gag (seqObj "tuple" vs.toArray 0) e1);have last:∀st:SortSt,failedOf st=J->Ok _->wpAny (model prog w) A (do
   let touched:=(<-seqEpoch a) !=ep
   Builtin.List.listUpdate (.ref a) λ_=>(arrOf st).map (·.2)
   if let U e:=failedOf st then rule "list.sort.comparison-raised";throw e
   if touched then rule "list.sort.modified";raiseError "ValueError" "list modified during sort"
   ret .none) P E {s with heap:=((s.heap.update a (Obj.mapSeq λ_=>(#[]:Array Vf))).push (seqObj "tuple" vs.toArray 0)).push (seqObj "list" #[] 0)}:=λst f ok=>by
  refine Gad (seqEpoch_at e2 rfl (Gad (listUpdate_at e2 rfl ?_ (Gbm _) (by rw[len _ ok];exact Gak ‹_› (by decide)))));rw[f]
  wp_walk
  exact h _ ok
 by_cases c:vs.length<2
 .have c' :vs.toArray.size<2:=by simpa using c
  rw[Gar c',Gar c'];refine Gad (Gao (Gad (Gao (last (SortSt.mk' general' (vs.toArray.zip vs.toArray) #[] 7 J) rfl ?_))));rw[DN];exact one c
 .have c' :¬vs.toArray.size<2:=by simpa using c
  rw[Gaw c',Gaw c'];refine Gad (on (big _ (λb o n q=>Gag _ (Gag _ ((GbL _ _ (Gbg n)).trans q))) (by simp_all)) λY s1 q=>Gad (on q ?_));rintro⟨⟨⟩,st⟩ s2 ⟨rfl,f,ok⟩;exact last st f ok
def kZ(cs:List (List (List Int)))(vs:List Vf)(out:Array Vf):Prop:=∃p:Array Nat,Ord vs.length p/\Up (rank cs) p vs.length/\out=List.toArray (p.toList.map λi=>vs.getD i Value.none)
def kZ.len{vs:List Vf}{out:Array Vf}(x:kZ cs vs out):out.size=vs.length:=by
 obtain⟨p,h1,_,rfl⟩:=x;rw[Gcn,Gah,GdB,h1.size]
def kZ.one{vs:List Vf}(c:vs.length<2):kZ cs vs vs.toArray:=by
 refine⟨List.toArray _,List.Perm.refl _,λu v q r=> ?_, ?_⟩
 .rw[show u=v by lia];exact Gcu _
 .rcases vs with _| ⟨x,_| ⟨y,t⟩⟩
  .rfl
  .rfl
  .exact absurd c (by simp)
def sW(prog:Vn)(w:World)(A:Vm)(E:VSP)(s:Vg)(cs:List (List (List Int)))(vs:List Vf):Prop:=
 2<=vs.length->∀Q:SortKind->Vg->Prop,(∀Y,(∀i j C,i<vs.length->j<vs.length->C (decide (rank cs i<rank cs j)) s->kas_ask prog w A Y vs i j C s)->Q Y s)->wpAny (model prog w) A (keyKind' vs.toArray) Q E s
def uA{o:Vo}{vs:List Vf}(ho:s.heap.get? l=U o)(hc:o.cls= .type T)(hT:T="list"\/T="tuple")(hd:o.data= .seq vs.toArray n)
  (h:Q vs {s with heap:=(s.heap.push (seqObj "list" #[] 0)).update s.heap.objs.size (Obj.mapSeq (· ++vs.toArray))})(yu:vs.length<=sizeLine):wpAny (model prog w) A (collect (.ref l)) Q E s:=by
 have e0:(s.heap.push _).get? _=U (seqObj "list" #[] 0):=Gat _ rfl;have el:=Gag (seqObj "list" #[] 0) ho;have up:(#[]++vs.toArray)=vs.toArray:=by simp
 have ek:((s.heap.push _).update _ (Obj.mapSeq (· ++vs.toArray))).get? _=U _:=get?_update_seq e0 _;rw[up] at ek;refine gather λR r=> ?_;have c:(Builtin.List.listSameRef (.ref s.heap.objs.size) (.ref l)||Value.type T== .type "list"||Value.type T== .type "tuple")=O:=by rcases hT with rfl|rfl<;>rw[Gbd]<;>simp
 exact Gad (wpAny_typeOf ⟨o,el,hc⟩ (GcN (by rw[c];rfl) (Gad (listItems_at el hd (Gad (listItems_at e0 rfl (GcD rfl (Gad (listUpdate_at e0 rfl (Gao (r _ vs.toArray _ ek h)) (Gbm _) (by rw[up];exact Gak ‹_› (by decide)))))))))))
end
section
def isKey(d:D):Bool:=match d with
 | .int _=>O
 | .tup fs=>fs.all jY
 |_=>M
variable{ds:List D}
def DP(h:Vb ds=O):ds.all isKey=O:=by
 unfold Vb at h;rw[Gbd,Gac,Gbd] at h;refine Gal.mpr λd hd=> ?_;have tup:∀t,t≠3->ds.all _=O->isKey d=O:=λt ht hk=>by
  obtain⟨f,r,rfl,_,q1⟩:=kY ht (Gal.mp hk d hd);exact q1
 rcases h with h| ⟨h|h,_⟩
 .obtain⟨i,rfl⟩:=j5 (Gal.mp h d hd)
  rfl
 .exact tup 1 (by simp) h
 .exact tup 2 (by simp) h
def range_getD{α:Type}{xs:List α}{d:α}:(List.range xs.length).map (λi=>xs.getD i d)=xs:=by
 apply List.ext_getElem
 .simp
 .intro i h1 h2;simp[h2]
variable{p:Array Nat}
def pZ{α:Type}{xs:List α}{d:α}(h:Ord xs.length p):(p.toList.map λi=>xs.getD i d).Perm xs:=by
 have:=GdY (λi=>xs.getD i d) h
 rwa[range_getD] at this
def DQ(h:Ord n p)(hi:i<p.toList.length):p.toList[i]<n:=Gcc.mp (h.mem_iff.mp (Gap hi))
def wc(h:Ord ds.length p)(hu:Up (rank (ds.map code)) p ds.length):iF (p.toList.map λi=>ds.getD i .non):=by
 refine Gch.mpr λi j hi hj zf=> ?_;rw[Gah] at hi hj;rw[Gcr,Gcr];have bi:=DQ h hi;have bj:=DQ h hj;have hs:=h.size;have eV :i<p.size:=by simpa using hi
 have hj' :j<p.size:=by simpa using hj
 have u:=hu i j (GaJ zf) (by simp_all);unfold Kz at u;have ei:p.getD i 0=p.toList[i]:=by simp[eV]
 have ej:p.getD j 0=p.toList[j]:=by simp[hj']
 rw[ei,ej] at u;have r:=Av (cs:=ds.map code) (i:=p.toList[j]) (j:=p.toList[i]) (by simpa using bj) (by simpa using bi);rw[GaR (GdI.mpr u)] at r;simp only[Gcr] at r;have gd:∀{k:Nat} _,ds.getD k .non=ds[k]:=λ{k} hk=>by simp[hk]
 rw[(gd bi),(gd bj)];exact r.symm
end
abbrev SM:=StateT SortSt Sem
def oS:Bool->Keyed->Array Keyed->Nat->Nat->Nat->SM (Option Nat):=sortPriv%PySem.Builtin.gallop
def KD(xV:Nat->SM (Option Bool))(n l0 r0:Nat):SM (Option Nat):=do
 let mut lo:=l0
 let mut hi:=r0
 for _ in [0:n] do
  if lo>=hi then break
  let md:=lo+(hi -lo)/2
  let U mo<-xV md|return J
  if mo then lo:=md+1 else hi:=md
 return U hi
def KG(xV:Nat->SM (Option Bool))(n h0:Nat):SM (Option Nat):=do
 let U rt<-xV h0|return J
 if rt then
  let mut lst:=0
  let mut nxt:=1
  for _ in [0:n] do
   if nxt>=n -h0 then break
   let U mo<-xV (h0+nxt)|return J
   if !mo then break
   lst:=nxt
   nxt:=2*nxt+1
  KD xV n (h0+lst+1) (h0+min nxt (n -h0))
 else
  let mut lst:=0
  let mut nxt:=1
  for _ in [0:n] do
   if nxt>=h0+1 then break
   let U fd<-xV (h0 -nxt)|return J
   if fd then break
   lst:=nxt
   nxt:=2*nxt+1
  KD xV n (h0+1 -min nxt (h0+1)) (h0 -lst)
def O7(lf:Bool)(kx:Keyed)(xs:Array Keyed)(b0 u:Nat):SM (Option Bool):=do
 let y<-elem' xs (b0+u)
 if lf then lt' y kx else return(<-lt' kx y).map (!·)
def DR(lf:Bool)(kx:Keyed)(xs:Array Keyed)(b0 n h0:Nat):oS lf kx xs b0 n h0=KG (O7 lf kx xs b0) n h0:=rfl
def aH{UT:Model}{A:Vm}{E:VSP}{s:Vg}{Z α:Type}{c:Prop}{_:Decidable c}{x y:StateT Z Sem α}{Q:α->Z->Prop}{st:Z}(h1:c->wpS UT A E s x Q st)(h2:¬c->wpS UT A E s y Q st):wpS UT A E s (if c then x else y) Q st:=by
 by_cases h:c
 .rw[Gar h];exact h1 h
 .rw[Gaw h];exact h2 h
section
variable{n:Nat}{B:Nat->Bool}
def Cut(B:Nat->Bool)(n k:Nat):Prop:=k<=n/\(∀u,u<k->B u=O)/\∀u,k<=u->u<n->B u=M
def AB{st:SortSt}{xV:Nat->SM (Option Bool)}{Q:Option Nat->SortSt->Prop}{lo hi:Nat}(hf:∀u,u<n->∀R,R (U (B u)) st->wpS UT A E s (xV u) R st)(mB:∀u v,u<=v->v<n->B v=O->B u=O)(h1:lo<=hi)(h2:hi<=n)
  (SK:∀u,u<lo->B u=O)(U1:∀u,hi<=u->u<n->B u=M)(h:∀k,Cut B n k->Q (U k) st):wpS UT A E s (KD xV n lo hi) Q st:=by
 refine Gan (Gdd (GcR (I:=λi c z=>z=st/\∃lo hi,c=(J,lo,hi)/\lo<=hi/\hi<=n/\hi -lo<=n -i/\(∀u,u<lo->B u=O)/\(∀u,hi<=u->u<n->B u=M))
  (Q:=λc z=>z=st/\∃lo hi,c=(J,lo,hi)/\Cut B n hi) ?step ?fin ⟨rfl,lo,hi,rfl,h1,h2,by lia,SK,U1⟩) ?post)
 case fin=>
  rintro c z ⟨rfl,lo,hi,rfl,q1,q2,q3,q4,q5⟩;have:lo=hi:=by
   lia
  subst this;exact⟨rfl,_,_,rfl,q2,q4,q5⟩
 case step=>
  rintro i c z _ eV ⟨rfl,lo,hi,rfl,q1,q2,q3,q4,q5⟩;dsimp only;by_cases g:lo>=hi
  .rw[Gar g];have:lo=hi:=by lia
   subst this;exact GaD ⟨rfl,_,_,rfl,q2,q4,q5⟩
  .rw[Gaw g];refine Gan (hf _ (by lia) _ ?_);cases b:B _ with
   |true=>
    exact GaD ⟨rfl,_,_,rfl,by lia,q2,by lia,λu hu=>mB u _ (by exact GdS ‹_›) (by lia) b,q5⟩
   |false=>
    refine GaD ⟨rfl,_,_,rfl,by simp,by lia,by lia,q4,λu hu hn=> ?_⟩;cases b' :B u with
    |false=>rfl
    |true=>rw[mB _ u hu hn b'] at b;cases b
 case post=>
  rintro c z ⟨rfl,lo,hi,rfl,q⟩;exact GaD (h hi q)
def Hc{st:SortSt}{xV:Nat->SM (Option Bool)}{Q:Option Nat->SortSt->Prop}{h0:Nat}(hf:∀u,u<n->∀R,R (U (B u)) st->wpS UT A E s (xV u) R st)(mB:∀u v,u<=v->v<n->B v=O->B u=O)(hh:h0<n)
  (h:∀k,Cut B n k->Q (U k) st):wpS UT A E s (KG xV n h0) Q st:=by
 unfold KG;refine Gan (hf _ hh _ ?_);dsimp only;cases b:B h0 with
 |true=>
  simp only[Gdm];refine Gan (Gdd (GcR (I:=λi c z=>z=st/\∃l o,c=(J,l,o)/\l<o/\l<n -h0/\i+1<=o/\B (h0+l)=O)
   (Q:=λc z=>z=st/\∃l o,c=(J,l,o)/\l<o/\l<n -h0/\B (h0+l)=O/\(o>=n -h0\/B (h0+o)=M)) ?step ?fin ⟨rfl,0,1,rfl,by simp,by lia,by lia,b⟩) ?post)
  case fin=>
   rintro c z ⟨rfl,l,o,rfl,q1,q2,q3,q4⟩;exact⟨rfl,l,o,rfl,q1,q2,q4,.inl (by lia)⟩
  case step=>
   rintro i c z _ eV ⟨rfl,l,o,rfl,q1,q2,q3,q4⟩;dsimp only;by_cases g:o>=n -h0
   .rw[Gar g];exact GaD ⟨rfl,l,o,rfl,q1,q2,q4,.inl g⟩
   .rw[Gaw g];refine Gan (hf _ (by simp_all+arith) _ ?_);dsimp only;cases b' :B _ with
    |false=>
     simp only[Bool.not_false,Gdm];exact GaD ⟨rfl,l,o,rfl,q1,q2,q4,.inr b'⟩
    |true=>
     simp only[Bool.not_true,Gcy,if_false];exact GaD ⟨rfl,o,2*o+1,rfl,by simp+arith,by exact Nat.lt_of_not_le ‹_›,by lia,b'⟩
  case post=>
   rintro c z ⟨rfl,l,o,rfl,q1,q2,q3,q4⟩;dsimp only;refine AB hf mB (by lia) (by lia) (λu hu=>mB u (h0+l) (by exact GdS ‹_›) (by lia) q3) (λu hu hn=> ?_) h;rcases q4 with q4|q4
   .lia
   .by_cases w:o>=n -h0
    .lia
    .cases b' :B u with
     |false=>rfl
     |true=>rw[mB (h0+o) u (by lia) hn b'] at q4;cases q4
 |false=>
  refine Gan (Gdd (GcR (I:=λi c z=>z=st/\∃l o,c=(J,l,o)/\l<o/\l<h0+1/\i+1<=o/\B (h0 -l)=M)
   (Q:=λc z=>z=st/\∃l o,c=(J,l,o)/\l<o/\l<h0+1/\B (h0 -l)=M/\(o>=h0+1\/B (h0 -o)=O)) ?step ?fin ⟨rfl,0,1,rfl,by simp,by simp,by lia,b⟩) ?post)
  case fin=>
   rintro c z ⟨rfl,l,o,rfl,q1,q2,q3,q4⟩;exact⟨rfl,l,o,rfl,q1,q2,q4,.inl (by lia)⟩
  case step=>
   rintro i c z _ eV ⟨rfl,l,o,rfl,q1,q2,q3,q4⟩;by_cases g:o>=h0+1
   .rw[Gar g];exact GaD ⟨rfl,l,o,rfl,q1,q2,q4,.inl g⟩
   .rw[Gaw g];refine Gan (hf _ (by lia) _ ?_);cases b' :B (h0 -o) with
    |true=>
     exact GaD ⟨rfl,l,o,rfl,q1,q2,q4,.inr b'⟩
    |false=>
     exact GaD ⟨rfl,o,2*o+1,rfl,by simp+arith,by exact Nat.lt_of_not_le ‹_›,by lia,b'⟩
  case post=>
   rintro c z ⟨rfl,l,o,rfl,q1,q2,q3,q4⟩;refine AB hf mB (by lia) (by lia) (λu hu=> ?_) (λu hu hn=> ?_) h
   .rcases q4 with q4|q4
    .simp_all
    .by_cases w:o>=h0+1
     .simp_all
     .exact mB u (h0 -o) (by lia) (by lia) q4
   .cases b' :B u with
    |false=>rfl
    |true=>rw[mB (h0 -l) u (by simp[*]) hn b'] at q3;cases q3
end
open PySem.W (kas_item)
def qe:Nat->SM Unit:=sortPriv%PySem.Builtin.setMinGallop
def mR(g:Nat):qe g=modify (λz=>SortSt.mk' (kindOf z) (arrOf z) (pendingOf z) g (failedOf z)):=rfl
def Srt(rk:Nat->Int)(p:List Nat):Prop:=p.Pairwise λx y=>rk x<=rk y
def dW(prog:Vn)(w:World)(A:Vm)(s:Vg)(Y:SortKind)(it:Array Keyed)(rk:Nat->Int):Prop:=
 ∀i j,i<it.size->j<it.size->∀C:Bool->Vg->Prop,C (decide (rk i<rk j)) s->wpAny (model prog w) A (keyLt' Y (kas_item it i).1 (kas_item it j).1) C (λ_ _=>False) s
def b7(it:Array Keyed)(a:Array Keyed)(p:List Nat):Prop:=a=(p.map (kas_item it)).toArray/\∀i∈p,i<it.size
def bJ(z z' :SortSt):Prop:=kindOf z' =kindOf z/\arrOf z' =arrOf z/\pendingOf z' =pendingOf z/\failedOf z' =failedOf z
def bJ.refl:bJ z z:=⟨rfl,rfl,rfl,rfl⟩
theorem bJ.trans(a:bJ x y)(b:bJ y z):bJ x z:=⟨b.1.trans a.1,b.2.1.trans a.2.1,b.2.2.1.trans a.2.2.1,b.2.2.2.trans a.2.2.2⟩
section
theorem b7.size{a:Array Keyed}{p:List Nat}(R:b7 it a p):a.size=p.length:=by rw[R.1];simp
variable{k:Nat}
def b7.get{a:Array Keyed}(R:b7 it a p)(h:p[k]? =U i):a[k]? =U (kas_item it i):=by rw[R.1];simp[h]
def b7.lt{it a:Array Keyed}(R:b7 it a p)(h:p[k]? =U i):i<it.size:=R.2 i (GaH h)
theorem b7.push{it a:Array Keyed}(R:b7 it a p)(hi:i<it.size):b7 it (a.push (kas_item it i)) (p++[i]):=⟨by rw[R.1];simp,λj hj=>by
 rcases GaQ.mp hj with h|h
 .exact R.2 j h
 .simp at h;subst h;exact hi⟩
def b7.append(R:b7 it a p)(S:b7 it b q):b7 it (a++b) (p++q):=⟨by rw[R.1,S.1];simp,λj hj=>(GaQ.mp hj).elim (R.2 j) (S.2 j)⟩
def b7.sub{l:List Nat}(R:b7 it a p)(h:∀x∈l,x∈p)(e:c=(l.map (kas_item it)).toArray):b7 it c l:=⟨e,λj hj=>R.2 j (h j hj)⟩
theorem b7.extract{a:Array Keyed}{p:List Nat}(R:b7 it a p)(i j:Nat):b7 it (a.extract i j) ((p.drop i).take (j -i)):=by
 refine R.sub (λx hx=>GbH (Gbw hx)) ?_;rw[R.1];simp
theorem b7.drop{a:Array Keyed}{p:List Nat}(R:b7 it a p)(i:Nat):b7 it (a.extract i a.size) (p.drop i):=by
 have:=R.extract i a.size;rw[R.size,GbM (by simp)] at this
 rwa[R.size]
theorem b7.reverse{a:Array Keyed}{p:List Nat}(R:b7 it a p):b7 it a.reverse p.reverse:=by
 refine R.sub (λx hx=>Gca.mp hx) ?_;rw[R.1];simp
end
def uB{prog:Vn}{w:World}{st:SortSt}{it:Array Keyed}{rk:Nat->Int}{Q:Option Bool->SortSt->Prop}(hA:dW prog w A s Y it rk)(hk:kindOf st=Y)(hi:i<it.size)(hj:j<it.size)(h:Q (U (decide (rk i<rk j))) st):wpS (model prog w) A E s (lt' (kas_item it i) (kas_item it j)) Q st:=by
 rw[lt'_eq];refine Gan (wpS_get ?_);rw[hk];refine Gan (wpS_lift (wpAny_attempt (GaB (hA i j hi hj (λb z=>z=s/\b=decide _) ⟨rfl,rfl⟩) (λb z hb=> ⟨hb.1, ?_⟩) λ_ _ f=>f.elim)));rw[hb.2];exact GaD h
def bc{prog:Vn}{w:World}{st:SortSt}{a:Array Keyed}{k:Nat}{Q:Keyed->SortSt->Prop}(R:b7 it a p)(hk:p[k]? =U i)(h:Q (kas_item it i) st):wpS (model prog w) A E s (elem' a k) Q st:=by
 rw[elem'_eq,R.get hk];exact GaD h
def pE(h:Srt rk l):∀{u v x y:Nat},u<=v->l[u]? =U x->l[v]? =U y->rk x<=rk y:=by
 intro u v x y SH hx hy;rcases Nat.lt_or_ge u v with c|c
 .obtain⟨h1,rfl⟩:=Gae.mp hx;obtain⟨h2,rfl⟩:=Gae.mp hy;exact Gch.mp h u v h1 h2 c
 .have:u=v:=by lia
  simp_all
def o6{prog:Vn}{w:World}{st:SortSt}{it:Array Keyed}{rk:Nat->Int}{ps:List Nat}{h0:Nat}{Q:Option Nat->SortSt->Prop}(hA:dW prog w A s Y it rk)(hk:kindOf st=Y)(R:b7 it xs ps)(hi:ik<it.size)(hn:b0+n<=ps.length)(hs:Srt rk ((ps.drop b0).take n))(hh:h0<n)
  (h:∀k,k<=n->(∀x∈((ps.drop b0).take n).take k,if lf=O then rk x<rk ik else rk x<=rk ik)->(∀x∈((ps.drop b0).take n).drop k,if lf=O then rk ik<=rk x else rk ik<rk x)->Q (U k) st):
  wpS (model prog w) A E s (oS lf (kas_item it ik) xs b0 n h0) Q st:=by
 rw[DR];have len:((ps.drop b0).take n).length=n:=by simp;lia
 have at_:∀u,u<n->∃x,_[u]? =U x/\ps[b0+u]? =U x:=λu hu=>by
  have h1:u<((ps.drop b0).take n).length:=by rw[len];exact hu
  refine⟨_[u],Gaa h1, ?_⟩;have:=Gaa h1
  rwa[Gbh hu,Gbf] at this
 have fin:∀B:Nat->Bool,(∀u x,((ps.drop b0).take n)[u]? =U x->B u=if lf=O then decide (rk x<rk ik) else !decide (rk ik<rk x))->∀k,Cut B n k->Q (U k) st:=by
  intro B hB k ⟨c1,c2,c3⟩;refine h k c1 (λx hx=> ?_) (λx hx=> ?_)
  .obtain⟨u,hu⟩:=GbC.mp hx;have hu' :u<k:=by have:=(Gae.mp hu).1;simp at this;simp_all
   rw[Gbh hu'] at hu;have b:=c2 u hu';rw[hB u x hu] at b;cases lf with
   |true=>simpa using b
   |false=>simpa using b
  .obtain⟨u,hu⟩:=GbC.mp hx;rw[Gbf] at hu;have hu' :k+u<n:=by have:=(Gae.mp hu).1;rw[len] at this;exact this
   have b:=c3 _ (by simp) hu';rw[hB _ x hu] at b;cases lf with
   |true=>simpa using b
   |false=>simpa using b
 refine Hc (B:=λu=>if lf=O then decide (rk (((ps.drop b0).take n).getD u 0)<rk ik) else !decide (rk ik<rk (((ps.drop b0).take n).getD u 0))) (λu hu R' hR=> ?_) (λu v SH hv b=> ?_) hh (fin _ λu x hx=>by simp[hx])
 .obtain⟨x,h1,h2⟩:=at_ u hu;have e:((ps.drop b0).take n).getD u 0=x:=by simp[h1]
  simp only[e] at hR;refine Gan (bc R h2 ?_);cases lf with
  |true=>
   exact uB hA hk (R.lt h2) hi hR
  |false=>
   exact Gan (uB hA hk hi (R.lt h2) (GaD hR))
 .obtain⟨x,h1,_⟩:=at_ u (by exact GaG ‹_› ‹_›);obtain⟨y,h2,_⟩:=at_ v hv;have e1:((ps.drop b0).take n).getD u 0=x:=by simp[List.getD,h1]
  have e2:((ps.drop b0).take n).getD v 0=y:=by simp[List.getD,h2]
  have le:=pE hs SH h1 h2;simp only[e1,e2] at b⊢;cases lf with
  |true=>simp at b⊢;lia
  |false=>simp at b⊢;lia
def KH:Array Keyed->Array Keyed->SM (Array Keyed):=sortPriv%PySem.Builtin.mergeLo
abbrev C0:=Option (Array Keyed)×Array Keyed×Nat×Nat×Nat×Nat×Nat
section
variable(a b:Array Keyed)
def sX(o:Array Keyed)(u v:Nat):Array Keyed:=o++a.extract u a.size++b.extract v b.size
def DU(o:Array Keyed)(u v:Nat):Array Keyed:=o++b.extract v b.size++a.extract u a.size
def loC(mg ca cb:Nat)(o:Array Keyed)(u v:Nat):SM (ForInStep C0):=do
 let e<-elem' a u
 if(u+1+1==a.size)=O then pure (.done (U (DU a b (o.push e) (u+1) v),o.push e,u+1,v,mg,ca,cb))
 else if(decide (ca<7)&&decide (cb<7))=O then pure (.done (J,o.push e,u+1,v,mg,ca,cb))
 else pure (.yield (J,o.push e,u+1,v,mg,ca,cb))
def loB(mg ca cb:Nat)(o:Array Keyed)(u v:Nat):SM (ForInStep C0):=do
 let e<-elem' b v
 if(v+1==b.size)=O then pure (.done (U (sX a b (o.push e) u (v+1)),o.push e,u,v+1,mg,ca,cb))
 else do
  let e2<-elem' a u
  let f<-oS O e2 b (v+1) (b.size -(v+1)) 0
  match f with
  |some k=>
   if k>0 then
    if(v+1+k==b.size)=O then pure (.done (U (sX a b (o.push e++b.extract (v+1) (v+1+k)) u (v+1+k)),o.push e++b.extract (v+1) (v+1+k),u,v+1+k,mg,ca,k))
    else loC a b mg ca k (o.push e++b.extract (v+1) (v+1+k)) u (v+1+k)
   else loC a b mg ca k (o.push e) u (v+1)
  |_=>pure (.done (U (sX a b (o.push e) u (v+1)),o.push e,u,v+1,mg,ca,cb))
def loA(mg ca cb:Nat)(o:Array Keyed)(u v:Nat):SM (ForInStep C0):=do
 qe mg
 let e<-elem' b v
 let f<-oS M e a u (a.size -u) 0
 match f with
 |some k=>
  if k>0 then
   if(u+k+1==a.size)=O then pure (.done (U (DU a b (o++a.extract u (u+k)) (u+k) v),o++a.extract u (u+k),u+k,v,mg,k,cb))
   else if(u+k==a.size)=O then pure (.done (U (sX a b (o++a.extract u (u+k)) (u+k) v),o++a.extract u (u+k),u+k,v,mg,k,cb))
   else loB a b mg k cb (o++a.extract u (u+k)) (u+k) v
  else loB a b mg k cb o u v
 |_=>pure (.done (U (sX a b o u v),o,u,v,mg,ca,cb))
def loG(c:C0):SM (ForInStep C0):=if c.2.2.2.2.1>1 then loA a b (c.2.2.2.2.1 -1) c.2.2.2.2.2.1 c.2.2.2.2.2.2 c.2.1 c.2.2.1 c.2.2.2.1 else loA a b c.2.2.2.2.1 c.2.2.2.2.2.1 c.2.2.2.2.2.2 c.2.1 c.2.2.1 c.2.2.2.1
def loS(mg:Nat)(o:Array Keyed)(u v ca cb:Nat):SM (ForInStep (Option (Array Keyed)×Array Keyed×Nat×Nat×Nat×Nat)):=do
 let y<-elem' b v
 let x<-elem' a u
 let w<-lt' y x
 match w with
 |some w=>
  if w=O then do
   let e<-elem' b v
   if(v+1==b.size)=O then pure (.done (U (sX a b (o.push e) u (v+1)),o.push e,u,v+1,0,cb+1))
   else if cb+1>=mg then pure (.done (J,o.push e,u,v+1,0,cb+1)) else pure (.yield (J,o.push e,u,v+1,0,cb+1))
  else do
   let e<-elem' a u
   if(u+1+1==a.size)=O then pure (.done (U (DU a b (o.push e) (u+1) v),o.push e,u+1,v,ca+1,0))
   else if ca+1>=mg then pure (.done (J,o.push e,u+1,v,ca+1,0)) else pure (.yield (J,o.push e,u+1,v,ca+1,0))
 |_=>pure (.done (U (sX a b o u v),o,u,v,ca,cb))
abbrev Lo5:=Option (Array Keyed)×Array Keyed×Nat×Nat×Nat
def loE(c:C0):SM (ForInStep Lo5):=match c.1 with
 |some r=>pure (.done (U r,c.2.1,c.2.2.1,c.2.2.2.1,c.2.2.2.2.1))
 |none=>do
  qe (c.2.2.2.2.1+1)
  pure (.yield (J,c.2.1,c.2.2.1,c.2.2.2.1,c.2.2.2.2.1+1))
def loW(mg:Nat)(c:Option (Array Keyed)×Array Keyed×Nat×Nat×Nat×Nat):SM (ForInStep Lo5):=match c.1 with
 |some r=>pure (.done (U r,c.2.1,c.2.2.1,c.2.2.2.1,mg))
 |none=>do
  rule "list.sort.gallop"
  (forIn [0:a.size+b.size] (J,c.2.1,c.2.2.1,c.2.2.2.1,mg+1,c.2.2.2.2.1,c.2.2.2.2.2) λ_ c=>loG a b c)>>=loE
def loR(c:Lo5):SM (ForInStep Lo5):=(forIn [0:a.size+b.size] (J,c.2.1,c.2.2.1,c.2.2.2.1,0,0) λ_ d=>loS a b c.2.2.2.2 d.2.1 d.2.2.1 d.2.2.2.1 d.2.2.2.2.1 d.2.2.2.2.2)>>=loW a b c.2.2.2.2
def loZ(c:Lo5):SM (Array Keyed):=match c.1 with
 |some r=>pure r
 |none=>unsupported "internal:list.sort.merge-bound"
end
def KI(a b:Array Keyed):KH a b=(do
 rule "list.sort.merge-lo"
 let e<-elem' b 0
 if(1==b.size)=O then pure (sX a b #[e] 0 1)
 else if(0+1==a.size)=O then pure (DU a b #[e] 0 1)
 else do
  let z<-get
  (forIn [0:a.size+b.size] (J,#[e],0,1,gallopOf z) λ_ c=>loR a b c)>>=loZ):=by
 kernel_rfl
structure LoI(rk:Nat->Int)(p q o:List Nat)(u v:Nat):Prop where
 pm:o.Perm (p.take u++q.take v)
 so:Srt rk o
 oa:∀x∈o,∀y∈p.drop u,rk x<=rk y
 ob:∀x∈o,∀y∈q.drop v,rk x<=rk y
def cI(h:Srt rk l)(h2:Srt rk m)(h3:∀x∈l,∀y∈m,rk x<=rk y):Srt rk (l++m):=List.pairwise_append.mpr ⟨h,h2,h3⟩
def dh{l:List Nat}(h:Srt rk l)(n:Nat):Srt rk (l.drop n):=h.sublist (List.drop_sublist _ _)
def fj{l:List Nat}(h:Srt rk l)(n:Nat):Srt rk (l.take n):=h.sublist (List.take_sublist _ _)
def pF{l:List Nat}(h:Srt rk l)(n:Nat):∀x∈l.take n,∀y∈l.drop n,rk x<=rk y:=by
 have:=h;rw[<-Gbn n l] at this;exact(List.pairwise_append.mp this).2.2
def C1{l:List Nat}(h:x∈l.drop (n+k)):x∈l.drop n:=by
 rw[<-Gcf] at h;exact GbH h
def LoI.we{p q:List Nat}(I:LoI rk p q o u v)(sp:Srt rk p)(h:∀x∈(p.drop u).take k,∀y∈q.drop v,rk x<=rk y):LoI rk p q (o++(p.drop u).take k) (u+k) v:=by
 refine⟨?_,cI I.so (fj (dh sp u) k) λx hx y hy=>I.oa x hx y (Gbw hy),λx hx y hy=> ?_,λx hx y hy=> ?_⟩
 .rw[List.take_add];refine(I.pm.append_right _).trans ?_;rw[Gaz,Gaz];exact GbD.append_left _
 .rcases GaQ.mp hx with hx|hx
  .exact I.oa x hx y (C1 hy)
  .rw[<-Gcf] at hy;exact pF (dh sp u) k x hx y hy
 .rcases GaQ.mp hx with hx|hx
  .exact I.ob x hx y hy
  .exact h x hx y hy
def LoI.swap(I:LoI rk p q o u v):LoI rk q p o v u:=⟨I.pm.trans GbD,I.so,I.ob,I.oa⟩
def LoI.KJ{p q:List Nat}(I:LoI rk p q o u v)(sq:Srt rk q)(h:∀x∈(q.drop v).take k,∀y∈p.drop u,rk x<=rk y):LoI rk p q (o++(q.drop v).take k) u (v+k):=(I.swap.we sq h).swap
def take1{l:List Nat}(h:l[n]? =U x):(l.drop n).take 1=[x]:=by
 obtain⟨h1,rfl⟩:=Gae.mp h;rw[Gbz h1]
 rfl
def LoI.qf{q:List Nat}(I:LoI rk p q o u v)(sp:Srt rk p)(hx:p[u]? =U x)(h:∀y∈q.drop v,rk x<=rk y):LoI rk p q (o++[x]) (u+1) v:=by
 have:=I.we (k:=1) sp (by rw[take1 hx];intro z hz;simp at hz;subst hz;exact h);rw[take1 hx] at this;exact this
def LoI.uC{p:List Nat}(I:LoI rk p q o u v)(sq:Srt rk q)(hx:q[v]? =U x)(h:∀y∈p.drop u,rk x<=rk y):LoI rk p q (o++[x]) u (v+1):=(I.swap.qf sq hx h).swap
def LoI.done{rk:Nat->Int}{p:List Nat}{q:List Nat}{o:List Nat}{u:Nat}{v:Nat}(I:LoI rk p q o u v)(sp:Srt rk p)(sq:Srt rk q)(h:v=q.length\/u=p.length):(o++p.drop u++q.drop v).Perm (p++q)/\Srt rk (o++p.drop u++q.drop v):=by
 constructor
 .refine(Gby _ (Gby _ I.pm)).trans ?_;have e:p++q=(p.take u++p.drop u)++(q.take v++q.drop v):=by rw[Gbn,Gbn]
  rw[e,Gaz,Gaz,Gaz];refine GcE _ ?_;rw[<-Gaz,<-Gaz];exact Gby _ GbD
 .rcases h with rfl|rfl
  .rw[GbS,GbE];exact cI I.so (dh sp u) I.oa
  .rw[GbS,GbE];exact cI I.so (dh sq v) I.ob
def LoI.last{p:List Nat}(I:LoI rk p q o u v)(sq:Srt rk q)(h:u+1=p.length)(hl:∀x,p[u]? =U x->∀y∈q,rk y<=rk x):(o++q.drop v++p.drop u).Perm (p++q)/\Srt rk (o++q.drop v++p.drop u):=by
 have hu:u<p.length:=by lia
 have e:p.drop u=[p[u]]:=by rw[Gbz hu,h,GbS]
 constructor
 .have pm:=I.pm;refine(Gby _ (Gby _ pm)).trans ?_;rw[Gaz,Gaz,<-Gaz (List.take v q),Gbn];refine(GcE _ GbD).trans ?_;rw[<-Gaz,Gbn]
 .refine cI (cI I.so (dh sq v) I.ob) (by rw[e];exact Gcp _ _) λx hx y hy=> ?_;rw[e] at hy;simp at hy;subst hy;rcases GaQ.mp hx with hx|hx
  .exact I.oa x hx _ (by rw[e];simp)
  .exact hl _ (Gaa hu) x (GbH hx)
def RT{α τ Z:Type}(G:α->Z->Prop)(K:τ->Z->Prop)(r:Option α×τ)(z:Z):Prop:=match r.1 with
 |some a=>G a z
 |none=>K r.2 z
def FR{α τ Z:Type}(G:α->Z->Prop)(K UR:τ->Z->Prop)(r:ForInStep (Option α×τ))(z:Z):Prop:=match r with
 | .done r=>RT G K r z
 | .yield r=>r.1=J/\UR r.2 z
def fk{β:Type}{f:Nat->Option α×τ->StateT Z Sem (ForInStep (Option α×τ))}{g:Option α×τ->StateT Z Sem β}{R:β->Z->Prop}{st:Z}(UR:Nat->τ->Z->Prop)(G:α->Z->Prop)(K:τ->Z->Prop)(h0:UR 0 c st)
  (step:∀i c z,i<n->UR i c z->wpS UT A E s (f i (J,c)) (FR G K (UR (i+1))) z)(fin:∀c z,UR n c z->K c z)(h1:∀a t z,G a z->wpS UT A E s (g (U a,t)) R z)(h2:∀c z,K c z->wpS UT A E s (g (J,c)) R z):wpS UT A E s (forIn [0:n] (J,c) f>>=g) R st:=by
 refine Gan (Gdd (GcR (I:=λi c z=>c.1=J/\UR i c.2 z) (Q:=RT G K) (λi c z _ hi h=> ?_) (λc z h=> ?_) ⟨rfl,h0⟩) λr z h=> ?_)
 .obtain⟨_,c⟩:=c;cases h.1;exact Gdd (step i c z hi h.2) λr z h=>by cases r<;>exact h
 .obtain⟨_,c⟩:=c;cases h.1;exact fin c z (by simpa using h.2)
 .obtain⟨_|a,c⟩:=r
  .exact h2 c z h
  .exact h1 a c z h
section
variable{prog:Vn}{w:World}{A:Vm}{s:Vg}{st:SortSt}{Y:SortKind}{it:Array Keyed}{rk:Nat->Int}{a b:Array Keyed}{p q:List Nat}
def oT(it:Array Keyed)(rk:Nat->Int)(p q:List Nat)(r:Array Keyed):Prop:=∃l,b7 it r l/\l.Perm (p++q)/\Srt rk l
def l7{l:List Nat}(h:Srt rk l)(hx:l[n]? =U x)(hy:y∈l.drop n):rk x<=rk y:=by
 obtain⟨k,hk⟩:=GbC.mp hy;rw[Gbf] at hk;exact pE h (by simp) hx hk
structure LoP(it:Array Keyed)(rk:Nat->Int)(p q:List Nat)(o:Array Keyed)(u v:Nat):Prop where
 ex:∃l,b7 it o l/\LoI rk p q l u v
 bu:u+1<p.length
 bv:v<q.length
structure LoX(prog:Vn)(w:World)(A:Vm)(s:Vg)(Y:SortKind)(it:Array Keyed)(rk:Nat->Int)(a b:Array Keyed)(p q:List Nat):Prop where
 hA:dW prog w A s Y it rk
 Ra:b7 it a p
 Rb:b7 it b q
 sp:Srt rk p
 sq:Srt rk q
 hl:∀x,p[p.length -1]? =U x->∀y∈q,rk y<=rk x
theorem LoX.done{o:Array Keyed}{l:List Nat}{u v:Nat}(X:LoX prog w A s Y it rk a b p q)(Ro:b7 it o l)(I:LoI rk p q l u v)(hh:v=q.length\/u=p.length):oT it rk p q (o++a.extract u a.size++b.extract v b.size):=
 ⟨_,(Ro.append (X.Ra.drop _)).append (X.Rb.drop _),(I.done X.sp X.sq hh).1,(I.done X.sp X.sq hh).2⟩
theorem LoX.last(X:LoX prog w A s Y it rk a b p q)(Ro:b7 it o l)(I:LoI rk p q l u v)(hh:u+1=p.length):oT it rk p q (o++b.extract v b.size++a.extract u a.size):=by
 have hl' :∀x,p[u]? =U x->∀y∈q,rk y<=rk x:=by
  have:=X.hl;rw[show p.length -1=u by lia] at this;exact this
 exact⟨_,(Ro.append (X.Rb.drop _)).append (X.Ra.drop _),(I.last X.sq hh hl').1,(I.last X.sq hh hl').2⟩
theorem LoX.ex(X:LoX prog w A s Y it rk a b p q)(P:LoP it rk p q o u v):∃l x y,b7 it o l/\LoI rk p q l u v/\p[u]? =U x/\q[v]? =U y:=by
 obtain⟨l,Ro,I⟩:=P.ex;exact⟨l,_,_,Ro,I,Gaa (GbT P.bu),Gaa P.bv⟩
def LoG(it:Array Keyed)(rk:Nat->Int)(p q:List Nat)(st:SortSt)(r:Array Keyed)(z:SortSt):Prop:=bJ st z/\oT it rk p q r
def LoK(it:Array Keyed)(rk:Nat->Int)(p q:List Nat)(st:SortSt)(N:Nat){τ:Type}(c:Array Keyed×Nat×Nat×τ)(z:SortSt):Prop:=bJ st z/\LoP it rk p q c.1 c.2.1 c.2.2.1/\N<=c.2.1+c.2.2.1
abbrev LoF (it:Array Keyed) (rk:Nat->Int) (p q:List Nat) (st:SortSt) (UT N:Nat) {τ:Type}:ForInStep (Option (Array Keyed)×Array Keyed×Nat×Nat×τ)->SortSt->Prop:=FR (LoG it rk p q st) (LoK it rk p q st UT) (LoK it rk p q st N)
def sY{τ:Type}{t:Array Keyed×Nat×Nat×τ}(X:LoX prog w A s Y it rk a b p q)(z:bJ s0 st)(Ro:b7 it o l)(I:LoI rk p q l u v)(hh:v=q.length\/u=p.length):wpS (model prog w) A E s (pure (.done (U (sX a b o u v),t))) (LoF it rk p q s0 UT N) st:=GaD ⟨z,X.done Ro I hh⟩
def wj{τ:Type}{t:Array Keyed×Nat×Nat×τ}(X:LoX prog w A s Y it rk a b p q)(z:bJ s0 st)(Ro:b7 it o l)(I:LoI rk p q l u v)(hh:u+1=p.length):wpS (model prog w) A E s (pure (.done (U (DU a b o u v),t))) (LoF it rk p q s0 UT N) st:=GaD ⟨z,X.last Ro I hh⟩
def sZ{τ:Type}{t' :τ}(z:bJ s0 st)(Ro:b7 it o l)(I:LoI rk p q l u v)(bu:u+1<p.length)(bv:v<q.length)(h:UT<=u+v):wpS (model prog w) A E s (pure (.done (J,o,u,v,t'))) (LoF it rk p q s0 UT N) st:=GaD ⟨z,⟨⟨l,Ro,I⟩,bu,bv⟩,h⟩
def DV{τ:Type}{t' :τ}(z:bJ s0 st)(Ro:b7 it o l)(I:LoI rk p q l u v)(bu:u+1<p.length)(bv:v<q.length)(h:N<=u+v):wpS (model prog w) A E s (pure (.yield (J,o,u,v,t'))) (LoF it rk p q s0 UT N) st:=GaD ⟨rfl,z,⟨⟨l,Ro,I⟩,bu,bv⟩,h⟩
def aZ{m n:Nat}(h:¬(m==n)=O):m≠n:=by simpa using h
def DW{u:Nat}{o:Array Keyed}{l:List Nat}(X:LoX prog w A s Y it rk a b p q)(z:bJ s0 st)(Ro:b7 it o l)(I:LoI rk p q l u v)(bu:u+1<p.length)(bv:v<q.length)
  (hx:∀x,p[u]? =U x->∀y∈q.drop v,rk x<=rk y)(hN:N<=u+v+1):wpS (model prog w) A E s (loC a b mg ca cb o u v) (LoF it rk p q s0 N N) st:=by
 have xW:=X.Ra.size;obtain⟨x,ex⟩:∃x,p[u]? =U x:=⟨_,Gaa (GbT bu)⟩
 have I' :=I.qf X.sp ex (hx x ex);have xD :=Ro.push (X.Ra.lt ex);unfold loC;refine Gan (bc X.Ra ex (aH (λe=> ?_) λe=> ?_))
 .exact wj X z xD I' (by rw[<-xW];exact Gas.mp e)
 have e' :=aZ e;refine aH (λ_=> ?_) λ_=> ?_
 .exact sZ z xD I' (by lia) bv (by lia)
 .exact DV z xD I' (by lia) bv (by lia)
def DX{v:Nat}{o:Array Keyed}{l:List Nat}(X:LoX prog w A s Y it rk a b p q)(hk:kindOf st=Y)(z:bJ s0 st)(Ro:b7 it o l)(I:LoI rk p q l u v)(bu:u+1<p.length)(bv:v<q.length)
  (hx:∀x,q[v]? =U x->∀y∈p.drop u,rk x<=rk y)(hN:N<=u+v+2):wpS (model prog w) A E s (loB a b mg ca cb o u v) (LoF it rk p q s0 N N) st:=by
 have yt:=X.Rb.size;obtain⟨y,ey⟩:∃x,q[v]? =U x:=⟨_,Gaa bv⟩
 obtain⟨x,ex⟩:∃x,p[u]? =U x:=⟨_,Gaa (GbT bu)⟩
 have I1:=I.uC X.sq ey (hx y ey);have Ro1:=Ro.push (X.Rb.lt ey);unfold loB;refine Gan (bc X.Rb ey (aH (λe=> ?_) λe=> ?_))
 .exact sY X z Ro1 I1 (.inl (by rw[<-yt];exact Gas.mp e))
 have e' :=aZ e;have full:(q.drop (v+1)).take (b.size -(v+1))=q.drop (v+1):=GbM (by simp;lia);refine Gan (bc X.Ra ex (Gan (o6 X.hA hk X.Rb (X.Ra.lt ex) (by lia) (by rw[full];exact dh X.sq _) (by lia) λk TX t1 t2=> ?_)));rw[full] at t1 t2;have t1:∀z∈(q.drop (v+1)).take k,rk z<rk x:=t1;have t2:∀z∈(q.drop (v+1)).drop k,rk x<=rk z:=t2;have I2:=I1.KJ (k:=k) X.sq λz hz t ht=>by have:=t1 z hz;have:=l7 X.sp ex ht;lia
 have Ro2:=Ro1.append (X.Rb.extract (v+1) (v+1+k));rw[Nat.add_sub_cancel_left] at Ro2;have hx2:∀z,p[u]? =U z->∀t∈q.drop (v+1+k),rk z<=rk t:=λz hz t ht=>by
  cases ex.symm.trans hz;rw[<-Gcf] at ht;exact t2 t ht
 refine aH (λg=>aH (λe=> ?_) λe=> ?_) λg=> ?_
 .exact sY X z Ro2 I2 (.inl (by rw[<-yt];exact Gas.mp e))
 .have e2:=aZ e;exact DW X z Ro2 I2 bu (by lia) hx2 (by lia)
 .cases Nat.eq_zero_of_not_pos g;exact DW X z Ro1 I1 bu (by lia) hx2 hN
def KN{o:Array Keyed}{l:List Nat}(X:LoX prog w A s Y it rk a b p q)(hk:kindOf st=Y)(z:bJ s0 st)(Ro:b7 it o l)(I:LoI rk p q l u v)(bu:u+1<p.length)(bv:v<q.length)(hN:N<=u+v+2):wpS (model prog w) A E s (loA a b mg ca cb o u v) (LoF it rk p q s0 N N) st:=by
 have xW:=X.Ra.size;unfold loA;rw[mR];refine Gan (GcZ ?_);generalize hy:SortSt.mk' (kindOf st) (arrOf st) (pendingOf st) mg (failedOf st)=y at*;have sy:bJ st y:=by rw[<-hy];exact⟨rfl,rfl,rfl,rfl⟩
 clear hy;have hk:=sy.1.trans hk;have z:=z.trans sy;clear sy;obtain⟨y',ey⟩:∃x,q[v]? =U x:=⟨_,Gaa bv⟩
 have full:(p.drop u).take (a.size -u)=p.drop u:=GbM (by simp;lia);refine Gan (bc X.Rb ey (Gan (o6 X.hA hk X.Ra (X.Rb.lt ey) (by lia) (by rw[full];exact dh X.sp _) (by lia) λk TX t1 t2=> ?_)));rw[full] at t1 t2;have t1:∀z∈(p.drop u).take k,rk z<=rk y' :=t1;have t2:∀z∈(p.drop u).drop k,rk y' <rk z:=t2;have I1:=I.we (k:=k) X.sp λz hz t ht=>by have:=t1 z hz;have:=l7 X.sq ey ht;lia
 have Ro1:=Ro.append (X.Ra.extract u (u+k));rw[Nat.add_sub_cancel_left] at Ro1;have hx:∀z,q[v]? =U z->∀t∈p.drop (u+k),rk z<=rk t:=λz hz t ht=>by
  cases ey.symm.trans hz;rw[<-Gcf] at ht;exact Gbk (t2 t ht)
 refine aH (λg=>aH (λe=> ?_) λe=>aH (λe2=> ?_) λe2=> ?_) λg=> ?_
 .exact wj X z Ro1 I1 (by rw[<-xW];exact Gas.mp e)
 .exact sY X z Ro1 I1 (.inr (by rw[<-xW];exact Gas.mp e2))
 .have e:=aZ e;have e2:=aZ e2;exact DX X hk z Ro1 I1 (by lia) bv hx (by lia)
 .cases Nat.eq_zero_of_not_pos g;exact DX X hk z Ro I bu bv hx hN
def KO(X:LoX prog w A s Y it rk a b p q)(hk:kindOf st=Y)(z:bJ s0 st)(P:LoP it rk p q o u v)(hN:N<=u+v+1):wpS (model prog w) A E s (loS a b mg o u v ca cb) (LoF it rk p q s0 N N) st:=by
 have xW:=X.Ra.size;have yt:=X.Rb.size;obtain⟨l,x,y,Ro,I,hx,hy⟩:=X.ex P;have bu:=P.bu;have bv:=P.bv;clear P;unfold loS;refine Gan (bc X.Rb hy (Gan (bc X.Ra hx (Gan (uB X.hA hk (X.Rb.lt hy) (X.Ra.lt hx) (aH (λlt=> ?_) λlt=> ?_))))))
 .have lt:=Gay lt;have I' :=I.uC X.sq hy λt ht=>by have:=l7 X.sp hx ht;lia
  have xD :=Ro.push (X.Rb.lt hy);refine Gan (bc X.Rb hy (aH (λe=> ?_) λe=> ?_))
  .exact sY X z xD I' (.inl (by rw[<-yt];exact Gas.mp e))
  have e:=aZ e;exact aH (λ_=>sZ z xD I' bu (by lia) (by lia)) λ_=>DV z xD I' bu (by lia) (by lia)
 .have lt:=GeC (GeG.mpr lt);have I' :=I.qf X.sp hx λt ht=>by have:=l7 X.sq hy ht;lia
  have xD :=Ro.push (X.Ra.lt hx);refine Gan (bc X.Ra hx (aH (λe=> ?_) λe=> ?_))
  .exact wj X z xD I' (by rw[<-xW];exact Gas.mp e)
  have e:=aZ e;exact aH (λ_=>sZ z xD I' (by lia) bv (by lia)) λ_=>DV z xD I' (by lia) bv (by lia)
def LoK.mono{τ:Type}{c:Array Keyed×Nat×Nat×τ}{st:SortSt}(h:LoK it rk p q st UT c z)(e:N<=UT):LoK it rk p q st N c z:=⟨h.1,h.2.1,Gak e h.2.2⟩
def O8{Q:Array Keyed->SortSt->Prop}(hA:dW prog w A s Y it rk)(hk:kindOf st=Y)(Ra:b7 it a p)(Rb:b7 it b q)(sp:Srt rk p)(sq:Srt rk q)(hp:0<p.length)(hq:0<q.length)
  (h0:∀x,q[0]? =U x->∀y∈p,rk x<=rk y)(hl:∀x,p[p.length -1]? =U x->∀y∈q,rk y<=rk x)(h:∀r z,bJ st z->oT it rk p q r->Q r z):wpS (model prog w) A E s (KH a b) Q st:=by
 have X:LoX prog w A s Y it rk a b p q:=⟨hA,Ra,Rb,sp,sq,hl⟩
 have xW:=Ra.size;have yt:=Rb.size;obtain⟨x0,yj⟩:∃x,q[0]? =U x:=⟨_,Gaa hq⟩
 have I0:LoI rk p q [x0] 0 1:=by
  refine⟨?_,Gcp _ _,λx hx y hy=> ?_,λx hx y hy=> ?_⟩
  .have:=take1 yj;rw[Gcs] at this;rw[this];simp
  .cases Gam.mp hx;exact h0 _ yj y (GbH hy)
  .cases Gam.mp hx;exact l7 sq yj (GbH hy)
 have R0:b7 it #[kas_item it x0] [x0]:=⟨rfl,λj hj=>by cases Gam.mp hj;exact Rb.lt yj⟩
 rw[KI];refine Gan (wpS_lift (Gct ⟨rfl,Gan (bc Rb yj (aH (λc1=> ?_) λc1=>aH (λc2=> ?_) λc2=> ?_))⟩))
 .exact GaD (h _ _ .refl (X.done R0 I0 (.inl (by rw[<-yt];exact Gas.mp c1))))
 .exact GaD (h _ _ .refl (X.last R0 I0 (by rw[<-xW];exact Gas.mp c2)))
 have c1:=aZ c1;have c2:=aZ c2;refine Gan (wpS_get (fk (λi=>LoK it rk p q st (i+1)) (LoG it rk p q st) (λ_ _=>False) ⟨.refl,⟨⟨_,R0,I0⟩,by lia,by lia⟩,GaN _⟩ (λi c z hi K=> ?_) (λc z K=> ?_) (λr t z g=>GaD (h r z g.1 g.2)) λ_ _ z=>z.elim))
 .have big:∀{τ:Type} {d:Array Keyed×Nat×Nat×τ} {y:SortSt} {N:Nat},LoK it rk p q st N d y->N+2<=a.size+b.size:=λh=>by have:=h.2.1.bu;have:=h.2.1.bv;have:=h.2.2;lia
  refine fk (λj=>LoK it rk p q st (i+1+j)) (LoG it rk p q st) (LoK it rk p q st (i+2)) K (λj d y hj L=> ?_) (λd y L=>absurd (big L) (by lia)) (λr t z g=>GaD g) λd y L=> ?_
  .refine Gdd (KO X (L.1.1.trans hk) L.1 L.2.1 (N:=i+1+(j+1)) (Gec L.2.2)) λr z hr=> ?_;cases r with
   |yield r=>exact hr
   |done r=>
    obtain⟨_|r,d⟩:=r
    .exact LoK.mono hr (by lia)
    .exact hr
  .refine Gan (wpS_lift (Gct ⟨rfl,fk (λj=>LoK it rk p q st (i+2+j)) (LoG it rk p q st) (LoK it rk p q st (i+2)) L (λj e y hj L=> ?_) (λd y L=>absurd (big L) (by lia)) (λr t z g=>GaD g) λe y L=> ?_⟩))
   .have go:∀g,wpS (model prog w) A E s (loA a b g e.2.2.2.2.1 e.2.2.2.2.2 e.1 e.2.1 e.2.2.1) (FR (LoG it rk p q st) (LoK it rk p q st (i+2)) (LoK it rk p q st (i+2+(j+1)))) y:=λg=>by
     obtain⟨l,Ro,I⟩:=L.2.1.ex;refine Gdd (KN X (L.1.1.trans hk) L.1 Ro I L.2.1.bu L.2.1.bv (N:=i+2+(j+1)) (by have:=L.2.2;lia)) λr z hr=> ?_;cases r with
     |yield r=>exact hr
     |done r=>
      obtain⟨_|r,d⟩:=r
      .exact LoK.mono hr (by lia)
      .exact hr
    unfold loG;exact aH (λ_=>go _) λ_=>go _
   .show wpS _ _ _ _ (qe _>>=λ_=>_) _ _;rw[mR];exact Gan (GcZ (GaD ⟨rfl,L.1.trans ⟨rfl,rfl,rfl,rfl⟩,L.2⟩))
 .have:=K.2.1.bu;have:=K.2.1.bv;have:=K.2.2;exact absurd this (by lia)
end
def KP:Array Keyed->Array Keyed->SM (Array Keyed):=sortPriv%PySem.Builtin.mergeHi
abbrev C2:=Option (Array Keyed)×Nat×Nat×Array Keyed×Nat×Nat×Nat
abbrev Hi5:=Option (Array Keyed)×Nat×Nat×Array Keyed×Nat
section
variable(a b:Array Keyed)
def t5(o:Array Keyed)(u v:Nat):Array Keyed:=a.extract 0 u++b.extract 0 v++o.reverse
def DY(o:Array Keyed)(u v:Nat):Array Keyed:=b.extract 0 v++a.extract 0 u++o.reverse
def hiC(mg ca cb:Nat)(o:Array Keyed)(u v:Nat):SM (ForInStep C2):=do
 let e<-elem' a (u -1)
 if(u -1==0)=O then pure (.done (U (t5 a b (o.push e) (u -1) v),u -1,v,o.push e,mg,ca,cb))
 else if(decide (ca<7)&&decide (cb<7))=O then pure (.done (J,u -1,v,o.push e,mg,ca,cb))
 else pure (.yield (J,u -1,v,o.push e,mg,ca,cb))
def hiB(mg ca cb:Nat)(o:Array Keyed)(u v:Nat):SM (ForInStep C2):=do
 let e<-elem' b (v -1)
 if(v -1==1)=O then pure (.done (U (DY a b (o.push e) u (v -1)),u,v -1,o.push e,mg,ca,cb))
 else do
  let e2<-elem' a (u -1)
  let f<-oS O e2 b 0 (v -1) (v -1 -1)
  match f with
  |some c=>
   if v -1 -c>0 then
    if(c==1)=O then pure (.done (U (DY a b (o.push e++(b.extract c (v -1)).reverse) u c),u,c,o.push e++(b.extract c (v -1)).reverse,mg,ca,v -1 -c))
    else if(c==0)=O then pure (.done (U (t5 a b (o.push e++(b.extract c (v -1)).reverse) u c),u,c,o.push e++(b.extract c (v -1)).reverse,mg,ca,v -1 -c))
    else hiC a b mg ca (v -1 -c) (o.push e++(b.extract c (v -1)).reverse) u c
   else hiC a b mg ca (v -1 -c) (o.push e) u (v -1)
  |_=>pure (.done (U (t5 a b (o.push e) u (v -1)),u,v -1,o.push e,mg,ca,cb))
def hiA(mg ca cb:Nat)(o:Array Keyed)(u v:Nat):SM (ForInStep C2):=do
 qe mg
 let e<-elem' b (v -1)
 let f<-oS M e a 0 u (u -1)
 match f with
 |some c=>
  if u -c>0 then
   if(c==0)=O then pure (.done (U (t5 a b (o++(a.extract c u).reverse) c v),c,v,o++(a.extract c u).reverse,mg,u -c,cb))
   else hiB a b mg (u -c) cb (o++(a.extract c u).reverse) c v
  else hiB a b mg (u -c) cb o u v
 |_=>pure (.done (U (t5 a b o u v),u,v,o,mg,ca,cb))
def hiG(c:C2):SM (ForInStep C2):=if c.2.2.2.2.1>1 then hiA a b (c.2.2.2.2.1 -1) c.2.2.2.2.2.1 c.2.2.2.2.2.2 c.2.2.2.1 c.2.1 c.2.2.1 else hiA a b c.2.2.2.2.1 c.2.2.2.2.2.1 c.2.2.2.2.2.2 c.2.2.2.1 c.2.1 c.2.2.1
def hiS(mg u v:Nat)(o:Array Keyed)(ca cb:Nat):SM (ForInStep (Option (Array Keyed)×Nat×Nat×Array Keyed×Nat×Nat)):=do
 let y<-elem' b (v -1)
 let x<-elem' a (u -1)
 let w<-lt' y x
 match w with
 |some w=>
  if w=O then do
   let e<-elem' a (u -1)
   if(u -1==0)=O then pure (.done (U (t5 a b (o.push e) (u -1) v),u -1,v,o.push e,ca+1,0))
   else if ca+1>=mg then pure (.done (J,u -1,v,o.push e,ca+1,0)) else pure (.yield (J,u -1,v,o.push e,ca+1,0))
  else do
   let e<-elem' b (v -1)
   if(v -1==1)=O then pure (.done (U (DY a b (o.push e) u (v -1)),u,v -1,o.push e,0,cb+1))
   else if cb+1>=mg then pure (.done (J,u,v -1,o.push e,0,cb+1)) else pure (.yield (J,u,v -1,o.push e,0,cb+1))
 |_=>pure (.done (U (t5 a b o u v),u,v,o,ca,cb))
def hiE(c:C2):SM (ForInStep Hi5):=match c.1 with
 |some r=>pure (.done (U r,c.2.1,c.2.2.1,c.2.2.2.1,c.2.2.2.2.1))
 |none=>do
  qe (c.2.2.2.2.1+1)
  pure (.yield (J,c.2.1,c.2.2.1,c.2.2.2.1,c.2.2.2.2.1+1))
def hiW(mg:Nat)(c:Option (Array Keyed)×Nat×Nat×Array Keyed×Nat×Nat):SM (ForInStep Hi5):=match c.1 with
 |some r=>pure (.done (U r,c.2.1,c.2.2.1,c.2.2.2.1,mg))
 |none=>do
  rule "list.sort.gallop"
  (forIn [0:a.size+b.size] (J,c.2.1,c.2.2.1,c.2.2.2.1,mg+1,c.2.2.2.2.1,c.2.2.2.2.2) λ_ c=>hiG a b c)>>=hiE
def hiR(c:Hi5):SM (ForInStep Hi5):=(forIn [0:a.size+b.size] (J,c.2.1,c.2.2.1,c.2.2.2.1,0,0) λ_ d=>hiS a b c.2.2.2.2 d.2.1 d.2.2.1 d.2.2.2.1 d.2.2.2.2.1 d.2.2.2.2.2)>>=hiW a b c.2.2.2.2
def hiZ(c:Hi5):SM (Array Keyed):=match c.1 with
 |some r=>pure r
 |none=>unsupported "internal:list.sort.merge-bound"
end
def KQ(a b:Array Keyed):KP a b=(do
 rule "list.sort.merge-hi"
 let e<-elem' a (a.size -1)
 if(a.size -1==0)=O then pure (t5 a b #[e] (a.size -1) b.size)
 else if(b.size==1)=O then pure (DY a b #[e] (a.size -1) b.size)
 else do
  let z<-get
  (forIn [0:a.size+b.size] (J,a.size -1,b.size,#[e],gallopOf z) λ_ c=>hiR a b c)>>=hiZ):=by
 kernel_rfl
structure HiI(rk:Nat->Int)(p q o:List Nat)(u v:Nat):Prop where
 pm:o.Perm (p.drop u++q.drop v)
 so:Srt rk o.reverse
 oa:∀x∈o,∀y∈p.take u,rk y<=rk x
 ob:∀x∈o,∀y∈q.take v,rk y<=rk x
def C3{l:List Nat}(h:m<=n)(hx:x∈l.take m):x∈l.take n:=by
 have:l.take m=(l.take n).take m:=by rw[GcO,Gda h]
 rw[this] at hx;exact Gbw hx
def DZ{l:List Nat}(h:m<=n)(hx:x∈(l.drop m).take (n -m)):x∈l.take n:=by
 rw[<-Gdp] at hx;exact GbH hx
def E0{l:List Nat}(h:m<=n):l.drop m=(l.drop m).take (n -m)++l.drop n:=by
 conv=>lhs;rw[<-Gbn (n -m) (l.drop m)]
 rw[Gcf,show m+(n -m)=n by simp[*]]
def HiI.we{p q:List Nat}(I:HiI rk p q o u v)(sp:Srt rk p)(hc:c<=u)(h:∀x∈(p.drop c).take (u -c),∀y∈q.take v,rk y<=rk x):HiI rk p q (o++((p.drop c).take (u -c)).reverse) c v:=by
 refine⟨?_, ?_,λx hx y hy=> ?_,λx hx y hy=> ?_⟩
 .have e:p.drop c++q.drop v=((p.drop c).take (u -c)++p.drop u)++q.drop v:=by rw[<-E0 hc]
  rw[e];refine(GbD.trans ?_);rw[Gaz];exact(List.reverse_perm _).append I.pm
 .rw[List.reverse_append,List.reverse_reverse];exact cI (fj (dh sp c) _) I.so λx hx y hy=>I.oa y (Gca.mp hy) x (DZ hc hx)
 .rcases GaQ.mp hx with hx|hx
  .exact I.oa x hx y (C3 hc hy)
  .exact pF sp c y hy x (Gbw (Gca.mp hx))
 .rcases GaQ.mp hx with hx|hx
  .exact I.ob x hx y hy
  .exact h x (Gca.mp hx) y hy
def HiI.swap(I:HiI rk p q o u v):HiI rk q p o v u:=⟨I.pm.trans GbD,I.so,I.ob,I.oa⟩
def HiI.KJ{p q:List Nat}(I:HiI rk p q o u v)(sq:Srt rk q)(hc:c<=v)(h:∀x∈(q.drop c).take (v -c),∀y∈p.take u,rk y<=rk x):HiI rk p q (o++((q.drop c).take (v -c)).reverse) u c:=(I.swap.we sq hc h).swap
def HiI.qf{q:List Nat}(I:HiI rk p q o u v)(sp:Srt rk p)(hu:0<u)(hx:p[u -1]? =U x)(h:∀y∈q.take v,rk y<=rk x):HiI rk p q (o++[x]) (u -1) v:=by
 have e:(p.drop (u -1)).take (u -(u -1))=[x]:=by rw[show u -(u -1)=1 by lia];exact take1 hx
 have:=I.we (c:=u -1) sp (by exact Gds ..) (by rw[e];intro z hz;simp at hz;subst hz;exact h);rw[e] at this;exact this
def HiI.uC{p:List Nat}(I:HiI rk p q o u v)(sq:Srt rk q)(hv:0<v)(hx:q[v -1]? =U x)(h:∀y∈p.take u,rk y<=rk x):HiI rk p q (o++[x]) u (v -1):=(I.swap.qf sq hv hx h).swap
def HiI.perm{p q o:List Nat}(I:HiI rk p q o u v):(p.take u++q.take v++o.reverse).Perm (p++q):=by
 refine(GcE _ ((List.reverse_perm _).trans I.pm)).trans ?_;have e:p++q=(p.take u++p.drop u)++(q.take v++q.drop v):=by rw[Gbn,Gbn]
 rw[e,Gaz,Gaz];refine GcE _ ?_;rw[<-Gaz,<-Gaz];exact Gby _ GbD
def HiI.done{rk:Nat->Int}{p:List Nat}{q:List Nat}{o:List Nat}{u:Nat}{v:Nat}(I:HiI rk p q o u v)(sp:Srt rk p)(sq:Srt rk q)(h:u=0\/v=0):(p.take u++q.take v++o.reverse).Perm (p++q)/\Srt rk (p.take u++q.take v++o.reverse):=by
 refine⟨I.perm, ?_⟩;rcases h with rfl|rfl
 .rw[List.take_zero,Gep];exact cI (fj sq v) I.so λx hx y hy=>I.ob y (Gca.mp hy) x hx
 .rw[List.take_zero,GbE];exact cI (fj sp u) I.so λx hx y hy=>I.oa y (Gca.mp hy) x hx
def HiI.first{q o:List Nat}(I:HiI rk p q o u v)(sp:Srt rk p)(h:v=1)(h0:∀x,q[0]? =U x->∀y∈p,rk x<=rk y):(q.take v++p.take u++o.reverse).Perm (p++q)/\Srt rk (q.take v++p.take u++o.reverse):=by
 refine⟨(Gby _ GbD).trans I.perm, ?_⟩;subst h;refine cI (cI ?_ (fj sp u) λx hx y hy=> ?_) I.so λx hx y hy=> ?_
 .cases q with
  |nil=>exact List.Pairwise.nil
  |cons z t=>exact Gcp _ _
 .cases q with
  |nil=>cases hx
  |cons z t=>
   have:x=z:=by simpa using hx
   subst this;exact h0 x rfl y (Gbw hy)
 .rcases GaQ.mp hx with hx|hx
  .exact I.ob y (Gca.mp hy) x hx
  .exact I.oa y (Gca.mp hy) x hx
section
variable{prog:Vn}{w:World}{A:Vm}{s:Vg}{st:SortSt}{Y:SortKind}{it:Array Keyed}{rk:Nat->Int}{a b:Array Keyed}{p q:List Nat}
theorem b7.take{a:Array Keyed}{p:List Nat}(R:b7 it a p)(n:Nat):b7 it (a.extract 0 n) (p.take n):=by
 have:=R.extract 0 n;rw[Gcs,Nat.sub_zero] at this;exact this
def l9{l:List Nat}(h:Srt rk l)(hx:l[n -1]? =U x)(hy:y∈l.take n):rk y<=rk x:=by
 obtain⟨k,hk⟩:=GbC.mp hy;have RZ:k<n:=by have:=(Gae.mp hk).1;simp at this;lia
 rw[Gbh RZ] at hk;exact pE h (by lia) hk hx
structure HiP(it:Array Keyed)(rk:Nat->Int)(p q:List Nat)(o:Array Keyed)(u v:Nat):Prop where
 ex:∃l,b7 it o l/\HiI rk p q l u v
 bu:0<u
 bv:1<v
 cu:u<=p.length
 cv:v<=q.length
structure HiX(prog:Vn)(w:World)(A:Vm)(s:Vg)(Y:SortKind)(it:Array Keyed)(rk:Nat->Int)(a b:Array Keyed)(p q:List Nat):Prop where
 hA:dW prog w A s Y it rk
 Ra:b7 it a p
 Rb:b7 it b q
 sp:Srt rk p
 sq:Srt rk q
 h0:∀x,q[0]? =U x->∀y∈p,rk x<=rk y
theorem HiX.done{o:Array Keyed}{l:List Nat}{u v:Nat}(X:HiX prog w A s Y it rk a b p q)(Ro:b7 it o l)(I:HiI rk p q l u v)(hh:u=0\/v=0):oT it rk p q (a.extract 0 u++b.extract 0 v++o.reverse):=
 ⟨_,((X.Ra.take _).append (X.Rb.take _)).append Ro.reverse,(I.done X.sp X.sq hh).1,(I.done X.sp X.sq hh).2⟩
theorem HiX.first{o:Array Keyed}(X:HiX prog w A s Y it rk a b p q)(Ro:b7 it o l)(I:HiI rk p q l u v)(hh:v=1):oT it rk p q (b.extract 0 v++a.extract 0 u++o.reverse):=
 ⟨_,((X.Rb.take _).append (X.Ra.take _)).append Ro.reverse,(I.first X.sp hh X.h0).1,(I.first X.sp hh X.h0).2⟩
def HiK(it:Array Keyed)(rk:Nat->Int)(p q:List Nat)(st:SortSt)(N:Nat){τ:Type}(c:Nat×Nat×Array Keyed×τ)(z:SortSt):Prop:=bJ st z/\HiP it rk p q c.2.2.1 c.1 c.2.1/\c.1+c.2.1<=N
abbrev HiF (it:Array Keyed) (rk:Nat->Int) (p q:List Nat) (st:SortSt) (UT N:Nat) {τ:Type}:ForInStep (Option (Array Keyed)×Nat×Nat×Array Keyed×τ)->SortSt->Prop:=FR (LoG it rk p q st) (HiK it rk p q st UT) (HiK it rk p q st N)
def gS{l:List Nat}(h:0<n)(h2:n<=l.length):∃x,l[n -1]? =U x:=⟨_,Gaa (by lia)⟩
def t6{τ:Type}{t:Nat×Nat×Array Keyed×τ}(X:HiX prog w A s Y it rk a b p q)(z:bJ s0 st)(Ro:b7 it o l)(I:HiI rk p q l u v)(hh:u=0\/v=0):wpS (model prog w) A E s (pure (.done (U (t5 a b o u v),t))) (HiF it rk p q s0 UT N) st:=GaD ⟨z,X.done Ro I hh⟩
def wm{τ:Type}{t:Nat×Nat×Array Keyed×τ}(X:HiX prog w A s Y it rk a b p q)(z:bJ s0 st)(Ro:b7 it o l)(I:HiI rk p q l u v)(hh:v=1):wpS (model prog w) A E s (pure (.done (U (DY a b o u v),t))) (HiF it rk p q s0 UT N) st:=GaD ⟨z,X.first Ro I hh⟩
def t7{τ:Type}{t' :τ}(z:bJ s0 st)(P:HiP it rk p q o u v)(h:u+v<=UT):wpS (model prog w) A E s (pure (.done (J,u,v,o,t'))) (HiF it rk p q s0 UT N) st:=GaD ⟨z,P,h⟩
def E1{τ:Type}{t' :τ}(z:bJ s0 st)(P:HiP it rk p q o u v)(h:u+v<=N):wpS (model prog w) A E s (pure (.yield (J,u,v,o,t'))) (HiF it rk p q s0 UT N) st:=GaD ⟨rfl,z,P,h⟩
def E2{o:Array Keyed}{l:List Nat}(X:HiX prog w A s Y it rk a b p q)(z:bJ s0 st)(Ro:b7 it o l)(I:HiI rk p q l u v)(bu:0<u)(bv:1<v)(cu:u<=p.length)(cv:v<=q.length)
  (hx:∀x,p[u -1]? =U x->∀y∈q.take v,rk y<=rk x)(hN:u+v<=N+1):wpS (model prog w) A E s (hiC a b mg ca cb o u v) (HiF it rk p q s0 N N) st:=by
 obtain⟨x,ex⟩:=gS bu cu;have I' :=I.qf X.sp bu ex (hx x ex);have xD :=Ro.push (X.Ra.lt ex);unfold hiC;refine Gan (bc X.Ra ex (aH (λe=> ?_) λe=> ?_))
 .exact t6 X z xD I' (.inl (Gas.mp e))
 have P:HiP it rk p q (o.push (kas_item it x)) (u -1) v:=⟨⟨_,xD,I'⟩,Gcg (aZ e),bv,by lia,cv⟩
 exact aH (λ_=>t7 z P (by lia)) λ_=>E1 z P (by lia)
def E3{o:Array Keyed}{l:List Nat}(X:HiX prog w A s Y it rk a b p q)(hk:kindOf st=Y)(z:bJ s0 st)(Ro:b7 it o l)(I:HiI rk p q l u v)(bu:0<u)(bv:1<v)(cu:u<=p.length)(cv:v<=q.length)
  (hx:∀x,q[v -1]? =U x->∀y∈p.take u,rk y<=rk x)(hN:u+v<=N+2):wpS (model prog w) A E s (hiB a b mg ca cb o u v) (HiF it rk p q s0 N N) st:=by
 obtain⟨y,ey⟩:=gS (GbT bv) cv;obtain⟨x,ex⟩:=gS bu cu;have I1:=I.uC X.sq (GbT bv) ey (hx y ey);have Ro1:=Ro.push (X.Rb.lt ey);unfold hiB;refine Gan (bc X.Rb ey (aH (λe=> ?_) λe=> ?_))
 .exact wm X z Ro1 I1 (Gas.mp e)
 have e' :=aZ e;refine Gan (bc X.Ra ex (Gan (o6 X.hA hk X.Rb (X.Ra.lt ex) (by lia) (by rw[Gcs];exact fj X.sq _) (by lia) λc zA t1 t2=> ?_)));rw[Gcs] at t1 t2;have t2' :∀z∈(q.drop c).take (v -1 -c),rk x<=rk z:=λz hz=>t2 z (by rw[Gdp];exact hz);have t1' :∀z∈q.take c,rk z<rk x:=λz hz=>t1 z (by rw[GcO,Gda zA];exact hz);have I2:=I1.KJ (c:=c) X.sq zA λz hz t ht=>by have:=t2' z hz;have:=l9 X.sp ex ht;lia
 have Ro2:=Ro1.append (X.Rb.extract c (v -1)).reverse;have hx2:∀z,p[u -1]? =U z->∀t∈q.take c,rk t<=rk z:=λz hz t ht=>by
  cases ex.symm.trans hz;exact Gbk (t1' t ht)
 refine aH (λg=>aH (λe=> ?_) λe=>aH (λe3=> ?_) λe3=> ?_) λg=> ?_
 .exact wm X z Ro2 I2 (Gas.mp e)
 .exact t6 X z Ro2 I2 (.inr (Gas.mp e3))
 .have e2:=aZ e;have e3:=aZ e3;exact E2 X z Ro2 I2 bu (by lia) cu (by lia) hx2 (by lia)
 .have k0:c=v -1:=by lia
  rw[k0] at hx2;exact E2 X z Ro1 I1 bu (by lia) cu (by lia) hx2 (by lia)
def KR{o:Array Keyed}(X:HiX prog w A s Y it rk a b p q)(hk:kindOf st=Y)(z:bJ s0 st)(P:HiP it rk p q o u v)(hN:u+v<=N+2):wpS (model prog w) A E s (hiA a b mg ca cb o u v) (HiF it rk p q s0 N N) st:=by
 obtain⟨⟨l,Ro,I⟩,bu,bv,cu,cv⟩:=P;unfold hiA;rw[mR];refine Gan (GcZ ?_);generalize hy:SortSt.mk' (kindOf st) (arrOf st) (pendingOf st) mg (failedOf st)=y at*;have sy:bJ st y:=by rw[<-hy];exact⟨rfl,rfl,rfl,rfl⟩
 clear hy;have hk:=sy.1.trans hk;have z:=z.trans sy;clear sy;obtain⟨y',ey⟩:=gS (GbT bv) cv;refine Gan (bc X.Rb ey (Gan (o6 X.hA hk X.Ra (X.Rb.lt ey) (by simp[*]) (by rw[Gcs];exact fj X.sp _) (by lia) λc zA t1 t2=> ?_)));rw[Gcs] at t1 t2;have t2' :∀z∈(p.drop c).take (u -c),rk y' <rk z:=λz hz=>t2 z (by rw[Gdp];exact hz);have t1' :∀z∈p.take c,rk z<=rk y' :=λz hz=>t1 z (by rw[GcO,Gda zA];exact hz);have I1:=I.we (c:=c) X.sp zA λz hz t ht=>by have:=t2' z hz;have:=l9 X.sq ey ht;lia
 have Ro1:=Ro.append (X.Ra.extract c u).reverse;have hx:∀z,q[v -1]? =U z->∀t∈p.take c,rk t<=rk z:=λz hz t ht=>by
  cases ey.symm.trans hz;exact t1' t ht
 refine aH (λg=>aH (λe=> ?_) λe=> ?_) λg=> ?_
 .exact t6 X z Ro1 I1 (.inl (Gas.mp e))
 .exact E3 X hk z Ro1 I1 (Gcg (aZ e)) bv (Gak zA cu) cv hx (by lia)
 .have k0:c=u:=by lia
  rw[k0] at hx;exact E3 X hk z Ro I bu bv cu cv hx hN
def KS(X:HiX prog w A s Y it rk a b p q)(hk:kindOf st=Y)(z:bJ s0 st)(P:HiP it rk p q o u v)(hN:u+v<=N+1):wpS (model prog w) A E s (hiS a b mg u v o ca cb) (HiF it rk p q s0 N N) st:=by
 obtain⟨⟨l,Ro,I⟩,bu,bv,cu,cv⟩:=P;obtain⟨y,hy⟩:=gS (GbT bv) cv;obtain⟨x,hx⟩:=gS bu cu;unfold hiS;refine Gan (bc X.Rb hy (Gan (bc X.Ra hx (Gan (uB X.hA hk (X.Rb.lt hy) (X.Ra.lt hx) (aH (λlt=> ?_) λlt=> ?_))))))
 .have lt:=Gay lt;have I' :=I.qf X.sp bu hx λt ht=>by have:=l9 X.sq hy ht;lia
  have xD :=Ro.push (X.Ra.lt hx);refine Gan (bc X.Ra hx (aH (λe=> ?_) λe=> ?_))
  .exact t6 X z xD I' (.inl (Gas.mp e))
  have P:HiP it rk p q (o.push (kas_item it x)) (u -1) v:=⟨⟨_,xD,I'⟩,Gcg (aZ e),bv,by lia,cv⟩
  exact aH (λ_=>t7 z P (by lia)) λ_=>E1 z P (by lia)
 .have lt:=GeC (GeG.mpr lt);have I' :=I.uC X.sq (GbT bv) hy λt ht=>by have:=l9 X.sp hx ht;lia
  have xD :=Ro.push (X.Rb.lt hy);refine Gan (bc X.Rb hy (aH (λe=> ?_) λe=> ?_))
  .exact wm X z xD I' (Gas.mp e)
  have e:=aZ e;have P:HiP it rk p q (o.push (kas_item it y)) u (v -1):=⟨⟨_,xD,I'⟩,bu,by lia,cu,by lia⟩
  exact aH (λ_=>t7 z P (by lia)) λ_=>E1 z P (by lia)
def HiK.mono{τ:Type}{c:Nat×Nat×Array Keyed×τ}{st:SortSt}(h:HiK it rk p q st UT c z)(e:UT<=N):HiK it rk p q st N c z:=⟨h.1,h.2.1,Gak h.2.2 e⟩
def O9{Q:Array Keyed->SortSt->Prop}(hA:dW prog w A s Y it rk)(hk:kindOf st=Y)(Ra:b7 it a p)(Rb:b7 it b q)(sp:Srt rk p)(sq:Srt rk q)(hp:0<p.length)(hq:0<q.length)
  (h0:∀x,q[0]? =U x->∀y∈p,rk x<=rk y)(hl:∀x,p[p.length -1]? =U x->∀y∈q,rk y<=rk x)(h:∀r z,bJ st z->oT it rk p q r->Q r z):wpS (model prog w) A E s (KP a b) Q st:=by
 have X:HiX prog w A s Y it rk a b p q:=⟨hA,Ra,Rb,sp,sq,h0⟩
 have xW:=Ra.size;have yt:=Rb.size;obtain⟨x0,yj⟩:=gS hp (GaN _);have I0:HiI rk p q [x0] (p.length -1) q.length:=by
  refine⟨?_,Gcp _ _,λx hx y hy=> ?_,λx hx y hy=> ?_⟩
  .have e:p.drop (p.length -1)=[x0]:=by rw[<-take1 yj,GbM (by simp;lia)]
   rw[GbS,GbE,e]
  .cases Gam.mp hx;exact l9 sp yj (by rw[Ged];exact Gbw hy)
  .cases Gam.mp hx;exact hl _ yj y (Gbw hy)
 have R0:b7 it #[kas_item it x0] [x0]:=⟨rfl,λj hj=>by cases Gam.mp hj;exact Ra.lt yj⟩
 rw[KQ,xW,yt];refine Gan (wpS_lift (Gct ⟨rfl,Gan (bc Ra yj (aH (λc1=> ?_) λc1=>aH (λc2=> ?_) λc2=> ?_))⟩))
 .exact GaD (h _ _ .refl (X.done R0 I0 (.inl (Gas.mp c1))))
 .exact GaD (h _ _ .refl (X.first R0 I0 (Gas.mp c2)))
 have c1:=aZ c1;have c2:=aZ c2;refine Gan (wpS_get (fk (λi c z=>i<=p.length+q.length/\HiK it rk p q st (p.length+q.length -i) c z) (LoG it rk p q st) (λ_ _=>False) ⟨Gbm _,.refl,⟨⟨_,R0,I0⟩,Gcg c1,Nat.lt_of_le_of_ne hq (Gbg c2),Gds ..,GaN _⟩,Nat.add_le_add_right (Gds ..) _⟩ (λi c z hi K=> ?_) (λc z K=> ?_) (λr t z g=>GaD (h r z g.1 g.2)) λ_ _ z=>z.elim))
 .obtain⟨ki,K⟩:=K;have big:∀{τ:Type} {d:Nat×Nat×Array Keyed×τ} {y:SortSt} {N:Nat},HiK it rk p q st N d y->3<=N:=λh=>Gak (Nat.add_le_add h.2.1.bu h.2.1.bv) h.2.2;refine fk (λj c z=>HiK it rk p q st (p.length+q.length -i -j) c z) (LoG it rk p q st) (HiK it rk p q st (p.length+q.length -i -1)) K (λj d y hj L=> ?_) (λd y L=>absurd (big L) (by rw[xW,yt,Nat.sub_eq_zero_of_le (Gds ..)];decide)) (λr t z g=>GaD g) λd y L=> ?_
  .refine Gdd (KS X (L.1.1.trans hk) L.1 L.2.1 (N:=p.length+q.length -i -(j+1)) (Gak L.2.2 (Nat.le_add_of_sub_le (GaN _)))) λr z hr=> ?_;cases r with
   |yield r=>exact hr
   |done r=>
    obtain⟨_|r,d⟩:=r
    .exact HiK.mono hr (Nat.sub_le_sub_left (Nat.le_add_left ..) _)
    .exact hr
  .refine Gan (wpS_lift (Gct ⟨rfl,fk (λj c z=>HiK it rk p q st (p.length+q.length -i -1 -j) c z) (LoG it rk p q st) (HiK it rk p q st (p.length+q.length -i -1)) L (λj e y hj L=> ?_) (λd y L=>absurd (big L) (by rw[xW,yt,Nat.sub_eq_zero_of_le (Gak (Gds ..) (Gds ..))];decide)) (λr t z g=>GaD g) λe y L=> ?_⟩))
   .have go:∀g,wpS (model prog w) A E s (hiA a b g e.2.2.2.2.1 e.2.2.2.2.2 e.2.2.1 e.1 e.2.1) (FR (LoG it rk p q st) (HiK it rk p q st (p.length+q.length -i -1)) (HiK it rk p q st (p.length+q.length -i -1 -(j+1)))) y:=λg=>by
     refine Gdd (KR X (L.1.1.trans hk) L.1 L.2.1 (N:=p.length+q.length -i -1 -(j+1)) (Gak L.2.2 (GeF (Nat.le_add_of_sub_le (GaN _))))) λr z hr=> ?_;cases r with
     |yield r=>exact hr
     |done r=>
      obtain⟨_|r,d⟩:=r
      .exact HiK.mono hr (Gds ..)
      .exact hr
    unfold hiG;exact aH (λ_=>go _) λ_=>go _
   .show wpS _ _ _ _ (qe _>>=λ_=>_) _ _;rw[mR];exact Gan (GcZ (GaD ⟨rfl,Nat.succ_le_of_lt hi,L.1.trans ⟨rfl,rfl,rfl,rfl⟩,L.2.1,L.2.2⟩))
 .have:=K.2.2.1.bu;have e:=K.2.2.2;rw[GeM] at e;exact absurd this (Nat.not_lt.mpr (Gak (Gee ..) e))
end
open PySem.W (kas_item kas_swaps_map)
abbrev KU:=Option (Option Nat)×Nat
abbrev KV:=Option (Option Nat)×Nat×Nat
def He(lo a eD:Nat):SM KU:=forIn [a:eD] ((J,a):KU) λ_ z=>do
 let x<-ltAt' (lo+z.2) (lo+z.2 -1)
 match x with
 |some c=>if c=O then pure (.done (J,z.2)) else pure (.yield (J,z.2+1))
 |_=>pure (.done (U J,z.2))
def AD(lo n eD:Nat):SM (Option Nat):=do
 reverseSlice' lo (lo+n)
 let z<-He lo n eD
 match z.1 with
 |some r=>pure r
 |none=>pure (U z.2)
def AE(lo n eD:Nat):SM KV:=forIn [n:eD] ((J,n,0):KV) λ_ z=>do
 let x<-ltAt' (lo+z.2.1) (lo+z.2.1 -1)
 match x with
 |some c=>
  if c=O then
   if z.2.2>0 then do
    reverseSlice' (lo+z.2.1 -(z.2.2+1)) (lo+z.2.1)
    pure (.yield (J,z.2.1+1,0))
   else pure (.yield (J,z.2.1+1,0))
  else do
   let y<-ltAt' (lo+z.2.1 -1) (lo+z.2.1)
   match y with
   |some d=>if d=O then pure (.done (J,z.2.1,z.2.2)) else pure (.yield (J,z.2.1+1,z.2.2+1))
   |_=>pure (.done (U J,z.2.1,z.2.2))
 |_=>pure (.done (U J,z.2.1,z.2.2))
def t8(lo n eD:Nat):SM (Option Nat):=do
 rule "list.sort.descending-run"
 let z<-AE lo (n+1) eD
 match z.1 with
 |some r=>pure r
 |none=>
  if z.2.2>0 then
   reverseSlice' (lo+z.2.1 -(z.2.2+1)) (lo+z.2.1)
   AD lo z.2.1 eD
  else AD lo z.2.1 eD
def KW(lo eD:Nat):SM (Option Nat):=do
 let z<-He lo 1 eD
 match z.1 with
 |some r=>pure r
 |none=>
  if(z.2==eD)=O then pure (U z.2)
  else if z.2>1 then
   let x<-ltAt' lo (lo+z.2 -1)
   match x with
   |some c=>
    if c=O then pure (U z.2)
    else
     reverseSlice' lo (lo+z.2)
     t8 lo z.2 eD
   |_=>pure J
  else t8 lo z.2 eD
def tc(lo eD:Nat):countRun' lo eD=KW lo eD:=by
 rw[countRun'_eq];dsimp only;unfold KW t8 AD AE He;refine congrArg _ (funext λz=> ?_);obtain⟨r,n⟩:=z;cases r with
 |some r=>rfl
 |none=>
  dsimp only;split
  .rfl
  .split
   .congr 1
    funext x
    cases x with
    |none=>rfl
    |some c=>
     dsimp only;split
     .rfl
     .congr 1
      funext _r
      congr 1
      funext _u
      congr 1;congr 1
      funext z2
      obtain⟨r2,n2,q2⟩:=z2;cases r2 with
      |some r2=>rfl
      |none=>
       dsimp only;split
       .congr 1
        funext _v
        congr 1
        funext _w
        congr 1
        funext z3
        obtain⟨r3,n3⟩:=z3;cases r3<;>rfl
       .congr 1
        funext _w
        congr 1
        funext z3
        obtain⟨r3,n3⟩:=z3;cases r3<;>rfl
   .congr 1
    funext _u
    congr 1;congr 1
    funext z2
    obtain⟨r2,n2,q2⟩:=z2;cases r2 with
    |some r2=>rfl
    |none=>
     dsimp only;split
     .congr 1
      funext _v
      congr 1
      funext _w
      congr 1
      funext z3
      obtain⟨r3,n3⟩:=z3;cases r3<;>rfl
     .congr 1
      funext _w
      congr 1
      funext z3
      obtain⟨r3,n3⟩:=z3;cases r3<;>rfl
structure SS(Y:SortKind)(it:Array Keyed)(z:SortSt)(p:Array Nat):Prop where
 kind:kindOf z=Y
 arr:arrOf z=p.map (kas_item it)
 fail:failedOf z=J
 ok:∀i∈p.toList,i<it.size
def k6(z z' :SortSt):Prop:=pendingOf z' =pendingOf z
def Rk(rk:Nat->Int)(p:Array Nat)(i:Nat):Int:=rk (p.getD i 0)
def Up'(rk:Nat->Int)(p:Array Nat)(lo hi:Nat):Prop:=∀u v,lo<=u->u<=v->v<hi->Rk rk p u<=Rk rk p v
def Dn'(rk:Nat->Int)(p:Array Nat)(lo hi:Nat):Prop:=∀u v,lo<=u->u<=v->v<hi->Rk rk p v<=Rk rk p u
structure Ag(lo hi:Nat)(p p' :Array Nat):Prop where
 perm:p'.Perm p
 out:∀k,k<lo\/hi<=k->p'[k]? =p[k]?
theorem Ag.refl{lo:Nat}:Ag lo hi p p:=⟨Array.Perm.refl _,λ_ _=>rfl⟩
theorem Ag.trans{lo:Nat}{r:Array Nat}(a:Ag lo hi p q)(b:Ag lo hi q r):Ag lo hi p r:=⟨b.perm.trans a.perm,λk h=>(b.out k h).trans (a.out k h)⟩
theorem Ag.size{lo:Nat}{p q:Array Nat}(a:Ag lo hi p q):q.size=p.size:=by
 have:=a.perm.toList.length_eq
 simpa using this
section
variable{lo:Nat}
def Ag.mono(a:Ag lo hi p q)(h:hi<=eV):Ag lo eV p q:=⟨a.perm,λk z=>a.out k (by lia)⟩
theorem Ag.rk{rk:Nat->Int}{lo k:Nat}(a:Ag lo hi p q)(h:k<lo\/hi<=k):Rk rk q k=Rk rk p k:=by
 unfold Rk;have:=a.out k h;simp_all
def lh{p:Array Nat}(h:hi<=p.size):Ag lo hi p (mirror p lo hi ((hi -lo)/2)):=⟨mirror_perm _ _ _ _,λk z=>by
 rw[getElem?_mirror_all h,Gaw (by lia)]⟩
def o7{p:Array Nat}(h:j<=p.size):Rk rk (mirror p i j ((j -i)/2)) k=if i<=k/\k<j then Rk rk p (i+j -1 -k) else Rk rk p k:=by
 simp only[Rk,Array.getD_eq_getD_getElem?,getElem?_mirror_all h];split<;>rfl
def fq{p:Array Nat}(h:j<=p.size)(e:∀u,i<=u->u<j->Rk rk p u=Rk rk p (j -1)):Rk rk (mirror p i j ((j -i)/2)) k=Rk rk p k:=by
 rw[o7 h]
 grind
section
def SS.rep{st:SortSt}{p:Array Nat}(S:SS Y it st p):b7 it (arrOf st) p.toList:=⟨by rw[S.arr];apply Gea.mp;simp,S.ok⟩
def SS.move{st:SortSt}{p' :Array Nat}(S:SS Y it st p)(pm:p'.Perm p)(e:xs=p'.map (kas_item it)):SS Y it (setArr st xs) p' :=⟨S.kind,e,S.fail,λi hi=>S.ok i (by
 have:=pm.toList.mem_iff (a:=i);exact this.mp hi)⟩
def wp_at{prog:Vn}{w:World}{st:SortSt}{rk:Nat->Int}{p:Array Nat}{Q:Option Bool->SortSt->Prop}(hA:dW prog w A s Y it rk)(S:SS Y it st p)(hi:i<p.size)(hj:j<p.size)(h:Q (U (decide (Rk rk p i<Rk rk p j))) st):wpS (model prog w) A E s (ltAt' i j) Q st:=by
 refine Gan (wpS_get ?_);have gi:p.toList[i]? =U (p.getD i 0):=by simp[hi]
 have gj:p.toList[j]? =U (p.getD j 0):=by simp[hj]
 exact Gan (bc S.rep gi (Gan (bc S.rep gj (uB hA S.kind (S.rep.lt gi) (S.rep.lt gj) h))))
def tf{prog:Vn}{w:World}{st:SortSt}{Q:Unit->SortSt->Prop}(S:SS Y it st p)(h:∀z,SS Y it z (mirror p i j ((j -i)/2))->k6 st z->Q () z):wpS (model prog w) A E s (reverseSlice' i j) Q st:=by
 rw[reverseSlice'_eq];refine GcZ (h _ (S.move (mirror_perm _ _ _ _) ?_) rfl);rw[S.arr];exact kas_swaps_map _ _ _ _ p
variable{lo eD:Nat}
def AF{prog:Vn}{w:World}{E:VSP}{st:SortSt}{it:Array Keyed}{rk:Nat->Int}{p:Array Nat}{a:Nat}{Q:KU->SortSt->Prop}(hA:dW prog w A s Y it rk)(S:SS Y it st p)(h1:1<=a)(ha:a<=eD)(hz:lo+eD<=p.size)(hu:Up' rk p lo (lo+a))
  (h:∀m,a<=m->m<=eD->Up' rk p lo (lo+m)->(m=eD\/Rk rk p (lo+m)<Rk rk p (lo+m -1))->Q (J,m) st):wpS (model prog w) A E s (He lo a eD) Q st:=by
 refine GcR (I:=λx c z=>z=st/\c=(J,x)/\Up' rk p lo (lo+x)) ?step ?fin ⟨rfl,rfl,hu⟩
 case fin=>
  simp_all
 case step=>
  rintro x c z h2 h3 ⟨rfl,rfl,q⟩;refine Gan (wp_at hA S (by lia) (by lia) ?_);by_cases lt:Rk rk p (lo+x)<Rk rk p (lo+x -1)
  .rw[GaI lt];exact GaD (h x h2 (by exact GaJ ‹_›) q (.inr lt))
  .rw[GaR lt];refine GaD ⟨rfl,rfl,λu v a1 a2 a3=> ?_⟩;by_cases hv:v<lo+x
   .exact q u v a1 a2 hv
   .have e:v=lo+x:=by lia
    subst e;by_cases hu:u=lo+x
    .simp_all
    .have:=q u (lo+x -1) a1 (by lia) (by lia);lia
variable{n:Nat}
def uD{prog:Vn}{w:World}{A:Vm}{E:VSP}{s:Vg}{st:SortSt}{Y:SortKind}{it:Array Keyed}{rk:Nat->Int}{p:Array Nat}{Q:Option Nat->SortSt->Prop}(hA:dW prog w A s Y it rk)(S:SS Y it st p)(h1:1<=n)(hn:n<=eD)(hz:lo+eD<=p.size)(hd:Dn' rk p lo (lo+n))
  (h:∀m z p',SS Y it z p' ->k6 st z->Ag lo (lo+eD) p p' ->1<=m->m<=eD->Up' rk p' lo (lo+m)->Q (U m) z):wpS (model prog w) A E s (AD lo n eD) Q st:=by
 refine Gan (tf S λz S' hp=> ?_);have ag:Ag lo _ p (mirror p lo _ ((lo+n -lo)/2)):=lh (by lia);refine Gan (AF hA S' h1 hn (by rw[ag.size];exact hz) (λu v a1 a2 a3=> ?_) λm m1 m2 m3 _=> ?_)
 .rw[o7 (by lia),o7 (by lia),Gar (by lia),Gar (by lia)];exact hd _ _ (by lia) (by lia) (by lia)
 .exact GaD (h m z _ S' hp (ag.mono (by simp_all)) (by exact Gak ‹_› ‹_›) m2 m3)
def E4{prog:Vn}{w:World}{A:Vm}{E:VSP}{s:Vg}{st:SortSt}{Y:SortKind}{it:Array Keyed}{rk:Nat->Int}{p:Array Nat}{Q:KV->SortSt->Prop}(hA:dW prog w A s Y it rk)(S:SS Y it st p)(h1:1<=n)(hn:n<=eD)(hz:lo+eD<=p.size)(hd:Dn' rk p lo (lo+n))
  (h:∀m e z p',SS Y it z p' ->k6 st z->Ag lo (lo+eD) p p' ->n<=m->m<=eD->Dn' rk p' lo (lo+m)->e+1<=m->(∀u,lo+m -(e+1)<=u->u<lo+m->Rk rk p' u=Rk rk p' (lo+m -1))->Q (J,m,e) z):wpS (model prog w) A E s (AE lo n eD) Q st:=by
 unfold AE;refine GcR (I:=λx c z=>∃e p',c=(J,x,e)/\SS Y it z p' /\k6 st z/\Ag lo (lo+eD) p p' /\Dn' rk p' lo (lo+x)/\e+1<=x/\(∀u,lo+x -(e+1)<=u->u<lo+x->Rk rk p' u=Rk rk p' (lo+x -1))) ?step ?fin
  ⟨0,p,rfl,S,rfl,.refl,hd,by assumption,λu a1 a2=>by rw[show u=lo+n -1 by lia]⟩
 case fin=>
  rintro c z ⟨e,p',rfl,S',hp,ag,d,e1,e2⟩;rw[show max n eD=eD by simp[*]] at d e1 e2⊢;exact h eD e z p' S' hp ag hn (GaN _) d e1 e2
 case step=>
  rintro x c z h2 h3 ⟨e,p',rfl,S',hp,ag,d,e1,e2⟩;have sz:=ag.size;dsimp only;refine Gan (wp_at hA S' (by lia) (by lia) ?_);dsimp only;by_cases lt:Rk rk p' (lo+x)<Rk rk p' (lo+x -1)
  .rw[GaI lt];simp only[Gdm];have dn:∀r:Array Nat,(∀k,Rk rk r k=Rk rk p' k)->Dn' rk r lo (lo+(x+1)):=λr hr u v a1 a2 a3=>by
    rw[hr,hr];by_cases hv:v<lo+x
    .exact d u v a1 a2 hv
    .have ev:v=lo+x:=by lia
     subst ev;by_cases hu:u=lo+x
     .subst hu;exact Gcu _
     .have:=d u (lo+x -1) a1 (by lia) (by lia);lia
   by_cases g:e>0
   .rw[Gar g];refine Gan (tf S' λz' S2 xq=>GaD ⟨0,_,rfl,S2,xq.trans hp,ag.trans ?_,dn _ λk=>fq (by lia) e2,by exact Nat.le_add_left ..,λu a1 a2=>by rw[show u=lo+(x+1)-1 by lia]⟩);have am:Ag (lo+x -(e+1)) (lo+x) p' (mirror p' (lo+x -(e+1)) (lo+x) ((lo+x -(lo+x -(e+1)))/2)):=lh (by lia);exact⟨am.perm,λk hk=>am.out k (by lia)⟩
   .rw[Gaw g];exact GaD ⟨0,p',rfl,S',hp,ag,dn p' λ_=>rfl,by exact Nat.le_add_left ..,λu a1 a2=>by rw[show u=lo+(x+1)-1 by lia]⟩
  .rw[GaR lt];simp only[Gcy,if_false];refine Gan (wp_at hA S' (by lia) (by lia) ?_);dsimp only;by_cases gt:Rk rk p' (lo+x -1)<Rk rk p' (lo+x)
   .rw[GaI gt];simp only[Gdm];exact GaD (h x e z p' S' hp ag h2 (by exact GaJ ‹_›) d e1 e2)
   .rw[GaR gt];simp only[Gcy,if_false];have eq:Rk rk p' (lo+x)=Rk rk p' (lo+x -1):=by lia
    refine GaD ⟨e+1,p',rfl,S',hp,ag,λu v a1 a2 a3=> ?_,by exact GbI ‹_› _,λu a1 a2=> ?_⟩
    .by_cases hv:v<lo+x
     .exact d u v a1 a2 hv
     .have ev:v=lo+x:=by lia
      subst ev;by_cases hu:u=lo+x
      .subst hu;exact Gcu _
      .have:=d u (lo+x -1) a1 (by lia) (by lia)
       (simp[*])
    .rw[show lo+(x+1)-1=lo+x by rfl,eq];by_cases hu:u=lo+x
     .subst hu;exact eq
     .exact e2 u (by simp_all+arith) (by lia)
def rL{prog:Vn}{w:World}{A:Vm}{E:VSP}{s:Vg}{st:SortSt}{Y:SortKind}{it:Array Keyed}{rk:Nat->Int}{p:Array Nat}{Q:Option Nat->SortSt->Prop}(hA:dW prog w A s Y it rk)(S:SS Y it st p)(h1:1<=n)(hn:n+1<=eD)(hz:lo+eD<=p.size)(hd:Dn' rk p lo (lo+(n+1)))
  (h:∀m z p',SS Y it z p' ->k6 st z->Ag lo (lo+eD) p p' ->1<=m->m<=eD->Up' rk p' lo (lo+m)->Q (U m) z):wpS (model prog w) A E s (t8 lo n eD) Q st:=by
 refine Gan (wpS_lift (Gct ⟨rfl,(Gan (E4 hA S (by simp) hn hz hd λm e z p' S' hp ag m1 m2 d e1 e2=> ?_))⟩));have sz:=ag.size;by_cases g:e>0
 .rw[Gar g];refine Gan (tf S' λz2 S2 xq=> ?_);have am:Ag _ _ p' (mirror p' _ _ ((lo+m -(lo+m -(e+1)))/2)):=lh (by lia);refine uD hA S2 (by exact GeH ‹_›) m2 (by rw[am.size];simp[*]) (λu v a1 a2 a3=> ?_) λm' z3 p3 S3 yD QJ=>h m' z3 p3 S3 ((yD.trans xq).trans hp) ((ag.trans (⟨am.perm,λk hk=>am.out k (by lia)⟩)).trans QJ);rw[fq (by lia) e2,fq (by lia) e2];exact d u v a1 a2 a3
 .rw[Gaw g];exact uD hA S' (by exact GeH ‹_›) m2 (by simp[*]) d λm' z3 p3 S3 yD QJ=>h m' z3 p3 S3 (yD.trans hp) (ag.trans QJ)
def E5{prog:Vn}{w:World}{A:Vm}{E:VSP}{s:Vg}{st:SortSt}{Y:SortKind}{it:Array Keyed}{rk:Nat->Int}{p:Array Nat}{Q:Option Nat->SortSt->Prop}(hA:dW prog w A s Y it rk)(S:SS Y it st p)(h1:1<=eD)(hz:lo+eD<=p.size)
  (h:∀m z p',SS Y it z p' ->k6 st z->Ag lo (lo+eD) p p' ->1<=m->m<=eD->Up' rk p' lo (lo+m)->Q (U m) z):wpS (model prog w) A E s (countRun' lo eD) Q st:=by
 rw[tc];unfold KW;refine Gan (AF hA S (GaN _) h1 hz (λu v a1 a2 a3=>by rw[show u=v by lia];exact Gcu _) λn n1 n2 up stop=> ?_);dsimp only;by_cases c1:(n==eD)=O
 .rw[Gar c1];exact GaD (h n st p S rfl .refl n1 n2 up)
 rw[Gaw c1];have lt:Rk rk p _<Rk rk p _:=stop.resolve_left (by simp_all);by_cases c2:n>1
 .rw[Gar c2];refine Gan (wp_at hA S (by lia) (by lia) ?_);by_cases ro:Rk rk p lo<Rk rk p (lo+n -1)
  .rw[GaI ro];exact GaD (h n st p S rfl .refl n1 n2 up)
  .rw[GaR ro];have eq:∀u,lo<=u->u<lo+n->Rk rk p u=Rk rk p (lo+n -1):=λu a1 a2=>by
    have b1:=up lo u (GaN _) a1 a2;have b2:=up u (lo+n -1) a1 (by lia) (by lia);lia
   refine Gan (tf S λz S' hp=> ?_);have am:Ag lo _ p (mirror p lo _ ((lo+n -lo)/2)):=lh (by lia);refine rL hA S' n1 (by lia) (by rw[am.size];exact hz) (λu v a1 a2 a3=> ?_) λm' z3 p3 S3 yD QJ=>h m' z3 p3 S3 (yD.trans hp) ((am.mono (by exact Gex ‹_› _)).trans QJ);rw[fq (by lia) eq,fq (by lia) eq];by_cases hv:v<lo+n
   .rw[eq u a1 (by exact GaG ‹_› ‹_›),eq v (by exact Gak ‹_› ‹_›) hv];exact Gcu _
   .rw[show v=lo+n by lia];by_cases hu:u=lo+n
    .subst hu;exact Gcu _
    .rw[eq u a1 (by lia)];exact Gbk ‹_›
 .have QO :n=1:=by lia
  subst QO;refine rL hA S (GaN _) (by lia) hz (λu v a1 a2 a3=> ?_) h;by_cases e1:u=v
  .subst e1;exact Gcu _
  .rw[show v=lo+1 by lia,show u=lo+1 -1 by lia];exact Gbk ‹_›
end
end
def rM{p:Array Nat}(h:src<p.size)(hd:d<=src):Rk rk (bubble p src d) k=if k=src -d then Rk rk p src else if src -d<k/\k<=src then Rk rk p (k -1) else Rk rk p k:=by
 simp only[Rk,Array.getD_eq_getD_getElem?,getElem?_bubble h d hd];split
 .rfl
 .split<;>rfl
def Hf{prog:Vn}{w:World}{st:SortSt}{Q:Unit->SortSt->Prop}(S:SS Y it st p)(h:∀z,SS Y it z (bubble p src (src -dst))->k6 st z->Q () z):wpS (model prog w) A E s (moveDown' src dst) Q st:=by
 rw[moveDown'_eq];refine GcZ (h _ (S.move (bubble_perm _ _ _) ?_) rfl);rw[S.arr];exact kas_swaps_map _ _ _ _ p
def Oa(h:l<r):l<=(l+r)/2/\(l+r)/2<r:=by lia
def KY{prog:Vn}{w:World}{A:Vm}{E:VSP}{s:Vg}{st:SortSt}{Y:SortKind}{it:Array Keyed}{rk:Nat->Int}{p:Array Nat}{lo n ok:Nat}{Q:Bool->SortSt->Prop}(hA:dW prog w A s Y it rk)(S:SS Y it st p)(hz:lo+n<=p.size)(h1:1<=ok)(xA:ok<=n)(hu:Up' rk p lo (lo+ok))
  (h:∀z p',SS Y it z p' ->k6 st z->Ag lo (lo+n) p p' ->Up' rk p' lo (lo+n)->Q O z):wpS (model prog w) A E s (binarySort' lo n ok) Q st:=by
 rw[binarySort'_eq];refine Gan (Gdd (GcR (I:=λk c z=>∃p',c=_/\SS Y it z p' /\k6 st z/\Ag lo (lo+n) p p' /\Up' rk p' lo (lo+k))
  (Q:=λc z=>∃p',c=(J,())/\SS Y it z p' /\k6 st z/\Ag lo (lo+n) p p' /\Up' rk p' lo (lo+n)) ?step ?fin ⟨p,rfl,S,rfl,.refl,by rw[show max ok 1=ok by simp[*]];exact hu⟩) ?post)
 case post=>
  rintro c z ⟨p',rfl,S',hp,ag,up⟩;exact GaD (h z p' S' hp ag up)
 case fin=>
  rintro c z ⟨p',rfl,S',hp,ag,up⟩;rw[show max _ n=n by simp[*]] at up;exact⟨p',rfl,S',hp,ag,up⟩
 case step=>
  rintro k c z k1 k2 ⟨p',rfl,S',hp,ag,up⟩;have sz:=ag.size;refine Gan (Gdd (GcR (I:=λi c z' =>z' =z/\∃l r,c=(J,l,r)/\l<=r/\r<=k/\r -l<=k -i/\(∀u,u<l->Rk rk p' (lo+u)<=Rk rk p' (lo+k))/\(∀u,r<=u->u<k->Rk rk p' (lo+k)<=Rk rk p' (lo+u)))
   (Q:=λc z' =>z' =z/\∃l,c=(J,l,l)/\l<=k/\(∀u,u<l->Rk rk p' (lo+u)<=Rk rk p' (lo+k))/\(∀u,l<=u->u<k->Rk rk p' (lo+k)<=Rk rk p' (lo+u))) ?s1 ?f1 ⟨rfl,0,k,rfl,by simp,by simp,by simp,λu hu=>by simp_all,λu a1 a2=>by lia⟩) ?p1)
  case f1=>
   rintro c z' ⟨rfl,l,r,rfl,q1,q2,q3,q4,q5⟩;have:l=r:=by lia
   subst this;exact⟨rfl,l,rfl,q2,q4,q5⟩
  case s1=>
   rintro i c z' _ hi ⟨rfl,l,r,rfl,q1,q2,q3,q4,q5⟩;dsimp only;by_cases g:l>=r
   .rw[Gar g];have:l=r:=by lia
    subst this;exact GaD ⟨rfl,l,rfl,q2,q4,q5⟩
   rw[Gaw g];obtain⟨m1,m2⟩:=Oa (Nat.lt_of_not_le g);generalize (l+r)/2=md at*;have m3:md<k:=Gcz m2 q2;refine Gan (wp_at hA S' (by lia) (by lia) ?_);by_cases lt:Rk rk p' (lo+k)<Rk rk p' (lo+md)
   .rw[GaI lt];simp only[Gdm];refine GaD ⟨rfl,l,md,rfl,by lia,by lia,by lia,q4,λu a1 a2=> ?_⟩;have:=up (lo+md) (lo+u) (by simp) (by simp[*]) (by exact Gex ‹_› _);lia
   .rw[GaR lt];simp only[Gcy,if_false];refine GaD ⟨rfl,md+1,r,rfl,by lia,by simp[*],by lia,λu a1=> ?_,q5⟩;have:=up (lo+u) (lo+md) (by simp) (by simp_all+arith) (by lia);lia
  case p1=>
   rintro c z' ⟨rfl,l,rfl,l1,l2,l3⟩;refine Gan (Hf S' λz2 S2 xq=>GaD ⟨_,rfl,S2,xq.trans hp,ag.trans ⟨bubble_perm _ _ _,λj hj=> ?_⟩,λu v a1 a2 a3=> ?_⟩)
   .rw[getElem?_bubble (by lia) _ (by simp),Gaw (by lia),Gaw (by lia)]
   .rw[rM (by lia) (by simp),rM (by lia) (by simp)];have e:lo+k -(lo+k -(lo+l))=lo+l:=by lia
    rw[e];by_cases u1:u=lo+l
    .rw[Gar u1];by_cases v1:v=lo+l
     .rw[Gar v1];exact Gcu _
     .rw[Gaw v1,Gar (by lia)];have:=l3 (v -1 -lo) (by lia) (by lia)
      rwa[show lo+(v -1 -lo)=v -1 by lia] at this
    .rw[Gaw u1];by_cases u2:lo+l<u/\u<=lo+k
     .rw[Gar u2,Gaw (by lia),Gar (by lia)];exact up _ _ (by lia) (by lia) (by lia)
     .rw[Gaw u2];by_cases v1:v=lo+l
      .rw[Gar v1];have:=l2 (u -lo) (by lia)
       rwa[show lo+(u -lo)=u by simp[*]] at this
      .rw[Gaw v1];by_cases v2:lo+l<v/\v<=lo+k
       .rw[Gar v2];exact up _ _ (by simp[*]) (by lia) (by lia)
       .rw[Gaw v2];exact up _ _ a1 a2 (by lia)
def KZ{p:Array Nat}(h:p.toList[k]? =U x):Rk rk p k=rk x:=by
 simp_all[Rk]
def tm{rk:Nat->Int}{p:Array Nat}{lo n:Nat}(hz:lo+n<=p.size):Up' rk p lo (lo+n)↔Srt rk ((p.toList.drop lo).take n):=by
 have len:((p.toList.drop lo).take n).length=n:=by simp;lia
 have at_:∀u,u<n->∃x,_[u]? =U x/\Rk rk p _=rk x:=λu hu=>by
  have h1:u<((p.toList.drop lo).take n).length:=by rw[len];exact hu
  refine⟨_[u],Gaa h1, ?_⟩;have:=Gaa h1;rw[Gbh hu,Gbf] at this;exact KZ this
 constructor
 .intro h;unfold Srt;rw[Gch];intro i j hi hj zf;rw[len] at hi hj;obtain⟨x,e1,e2⟩:=at_ i hi;obtain⟨y,e3,e4⟩:=at_ j hj;obtain⟨_,e5⟩:=Gae.mp e1;obtain⟨_,e6⟩:=Gae.mp e3;rw[e5,e6,<-e2,<-e4];exact h _ _ (by simp) (by lia) (by simp[*])
 .intro h u v a1 a2 a3;obtain⟨x,e1,e2⟩:=at_ (u -lo) (by lia);obtain⟨y,e3,e4⟩:=at_ (v -lo) (by lia);rw[show lo+_=u by simp[*]] at e2;rw[show lo+_=v by lia] at e4;rw[e2,e4];exact pE h (by lia) e1 e3
theorem uE{α:Type}(c:Nat):∀(m:List α) (n:Nat) (a:Array α),c+n+m.length<=a.size->((m.zipIdx n).foldl (λa (x:α×Nat)=>a.setIfInBounds (c+x.2) x.1) a).toList=a.toList.take (c+n)++m++a.toList.drop (c+n+m.length)
 |[],n,a,_=>by simp
 |x::m,n,a,h=>by
  rw[List.zipIdx_cons,Gcl];simp only[GaC] at h;rw[uE c m _ _ (by rw[Array.size_setIfInBounds];simp_all+arith),Array.toList_setIfInBounds];have e1:(a.toList.set (c+n) x).take (c+(n+1))=a.toList.take (c+n)++[x]:=by
   rw[show c+_=c+n+1 by rfl,List.take_succ,List.take_set_of_le (GaN _),Gau (by simp;lia)]
   rfl
  have e2:(a.toList.set (c+n) x).drop (c+(n+1)+m.length)=a.toList.drop (c+n+(x::m).length):=by
   rw[List.drop_set_of_lt (by exact Gee ..)];simp+arith
  rw[e1,e2];simp
def Hg{UT:Model}{A:Vm}{E:VSP}{s:Vg}{Z:Type}{x st:Z}{Q:PUnit->Z->Prop}(h:Q ⟨⟩ x):wpS UT A E s (set x:StateT Z Sem PUnit) Q st:=by
 exact Gao ⟨rfl,h⟩
def Hh(i:Nat):mergeAt' i=(do
 let z<-get
 let(U (sa,na,w0),U (sb,nb,_)):=((pendingOf z)[i]?,(pendingOf z)[i+1]?)|unsupported "internal:list.sort.pending"
 set (setPending z (((pendingOf z).setIfInBounds i (sa,na+nb,w0)).eraseIdxIfInBounds (i+1)))
 let U k<-oS M (<-elem' (arrOf z) sb) (arrOf z) sa na 0|return M
 let(sc,nc):=(sa+k,na -k)
 if nc==0 then return O
 let U nd<-oS O (<-elem' (arrOf z) (sc+nc -1)) (arrOf z) sb nb (nb -1)|return M
 if nd==0 then return O
 let x:=(arrOf z).extract sc sb
 let y:=(arrOf z).extract sb (sb+nd)
 let mm<-if nc<=nd then KH x y else KP x y
 modify λz=>setArr z (mm.toList.zipIdx.foldl (λa (q,j)=>a.setIfInBounds (sc+j) q) (arrOf z))
 return(failedOf (<-get)).isNone):=rfl
def Hi{l:List Nat}(h:a<=b):l=l.take a++(l.drop a).take (b -a)++l.drop b:=by
 rw[Gaz,<-E0 h,Gbn]
def wq{prog:Vn}{w:World}{st:SortSt}{rk:Nat->Int}{p:Array Nat}{i:Nat}{Q:Bool->SortSt->Prop}(hA:dW prog w A s Y it rk)(S:SS Y it st p)(e1:(pendingOf st)[i]? =U (sa,na,w0))(e2:(pendingOf st)[i+1]? =U (sb,nb,w1))(hb:sb=sa+na)(Ue:0<na)(Uc:0<nb)(hz:sb+nb<=p.size)
  (ua:Up' rk p sa sb)(ub:Up' rk p sb (sb+nb))
  (h:∀z p',SS Y it z p' ->pendingOf z=((pendingOf st).setIfInBounds i (sa,na+nb,w0)).eraseIdxIfInBounds (i+1)->Ag sa (sb+nb) p p' ->Up' rk p' sa (sb+nb)->Q O z):wpS (model prog w) A E s (mergeAt' i) Q st:=by
 rw[Hh];refine Gan (wpS_get ?_);rw[e1,e2];refine Gan (Hg ?_);generalize hz1:setPending st (((pendingOf st).setIfInBounds i (sa,na+nb,w0)).eraseIdxIfInBounds (i+1))=z1;have S1:SS Y it z1 p:=by rw[<-hz1];exact⟨S.kind,S.arr,S.fail,S.ok⟩
 have pe:pendingOf z1=((pendingOf st).setIfInBounds i (sa,na+nb,w0)).eraseIdxIfInBounds (i+1):=by rw[<-hz1]
 have R:=S.rep;have szl:p.toList.length=p.size:=by simp
 subst hb;have sA:Srt rk ((p.toList.drop sa).take na):=(tm (by lia)).mp ua;have sB:Srt rk ((p.toList.drop (sa+na)).take nb):=(tm (by simp[*])).mp ub;have whole:∀l:List Nat,(p.toList.drop sa).take (na+nb)=l->Srt rk l->Up' rk p sa (sa+na+nb):=λl hl hs=>by
  rw[GeE];exact(tm (by simp+arith [*])).mpr (by rw[hl];exact hs)
 have split:(p.toList.drop sa).take (na+nb)=(p.toList.drop sa).take na++(p.toList.drop (sa+na)).take nb:=by
  rw[List.take_add,Gcf]
 obtain⟨y0,Sp⟩:∃x,p.toList[sa+na]? =U x:=⟨_,Gaa (by lia)⟩
 refine Gan (bc R Sp (Gan (o6 hA S1.kind R (R.lt Sp) (by lia) sA Ue λk k1 t1 t2=> ?_)));simp only[Gcy,if_false] at t1 t2;dsimp only;have hB0:((p.toList.drop (sa+na)).take nb)[0]? =U y0:=by
  rwa[Gbh Uc,Gbf]
 have leB:∀y∈(p.toList.drop (sa+na)).take nb,rk y0<=rk y:=λy hy=>l7 sB hB0 (by rw[Gcs];exact hy);by_cases c1:(na -k==0)=O
 .rw[Gar c1];have:na -k=0:=by simpa using c1
  have kk:k=na:=by lia
  subst kk;refine GaD (h z1 p S1 pe .refl (whole _ split (cI sA sB λx hx y hy=> ?_)));have q1:=t1 x (by rw[GcO,GeL];exact hx);have q2:=leB y hy;lia
 rw[Gaw c1];have c1' :na -k≠0:=by simpa using c1
 obtain⟨x1,Sq⟩:∃x,p.toList[sa+k+(na -k)-1]? =U x:=⟨_,Gaa (by lia)⟩
 refine Gan (bc R Sq (Gan (o6 hA S1.kind R (R.lt Sq) (by simp_all) sB (by lia) λnd d1 t3 t4=> ?_)));simp only[Gdm] at t3 t4;dsimp only;have hAl:((p.toList.drop sa).take na)[na -1]? =U x1:=by
  rwa[Gbh (by lia),Gbf,show sa+(na -1)=sa+k+(na -k)-1 by lia]
 have leA:∀x∈(p.toList.drop sa).take na,rk x<=rk x1:=λx hx=>by
  refine l9 (n:=na) sA hAl ?_;rw[GcO,GeL];exact hx
 by_cases c2:(nd==0)=O
 .rw[Gar c2];have nd0:nd=0:=by simpa using c2
  subst nd0;refine GaD (h z1 p S1 pe .refl (whole _ split (cI sA sB λx hx y hy=> ?_)));have q1:=leA x hx;have q2:=t4 y (by rw[Gcs];exact hy);lia
 rw[Gaw c2];have c2' :nd≠0:=by simpa using c2
 have Rx:b7 it ((arrOf st).extract (sa+k) (sa+na)) ((p.toList.drop (sa+k)).take (na -k)):=by
  have:=R.extract (sa+k) (sa+na);rw[show sa+na -(sa+k)=na -k by lia] at this;exact this
 have Ry:b7 it ((arrOf st).extract (sa+na) (sa+na+nd)) ((p.toList.drop (sa+na)).take nd):=by
  have:=R.extract (sa+na) (sa+na+nd);rw[show sa+na+nd -(sa+na)=nd by simp] at this;exact this
 have ePx:(p.toList.drop (sa+k)).take (na -k)=((p.toList.drop sa).take na).drop k:=by rw[Gdp,Gcf]
 have ePy:(p.toList.drop (sa+na)).take nd=((p.toList.drop (sa+na)).take nb).take nd:=by rw[GcO,Gda d1]
 have sx:Srt rk ((p.toList.drop (sa+k)).take (na -k)):=by rw[ePx];exact dh sA k
 have sy:Srt rk ((p.toList.drop (sa+na)).take nd):=by rw[ePy];exact fj sB nd
 have lx:((p.toList.drop (sa+k)).take (na -k)).length=na -k:=by simp;lia
 have ly:((p.toList.drop (sa+na)).take nd).length=nd:=by simp;lia
 have f0:∀x,((p.toList.drop (sa+na)).take nd)[0]? =U x->∀y∈(p.toList.drop (sa+k)).take (na -k),rk x<=rk y:=λx hx y hy=>by
  rw[Gbh (by exact Gcg ‹_›),Gbf] at hx;have:p.toList[sa+na]? =U x:=hx;rw[Sp] at this;cases this;rw[ePx] at hy;have:=t2 y hy
  (exact Gbk ‹_›)
 have fl:∀x,((p.toList.drop (sa+k)).take (na -k))[((p.toList.drop (sa+k)).take (na -k)).length -1]? =U x->∀y∈(p.toList.drop (sa+na)).take nd,rk y<=rk x:=λx hx y hy=>by
  rw[lx,Gbh (by lia),Gbf,show sa+k+(na -k -1)=sa+k+(na -k)-1 by lia,Sq] at hx;cases hx;rw[ePy] at hy;have:=t3 y hy
  (exact Gbk ‹_›)
 have fin:∀mm z,bJ z1 z->oT it rk ((p.toList.drop (sa+k)).take (na -k)) ((p.toList.drop (sa+na)).take nd) mm->
   wpS (model prog w) A E s (do
    modify λz=>setArr z (mm.toList.zipIdx.foldl (λa (x:Keyed×Nat)=>a.setIfInBounds (sa+k+x.2) x.1) (arrOf z))
    let z' <-get
    pure (failedOf z').isNone) Q z:=by
  rintro mm z sg ⟨m,Rm,pm,sm⟩;have lm:m.length=na -k+nd:=by have:=pm.length_eq;rw[GaF,lx,ly] at this;exact this
  refine Gan (GcZ (Gan (wpS_get (GaD ?_))));have ea:arrOf z=arrOf st:=sg.2.1.trans (by rw[S1.arr,S.arr]);have hmm:mm.toList=m.map (kas_item it):=by rw[Rm.1]
  have hw:((mm.toList.zipIdx.foldl (λa (x:Keyed×Nat)=>a.setIfInBounds (sa+k+x.2) x.1) (arrOf z))).toList=(p.toList.take (sa+k)++m++p.toList.drop (sa+na+nd)).map (kas_item it):=by
   rw[hmm,ea];have:=uE (sa+k) (m.map (kas_item it)) 0 (arrOf st) (by rw[Gah,lm,R.size,szl];lia);rw[this,R.1];simp only[Gbe,List.map_take,List.map_drop,Gah,lm,Nat.add_zero];rw[show sa+k+(na -k+nd)=sa+na+nd by simp+arith [*]]
  have fz:failedOf (setArr z (mm.toList.zipIdx.foldl (λa (x:Keyed×Nat)=>a.setIfInBounds (sa+k+x.2) x.1) (arrOf z)))=J:=sg.2.2.2.trans S1.fail;have pieces:p.toList=p.toList.take (sa+k)++((p.toList.drop (sa+k)).take (na -k)++(p.toList.drop (sa+na)).take nd)++p.toList.drop (sa+na+nd):=by
   conv=>lhs;rw[Hi (l:=p.toList) (show sa+k<=sa+na+nd by lia)]
   congr 2;rw[show sa+na+nd -(sa+k)=(na -k)+nd by lia,List.take_add,Gcf,show sa+k+(na -k)=sa+na by simp+arith [*]]
  generalize hl' :p.toList.take (sa+k)++m++p.toList.drop (sa+na+nd)=l' at hw;have pl:l'.Perm p.toList:=by
   rw[<-hl']
   conv=>rhs;rw[pieces]
   exact Gby _ (GcE _ pm)
  have S2:SS Y it (setArr z (mm.toList.zipIdx.foldl (λa (x:Keyed×Nat)=>a.setIfInBounds (sa+k+x.2) x.1) (arrOf z))) l'.toArray:=by
   refine⟨sg.1.trans S1.kind, ?_,fz,λj hj=>S.ok j (pl.mem_iff.mp hj)⟩;apply Gea.mp;show(mm.toList.zipIdx.foldl (λa (x:Keyed×Nat)=>a.setIfInBounds (sa+k+x.2) x.1) (arrOf z)).toList=_;rw[hw];simp
  have QP:(p.toList.take (sa+k)).length=sa+k:=by simp;lia
  have ag:Ag sa (sa+na+nb) p l'.toArray:=by
   refine⟨⟨pl⟩,λj hj=> ?_⟩;show l'.toArray[j]? =p[j]?;have g1:l'.toArray[j]? =l'[j]? :=by simp
   have g2:p[j]? =p.toList[j]? :=by simp
   rw[g1,g2,<-hl'];rcases hj with hj|hj
   .rw[Gaz,GaS (by rw[QP];lia),Gbh (by lia)]
   .rw[GaW (by rw[GaF,QP,lm];lia),GaF,QP,lm,Gbf];congr 1;lia
  have nn:failedOf (setArr z (mm.toList.zipIdx.foldl (λa (x:Keyed×Nat)=>a.setIfInBounds (sa+k+x.2) x.1) (arrOf z)))=J:=fz;have goal:=h _ l'.toArray S2 (sg.2.2.1.trans pe) ag ?_
  .rw[nn];exact goal
  .rw[GeE];refine(tm (by rw[Gcn,pl.length_eq,szl];simp+arith [*])).mpr ?_;have seg:(l'.drop sa).take (na+nb)=((p.toList.drop sa).take na).take k++m++((p.toList.drop (sa+na)).take nb).drop nd:=by
    rw[<-hl',Gaz,List.drop_append_of_le_length (by rw[QP];simp)];have q1:(p.toList.take (sa+k)).drop sa=((p.toList.drop sa).take na).take k:=by rw[Gdp,GcO,show sa+k -sa=k by simp,Gda k1]
    rw[q1];have lk:(((p.toList.drop sa).take na).take k).length=k:=by simp;lia
    rw[<-Gaz,List.take_append,GaF,lk,lm,GbM (by rw[GaF,lk,lm];lia)];congr 1;rw[Gdp,Gcf];congr 1;lia
   show Srt rk ((l'.toArray.toList.drop sa).take (na+nb));show Srt rk ((l'.drop sa).take (na+nb));rw[seg];refine cI (cI (fj sA k) sm λx hx y hy=> ?_) (dh sB nd) λx hx y hy=> ?_
   .rcases GaQ.mp (pm.mem_iff.mp hy) with hy|hy
    .rw[ePx] at hy;exact pF sA k x hx y hy
    .rw[ePy] at hy;have b1:=t1 x hx;have b2:=leB y (Gbw hy);lia
   .rcases GaQ.mp hx with hx|hx
    .have b1:=leA x (Gbw hx);have b2:=t4 y hy;lia
    .rcases GaQ.mp (pm.mem_iff.mp hx) with hx|hx
     .rw[ePx] at hx;have b1:=leA x (GbH hx);have b2:=t4 y hy;lia
     .rw[ePy] at hx;exact pF sB nd x hx y hy
 by_cases c3:na -k<=nd
 .rw[Gar c3];exact Gan (O8 hA S1.kind Rx Ry sx sy (by lia) (by lia) f0 fl fin)
 .rw[Gaw c3];exact Gan (O9 hA S1.kind Rx Ry sx sy (by lia) (by lia) f0 fl fin)
abbrev Run:=Nat×Nat×Nat
def chain:Nat->List Run->Nat->Prop
 |a,[],b=>a=b
 |a,r::t,b=>r.1=a/\0<r.2.1/\chain (a+r.2.1) t b
theorem mS:∀{l a b},chain a l b->a+l.length<=b
 |[],a,b,h=>by have:a=b:=h;simp;simp[*]
 |r::t,a,b,h=>by
  have:=mS h.2.2;have:=h.2.1;simp only[GaC];lia
theorem o8:∀{l a b r},chain a l b->r∈l->a<=r.1/\r.1+r.2.1<=b/\0<r.2.1
 |q::t,a,b,r,h,hr=>by
  rcases Gaq.mp hr with e|e
  .subst e;have:=mS h.2.2;have:=h.1;exact⟨by simp[*],by lia,h.2.1⟩
  .have:=o8 h.2.2 e;exact⟨by lia,this.2.1,this.2.2⟩
theorem qh:∀{l a b n w0},chain a l b->0<n->chain a (l++[(b,n,w0)]) (b+n)
 |[],a,b,n,w0,h,hn=>by have:a=b:=h;subst this;exact⟨rfl,hn,rfl⟩
 |r::t,a,b,n,w0,h,hn=> ⟨h.1,h.2.1,qh h.2.2 hn⟩
theorem mT(hf:∀r,(f r).1=r.1/\(f r).2.1=r.2.1):∀{l a b} i,chain a l b->chain a (l.modify i f) b
 |[],a,b,i,h=>by simpa using h
 |r::t,a,b,0,h=>by
  exact⟨(hf r).1.trans h.1,by rw[(hf r).2];exact h.2.1,by rw[(hf r).2];exact h.2.2⟩
 |r::t,a,b,i+1,h=>by
  exact⟨h.1,h.2.1,mT hf i h.2.2⟩
theorem mem_modify(hf:∀r,(f r).1=r.1/\(f r).2.1=r.2.1):∀{l:List Run} {i:Nat} {r:Run},r∈l.modify i f->∃r' ∈l,r'.1=r.1/\r'.2.1=r.2.1
 |[],i,r,h=>by simp at h
 |q::t,0,r,h=>by
  rcases Gaq.mp h with e|e
  .subst e;exact⟨q,Gai,(hf q).1.symm,(hf q).2.symm⟩
  .exact⟨r,Gaf _ e,rfl,rfl⟩
 |q::t,i+1,r,h=>by
  rcases Gaq.mp h with e|e
  .subst e;exact⟨r,Gai,rfl,rfl⟩
  .obtain⟨r',h1,h2⟩:=mem_modify hf e;exact⟨r',Gaf _ h1,h2⟩
theorem oU:∀{l:List Run} {a b:Nat} {i sa na w0 sb nb w1:Nat},chain a l b->l[i]? =U (sa,na,w0)->l[i+1]? =U (sb,nb,w1)->
  sb=sa+na/\0<na/\0<nb/\a<=sa/\sb+nb<=b/\chain a ((l.set i (sa,na+nb,w0)).eraseIdx (i+1)) b/\∀r∈(l.set i (sa,na+nb,w0)).eraseIdx (i+1),r=(sa,na+nb,w0)\/(r∈l/\(r.1+r.2.1<=sa\/sb+nb<=r.1))
 |r::r2::t,a,b,0,sa,na,w0,sb,nb,w1,h,e1,e2=>by
  simp at e1 e2;subst e1 e2;obtain⟨h1,h2,h3,h4,h5⟩:=h;have yp :sa=a:=h1;have SX :sb=a+na:=h3;have le:=mS h5;refine⟨by simp[*],h2,h4,by simp[*], ?_, ?_,λq hq=> ?_⟩
  .lia
  .refine⟨h1,by show 0<na+nb;lia, ?_⟩
   rwa[<-GeE]
  .rcases(by simpa using hq) with e|e
   .exact .inl e
   .refine .inr ⟨Gaf _ (Gaf _ e),.inr ?_⟩;have:=(o8 h5 e).1;simp_all
 |r::t,a,b,i+1,sa,na,w0,sb,nb,w1,h,e1,e2=>by
  obtain⟨g1,g2,g3,g4,g5,g6,g7⟩:=oU h.2.2 e1 e2;refine⟨g1,g2,g3,by lia,g5,⟨h.1,h.2.1, ?_⟩,λq hq=> ?_⟩
  .exact g6
  .rcases(by simpa using hq) with e|e
   .have:=h.1
    (simp[*])
   .rcases g7 q e with z| ⟨z1,z2⟩
    .exact .inl z
    .exact .inr ⟨Gaf _ z1,z2⟩
section
variable{Y:SortKind}{it:Array Keyed}{rk:Nat->Int}{p0 p:Array Nat}
structure Pd(Y:SortKind)(it:Array Keyed)(rk:Nat->Int)(p0:Array Nat)(lo:Nat)(z:SortSt)(p:Array Nat):Prop where
 ss:SS Y it z p
 perm:p.Perm p0
 ch:chain 0 (pendingOf z).toList lo
 up:∀r∈(pendingOf z).toList,Up' rk p r.1 (r.1+r.2.1)
 le:lo<=p0.size
theorem Pd.size{lo:Nat}{z:SortSt}(P:Pd Y it rk p0 lo z p):p.size=p0.size:=by
 have:=P.perm.toList.length_eq
 simpa using this
def uF{prog:Vn}{w:World}{st:SortSt}{lo:Nat}{Q:Bool->SortSt->Prop}(hA:dW prog w A s Y it rk)(P:Pd Y it rk p0 lo st p)(hi:i+1<(pendingOf st).size)
  (h:∀z p',Pd Y it rk p0 lo z p' ->Ag 0 lo p p' ->(pendingOf z).size+1=(pendingOf st).size->Q O z):wpS (model prog w) A E s (mergeAt' i) Q st:=by
 refine hde λG fin=> ?_;obtain⟨⟨sa,na,w0⟩,e1⟩:∃x,(pendingOf st)[i]? =U x:=⟨_,GdD (by lia)⟩
 obtain⟨⟨sb,nb,w1⟩,e2⟩:∃x,_[i+1]? =U x:=⟨_,GdD hi⟩
 have zZ :(pendingOf st).toList[i]? =U (sa,na,w0):=by simpa using e1
 have R4 :(pendingOf st).toList[i+1]? =U (sb,nb,w1):=by simpa using e2
 obtain⟨g1,g2,g3,g4,g5,g6,g7⟩:=oU P.ch zZ R4;have le:=P.le;have sz:=P.size;refine fin (wq hA P.ss e1 e2 g1 g2 g3 (by lia) (by rw[g1];exact(P.up _ (GaH zZ))) (P.up _ (GaH R4)) λz p' S' pe ag Ut => ?_);have tl:(pendingOf z).toList=((pendingOf st).toList.set i (sa,na+nb,w0)).eraseIdx (i+1):=by
  rw[pe];simp
 refine h z p' ⟨S',ag.perm.trans P.perm,by rw[tl];exact g6,λr hr=> ?_,P.le⟩ (⟨ag.perm,λk hk=>ag.out k (by lia)⟩) ?_
 .rw[tl] at hr;rcases g7 r hr with e| ⟨RK,yK⟩
  .subst e
   rwa[<-GeE,<-g1]
  .intro u v a1 a2 a3;rw[ag.rk (by lia),ag.rk (by lia)];exact P.up r RK u v a1 a2 a3
 .have l1:(pendingOf z).size=(pendingOf z).toList.length:=by simp
  have l2:(pendingOf st).size=(pendingOf st).toList.length:=by simp
  rw[l1,tl,List.length_eraseIdx_of_lt (by rw[Gdb];exact hi),Gdb];lia
end
abbrev Ru:=Option Unit×Nat
def runM(pw:Nat):SM (ForInStep (Option Unit×Unit)):=do
 let z<-get
 let U (_,_,old):=(if(pendingOf z).size>1 then(pendingOf z)[(pendingOf z).size -2]? else J)|pure (.done (J,⟨⟩))
 if old<=pw then pure (.done (J,⟨⟩)) else do
  let b<-mergeAt' ((pendingOf z).size -2)
  if(!b)=O then pure (.done (U ⟨⟩,⟨⟩)) else pure (.yield (J,⟨⟩))
def L0(lo n:Nat):SM (ForInStep Ru):=do
 modify λs=>setPending s ((pendingOf s).push (lo,n,0))
 pure (.yield (J,lo+n))
def Qf(lo n pw:Nat)(c:Option Unit×Unit):SM (ForInStep Ru):=match c.1 with
 |some r=>pure (.done (U r,lo))
 |none=>do
  modify λs=>setPending s ((pendingOf s).modify ((pendingOf s).size -1) λ(st,len,_)=>(st,len,pw))
  L0 lo n
def Hj(size lo n:Nat):SM (ForInStep Ru):=do
 let z<-get
 match(pendingOf z).back? with
 |some (s1,n1,_)=>(forIn [0:size] (J,⟨⟩) λ_ _=>runM (power' size (2*s1+n1) (2*s1+n1+n1+n) size))>>=Qf lo n (power' size (2*s1+n1) (2*s1+n1+n1+n) size)
 |_=>L0 lo n
def L1(size mr lo:Nat):SM (ForInStep Ru):=if lo>=size then pure (.done (J,lo)) else do
 let f<-countRun' lo (size -lo)
 match f with
 |some n=>if n<mr then(do
  rule "list.sort.binary-insertion"
  let b<-binarySort' lo (min (size -lo) mr) n
  if(!b)=O then pure (.done (U ⟨⟩,lo)) else Hj size lo (min (size -lo) mr)) else Hj size lo n
 |_=>pure (.done (U ⟨⟩,lo))
def L2:SM (ForInStep (Option Unit×Unit)):=do
 let z<-get
 if(pendingOf z).size<=1 then pure (.done (J,⟨⟩)) else do
  let i:=(pendingOf z).size -2
  let b<-mergeAt' (if(if i>0 then(pendingOf z)[i -1]?.map (·.2.1) else J).any (· <(pendingOf z)[i+1]?.elim 0 (·.2.1)) then i -1 else i)
  if(!b)=O then pure (.done (U ⟨⟩,⟨⟩)) else pure (.yield (J,⟨⟩))
def Qg(c:Option Unit×Unit):SM Unit:=match c.1 with
 |some r=>pure r
 |none=>pure ⟨⟩
def Qh(size:Nat)(c:Ru):SM Unit:=match c.1 with
 |some r=>pure r
 |none=>(forIn [0:size] (J,⟨⟩) λ_ _=>L2)>>=Qg
def L3:sortRuns' =(do
 let z<-get
 (forIn [0:(arrOf z).size] (J,0) λ_ c=>L1 (arrOf z).size (minRun' (arrOf z).size (arrOf z).size 0) c.2)>>=Qh (arrOf z).size):=by
 kernel_rfl
section
variable{Y:SortKind}{it:Array Keyed}{rk:Nat->Int}{p0 p:Array Nat}
theorem Pd.push{lo n:Nat}{z:SortSt}(P:Pd Y it rk p0 lo z p)(hn:0<n)(hz:lo+n<=p0.size)(hu:Up' rk p lo (lo+n)):Pd Y it rk p0 (lo+n) (setPending z ((pendingOf z).push (lo,n,0))) p:=by
 refine⟨⟨P.ss.kind,P.ss.arr,P.ss.fail,P.ss.ok⟩,P.perm, ?_,λr hr=> ?_,hz⟩
 .show chain 0 ((pendingOf z).push (lo,n,0)).toList (lo+n);rw[Gdk];exact qh P.ch hn
 .have xJ :r∈((pendingOf z).push (lo,n,0)).toList:=hr;rw[Gdk] at xJ;rcases GaQ.mp xJ with e|e
  .exact P.up r e
  .simp at e;subst e;exact hu
theorem Pd.modify{lo:Nat}{z:SortSt}{f:Run->Run}(P:Pd Y it rk p0 lo z p)(hf:∀r,(f r).1=r.1/\(f r).2.1=r.2.1):Pd Y it rk p0 lo (setPending z ((pendingOf z).modify i f)) p:=by
 refine⟨⟨P.ss.kind,P.ss.arr,P.ss.fail,P.ss.ok⟩,P.perm, ?_,λr hr=> ?_,P.le⟩
 .show chain 0 ((pendingOf z).modify i f).toList lo;rw[Array.toList_modify];exact mT hf i P.ch
 .have xJ :r∈((pendingOf z).modify i f).toList:=hr;rw[Array.toList_modify] at xJ;obtain⟨r',h1,h2,h3⟩:=mem_modify hf xJ;rw[<-h2,<-h3];exact P.up r' h1
def RuJ(Y:SortKind)(it:Array Keyed)(rk:Nat->Int)(p0:Array Nat)(i:Nat)(c:Nat)(z:SortSt):Prop:=∃p,Pd Y it rk p0 c z p/\i<=c
def RuU(Y:SortKind)(it:Array Keyed)(rk:Nat->Int)(p0:Array Nat)(lo n:Nat){τ:Type}(_:τ)(z:SortSt):Prop:=∃p,Pd Y it rk p0 lo z p/\Up' rk p lo (lo+n)
section
variable{n lo:Nat}
def Hk{prog:Vn}{w:World}{A:Vm}{E:VSP}{s:Vg}{st:SortSt}{pw:Nat}(hA:dW prog w A s Y it rk)(P:Pd Y it rk p0 lo st p)(up:Up' rk p lo (lo+n))(hn:lo+n<=p0.size):wpS (model prog w) A E s (runM pw) (FR (λ_ _=>False) (RuU Y it rk p0 lo n) (RuU Y it rk p0 lo n)) st:=by
 unfold runM;refine Gan (wpS_get ?_);by_cases g:(pendingOf st).size>1
 .rw[Gar g];obtain⟨⟨t1,t2,t3⟩,ht⟩:∃x,(pendingOf st)[(pendingOf st).size -2]? =U x:=⟨_,GdD (by lia)⟩
  rw[ht];refine aH (λ_=>GaD ⟨p,P,up⟩) λ_=>Gan (uF hA P (by lia) λy p4 P4 ag _=> ?_);refine GaD ⟨rfl,p4,P4,λu v a1 a2 a3=> ?_⟩;rw[ag.rk (.inr a1),ag.rk (.inr (Gak a1 a2))];exact up u v a1 a2 a3
 .rw[Gaw g];exact GaD ⟨p,P,up⟩
def AG{prog:Vn}{w:World}{A:Vm}{E:VSP}{s:Vg}{st:SortSt}{i:Nat}{K:Nat->SortSt->Prop}(P:Pd Y it rk p0 lo st p)(up:Up' rk p lo (lo+n))(hn:lo+n<=p0.size)(n0:0<n)(hi:i<=lo):wpS (model prog w) A E s (L0 lo n) (FR (λ_ _=>False) K (RuJ Y it rk p0 (i+1))) st:=
 Gan (GcZ (GaD ⟨rfl,p,P.push n0 hn up,Nat.add_le_add hi n0⟩))
variable{m:Nat}
def AH{prog:Vn}{w:World}{A:Vm}{E:VSP}{s:Vg}{st:SortSt}{i:Nat}{K:Nat->SortSt->Prop}(hA:dW prog w A s Y it rk)(P:Pd Y it rk p0 lo st p)(up:Up' rk p lo (lo+n))(hn:lo+n<=p0.size)(n0:0<n)(hi:i<=lo):wpS (model prog w) A E s (Hj m lo n) (FR (λ_ _=>False) K (RuJ Y it rk p0 (i+1))) st:=by
 unfold Hj;refine Gan (wpS_get ?_);cases(pendingOf st).back? with
 |none=>exact AG P up hn n0 hi
 |some r=>
  obtain⟨s1,n1,w1⟩:=r;refine fk (λ_=>RuU Y it rk p0 lo n) (λ_ _=>False) (RuU Y it rk p0 lo n) ⟨p,P,up⟩ (λ_ _ z _ h=> ?_) (λ_ _ h=>h) (λ_ _ _ h=>h.elim) λ_ z h=> ?_
  .obtain⟨p,P,up⟩:=h;exact Hk hA P up hn
  .obtain⟨p,P,up⟩:=h;exact Gan (GcZ (AG (P.modify λr=> ⟨rfl,rfl⟩) up hn n0 hi))
def Hl{prog:Vn}{w:World}{A:Vm}{E:VSP}{s:Vg}{st:SortSt}{i:Nat}(hA:dW prog w A s Y it rk)(P:Pd Y it rk p0 lo st p)(hi:i<=lo):wpS (model prog w) A E s (L1 p0.size m lo) (FR (λ_ _=>False) (λ_ z=>∃p,Pd Y it rk p0 p0.size z p) (RuJ Y it rk p0 (i+1))) st:=by
 have le:=P.le;have szp:=P.size;unfold L1;refine aH (λc1=> ?_) λc1=> ?_
 .cases Nat.le_antisymm le c1;exact GaD ⟨p,P⟩
 refine Gan (E5 hA P.ss (by lia) (by lia) λn z1 p1 S1 QR Sv m1 m2 up1=> ?_);have carry:∀{n:Nat} {z2:SortSt} {p2:Array Nat},SS Y it z2 p2->k6 st z2->Ag lo (lo+n) p p2->Pd Y it rk p0 lo z2 p2:=λ{n z2 p2} S2 xq QK=>by
  have xq:pendingOf z2=pendingOf st:=xq;refine⟨S2,QK.perm.trans P.perm,by rw[xq];exact P.ch,λr hr=> ?_,le⟩;rw[xq] at hr;have:=(o8 P.ch hr).2.1;intro u v a1 a2 a3;rw[QK.rk (by lia),QK.rk (by lia)];exact P.up r hr u v a1 a2 a3
 refine aH (λc2=> ?_) λc2=> ?_
 .have sz1:=Sv.size;refine Gan (wpS_lift (Gct ⟨rfl,Gan (KY hA S1 (by lia) m1 (by lia) up1 λz2 p2 S2 xq QK Ta=> ?_)⟩));exact AH hA (carry S2 (xq.trans QR) (Sv.trans (QK.mono (Gex (Nat.min_le_left ..) _)))) Ta (by lia) (by lia) hi
 .exact AH hA (carry S1 QR Sv) up1 (by lia) m1 hi
def Hm{prog:Vn}{w:World}{st:SortSt}(hA:dW prog w A s Y it rk)(P:Pd Y it rk p0 p0.size st p)(hs:(pendingOf st).size+i<=p0.size):wpS (model prog w) A E s L2 (FR (λ_ _=>False) (λ_ z=>∃p,Pd Y it rk p0 p0.size z p/\(pendingOf z).size<=1) (λ_ z=>∃p,Pd Y it rk p0 p0.size z p/\(pendingOf z).size+(i+1)<=p0.size)) st:=by
 unfold L2;refine Gan (wpS_get (aH (λg=>GaD ⟨p,P,g⟩) λg=>Gan (uF hA P ?_ λy2 p4 P4 UP UA=>GaD ⟨rfl,p4,P4,by lia⟩)));split<;>lia
end
def Hn{prog:Vn}{w:World}{st:SortSt}{Q:Unit->SortSt->Prop}(hA:dW prog w A s Y it rk)(S:SS Y it st p0)(hp:pendingOf st=#[])(h1:1<=p0.size)
  (h:∀z p,SS Y it z p->p.Perm p0->Up' rk p 0 p0.size->Q () z):wpS (model prog w) A E s sortRuns' Q st:=by
 have sz:(arrOf st).size=p0.size:=by rw[S.arr];simp
 rw[L3];refine Gan (wpS_get ?_);rw[sz];refine fk (RuJ Y it rk p0) (λ_ _=>False) (λ_ z=>∃p,Pd Y it rk p0 p0.size z p) ⟨p0,⟨S,.refl _,by rw[hp];rfl,λr hr=>(by rw[hp] at hr;cases hr),Gbm _⟩,GaN _⟩ (λi lo z _ UR=> ?_) (λlo z UR=> ?_) (λ_ _ _ z=>z.elim) λlo z UR=> ?_
 .obtain⟨p,P,hi⟩:=UR;exact Hl hA P hi
 .obtain⟨p,P,hi⟩:=UR;cases Nat.le_antisymm P.le hi;exact⟨p,P⟩
 .obtain⟨p,P⟩:=UR;refine fk (λi _ y=>∃p,Pd Y it rk p0 p0.size y p/\(pendingOf y).size+i<=p0.size) (λ_ _=>False) (λ_ y=>∃p,Pd Y it rk p0 p0.size y p/\(pendingOf y).size<=1) ⟨p,P,by simpa using mS P.ch⟩ (λi _ y _ UR=> ?_) (λ_ y UR=> ?_) (λ_ _ _ z=>z.elim) λ_ y UR=> ?_
  .obtain⟨p,P,hi⟩:=UR;exact Hm hA P hi
  .obtain⟨p,P,hi⟩:=UR;exact⟨p,P,by lia⟩
  .obtain⟨p,P,hs⟩:=UR;refine GaD (h y p P.ss P.perm ?_);have ch:=P.ch;have up:=P.up;have l1:(pendingOf y).toList.length<=1:=by simpa using hs
   generalize (pendingOf y).toList=l at ch up l1
   match l,l1 with
   |[],_=>
    have:0=p0.size:=ch;lia
   |[r],_=>
    obtain⟨c1,c2,c3⟩:=ch;have c3' :0+r.2.1=p0.size:=c3;have:=up r (by simp);rw[c1,c3'] at this;exact this
end
section
variable{s:Vg}
def r9{vs:List Vf}(ho:s.heap.get? a=U (seqObj "list" vs.toArray n))(Sl:vs.length<1000000)
  (hK:∀G,(∀b o,b≠a->s.heap.get? b=U o->G.get? b=U o)->sW prog w A E {s with heap:=G} cs vs)
  (h:∀p,Ord vs.length p->Up (rank cs) p vs.length->P (.done (.ret .none)) {s with heap:=sortedHeap s.heap a vs (List.toArray (p.toList.map λi=>vs.getD i Value.none))}):wpAny (model prog w) A (Builtin.«list.sort» ⟨[.ref a],[]⟩) P E s:=by
 have hz:(vs.toArray.zip vs.toArray).size=vs.length:=by simp
 have zr:(List.toArray (List.range vs.length)).size=vs.length:=by simp
 refine wa ho (by rw[Gdy];exact Gak (GaJ ‹_›) (by simp)) kZ.one (λ_ q=>q.len) (λG kp c=>hK G kp c _ λY hY=> ?_) λ_ eU=>by obtain⟨p,h1,h2,e⟩:=eU;exact e▸h p h1 h2
 refine GaB (Hn (it:=vs.toArray.zip vs.toArray) (rk:=rank cs) (p0:=List.toArray (List.range vs.length))
  (Q:=λ_ st=>failedOf st=J/\kZ cs vs ((arrOf st).map (·.2))) (λi j hi hj C hc=> ?_) ⟨rfl, ?_,rfl,λi hi=> ?_⟩ rfl (by lia) λz p S pm up=> ?_) (λr s' q=> ?_) λ_ _ e=>e
 .have:=hY i j C (by simp_all) (by simp_all) hc
  rwa[PySem.W.kat_ask_eq rfl] at this
 .have e:=PySem.W.kas_range (vs.toArray.zip vs.toArray);rw[hz] at e;exact e.symm
 .simpa using hi
 .rw[zr] at up;exact⟨S.fail,p,pm.toList,λu v q r=>up u v (Gbm _) q r,kat_snds rfl S.arr⟩
 .exact q
def wu{A:Vm}{o:Vo}{vs:List Vf}(ho:s.heap.get? l=U o)(hc:o.cls= .type T)(hT:T="list"\/T="tuple")(hd:o.data= .seq vs.toArray n)(Sl:vs.length<1000000)
  (hK:∀G,(∀b o,s.heap.get? b=U o->G.get? b=U o)->∀A',A'.units=A.units+2->sW prog w A' E {s with heap:=G} cs vs)
  (h:∀p,Ord vs.length p->Up (rank cs) p vs.length->Q (.ref (s.heap.objs.size+1)) {s with heap:=sortedAll s.heap vs (List.toArray (p.toList.map λi=>vs.getD i Value.none))}):wpAny (model prog w) A (call (.builtin "sorted") [.ref l]) Q E s:=by
 have szl:vs.length<=sizeLine:=by rw[Gdy];exact Gak (GaJ ‹_›) (by simp)
 refine Calls.call_function_entry kind_sorted plain_sorted entry_sorted (args_sorted1 _) ?_;unfold Builtin.«sorted»;refine Gad (m:=checkCount "sorted" 1 1 _) (Gao (Gad (uA ho hc hT hd (Gad (wpAny_newList ?_ szl)) szl)));generalize hG:(s.heap.push _).update _ _=G;have yu:G.objs.size=s.heap.objs.size+1:=by rw[<-hG,Heap.size_update,size_push']
 have SJ:(G.push (seqObj "list" vs.toArray 0)).get? (s.heap.objs.size+1)=U (seqObj "list" vs.toArray 0):=by rw[<-yu];exact Gat _ rfl
 have keep:∀b o,s.heap.get? b=U o->(G.push (seqObj "list" vs.toArray 0)).get? b=U o:=λb o e=>by
  refine Gag _ ?_;rw[<-hG,Heap.get?_update_ne _ _ _ _ (Gbi (Gbj e))];exact Gag _ e
 show wpAny _ _ _ _ _ {s with heap:=G.push _};rw[yu];refine Gad (GbB (GcP slot_list_sort ⟨_,SJ,rfl⟩ entry_list_sort (r9 (cs:=cs) (s:={s with heap:=G.push _}) SJ Sl (λG' kG=> ?_) λp h1 h2=> ⟨_,rfl, ?_⟩) (args_list_sort _)))
 .exact hK G' (λb o e=>kG b o (Gbi (GdQ (Gbj e))) (keep b o e)) _ rfl
 .have:=h p h1 h2;unfold sortedAll at this;rw[hG] at this;exact Gao ⟨_,rfl,this⟩
def tq{ds:List D}(hK:Paired (pY s.heap) ds vs)(xA:Vb ds=O):sW prog w A E s (ds.map code) vs:=λh2 Q hQ=>by
 have hl:=hK.length;exact BZ hK xA (by simp[*]) λY hY=>hQ Y λi j C hi hj hc=>DK hK xA hY i j C (by simp[*]) (by simp[*]) hc
def C4{h G:Vj}(kG:∀b o,h.get? b=U o->G.get? b=U o)(k:pY h d v):pY G d v:=by
 cases d with
 |int i=>exact k
 |tup fs=>
  refine hde λG fin=> ?_;obtain⟨b,o,m,us,h1,h2,h3,h4⟩:=k;exact fin (⟨b,o,m,us,h1,kG b o h2,h3,h4⟩)
 |_=>exact k
end
end DL
namespace NL
open PySem PySem.Spec PyProof.Rows DL
section
variable [Wd]
section
def Oc(x:Rep F h d u)(hf:jY d=O):FlV d u:=by
 cases x with
 |one e=>cases d<;>first|(simp[jY,tyD] at hf;done)|exact _ e|(cases u<;>first|exact False.elim e|exact e|exact _|rfl|(cases e;exact⟨_,rfl⟩))
 |sq q=>cases d<;>cases q<;>simp[jY,tyD] at hf
variable{ds:List D}
def L4(x:aP F h ds us)(hf:ds.all jY=O):Paired FlV ds us:=by
 induction ds generalizing us with
 |nil=>rw[x.empty];exact .nil
 |cons d ds ih=>
  obtain⟨v,w,rfl,h1,h2⟩:=x.gM;rw[GbK,Gac] at hf;exact .cons (Oc h1 hf.1) (ih h2 hf.2)
def L5(x:Rep F h d u)(hk:isKey d=O):pY h d u:=by
 cases d<;>first|(simp[isKey] at hk;done)|skip
 .obtain⟨t,rfl⟩:=(Rep.inn x).int;exact⟨t,rfl⟩
 .obtain⟨a,eo,rfl,_,t,_,rp⟩:=(Rep.inn x).sq rfl;obtain⟨o,n,g,c,_,hd⟩:=t;exact⟨a,o,n,_,rfl,g,c,by simpa using hd,L4 rp hk⟩
def Ho(x:aP F h ds us)(hf:ds.all isKey=O):Paired (pY h) ds us:=by
 induction ds generalizing us with
 |nil=>rw[x.empty];exact .nil
 |cons d ds ih=>
  obtain⟨v,w,rfl,h1,h2⟩:=x.gM;rw[GbK,Gac] at hf;exact .cons (L5 h1 hf.1) (ih h2 hf.2)
def E6{us:List Vf}{p:Array Nat}(o:Ord ds.length p)(x:aP F h ds us):aP F h (p.toList.map λi=>ds.getD i .non) (p.toList.map λi=>us.getD i Value.none):=by
 refine⟨by simp,λi d v e1 e2=> ?_⟩;rw[Gaj] at e1 e2;cases q:p.toList[i]? with
 |none=>rw[q] at e1;cases e1
 |some k=>
  rw[q] at e1 e2;have hk:=Gcc.mp (o.mem_iff.mp (GaH q));have xM:k<us.length:=by rw[<-x.1];exact hk
  cases e1;cases e2;exact x.2 k _ _ (by simp[hk]) (by simp_all)
def mU:gh X (.builtin "sorted") gP:=λenv Z s ds us r I ps e=>by
 obtain⟨d,xs,rfl,h1,h2⟩:=pX e;split at h2<;>cases h2
 rename_i c;rw[Gac] at c;have xA:=c.2;obtain⟨v,rfl,i⟩:=gO ps;obtain⟨T,q,hT⟩:=jZ h1;obtain⟨a,eo,rfl,_,⟨o,n,ho,hc,_,hd⟩,z,rp⟩:=i.sq q;have e1:=rp.1;refine wu ho hc hT (by simpa using hd) (by simp_all) (λG kG A' _=>tq (uz (λd v kv=>C4 kG kv) (Ho rp (DP xA))) xA) λod h1 h2=> ?_;have yp :Ord xs.length od:=by rw[e1];exact h1
 obtain⟨c,zU⟩:=sortedAll_at _ _ _;have nn:s.heap.get? _=J:=Gbc (Gdz _);refine⟨I.kept (λb ob e=>sortedAll_old e) _,rfl,_,rfl,nn,_,_,_,rfl,⟨_,_,zU,rfl,.inr ⟨rfl,rfl⟩,rfl⟩, ?_, ?_⟩
 .rwa[Gcn,Gah,GdB,h1.size]
 .rw[<-(lL ((pZ yp).trans (dP xs).symm) (wc yp (by simp_all)) (gz xs) λa ha b hb=>DJ xA a ((pZ yp).mem_iff.mp ha) b ((pZ yp).mem_iff.mp hb))];exact(E6 yp rp).keep λb o f g _=> ⟨⟨f,λy=>by rw[y,nn] at g;cases g⟩,sortedAll_old g⟩
def uG:gh X (.builtin "sorted") UZ:=λenv Z s ds us r I ps e=>by
 refine mU env Z s ds us r I ps ?_;obtain⟨d,xs,rfl,h1,h2⟩:=pX e;split at h2
 .rename_i c;rw[Gac] at c;have c1:=Gay c.1;simp only[gP,one,h1,Option.bind_some]
  rwa[GaI (by exact Gak ‹_› (by simp):_<1000000),c.2]
 .cases h2
end
end
def Od(prog:Vn)(w:World)(A:Vm)(op:Vt)(G:Vg->Prop)(P:Nat->Vf->Prop)(bt:Nat->Nat->Bool):Prop:=
 ∀i j vi vj (z:Vg) (Q:VSP) (E:VSP),G z->P i vi->P j vj->Q (.bool (bt i j)) z->wpAny (model prog w) A (richCompare op vi vj) Q E z
def mmO(mx:Bool):Vt:=bif mx then .Gt else .Lt
def mmN(mx:Bool):String:=bif mx then "max.loop" else "min.loop"
def jI:Option Vf->Array Vf
 |none=>#[]
 |some v=>#[v,v]
section
variable{prog:Vn}{w:World}{A:Vm}{I:Vh}
def tv{z:Vg}(e:u9 z.heap B (jI old))(h:∀h',u9 h' B (jI v)->(∀b o,b≠B->z.heap.get? b=U o->h'.get? b=U o)->Q () {z with heap:=h' }):
  wpAny (model prog w) A (updateSeq B λ_=>jI v) Q E z:=by
 obtain⟨c,e⟩:=e;have l1:(jI old).size<=2:=by cases old<;>simp[jI]
 have l2:(jI v).size<=2:=by cases v<;>simp[jI]
 refine wpAny_updateSeq e rfl (h _ ⟨_,Gcb _ e rfl⟩ λb o n q=> ?_) (by exact Gak ‹_› (by decide)) (by exact Gak ‹_› (by decide));rw[GbL _ _ (Gbg n),q]
def AI{z:Vg}(mx:Bool)
  (h:wpAny (model prog w) A.in1 (pyNext (.ref I)) (λr s' =>u9 s'.heap B (jI old)/\match r,old with
   |none,U v=>∀h',(∀b o,b≠B->s'.heap.get? b=U o->h'.get? b=U o)->R (.ok (.ret v)) {s' with heap:=h' }
   |none,J=>∃k d t,kw=(k,d)::t/\R (.ok (.ret d)) s'
   |some x,U v=>∃bt:Bool,(∀Q E,Q (.bool bt) s' ->wpAny (model prog w) A.in1 (richCompare (mmO mx) x v) Q E s')/\∀h',u9 h' B (jI (U (if bt then x else v)))->(∀b o,b≠B->s'.heap.get? b=U o->h'.get? b=U o)->codeAny (model prog w) A (.builtin (mmN mx) ⟨[.ref I,.none,.ref B],kw⟩) R {s' with heap:=h' }
   |some x,J=>∀h',u9 h' B (jI (U x))->(∀b o,b≠B->s'.heap.get? b=U o->h'.get? b=U o)->codeAny (model prog w) A (.builtin (mmN mx) ⟨[.ref I,.none,.ref B],kw⟩) R {s' with heap:=h' }) (λ_ _=>False) z)(hB:u9 z.heap B (jI old)):
  codeAny (model prog w) A (.builtin (mmN mx) ⟨[.ref I,.none,.ref B],kw⟩) R z:=by
 obtain⟨c,e⟩:=id hB;have quiet:Code.quiet (.builtin (mmN mx) ⟨[.ref I,.none,.ref B],kw⟩)=O:=by cases mx<;>exact plainId_quiet rfl _
 cases mx
 all_goals
  first
  |(apply Gek F.entry_min_loop;rw[Around.under_plainId F.plain_min_loop])
  |(apply Gek F.entry_max_loop;rw[Around.under_plainId F.plain_max_loop])
  refine Gad (wpAny_seqItems e rfl (Gad (wpAny_tryCatch (GaB h (λr s' q=> ?_) λ_ _ q=>q.elim))));obtain⟨e',q⟩:=q;rcases r with _|x<;>rcases old with _|v
  .obtain⟨k,d,t,rfl,q⟩:=q;exact Gad (Gct (Gao q))
  .exact Gad (tv (v:=J) e' λh' _ k=>Gad (wpAny_letGo (Gao (q h' k))))
  .exact Gad (Gao (Gad (tv (v:=U x) e' λh' l k=>Gao ⟨quiet,q h' l k⟩)))
  .obtain⟨bt,q1,q2⟩:=q;refine Gad (Gao (Gad (wpAny_tryCatch (GbB (Gad (q1 _ _ (Gad (GbB (Gbv (Gad (wpAny_letGo (Gao ?_))))))))))));cases bt
   .exact Gad (wpAny_letGo (Gao ⟨quiet,q2 _ e' λ_ _ _ k=>k⟩))
   .exact Gad (tv (v:=U x) e' λh' l k=>Gad (wpAny_letGo (Gao ⟨quiet,q2 h' l k⟩)))
variable{fp wr:List Vh}{n:Nat}{P:Nat->Vf->Prop}{St:Nat->Vj->Prop}{G:Vg->Prop}
theorem AJ{z:Vg}(mx:Bool)(W:Walks prog w A.in1 I fp wr n P St)(bt:Nat->Nat->Bool)(zR:Od prog w A.in1 (mmO mx) G P bt)(hf:B∉fp)
  (hG:∀h' tk,(∀b o,b∉wr->b≠B->z.heap.get? b=U o->h'.get? b=U o)->G {z with heap:=h',toks:=tk})
  (hE:n=0->∃k d t,kw=(k,d)::t/\∀h' tk,(∀b o,b∉wr->b≠B->z.heap.get? b=U o->h'.get? b=U o)->R (.ok (.ret d)) {z with heap:=h',toks:=tk})
  (hR:0<n->∀v h' tk,P (argBest bt (n -1)) v->(∀b o,b∉wr->b≠B->z.heap.get? b=U o->h'.get? b=U o)->R (.ok (.ret v)) {z with heap:=h',toks:=tk}):
  ∀k i old h tk,i+k=n->St i h->u9 h B (jI old)->(∀b o,b∉wr->b≠B->z.heap.get? b=U o->h.get? b=U o)->(match old with|none=>i=0|some v=>0<i/\P (argBest bt (i -1)) v)->
   codeAny (model prog w) A (.builtin (mmN mx) ⟨[.ref I,.none,.ref B],kw⟩) R {z with heap:=h,toks:=tk}
 |0,i,old,h,tk,hk,st,l,kp,ho=>by
  refine hde λG fin=> ?_;cases hk;refine fin (AI mx (W.done {z with heap:=h,toks:=tk} _ _ st λh' yH k=> ⟨let⟨c,e⟩:=l;⟨c,k B _ (λm=>hf (W.sub _ m)) e⟩, ?_⟩) l);have kp' :=λb o q1 q2 q=>k b o q1 (kp b o q1 q2 q);cases old with
  |none=>
   refine hde λG fin=> ?_;obtain⟨a,d,t,q1,q2⟩:=hE ho;exact fin (⟨a,d,t,q1,q2 h' yH kp'⟩)
  |some v=>exactλh2 k2=>hR ho.1 v h2 yH ho.2 λb o q1 q2 q=>k2 b o q2 (kp' b o q1 q2 q)
 |k+1,i,old,h,tk,hk,st,l,kp,ho=>by
  refine AI mx (W.item i {z with heap:=h,toks:=tk} _ _ (by lia) st λx h' yH hP zq k' => ⟨let⟨c,e⟩:=l;⟨c,k' B _ (λm=>hf (W.sub _ m)) e⟩, ?_⟩) l;have kp' :=λb o q1 q2 q=>k' b o q1 (kp b o q1 q2 q);have go:∀v h2,u9 h2 B _->(∀b o,b≠B->h'.get? b=U o->h2.get? b=U o)->P _ v->codeAny _ A _ R {z with heap:=h2,toks:=yH }:=λv h2 l2 k2 hv=>
   AJ mx W bt zR hf hG hE hR k (i+1) (U v) h2 yH (by simp_all+arith) (W.frame _ _ _ zq λb m o q=>k2 b o (λe=>hf (e▸m)) q) l2 (λb o q1 q2 q=>k2 b o q2 (kp' b o q1 q2 q)) ⟨Nat.succ_pos _,hv⟩
  cases old with
  |none=>
   refine hde λG fin=> ?_;cases ho;exact fin (λh2 l2 k2=>go x h2 l2 k2 hP)
  |some v=>
   refine hde λG fin=> ?_;obtain⟨pos,hv⟩:=ho;obtain⟨j,rfl⟩:∃j,i=j+1:=⟨i -1,by lia⟩
   refine fin (⟨bt (j+1) (argBest bt j),λQ E q=>zR _ _ x v _ Q E (hG h' yH kp') hP hv q,λh2 l2 k2=>go _ h2 l2 k2 ?_⟩);show P (if bt (j+1) (argBest bt j)=O then j+1 else argBest bt j) _;split
   .exact hP
   .exact hv
def wx(a d:Vf):argsOk "min" ⟨[a],[(Str.ofString "default",d)]⟩:=by unfold argsOk;kernel_rfl
def wy(a d:Vf):argsOk "max" ⟨[a],[(Str.ofString "default",d)]⟩:=by unfold argsOk;kernel_rfl
def mmF(mx:Bool):String:=bif mx then "max" else "min"
abbrev MMs (prog:Vn) (w:World) (A:Vm) (mx:Bool) (od:Option Vf) (Q:VSP) (it:Vf) (s₂:Vg):Prop:=∃I fp wr n P St bt G,it= .ref I/\Walks prog w A.in1 I fp wr n P St/\St 0 s₂.heap/\(∀b∈fp,b<s₂.heap.objs.size)/\Od prog w A.in1 (mmO mx) G P bt/\
 (∀h' tk,(∀b o,b∉wr->s₂.heap.get? b=U o->h'.get? b=U o)->G {s₂ with heap:=h',toks:=tk})/\(n=0->∃d,od=U d/\∀h' tk,(∀b o,b∉wr->s₂.heap.get? b=U o->h'.get? b=U o)->Q d {s₂ with heap:=h',toks:=tk})/\
 (0<n->∀v h' tk,P (argBest bt (n -1)) v->(∀b o,b∉wr->s₂.heap.get? b=U o->h'.get? b=U o)->Q v {s₂ with heap:=h',toks:=tk})
def mV{E:VSP}{s₂:Vg}(mx:Bool)(od:Option Vf)(q:MMs prog w A mx od Q it s₂):codeAny (model prog w) A (.builtin (mmN mx) ⟨[it,.none,.ref s₂.heap.objs.size],od.toList.map λd=>(Str.ofString "default",d)⟩) (λr s' =>match r with| .ok (.ret v)=>Q v s' | .ok _=>False| .error e=>E e s') {s₂ with heap:=s₂.heap.push {cls:= .type "list",data:= .seq #[]}}:=by
 refine hde λG fin=> ?_;obtain⟨I,fp,wr,n,P,St,bt,G,rfl,W,st,lt,hc,hG,h0,hv⟩:=q;have up:∀{h' :Vj},(∀b o,b∉wr->b≠_->s₂.heap.get? b=U o->h'.get? b=U o)->∀b o,b∉wr->s₂.heap.get? b=U o->h'.get? b=U o:=λk b o q e=>k b o q (Gbi (Gbj e)) e;refine fin (AJ mx W bt hc (λm=>Nat.lt_irrefl _ (lt _ m)) (λh' tk k=>hG h' tk (up k)) (λn0=>(hde λG fin=> ?_)) (λp v h' tk hp k=>hv p v h' tk hp (up k)) n 0 J _ _ (Gcw _) (W.frame _ _ _ st λb _ o e=>Gag _ e) ⟨0,Gat _ rfl⟩ (λb o _ _ e=>Gag _ e) rfl);obtain⟨d,rfl,hd⟩:=h0 n0;exact fin (⟨_,d,_,rfl,λh' tk k=>hd h' tk (up k)⟩)
def AK(mx:Bool)(od:Option Vf)(h:wpAny (model prog w) A.in1 (pyIter x) (MMs prog w A mx od Q) E z):wpAny (model prog w) A (call (.builtin (mmF mx)) [x] (od.toList.map λd=>(Str.ofString "default",d))) Q E z:=by
 have quiet:∀a,Code.quiet (.builtin (mmN mx) a)=O:=λa=>by cases mx<;>exact plainId_quiet rfl _
 cases mx<;>cases od
 .exact Gdq F.kind_min F.plain_min F.entry_min (F.args_min1 _) (Gad (GdA (a:=[J,J]) rfl (Gad (Gao (Gad (on h λ_ _ q=>Gad (GbN (Gao ⟨quiet _,mV _ _ q⟩))))))))
 .exact Gdq F.kind_min F.plain_min F.entry_min (wx _ _) (Gad (GdA (a:=[J,U _]) rfl (Gad (Gao (Gad (on h λ_ _ q=>Gad (GbN (Gao ⟨quiet _,mV _ _ q⟩))))))))
 .exact Gdq F.kind_max F.plain_max F.entry_max (F.args_max1 _) (Gad (GdA (a:=[J,J]) rfl (Gad (Gao (Gad (on h λ_ _ q=>Gad (GbN (Gao ⟨quiet _,mV _ _ q⟩))))))))
 .exact Gdq F.kind_max F.plain_max F.entry_max (wy _ _) (Gad (GdA (a:=[J,U _]) rfl (Gad (Gao (Gad (on h λ_ _ q=>Gad (GbN (Gao ⟨quiet _,mV _ _ q⟩))))))))
end
section
variable [Wd]
def tx(ns:List Int)(i:Nat):Int:=ns[i]?.getD 0
def C5{f:Int->Int->Int}{i:Int}{ns:List Int}(hk:k<ns.length):(ns.take (k+1)).foldl f i=f ((ns.take k).foldl f i) (ns[k]):=by
 rw[Gef hk,List.foldl_append];rfl
theorem wz{n:Int}{ns:List Int}:∀k,k<=ns.length->tx (n::ns) (argBest (λi j=>decide (tx (n::ns) i>tx (n::ns) j)) k)=(ns.take k).foldl (λa b=>if b>a then b else a) n
 |0,_=>by simp[argBest,tx]
 |k+1,hk=>by
  have ih:= @wz n ns k (by exact GaJ ‹_›);rw[C5 _,argBest];have e:tx (n::ns) (k+1)=ns[k]:=by simp[tx,show k<_ by assumption]
  rw[ih,e];simp only[Gbl];split
  .exact e
  .exact ih
def AL{us:List Vf}{ns:List Int}(r:aP F h ds us)(e:jQ ds=U ns):us.length=ns.length/\∀(i:Nat) v,us[i]? =U v->∃t,v= .int (tx ns i) t:=by
 induction ds generalizing us ns with
 |nil=>cases e;rw[r.empty];exact⟨rfl,λi v q=>by simp at q⟩
 |cons d ds ih=>
  obtain⟨v,w,rfl,h1,h2⟩:=r.gM;cases d<;>try (cases e;done)
  obtain⟨ms,e',rfl⟩:=Gab.mp e;obtain⟨t,rfl⟩:=(Rep.inn h1).int;obtain⟨l,k⟩:=ih h2 e';refine⟨by simp[l],λi v q=> ?_⟩;cases i with
  |zero=>cases q;exact⟨t,rfl⟩
  |succ i=>exact k i v q
def Hp{X:Cx}(hc:X.calm=O)(hg:Gl X "max")(hm:X.mg "max"=J)(he:PE X e f)(hd:PE X dx (kE (.int k)))(hs:starEach [e] X.env=[(M,eval e X.env)]):PE X (.Call (.Name "max" p) [e] [⟨U "default",dx,kp⟩] pos) (mmE lU (.int k) f):=λenv Z s r I q=>a6 q λx hx q=>by
 refine Gbu (jf I hg hm (u:= .builtin "max") rfl (PyProof.Rows.callWith_kw (thn (fg he iQ (by rw[hs];rfl) pos env Z s [x] I (by simp_all)) λus s1 ⟨x1,rs⟩=> ?_) (by rw[hs];rfl) (by rw[hs];rfl) rfl rfl));obtain⟨v,rfl,r1⟩:=gO rs;have I1:=I.exp x1;refine PyProof.Rows.kws_cons (thn (hd env Z s1 _ I1 rfl) λdu s2 ⟨x2,r2⟩=>PyProof.Rows.kws_nil ?_);obtain⟨ds,h1,q⟩:=GaZ.mp q;obtain⟨ns,h2,rfl⟩:=Gab.mp q;obtain⟨c,sq,hq⟩:=jZ h1;obtain⟨a,eo,rfl,_,t,z,rp⟩:=((r1.later I I1 x2).inn I).sq sq;obtain⟨hl,hv⟩:=AL rp h2;have hn:eo.size=ns.length:=by simpa using hl
 have val:∀(i:Nat) (v:Vf),eo[i]? =U v->∃t,v= .int (tx ns i) t:=λi v e=>hv i v (by simpa using e);obtain⟨t2,rfl⟩:=(r2.inn I1).int;refine AK (x:= .ref a) O (U (Value.int k t2)) (mQ (X:=X) (A:=X.A.in1) (I.ok.hd hc) t hq λIt fp wr St s₃ W st lt kept=> ⟨It,fp,wr,_,_,St,_,λ_=>True,rfl,W,st,lt,λi j vi vj zz Q' E' _ hi hj RL =>CmpOf.ints_gt (tx ns) val i j vi vj zz Q' E' hi hj RL,λ_ _ _=>trivial,λhz=> ⟨_,rfl,λh' tk hk=> ?_⟩,λhz u h' tk hu hk=> ?_⟩)
 all_goals
  obtain⟨⟨zo,e⟩,kk⟩:=kept h' tk hk;rw[e];refine⟨(x1.trans x2).trans ((I1.exp x2).kept kk _), ?_⟩
 .cases ns with
  |nil=>exact .one rfl
  |cons n ns=>simp[hz] at hn
 .cases ns with
  |nil=>simp[hn] at hz
  |cons n ns=>
   obtain⟨t,rfl⟩:=val _ _ hu;rw[show eo.size -1=ns.length by simp[hn],wz _ (GaN _),Ged];exact .one rfl
end
section
variable [Wd]
def L6{X:Cx}{pos:Pos}(hN:X.N[i]? =U x)(hv:Vis X.env.scope x)(hk:PE X k f)(he:PE X value g)(hd:(x==Dgs)=M)(eO:(x==("__classdict__":Str))=M)
  (hs:swapsWith value (U (.Subscript (.Name x px) k pos')) pos.line X.env=pure M)
  (put:∀{env Z s q d d' dv v u y},Inv X env Z s->¬Cln X env Z q->d.top=O->Top (Cln X env Z) s.heap d q->Rep (Cln X env Z) s.heap dv v->InE X env Z s y u->putD d y dv=U d' ->wpX X (setItem (.ref q) u v) (λ_ s' =>Chg X env Z q d' s s') X.xe s):
  PS X (.Assign [.Subscript (.Name x px) k pos'] value pos) (BF i f g):=λenv Z s o I w=>a6 w λr hr w=>a6 w λy hy w=>a6 w λd xU w=>by
 split at w
 .rename_i hfree;refine aS w λd' h1 h2=>hde λG fin=> ?_;subst h2;obtain⟨gi,q,hq,tp,_,_,_,nc⟩:=I.owned xU;refine fin (wpAny_Assign_Subscript (thn (he env Z s r I hr) λv s1 ⟨x1,r1⟩=>fF (I.exp x1) ⟨_,gi⟩ hN hv hd eO (thn (hk env Z s1 y (I.exp x1) hy) λu s2 ⟨x2,r2⟩=> ?_)) hs);rw[hq];have x12:=x1.trans x2;exact thn (put (I.exp x12) nc tp (I.O0 x12 xU hq) ((r1.later I (I.exp x1) x2).rep I hfree) (r2.inn (I.exp x1)) h1) λ_ s3 c=>c.sp I x12 xU hq
 .cases w
end
section
variable [Wd]
section
variable{X:Cx}
theorem C6(hc:X.calm=O):gh X (.builtin "max") u7:=λenv Z s ds us r I ps e=>by
 obtain⟨d,xs,rfl,h1,h2⟩:=pX e;obtain⟨ns,xZ,h3⟩:=GaZ.mp h2;cases ns with
 |nil=>cases h3
 |cons n ns=>
  refine hde λG fin=> ?_;cases h3;obtain⟨v,rfl,i⟩:=gO ps;obtain⟨c,sq,hq⟩:=jZ h1;obtain⟨a,eo,rfl,_,t,z,rp⟩:=i.sq sq;obtain⟨hl,hv⟩:=AL rp xZ;have hn:eo.size=ns.length+1:=by simpa using hl
  have val:=λi v e=>hv i v (by simpa using e);refine fin (AK O J (mQ (I.ok.hd hc) t hq λIt fp wr St s₃ W st lt kept=> ⟨It,fp,wr,_,_,St,_,λ_=>True,rfl,W,st,lt,λi j vi vj zz Q' E' _ hi hj RL =>CmpOf.ints_gt _ val i j vi vj zz Q' E' hi hj RL,λ_ _ _=>trivial,λhz=>by lia,λhz u h' tk hu hk=>(hde λG fin=> ?_)⟩));obtain⟨⟨zo,e⟩,kk⟩:=kept h' tk hk;refine fin ?_;rw[e];refine⟨I.kept kk _,(hde λG fin=> ?_)⟩;obtain⟨t,rfl⟩:=val _ _ hu;refine fin ?_;rw[show _ -1=ns.length by lia,wz _ (GaN _),Ged];exact .one rfl
def C7(hc:X.calm=O):gh X (.builtin "max") pL:=λenv Z s ds us r I ps e=>by
 unfold pL at e;split at e<;>cases e
 obtain⟨v,w,rfl,i1,i2⟩:=Dq ps;obtain⟨t,rfl⟩:=i1.int;obtain⟨t',rfl⟩:=i2.int;refine max_two_ints (I.ok.hd hc) λh' tk k=> ⟨I.kept k _, ?_⟩;split<;>exact .one rfl
end
end
section
variable [Wd]
def L7(h1:At x u)(h2:At y u):x=y:=by
 revert h2;refine At.el h1 ?_ ?_ ?_ ?_<;>intros<;>(rename_i h2;cases y<;>first|exact False.elim h2|(cases h2;rfl))
def AM(n:Nat):∀{x y u},bK n x=O->bK n y=O->Rep F h x u->Rep G h y u->x=y:=by
 induction n using Nat.strongRecOn with|_ n ih=> ?_
 intro x y u p1 p2 r1 r2;rcases r1.inn with e1| ⟨a,rfl,_,c,ds,eo,q,t,_,k⟩
 .rcases r2.inn with e2| ⟨_,rfl,_⟩
  .exact L7 e1 e2
  .cases x<;>exact False.elim e1
 .rcases r2.inn with e2| ⟨a',e,_,c',xC,xo,q',t',_,k'⟩
  .cases y<;>exact False.elim e2
  .cases e;obtain⟨m,e,pa,hd⟩:=fG p1 q;obtain⟨m',e',zI,xU⟩:=fG p2 q';have hi:c' =c/\eo=xo :=by rcases hd with⟨_,rfl⟩| ⟨_,rfl⟩<;>exact t.inj t'
   obtain⟨hc,rfl⟩:=hi;obtain rfl:m=m' :=by simp_all
   have:ds=xC :=List.ext_getElem (k.1.trans k'.1.symm) λj h1 h2=>
    ih m (by simp[*]) (Gal.mp pa _ (Gap h1)) (Gal.mp zI _ (Gap h2)) (k.2 j _ _ (Gaa h1) (Gaa _)) (k'.2 j _ _ (Gaa h2) (Gaa (by rw[<-k.1];exact h1)))
   subst this;rcases hd with⟨rfl,z⟩| ⟨rfl,z⟩<;>rcases xU with⟨rfl,z'⟩| ⟨rfl,z'⟩<;>first|rfl|(rw[z,z'] at hc;exact absurd (Shp.of.inj hc) (by decide))
section
def uH{s:Vg}{A:Vm}{ds:List D}{eo:Array Vf}(hu:A.units+20<cLine)(hx:bK 10 x=O)(hs:ds.all (bK 10)=O)(rx:Inn F T s.heap x v)(rs:aP G s.heap ds eo.toList):
  ∃ev,(∀w∈eo,SeqAt.EqAt A.in1 s w v (ev w))/\eo.any ev=ds.any λy=>eqD y x:=by
 classical
 have pd:∀{i:Nat} {d},ds[i]? =U d->bK 10 d=O:=λh=>Gal.mp hs _ (GaH h);refine⟨λw=>decide (∃(i:Nat) (d:D),eo.toList[i]? =U w/\ds[i]? =U d/\eqD d x=O),λw hw=> ?_, ?_⟩
 .obtain⟨i,hi⟩:=Gbs (Geq.mpr hw);have il:i<ds.length:=by rw[rs.1];exact(Gae.mp hi).1
  have hd:=Gaa il;have r:=rs.2 i _ _ hd hi;have key:decide (∃(i:Nat) (d:D),eo.toList[i]? =U w/\ds[i]? =U d/\eqD d x=O)=eqD ds[i] x:=by
   cases q:eqD ds[i] x with
   |true=>exact GaI ⟨i,_,hi,hd,q⟩
   |false=>exact GaR λ⟨j,d',g1,g2,g3⟩=>by rw[<-AM 10 (pd hd) (pd g2) r (rs.2 j _ _ g2 g1),q] at g3;cases g3
  show SeqAt.EqAt _ _ _ _ (decide _);rw[key];exact JA (K7 10 (pd hd) hx r.inn rx (by lia)).1 (λb t z=>by rcases r.inn with e| ⟨_,e,_⟩<;>rw[z] at e<;>first|cases e|(generalize ds[i]=d at e;cases d<;>exact e)) λz=>by
   subst z;rcases rx with e| ⟨a,rfl,_,t⟩
   .rw[AM 10 (pd hd) hx r (Rep.one (F:=F) e)];exact JB e e
   .exact D5 10 (pd hd) hx r ((Top.imp t λ_ _=>trivial).rep trivial)
 .rw[Bool.eq_iff_iff,<-Array.any_toList,Gdt,Gdt];constructor
  .rintro⟨w,hw,e⟩;obtain⟨i,d,_,h2,h3⟩:=Gay e;exact⟨d,GaH h2,h3⟩
  .rintro⟨d,hd,e⟩;obtain⟨i,hi⟩:=Gbs hd;have hl:i<eo.toList.length:=by rw[<-rs.1];exact(Gae.mp hi).1
   exact⟨eo.toList[i],Gap hl,GaI ⟨i,d,Gaa hl,hi,e⟩⟩
variable{X:Cx}
def AN(hu:X.A.units+20<cLine)(I:Inv X env Z s)(i1:InE X env Z s x v)(i2:InE X env Z s y u)(e:inB x y=U b)(h:∀tk,Q (.bool b) {s with toks:=tk})(h' :∀tk,Q' (.bool (!b)) {s with toks:=tk}):
  wpX X (compareOp .In v u) Q E s/\wpX X (compareOp .NotIn v u) Q' E s:=by
 have seq:∀{ds},rF x ds=U b->bK 10 x=O/\ds.all (bK 10)=O/\b=ds.any λy=>eqD y x:=λ{ds} hb=>by
  unfold rF at hb;split at hb<;>cases hb
  refine hde λG fin=> ?_;rename_i c;rw[Gac] at c;exact fin (⟨c.1,c.2,rfl⟩)
 unfold inB at e;split at e
 .split at e
  .obtain⟨k,hk,rfl⟩:=Gab.mp e;rw[fH hk] at i1;obtain⟨p,eo,rfl,_,t,_,rp⟩:=i2.sq rfl;obtain⟨b,_,rfl,_⟩:=i1.sq rfl;obtain⟨hd,xs,dd,q⟩:=vT t rp;rcases q.look k with⟨_,_,e1,e2,_⟩| ⟨e1,e2⟩<;>rw[e1] at h h' <;>
    exact⟨wpAny_in_heap (Gcx (by lia)) (iD i1) hd dd (by rw[e2];exact h _),wpAny_notIn_heap (Gcx (by lia)) (iD i1) hd dd (by rw[e2];exact h' _)⟩
  .cases e
 .obtain⟨p1,p2,rfl⟩:=seq e;refine hde λG fin=> ?_;obtain⟨p,eo,rfl,_,t,_,rp⟩:=i2.sq rfl;obtain⟨ev,e1,e2⟩:=uH hu p1 p2 i1 rp;exact fin (⟨SeqAt.in_listAt ev t.lst.isList e1 (by rw[e2];exact h _),SeqAt.notIn_listAt ev t.lst.isList e1 (by rw[e2];exact h' _)⟩)
 .obtain⟨p1,p2,rfl⟩:=seq e;refine hde λG fin=> ?_;obtain⟨p,eo,rfl,_,t,_,rp⟩:=i2.sq rfl;obtain⟨ev,e1,e2⟩:=uH hu p1 p2 i1 rp;exact fin (⟨SeqAt.in_tupleAt ev t.tup e1 (by rw[e2];exact h _),SeqAt.notIn_tupleAt ev t.tup e1 (by rw[e2];exact h' _)⟩)
 .cases e
def Oe(hu:X.A.units+20<cLine):jN X .In inB:=λenv Z s x y v u b I i1 i2 e=>(AN (Q' :=λ_ _=>True) hu I i1 i2 e (λtk=> ⟨rfl,.tok tk⟩) λ_=>trivial).1
def L8(hu:X.A.units+20<cLine):jN X .NotIn NV:=λenv Z s x y v u b I i1 i2 e=>by
 obtain⟨b',e',rfl⟩:=Gab.mp e;exact(AN (Q:=λ_ _=>True) hu I i1 i2 e' (λ_=>trivial) λtk=> ⟨rfl,.tok tk⟩).2
end
section
variable{X:Cx}{e o:Vi}{f:DE}{apos eG:Pos}
variable{s:Vg}
def Inv.big(I:Inv X env Z s):sysModules<s.heap.objs.size:=Nat.lt_trans (by decide) (I.ok.mod.glob.keeps I.bk).lt
def AO:PE X (.Dict [] [] pos) sM:=λenv Z s r I e=>by
 cases e;refine wpAny_Dict_empty ⟨I.push _ _,rfl,_,rfl,aJ,.dt [],[],#[],rfl,⟨beq_eq_false_iff_ne.mpr (Gbg (Gbi I.big)),GeB,[],⟨_,#[],0,Gat _ rfl,⟨rfl,rfl,rfl⟩,rfl,rfl⟩,rfl,rfl⟩,Gbm _,.nil⟩
def Top.dct{eA:List (List Key×D)}(t:Top F s.heap (.dT eA) q):(q==sysModules)=M/\eA.length<=sizeLine/\∃xs,s.heap.DictOfH kk q xs/\Kts F s.heap eA xs:=by
 obtain⟨_,_,eo,e,t,z,rp⟩:=t;cases e;obtain⟨h1,h2⟩:=vT t rp;have:eA.length+eA.length=eo.size:=by have:=rp.1;simpa using this
 exact⟨h1,by lia,h2⟩
def Top.E7{eA:List (List Key×D)}{xs:List Ent}(h1:(q==sysModules)=M)(z:eA.length<=sizeLine)(dd:s.heap.DictOfH kk q xs)(w:Kts F s.heap eA xs):Top F s.heap (.dT eA) q:=
 have⟨t,rp⟩:=Kg h1 dd w
 ⟨_,_,_,rfl,t,by show(GC xs).toArray.size<=sizeLine+sizeLine;have:=w.len;simp;lia,rp⟩
def Inn.key(i:Inn F T s.heap (kyT ks) u):∃b,u= .ref b/\T b/\Top F s.heap (kyT ks) b:=by
 rcases i with e| ⟨b,rfl,z,t⟩
 .exact False.elim e
 .exact⟨b,rfl,z,t⟩
def E8(hu:X.A.units+20<cLine)(nc:¬Cln X env Z q)(T:Top (Cln X env Z) s.heap (.dT eA) q)(hv:Rep (Cln X env Z) s.heap dv v)(hy:InE X env Z s yd u)(e:putD (.dT eA) yd dv=U d'):wpX X (setItem (.ref q) u v) (λ_ s' =>Chg X env Z q d' s s') X.xe s:=by
 cases yd<;>first|cases e;done|skip
 unfold putD at e;dsimp only at e;split at e<;>first|cases e;done|skip
 refine hde λG fin=> ?_;rename_i hl;obtain⟨k,hk,rfl⟩:=Gab.mp e;rw[fH hk] at hy;rw[eL] at hl;obtain⟨b,rfl,z,t⟩:=hy.key;obtain⟨h1,hz,xs,dd,w⟩:=T.dct;exact fin (wpAny_setItem_heap (Gcx (by lia)) (iD hy) dd (λh' R6 hs=> ⟨h',_,rfl,hs,rfl,(Top.E7 (s:={s with heap:=h' }) h1 (by have:=vU (eA:=eA) (k:=k) (d:=dv);lia) R6 ((w.put (t.rep (z.2 rfl)) hv).keep λb o f g _=> ⟨f,(hs.2 b λy=>nc (y▸f)).trans g⟩))⟩) (by rw[<-w.len];exact hz))
def Hq{d:D}(hu:X.A.units+20<cLine)(I:Inv X env Z s)(nc:¬Cln X env Z q)(tp:d.top=O)(T:Top (Cln X env Z) s.heap d q)(hv:Rep (Cln X env Z) s.heap dv v)(hy:InE X env Z s yd u)(e:putD d yd dv=U d'):wpX X (setItem (.ref q) u v) (λ_ s' =>Chg X env Z q d' s s') X.xe s:=by
 cases d<;>first|cases tp;done|skip
 .cases e
 .exact E8 hu nc T hv hy e
 .cases e
structure M2(X:Cx)(o:Vi)(m:Str)(apos:Pos)(e f:Vi)(eG:Pos):Prop where
 base:attributeBase o m X.env (eval o X.env)=eval o X.env
 few:((backTo eG (starEach [e,f] X.env)).all (λx=> !x.1)&&(backToKw eG (keywordEach [] X.env)).all (λx=>x.1.isSome)
  &&decide (([e,f]:List Vi).length+([]:List Keyword).length+(if([]:List Keyword).isEmpty then 0 else 1)<30))=O
 line:(apos.endLine==eG.line)=O
 trees:backTo eG (starEach [e,f] X.env)=[(M,eval e X.env),(M,eval f X.env)]
def Inn.dct(i:Inn F T s.heap (.dT eA) u):∃q,u= .ref q/\T q/\Top F s.heap (.dT eA) q:=by
 rcases i with e| ⟨b,rfl,z,t⟩
 .exact False.elim e
 .exact⟨b,rfl,z,t⟩
def Hr(hu:X.A.units+20<cLine)(ho:PE X o f)(he:PE X e g)(hf:PE X k h)(m:M2 X o "get" apos e k eG):PE X (.Call (.Attribute o "get" apos) [e,k] [] eG) (Ds f g h):=λenv Z s r I q=>
 a6 q λx hx q=>a6 q λy hy q=>a6 q λz hz q=>by
  split at q<;>first|cases q;done|skip
  rename_i hzk;refine aS q λdv hd hr=> ?_;subst hr;refine wpAny_Call_method m.base m.few m.line GdP PySem.F.slot_dict_get PySem.F.type_dict_get (thn (ho env Z s x I hx) λu s1 ⟨x1,r1⟩=> ?_);have I1:=I.exp x1;have i1:=r1.inn I;unfold Ks at hd;split at hd<;>first|cases hd;done|skip
  rename_i eA ks e1 e2;obtain⟨SE,hk,rfl⟩:=Gab.mp hd;have i0:=i1;rw[e1] at i0;obtain⟨qa,rfl,_,T0⟩:=i0.dct;obtain⟨_,_,xs0,QF,_⟩:=T0.dct;refine⟨QF.typeIs,λa w=> ?_, ?_⟩
  .cases w;obtain⟨ob,_,_,g,c,_⟩:=QF;exact⟨ob,g,c.2.1⟩
  rw[m.trees];refine GbY rfl (GcK (GaX (thn (he env Z s1 y I1 hy) λiv s2 ⟨x2,r2⟩=>GaX (thn (hf env Z s2 z (I1.exp x2) hz) λfv s3 ⟨x3,r3⟩=>GbA ?_))));have i1:=(r1.later I I1 (x2.trans x3)).inn I;have i2:=(r2.later I1 (I1.exp x2) x3).inn I1;rw[e1] at i1;rw[e2,fH hk] at i2;obtain⟨Uu,ea,_,T⟩:=i1.dct;cases ea;obtain⟨hd,_,xs,dd,w⟩:=T.dct;obtain⟨kb,rfl,_⟩:=i2.key;refine call_meetsIn PySem.F.slot_dict_get dd.typeIs PySem.F.entry_dict_get (PySem.F.args_dict_get_3 _ _ _) (meetsH_dict_get_default kk qa kb hd fv) ⟨Gcx (by lia),SE,xs,iD i2,dd,x1.trans (x2.trans (x3.trans (.tok _))), ?_⟩;rcases w.look SE with⟨_,p,e3,e4,r4,_⟩| ⟨e3,e4⟩<;>rw[e3,e4]
  .exact r4
  .obtain⟨zk,zd⟩:=z;cases(show zk= .c from hzk);exact r3
end
end
end NL
namespace NL
open PySem PySem.Spec PyProof.Rows
section
variable{ep:Nat}
def pn(d:Vh)(hd:(d==sysModules)=M):MeetsIn prog w (Builtin.«dict.items» ⟨[.ref d],[]⟩) (λ_ R s=>s.TypeIs (.ref d) "dict"/\R (.ok (.ret (.ref s.heap.objs.size))) {s with heap:=s.heap.push {cls:= .type "dict_items",data:= .fields #[.ref d]}}):=by
 apply MeetsIn.of_wp;rintro A R s ⟨hm,h⟩
 wp_walk using wpAny_notOrdered_dict hm,GbN
 .exact⟨_,rfl,h⟩
 .size_fits
variable{s:Vg}
def qi{es:Array DictEntry}{ep:Nat}(hv:s.heap.IsItemsView v d)(hm:sN s.heap d es ep)
  (hQ:Q (.ref s.heap.objs.size) {s with heap:=s.heap.push {cls:= .type "dict_itemiterator",data:= .fields #[.none,.bool M,.ref d,.int 0 0,.int es.size 0,.int ep 0,.none,.none]}}):wpAny (model prog w) A (pyIter (.ref v)) Q E s:=by
 have f:FO _ v _ _:=hv;apply wpAny_pyIter_slot f.ty F.slot_dict_items_iter;apply GcP F.slot_dict_items_iter f.ty F.entry_dict_items_iter
 wp_walk using jT f rfl,D2 hm,Jy hm,GbN
 .exact⟨_,rfl,_,_,⟨_,Gat _ rfl,rfl⟩,Gdg.lookup,hQ⟩
 .simp[sizeOk,Builtin.Dict_items.ownsTuple,Builtin.Dict_items.ownedTupleFields,Gdy]
abbrev ItI (h:Vj) (it d:Vh) (i n ep:Nat) (f0 f1 ok ov:Vf):Prop:=FO h it "dict_itemiterator" #[f0,f1,.ref d,.int i 0,.int n 0,.int ep 0,ok,ov]
def Kept(h:Vj)(it:Vh)(f0 f1:Vf):Prop:=f0= .none\/∃(a:Vh) (oa:Vo) (f:Bool),f0=rawInt a/\f1= .bool f/\h.get? a=U oa/\a≠it
def C8(f:FO s.heap it "dict_itemiterator" #[f0,f1,x2,x3,x4,x5,ok,ov])(hf:Kept s.heap it f0 f1)
  (h:∀h' g0 g1 yX yW,FO h' it "dict_itemiterator" #[g0,g1,x2,x3,x4,x5,yX,yW]->((f0= .none/\g0=rawInt s.heap.objs.size/\g1= .bool M)\/(f0≠ .none/\g0=f0/\g1= .bool O))->
   h'.get? s.heap.objs.size=U {cls:= .type "tuple",data:= .seq #[k,v]}->h'.objs.size=s.heap.objs.size+1->(∀b o,b≠it->s.heap.get? b=U o->h'.get? b=U o)->Q (.ref s.heap.objs.size) {s with heap:=h' }):
  wpAny (model prog w) A (Builtin.Dict_items.pairFromOwner (.ref it) 6 k v) Q E s:=by
 apply Gad;refine wpAny_newTuple ?_;have f2:=f.at λo=>Gag {cls:= .type "tuple",data:= .seq #[k,v]};have t2:(s.heap.push {cls:= .type "tuple",data:= .seq #[k,v]}).get? _=_:=Gat _ rfl;have k2:∀b o,s.heap.get? b=U o->(s.heap.push {cls:= .type "tuple",data:= .seq #[k,v]}).get? b=U o:=λb o=>Gag _;have z2:(s.heap.push {cls:= .type "tuple",data:= .seq #[k,v]}).objs.size=s.heap.objs.size+1:=GdJ ..;generalize s.heap.push {cls:= .type "tuple",data:= .seq #[k,v]}=p at*;have fin:∀h',Heap.SameBut it p h' ->h'.get? s.heap.objs.size=U {cls:= .type "tuple",data:= .seq #[k,v]}/\h'.objs.size=s.heap.objs.size+1/\∀b o,b≠it->s.heap.get? b=U o->h'.get? b=U o:=λh' sb=> ⟨sb.extBut _ _ (Ger f.lt) t2,sb.1.trans z2,λb o n e=>sb.extBut b o n (k2 b o e)⟩;rcases hf with rfl| ⟨a,oa,b,rfl,rfl,ha,UG⟩
 .wp_walk using jT (i:=0) (x:= .none) f2 rfl,jT (i:=6) (x:=ok) f2 rfl,jT (i:=7) (x:=ov) f2 rfl,iP f2
  .rintro h3 ⟨f3,s3⟩;refine Gad (iP f3 (λh4 ⟨f4,s4⟩=>Gad (iP f4 (λh5 ⟨f5,s5⟩=>Gad (iP f5 (λh6 ⟨f6,s6⟩=>Gad (wpAny_letGo (Gao ?_))) (by simp))) (by simp))) (by simp));obtain⟨q1,q2,q3⟩:=fin h6 (((s3.trans s4).trans s5).trans s6);exact h h6 _ _ _ _ f6 (.inl ⟨rfl,rfl,rfl⟩) q1 q2 q3
  .show _<8
   decide
 .wp_walk using jT (i:=0) (x:=rawInt a) f2 rfl,PySem.W.kdx_alive (k2 a oa ha),jT (i:=1) (x:= .bool b) f2 rfl
  have q1:(Value.bool b !=Value.bool O)= !b:=by cases b<;>rfl
  rw[q1];have no:rawInt (a:Int)≠Value.none:=by simp[rawInt]
  cases b with
  |true=>
   wp_walk
   obtain⟨q1,q2,q3⟩:=fin p (Heap.SameBut.refl _ _);exact h p _ _ _ _ f2 (.inr ⟨no,rfl,rfl⟩) q1 q2 q3
  |false=>
   wp_walk using iP f2
   .rintro h3 ⟨f3,s3⟩
    wp_walk
    obtain⟨q1,q2,q3⟩:=fin h3 s3;exact h h3 _ _ _ _ f3 (.inr ⟨no,rfl,rfl⟩) q1 q2 q3
   .show _<8
    decide
def k8{A:Vm}{ep:Nat}{es:Array DictEntry}(hh:A.handled=J)(hit:ItI s.heap it d i es.size ep f0 f1 ok ov)(hm:sN s.heap d es ep)(hf:Kept s.heap it f0 f1)
  (hQ:∀e h' g0 g1 yX yW,es[i]? =U e->ItI h' it d (i+1) es.size ep g0 g1 yX yW ->((f0= .none/\g0=rawInt s.heap.objs.size/\g1= .bool M)\/(f0≠ .none/\g0=f0/\g1= .bool O))->
   h'.get? s.heap.objs.size=U {cls:= .type "tuple",data:= .seq #[e.key,e.val]}->(∀b o,b≠it->s.heap.get? b=U o->h'.get? b=U o)->Q (U (.ref s.heap.objs.size)) {s with heap:=h' })
  (hE:∀h',es.size<=i->Heap.ExtBut it s.heap h' ->Q J {s with heap:=h' }):wpAny (model prog w) A (pyNext (.ref it)) Q E s:=by
 have hT:=hit.ty
 wp_walk using GdN hT Gdg,GcP Gdg hT F.entry_dict_itemiterator_next (ha:=F.args_dict_itemiterator_next_1 _),D2 hm,Jy hm,K1 hit,Gdc hT
 rw[NG];cases h:es[i]? with
 |some e=>
  wp_walk using Gdc hT,wpAny_isOneOf_itemiter hT,iP hit
  .rintro h1 ⟨f,hs⟩;replace f:ItI h1 it d (i+1) es.size ep f0 f1 ok ov:=f;have kp:Kept h1 it f0 f1:=hf.imp id λyy=>by obtain⟨a,o,b,q1,q2,q3,q4⟩:=yy;exact⟨a,o,b,q1,q2,hs.extBut a o q4 q3,q4⟩
   wp_walk using wpAny_isOneOf_itemiter f.ty,C8 f kp
   intro h' g0 g1 yX yW f' g t _ k;rw[show h1.objs.size=s.heap.objs.size from hs.1] at*;exact Gao ⟨_,rfl,Gao (hQ e h' g0 g1 yX yW h f' g t λb o n q=>k b o n (hs.extBut b o n q))⟩
  .show _<8;decide
 |none=>
  wp_walk using Gdc hT,iP hit
  .rintro h' ⟨f,hs⟩;exact Jz hh λh2 a k=>Gad (Gy k.2 (Gao (hE h2 (by simpa using h) λb o n e=>k.1 b o (hs.extBut b o n e))))
  .show _<8;decide
def E9{prog:Vn}{w:World}{a:Vh}{ep:Nat}{f1:Vf}{Q:Unit->Vg->Prop}(he:ItI s.heap it d i n ep (rawInt a) f1 ok ov)
  (hQ:∀h',ItI h' it d i n ep .none f1 ok ov->Heap.SameBut it s.heap h' ->Q () {s with heap:=h' }):
  wpAny (model prog w) A (letOwnedTupleGo (.Tuple elts x1 pos) (.ref it) (.ref a)) Q E s:=by
 obtain⟨⟨c,dc,dt,sl⟩,ho,hc,hd⟩:=id he;cases hc;cases hd;apply Gad;apply wpAny_load ho;apply wpAny_ite_split<;>intro hi
 .exact Gad (Gct (iP he (λh' k=>hQ h' k.1 k.2) (by simp)))
 .simp_all
def wA{ep:Nat}(hit:ItI s.heap it d i n ep f0 f1 ok ov)(h:Q (.ref it) s):wpAny (model prog w) A (pyIter (.ref it)) Q E s:=by
 have hT:=hit.ty;apply wpAny_pyIter_slot hT GdK;apply GcP GdK hT PySem.W.kcp_entry (ha:=PySem.F.args_dict_itemiterator_iter_1 _);exact Gao ⟨_,rfl,_,_,hT,PySem.F.slot_dict_itemiterator_next.lookup,h⟩
end
section
variable{K:Type} [DecidableEq K]
variable{s:Vg}
def Ea{knd:HeapKind prog w K}{o:Vo}{es:Array DictEntry}{ys:List (K×Vh×Vf)}(ho:s.heap.get? d=U o)(hc:o.ExactDict)(hd:o.data= .dict es ep)(he:(f es).toList=ys.map (entryOfKey knd))
  (QU:∀x∈ys,knd.is s.heap x.1 x.2.1)(hn:(ys.map (·.1)).Nodup)(hz:es.size<=sizeLine)(hf:(f es).size<=es.size+1)(h:∀h',h'.DictOfH knd d ys->Heap.SameBut d s.heap h' ->Q () {s with heap:=h' }):wpAny (model prog w) A (updateDictKeys d f p) Q E s:=by
 have sb:=GcS s.heap d (Obj.mapDictKeys f);exact wpAny_updateDictKeys ho hd (h _ ⟨_,f es,ep+1,Gcb _ ho (Obj.isFreed_of_dict (Obj.data_mapDictKeys hd _)),hc.mapDictKeys _,Obj.data_mapDictKeys hd _,he,λx m=>knd.keeps (QU x m) ho hd sb,hn⟩ sb) hz hf
def pq{knd:HeapKind prog w K}{xs:List (K×Vh×Vf)}(hu:knd.room A)(yE:knd.is s.heap k a)(hm:s.heap.DictOfH knd d xs)
  (yY:∀p,atKey xs k=U p->Q p.2 {s with toks:=s.toks+knd.draws k})
  (RS:atKey xs k=J->∀h',h'.DictOfH knd d (storedH xs k a v)->Heap.SameBut d s.heap h' ->Q v {s with heap:=h',toks:=s.toks+knd.draws k})
  (yu:xs.length<=sizeLine):
  wpAny (model prog w) A (dictSetDefault d (.ref a) v) Q E s:=by
 obtain⟨o,es,ep,ho,hc,hd,he,QU,hn⟩:=hm;have sz:=size_of_entries he
 wp_walk using knd.pyHash hu yE,wpAny_dictFind_heap (s:={s with toks:=_+knd.draws k}) hu yE ho hd he QU hn
 .intro no;have none' :=atKey_none_of_get no;have ys:=storedH_new none' a v;refine Gad (Gct (Gad (Ea (knd:=knd) (ys:=storedH xs k a v) (s:={s with toks:=s.toks+knd.draws k}) ho hc hd ?_ ?_ ?_ (by simp[*]) (by simp) λh' q1 q2=>Gao (RS none' h' q1 q2))))
  .rw[ys,Gdk,he,Gbe]
   rfl
  .rw[ys];intro x m;rcases GaQ.mp m with m|m
   .exact QU x m
   .rwa[Gam.mp m]
  .rw[ys,Gbe,GdT];exact⟨hn,by simp,λx m y n=>by simp at n;rw[n];exactλe=>not_mem_keys_of_get no (e▸m)⟩
 .intro j p at_;have e:=entry_at he j;rw[at_] at e
  wp_walk using wpAny_dictEntries (s:={s with toks:=s.toks+knd.draws k}) ho hd
  rw[e]
  wp_walk
  exact yY p (atKey_of_get hn at_)
def mW{knd:HeapKind prog w K}(d a:Vh)(hd:(d==sysModules)=M)(dflt:Vf):
  MeetsIn prog w (Builtin.«dict.setdefault» ⟨[.ref d,.ref a,dflt],[]⟩) (λA R s=>knd.room A.in1/\∃k xs,knd.is s.heap k a/\s.heap.DictOfH knd d xs/\xs.length<=sizeLine/\
   (∀p,atKey xs k=U p->R (.ok (.ret p.2)) {s with toks:=s.toks+knd.draws k})/\
   (atKey xs k=J->∀h',h'.DictOfH knd d (storedH xs k a dflt)->Heap.SameBut d s.heap h' ->R (.ok (.ret dflt)) {s with heap:=h',toks:=s.toks+knd.draws k})):=by
 apply MeetsIn.of_wp;rintro A R s ⟨hu,k,xs,yE,hm,yu,h1,h2⟩
 wp_walk using wpAny_notOrdered_dict hm.typeIs,pq hu yE hm
 .exactλp q=>Gao ⟨_,rfl,h1 p q⟩
 .exactλq h' q1 q2=>Gao ⟨_,rfl,h2 q h' q1 q2⟩
 .exact yu
end
end NL
namespace NL
open PySem PySem.Spec PyProof.Rows DL
open PySem.W (KTurns)
section
variable [Wd]
theorem uI{prog:Vn}{w:World}{A:Vm}{kk:Nat}(hh:A.handled=J)(I d:Vh)(QS:d≠I)(es:Array DictEntry)(ep:Nat):
  KTurns prog w A (.Tuple elts kk tp) I [I,d] [I] es.size (λi v h=>∃T e,v= .ref T/\es[i]? =U e/\h.IsTuple T #[e.key,e.val])
   (λi v h=>∃T e f1 ok ov,v= .ref T/\es[i]? =U e/\h.IsTuple T #[e.key,e.val]/\ItI h I d (i+1) es.size ep (rawInt T) f1 ok ov/\sN h d es ep/\T≠I) (λi h=>(∃f1 ok ov,ItI h I d i es.size ep .none f1 ok ov)/\sN h d es ep) where
 sub:=by simp
 frame:=λi h h' yx k=>by obtain⟨⟨f1,ok,ov,it⟩,r⟩:=yx;exact⟨⟨f1,ok,ov,it.at (k I (by simp))⟩,r.at (k d (by simp))⟩
 item:=λi s Q E hi Rd hQ=>by
  refine hde λG fin=> ?_;obtain⟨⟨f1,ok,ov,it⟩,r⟩:=Rd;refine fin (k8 hh it r (.inl rfl) (λen h' g0 g1 yX yW q RC hg hT k=> ?_) λ_ hl=>absurd hl (by lia));have hg0:g0=rawInt s.heap.objs.size:=by
   simp_all
  subst hg0;exact hQ _ h' _ ⟨_,en,g1,yX,yW,rfl,q,⟨_,hT,rfl,0,rfl⟩,RC,r.at λo=>k d o QS,Ger it.lt⟩ λb o hb=>k b o λz=>hb (by simp[z])
 go:=λi v s Q E zC hQ=>by
  obtain⟨T,e,f1,ok,ov,hv,he,hT,it,r,RU⟩:=zC;subst hv;refine E9 it λh' RC sb=>hQ h' ⟨T,e,rfl,he,hT.at λo=>sb.extBut T o RU⟩ ⟨⟨_,_,_,RC⟩,r.at λo=>sb.extBut d o QS⟩ λb o hb=>sb.extBut b o λz=>hb (by simp[z])
 done:=λs Q E zD hQ=>by obtain⟨⟨f1,ok,ov,it⟩,r⟩:=zD;exact k8 hh it r (.inl rfl) (λ_ _ _ _ _ _ q=>absurd (GcH.mp q).1 (by simp)) λh' _ ex=>hQ h' s.toks λb o hb=>ex b o λz=>hb (by simp[z])
section
variable{X:Cx}{env:aM}{Z:Vl}{s s1:Vg}{v:Vf}{eA:List (List Key×D)}{o:Vi}{f:DE}{i:Nat}{q:Vh}
def PV(X:Cx)(o:Vi)(g:aM->Option (List (List Key×D))):Prop:=∀env Z s eA,Inv X env Z s->g env=U eA->wpX X (eval o X.env) (λv s1=>Ext X No s s1/\∃q,v= .ref q/\¬X.bad q/\¬Own env Z q/\Top (Cln X env Z) s1.heap (.dT eA) q) X.xe s
def newD(f:DE):aM->Option (List (List Key×D)):=λenv=>(f env).bind λr=>if r.k= .tn then match r.d with
 | .dT eA=>U eA
 |_=>J
 else J
def uJ(i:Nat):aM->Option (List (List Key×D)):=λenv=>match env[i]? with
 |some (U (.lok (.dT eA)))=>U eA
 |some (U (.bor (.dT eA)))=>U eA
 |_=>J
def L9(ho:PE X o f):PV X o (newD f):=λenv Z s eA I e=>a6 e λr hr e=>by
 split at e<;>first|cases e;done|skip
 rename_i hk;split at e<;>cases e
 rename_i hd;refine thn (ho env Z s r I hr) λv s1 ⟨x1,r1⟩=> ⟨x1, ?_⟩;obtain⟨k,d⟩:=r;cases hk;cases(show d= .dT eA from hd)
 obtain⟨_,a,e,h1,h2⟩:=r1;exact⟨a,e,(I.cl h1).1,λ⟨j,t,z⟩=>(I.cl h1).2 j t.ol.top z,h2.imp λb z=>z.1⟩
def Ht(hN:X.N[i]? =U x)(hv:Vis X.env.scope x)(hd:(x==Dgs)=M)(eO:(x==("__classdict__":Str))=M):PV X (.Name x px) (uJ i):=λenv Z s eA I e=>by
 unfold uJ at e;split at e<;>cases e
 .rename_i g;refine hde λG fin=> ?_;obtain⟨_,a,h1,h2,h3,h4⟩:=I.sl i _ g;exact fin (fF I ⟨_,g⟩ hN hv hd eO ⟨.refl,a,h1,h3,I.vP (by rw[g];trivial) h1 (by rw[g];exact id),h4⟩)
 .rename_i g;refine hde λG fin=> ?_;obtain⟨_,a,h1,h3,h4⟩:=I.sl i _ g;exact fin (fF I ⟨_,g⟩ hN hv hd eO ⟨.refl,a,h1,h3,I.vP (by rw[g];trivial) h1 (by rw[g];exact id),h4⟩)
def La{xs:List Ent}{es:Array DictEntry}{j:Nat}{en:DictEntry}(w:Kts F s.heap eA xs)(he:es.toList=xs.map (entryOfKey kk))(e1:eA[j]? =U p)(e2:es[j]? =U en):Rep F s.heap (kyT p.1) en.key/\Rep F s.heap p.2 en.val:=by
 obtain⟨y,g,e3,e4,e5⟩:=Paired.ix w e1;have:es.toList[j]? =U en:=by simpa using e2
 rw[he,Gaj,g] at this;cases this;exact⟨e5,e4⟩
variable{apos eG:Pos}
def Hu{g:aM->Option (List (List Key×D))}{vw:List (List Key×D)->List D}{id:String}(ho:PV X o g)(eY:attributeBase o m X.env (eval o X.env)=eval o X.env)(eN:(apos.endLine==eG.line)=O)
  (slot:Slot "dict" m id)(zL:typeOf (.builtin id)=pure (.type "method_descriptor"))
  (mk:∀s q Q E,(q==sysModules)=M->s.TypeIs (.ref q) "dict"->(Q (.ref s.heap.objs.size) {s with heap:=s.heap.push {cls:= .type vc,data:= .fields #[.ref q]}})->wpX X (call (.builtin id) [.ref q]) Q E s)
  (src:∀env Z s s1 eA q vq,Inv X env Z s->Ext X No s s1->¬X.bad q->¬Own env Z q->Top (Cln X env Z) s1.heap (.dT eA) q->(∃ob,s1.heap.get? vq=U ob/\ob.cls= .type vc/\ob.data= .fields #[.ref q])->wpX X (pyIter (.ref vq)) (Src X wk tg env Z s (vw eA)) X.xe s1):
  PI X wk tg (.Call (.Attribute o m apos) [] [] eG) (λenv=>(g env).map vw):=λenv Z s ds I e=>aS e λeA hg hd=>by
 subst hd;refine wpAny_Call_method0_late eY eN (thn (ho env Z s eA I hg) λv s1 eX=>hde λG eJ=> ?_);obtain⟨x1,q,e,nv,no,T⟩:=eX;refine eJ ?_;subst e;obtain⟨hs,_,xs,dd,_⟩:=T.dct;refine⟨"dict",id,GdP,slot,zL,dd.typeIs,λa w=> ?_,GbY rfl (PySem.evalArgs_none (mk s1 q _ _ hs dd.typeIs ?_))⟩
 .cases w;obtain⟨ob,_,_,g,c,_⟩:=dd;exact⟨ob,g,c.2.1⟩
 exact src env Z s _ eA q _ I (x1.trans ((I.exp x1).push {cls:= .type vc,data:= .fields #[.ref q]} _)) nv no (T.keep (λb o f g _=> ⟨f,Gag _ g⟩) λo g _=>Gag _ g) ⟨_,Gat _ rfl,rfl,rfl⟩
def uK(hc:X.calm=O)(ho:PV X o g)(eY:attributeBase o "items" X.env (eval o X.env)=eval o X.env)(eN:(apos.endLine==eG.line)=O):
  PI X O (.Tuple elts k tp) (.Call (.Attribute o "items" apos) [] [] eG) (λenv=>(g env).map cG):=by
 refine Hu ho eY eN PySem.F.slot_dict_items PySem.F.type_dict_items (λs q Q E hs t h=>call_meetsIn PySem.F.slot_dict_items t PySem.F.entry_dict_items (PySem.F.args_dict_items_1 _) (pn q hs) ⟨t,h⟩) λenv Z s s1 eA q vq I x1 nv no T hv=>hde λG fin=> ?_;obtain⟨_,hz,xs,⟨ob,es,ep,xF,hx,yO,he,_⟩,w⟩:=T.dct;have I1:=I.exp x1;have hn:s1.heap.get? _=J:=aJ;have W:=uI (prog:=X.prog) (w:=X.w) (elts:=elts) (kk:=k) (tp:=tp) (I.ok.hd hc) _ q (Gbi (Gbj xF)) es ep;refine fin ?_;have hl:es.size=(cG eA).length:=by have:=congrArg List.length he;simp[cG,w.len] at this⊢;exact this
 refine hde λG fin=> ?_;rw[hl] at W;refine fin (qi hv ⟨ob,xF,hx,yO⟩ ⟨_,_,[s1.heap.objs.size],_,_,_,λb=>Cln X env Z b/\Th _ b,rfl,x1.trans (I1.push _ _),W,⟨⟨_,_,_,by rw[<-hl];exact⟨_,Gat _ rfl,rfl,rfl⟩⟩,⟨ob,Gag _ xF,hx,yO⟩⟩,λb hb=> ?_,λb hb=>by rw[Gam.mp hb];exact x1.n0 hn,λi h st b hb=> ?_,λb z=> ⟨z.1, ?_,λm=>z.2 (by rw[Gam.mp m];exact hn)⟩,λs Q E st hQ=> ?_,λi v h d hd p kp=> ?_⟩)
 .rcases Gaq.mp hb with rfl|hb
  .exact⟨(I1.cl hn).1,λyS=>by obtain⟨j,t,z⟩:=yS;exact(I1.cl hn).2 j t.ol.top z,.of (Gat _ rfl)⟩
  .rw[Gam.mp hb];exact⟨nv,no,.of (Gag _ xF)⟩
 .obtain⟨⟨_,_,_,o,g,c,dd⟩,_⟩:=st;rw[Gam.mp hb];exact⟨o,g,_,_,c,dd⟩
 .exact(I1.push _ _).th b z.2
 .obtain⟨⟨_,_,_,it⟩,_⟩:=st;exact wA it hQ
 .obtain⟨t,en,rfl,h1,o,g,c,n,dd⟩:=p;refine hde λG fin=> ?_;rw[cG,Gaj] at hd;obtain⟨p,hp,rfl⟩:=Gab.mp hd;obtain⟨r1,r2⟩:=La w he hp h1;have kk:∀b o,Cln X env Z b->s1.heap.get? b=U o->¬ItO o->(Cln X env Z b/\Th _ b)/\h.get? b=U o:=λb o f g _=> ⟨⟨f,.of g⟩,kp b o ⟨f,.of g⟩ (Gag _ g)⟩;exact fin (.inr ⟨t,rfl,trivial,_,_,_,rfl,⟨o,n,g,c,.inl rfl,dd⟩,by show 2<=sizeLine;rw[Gdy];decide,.cons (r1.keep kk) (.cons (r2.keep kk) .nil)⟩)
def PI.of(h:PI X wk tg it a)(k:∀env ds,b env=U ds->a env=U ds):PI X wk tg it b:=λenv Z s ds I e=>h env Z s ds I (k env ds e)
def Ca{f:DE}(env:aM)(ds:List D)(h:Dt vw f env=U ds):(newD f env).map vw=U ds:=by
 unfold newD;obtain⟨r,hr,h⟩:=GaZ.mp h;rw[hr];split at h<;>first|cases h;done|skip
 rename_i hk;split at h<;>cases h
 simp_all
end
end
end NL
namespace DL
open PySem PySem.Spec PyProof.Rows NL
end DL
namespace NL
open PySem PySem.Spec PyProof.Rows DL
open PySem.W (KTurns)
section
variable [Wd]
def Hv(e:aM)(v:RV)(h:pU vw i n aq gd t f e=U v):mP n aq (csV i λenv=>(uJ i env).map vw) gd t f e=U v:=by
 obtain⟨eA,h1,h2⟩:=GaZ.mp h;have hh:uJ i (bL (U i) e)=U eA:=by
  unfold dictAt at h1;unfold uJ bL;dsimp only;split at h1
  .rename_i q;cases h1;rw[q,Gau (Gae.mp q).1]
  .simp_all
  .rename_i q;split at h1<;>cases h1
   rw[q,q]
  .cases h1
 unfold mP csV;dsimp only
 rwa[hh]
end
end NL
namespace DL
@[simp] noncomputable def tA(i:Nat)(f:DM):DS:=λenv=>(f (env.set i (U (.lok .opq))) []).bind λq=>U (.ret (.dT q.2))
end DL
namespace NL
open PySem PySem.Spec PyProof.Rows DL
open PySem.W (KTurns)
section
variable [Wd]
def Cx.wb(X:Cx)(R:Vh->Prop):Cx:={X with bad:=λb=>X.bad b\/R b}
inductive RwR (R:Vh->Prop) (h:Vj) (v:Vf) (d:D):Prop
 |mk (r ds eo:_) (_:v= .ref r) (_:R r) (_:d= .lst ds) (_:SqA h r "list" eo) (_:eo.size<=sizeLine) (_:aP (TupAt h) h ds eo.toList):RwR R h v d
def qj(R:Vh->Prop)(h:Vj)(p:List Key×D)(x:Ent):Prop:=p.1=x.1/\Rep (TupAt h) h (kyT p.1) (.ref x.2.1)/\RwR R h x.2.2 p.2
structure gm(X:Cx)(i:Nat)(q:Vh)(R:Vh->Prop)(env:aM)(Z:Vl)(s:Vg)(rows:Rws):Prop where
 I:Inv (X.wb R) env Z s
 at_:env[i]? =U (U (.lok .opq))
 v:Z i= .ref q
 hs:(q==sysModules)=M
 len:rows.length<=sizeLine
 fr:∀b,R b->X.s₀.heap.get? b=J/\¬X.bad b/\¬X.vol b
 dd:∃xs,vO s.heap q xs/\(xs.map (·.1)).Nodup/\Paired (qj R s.heap) rows xs/\(xs.map (·.2.2)).Nodup
structure kg(X:Cx)(q:Vh)(R:Vh->Prop)(env:aM)(Z:Vl)(s:Vg)(R' :Vh->Prop)(env' :aM)(Z' :Vl)(s' :Vg):Prop where
 keep:∀b o,s.heap.get? b=U o->¬X.vol b->¬Own env Z b->¬R b->b≠q->s'.heap.get? b=U o
 own:∀b,Own env' Z' b->Own env Z b\/s.heap.get? b=J
 r:∀b,R' b->R b\/s.heap.get? b=J
 th:∀b,Th s.heap b->Th s'.heap b
section
variable{X:Cx}{env:aM}{Z Z' :Vl}{s s' :Vg}{R R' :Vh->Prop}{q:Vh}{i:Nat}{rows:Rws}{f:DE}
def kg.refl:kg X q R env Z s R env Z s:=⟨λ_ _ g _ _ _ _=>g,λ_ z=> .inl z,λ_ z=> .inl z,λ_ z=>z⟩
def kg.trans(a:kg X q R env Z s R' env' Z' s1)(b:kg X q R' env' Z' s1 R2 env2 Z2 s2):kg X q R env Z s R2 env2 Z2 s2:=by
 have nn:∀{P:Vh->Prop} {b:Vh},s1.heap.get? b=J->s.heap.get? b=J:=λ{P b} n=>GaO λz=>a.th b z n;exact⟨λc o g v w r n=>b.keep c o (a.keep c o g v w r n) v (λz=>(a.own c z).elim w λz=>by rw[g] at z;cases z) (λz=>(a.r c z).elim r λz=>by rw[g] at z;cases z) n,λc z=>((b.own c z).elim (a.own c) λn=> .inr (nn (P:=R) n)),λc z=>((b.r c z).elim (a.r c) λn=> .inr (nn (P:=R) n)),λc z=>b.th c (a.th c z)⟩
def Kts.Hw(p:Paired (qj R h) rows xs):Kts (λb=>TupAt h b\/R b) h rows xs:=Paired.uc p λp x xI=>by
 refine hde λG fin=> ?_;obtain⟨e,k,r,ds,eo,e1,e2,e3,t,z,rp⟩:=xI;refine fin (⟨e, ?_,Rep.imp k λb t _=> .inl t⟩);rw[e1,e3];exact .sq rfl (.inr e2) t z rp.sz λi d v h1 h2=>Rep.imp (rp.2 i d v h1 (by simp_all)) λb t _=> .inl t
def gm.dct(UR:gm X i q R env Z s rows):∃xs,s.heap.DictOfH kk q xs/\Paired (qj R s.heap) rows xs/\(xs.map (·.2.2)).Nodup:=by
 refine hde λG fin=> ?_;obtain⟨xs,⟨o,es,ep,g,c,d,he⟩,n,p,n2⟩:=UR.dd;refine fin (⟨xs,⟨o,es,ep,g,c,d,he,λx hx=>(hde λG fin=> ?_),n⟩,p,n2⟩);obtain⟨i,hi⟩:=GbC.mp hx;obtain⟨r,hr⟩:∃r,rows[i]? =U r:=⟨_,Gaa (by rw[Gdv p];exact(Gae.mp hi).1)⟩
 obtain⟨y,e2,e3,e4,_⟩:=Paired.ix p hr;rw[hi] at e2;cases e2;refine fin ?_;rw[<-e3];exact iD e4.inn
theorem TupAt.keep{h h' :Vj}(t:TupAt h b)(k:∀o,h.get? b=U o->¬ItO o->h'.get? b=U o):TupAt h' b:=by obtain⟨eo,t⟩:=t;exact⟨eo,t.keep k⟩
theorem qj.keep{h h' :Vj}(w:qj R h p x)(kt:∀b o,TupAt h b->h.get? b=U o->h'.get? b=U o)(kr:∀b o,x.2.2= .ref b->R b->h.get? b=U o->h'.get? b=U o)(kR:∀b,R b->R' b):qj R' h' p x:=by
 obtain⟨e,k,r,ds,eo,e1,e2,e3,t,z,rp⟩:=w;have kk:∀b o,TupAt h b->h.get? b=U o->¬ItO o->TupAt h' b/\h'.get? b=U o:=λb o t g _=> ⟨t.keep λo g _=>kt b o t g,kt b o t g⟩;exact⟨e,k.keep kk,r,ds,eo,e1,kR r e2,e3,t.keep λo g _=>kr r o e1 e2 g,z,rp.keep kk⟩
def gm.dq(UR:gm X i q R env Z s rows):X.s₀.heap.get? q=J/\¬X.bad q/\¬R q/\¬X.vol q/\¬Own env Z q:=by
 refine hde λG fin=> ?_;obtain⟨_,a,e,h1,h2,_⟩:=UR.I.sl i _ UR.at_;rw[UR.v] at e;cases e;exact fin (⟨h1,λz=>h2 (.inl z),λz=>h2 (.inr z),λz=>h2 (UR.I.ok.vb _ z),UR.I.vP (by rw[UR.at_];trivial) UR.v (by rw[UR.at_];exact id)⟩)
def gm.row(UR:gm X i q R env Z s rows)(z:R b):¬X.vol b/\¬Own env Z b/\Th s.heap b:=by
 refine⟨(UR.fr b z).2.2,λeX=>(hde λG eJ=> ?_),UR.I.bt b (.inr z)⟩;obtain⟨j,h1,h2⟩:=eX;refine eJ ?_;obtain⟨a,e,_,n⟩:=UR.I.ri h1.ol.top;rw[h2] at e;cases e;exact n (.inr z)
def Inv.Eb(I:Inv X env Z s)(t:TupAt s.heap b):¬X.vol b/\¬Own env Z b:=
 have c:=I.sQ t
 ⟨λv=>c.1 (I.ok.vb b v),λ⟨j,h1,h2⟩=>c.2 j h1.ol.top h2⟩
def gm.step(UR:gm X i q R env Z s rows)(I' :Inv (X.wb R) env' Z' s')(x:Stp (X.wb R) No env Z s env' Z' s')(g:env'[i]? =U (U (.lok .opq))):gm X i q R env' Z' s' rows/\kg X q R env Z s R env' Z' s' :=by
 refine hde λG fin=> ?_;obtain⟨q1,q2,q3,q4,q5⟩:=UR.dq;refine fin (⟨⟨I',g,(x.lk i (.lok .opq) trivial g).2.trans UR.v,UR.hs,UR.len,UR.fr,(hde λG fin=> ?_)⟩,λb o g v w _ _=>x.keep b o g v w id,x.own,λb z=> .inl z,x.th⟩);obtain⟨xs,⟨o,es,ep,g,c,d,he⟩,n,p,n2⟩:=UR.dd;exact fin (⟨xs,⟨o,es,ep,x.keep q o g q4 q5 id,c,d,he⟩,n,Paired.uc p λ_ _ w=>w.keep (λb o t g=>by obtain⟨v,w⟩:=UR.I.Eb t;exact x.keep b o g v w id) (λb o _ z g=>by obtain⟨v,w,_⟩:=UR.row z;exact x.keep b o g v w id) λ_ z=>z,n2⟩)
def Inv.more{s2:Vg}(I:Inv (X.wb R) env Z s)(x:Ext (X.wb R) No s s2)(n:s.heap.get? a=J)(t:Th s2.heap a)(nt:∀o,s2.heap.get? a=U o->¬qW o):Inv (X.wb λb=>R b\/b=a) env Z s2:=by
 have I2:=I.exp x;have ne:∀{b},Th _ b->b≠a:=λt z=>t (z▸n);have kp:∀b o,Cln (X.wb R) env Z b->s.heap.get? b=U o->¬ItO o->Cln (X.wb λb=>R b\/b=a) env Z b/\s2.heap.get? b=U o:=λb o f g _=> ⟨⟨λz=>z.elim (λz=>f.1 (.inl z)) λz=>z.elim (λz=>f.1 (.inr z)) (ne (.of g)),f.2⟩,Ext.nf I x f.1 g⟩;have tp:∀{d b},¬(X.wb R).bad b->Top _ _ d b->¬(X.wb λb=>R b\/b=a).bad b/\Top _ _ d b:=λ{d b} nb T=>
  ⟨λz=>z.elim (λz=>nb (.inl z)) λz=>z.elim (λz=>nb (.inr z)) (ne (by obtain⟨_,_,_,_,t,_⟩:=T;exact t.th)),T.keep kp λo g _=>Ext.nf I x nb g⟩
 refine⟨⟨I.ok.mod,I.ok.kind,I.ok.glob,I.ok.blt,I.ok.above,I.ok.inj,I.ok.has,I.ok.cab,I.ok.hd,I.ok.frames,I.ok.stk,I.ok.exf,I.ok.bs,I.ok.Jj,I.ok.lG,λb v=>(I.ok.vb b v).imp id .inl,I.ok.cf,λo ho=> ⟨(I.ok.ob o ho).1.imp id .inl,(I.ok.ob o ho).2⟩⟩,I2.os,I2.bare,I2.base,I2.slot,I2.loc,I2.cell,λj t g=> ?_,I.dj,I.len,λb z=> ?_,I2.th0,λb o z g=> ?_,I2.fl⟩
 .have sl:=I.sl j t g;cases t with
  |sh d=>exact Rep.keep sl kp
  |own d=>obtain⟨t,b,e,h1,h2,h3⟩:=sl;exact⟨t,b,e,h1,tp h2 h3⟩
  |lok d=>obtain⟨t,b,e,h1,h2,h3⟩:=sl;exact⟨t,b,e,h1,tp h2 h3⟩
  |bor d=>obtain⟨t,b,e,h2,h3⟩:=sl;exact⟨t,b,e,tp h2 h3⟩
 .rcases z with z|z|z
  .exact I2.bt b (.inl z)
  .exact I2.bt b (.inr z)
  .rwa[z]
 .rcases z with z|z|z
  .exact I2.bt2 b o (.inl z) g
  .exact I2.bt2 b o (.inr z) g
  .simp_all
def Inv.Qi{h' :Vj}(I:Inv X env Z s)(g:env[i]? =U (U (.lok .opq)))(e:Z i= .ref q)(sb:Heap.SameBut q s.heap h')(d:∃o es ep,h'.get? q=U o/\o.ExactDict/\o.data= .dict es ep)(t:Nat):Inv X env Z {s with heap:=h',toks:=t}:=by
 have il:=(Gae.mp g).1;have g1:(env.set i _)[i]? =U (U (.own .opq)):=Gau il;have I2:=((I.swap g (.inr ⟨rfl,rfl⟩)).write (d' := .opq) (by unfold ownAt;rw[g1]) e sb rfl ⟨.any,[],#[],rfl,d,Gbm _,.nil⟩ t).1;rw[GeN] at I2;have I3:=I2.swap g1 (.inl ⟨rfl,rfl⟩);rw[GeN] at I3;have:env.set i (U (.lok .opq))=env:=by
  apply GeI;intro j;by_cases z:i=j
  .subst z;rw[Gau il,g]
  .simp_all
 rwa[this] at I3
def PM(X:Cx)(i:Nat)(st:Vk)(f:DM):Prop:=∀q R env Z s rows out,gm X i q R env Z s rows->f env rows=U out->wpX X (exec st X.env) (λfl s' =>fl= .next/\∃R' Z',gm X i q R' out.1 Z' s' out.2/\kg X q R env Z s R' out.1 Z' s') X.xe s
def PMs(X:Cx)(i:Nat)(st:List Vk)(f:DM):Prop:=∀q R env Z s rows out,gm X i q R env Z s rows->f env rows=U out->wpX X (execs st X.env) (λfl s' =>fl= .next/\∃R' Z',gm X i q R' out.1 Z' s' out.2/\kg X q R env Z s R' out.1 Z' s') X.xe s
variable{st:Vk}
def Hx{f:DM}(h1:PM X i st f):PMs X i [st] f:=λq R env Z s rows out UR e=>Gbq (thn (h1 q R env Z s rows out UR e) λfl s1 yx=>by
 obtain⟨rfl,k⟩:=yx;exact GbF ⟨rfl,k⟩)
def Ec{f:DM}(h1:PM X i st f)(h2:PMs X i rest g):PMs X i (st::rest) (Kt f g):=λq R env Z s rows out UR e=>a6 e λo1 e1 e=>Gbq (thn (h1 q R env Z s rows o1 UR e1) λfl s1 yT=>by
 obtain⟨hf,R1,Z1,J1,x1⟩:=yT;subst hf;exact thn (h2 q R1 _ Z1 s1 _ out J1 e) λfl s2 R9=>by obtain⟨hf,R2,Z2,J2,x2⟩:=R9;exact⟨hf,R2,Z2,J2,x1.trans x2⟩)
def Lb{pos:Pos}(zf:i≠j)(hN:X.N.Nodup)(hi:X.N[j]? =U y)(hx:Loc X y)(hf:X.fn y=O\/X.env.scope.names.lookup y=U .local)(he:∀R,PE (X.wb R) e f)(hs:swapsWith e (U (.Name y pos')) pos.line X.env=pure M):PM X i (.Assign [.Name y pos'] e pos) (setM j f):=λq R env Z s rows out UR w=>a6 w λr hr w=>by
 split at w<;>cases w
 rename_i hk;have xu:stored j r env=U (env.set j (U (.sh r.d))):=by obtain⟨k,d⟩:=r;cases hk;rfl
 refine Gco (thn (he R env Z s r UR.I hr) λv s1 eX=>(hde λG eJ=> ?_)) hs;obtain⟨x1,r1⟩:=eX;exact eJ (thn (fX (X:=X.wb R) UR.I x1 r1 xu hN hi hx hf) λ_ s2 ⟨Z',I',x'⟩=> ⟨rfl,R,Z',UR.step I' x' (by rw[Gax (Gbg zf)];exact UR.at_)⟩)
def Ed:∀{rows:Rws},Paired (qj R h) rows xs->(∀jj,rows.findIdx? (λp=>decide (p.1=k))=U jj->∃d x,rows[jj]? =U (k,d)/\xs[jj]? =U x/\atKey xs k=U x.2/\qj R h (k,d) x)/\(rows.findIdx? (λp=>decide (p.1=k))=J->atKey xs k=J):=by
 intro rows p;induction p with
 |nil=>exact⟨(λjj e=>nomatch e),λ_=>rfl⟩
 | @cons p x ps xs w t ih=>
  rw[List.findIdx?_cons,ug,<-w.1];by_cases e:p.1=k
  .rw[GaI e,Gar e];refine⟨λjj z=> ?_,(λz=>nomatch z)⟩;cases z;exact⟨_,x,by rw[<-e];rfl,rfl,rfl,by rw[<-e];exact w⟩
  .rw[GaR e,Gaw e];refine⟨λjj z=> ?_,λz=>ih.2 (Option.map_eq_none_iff.mp z)⟩;obtain⟨j',hj,rfl⟩:=Gab.mp z;exact ih.1 j' hj
def gm.app{xs:List Ent}{eo:Array Vf}(UR:gm X i q R env Z s rows)(hx:vO s.heap q xs/\(xs.map (·.1)).Nodup/\Paired (qj R s.heap) rows xs/\(xs.map (·.2.2)).Nodup)
  (g:rows[jj]? =U (k,.lst ds))(gx:xs[jj]? =U x)(ex:x.2.2= .ref b)(hb:s.heap.get? b=U {cls:= .type "list",data:= .seq eo n})(hz:eo.size<sizeLine)(rp:aP (TupAt s.heap) s.heap ds eo.toList)(rd:Rep (TupAt s.heap) s.heap d u):
  gm X i q R env Z {s with heap:=s.heap.update b (Obj.mapSeq (·.push u)),toks:=tk} (rows.set jj (k,.lst (ds++[d])))/\kg X q R env Z s R env Z {s with heap:=s.heap.update b (Obj.mapSeq (·.push u)),toks:=tk}:=by
 obtain⟨⟨o,es,ep,hq,hc,hd,he⟩,h2,h3,h4⟩:=hx;obtain⟨y,gy,w1,w2,b',xC,xo,w3,w4,w5,w6⟩:=Paired.ix h3 g;rw[gx] at gy;cases gy;rw[ex] at w3;cases w3;have sb:Heap.SameBut b _ (s.heap.update b (Obj.mapSeq (·.push u))):=GcS ..;obtain⟨v1,v2,v3⟩:=UR.row w4;obtain⟨q1,q2,q3,q4,q5⟩:=UR.dq;have t:SqA (s.heap.update b (Obj.mapSeq (·.push u))) b "list" _:=⟨_,_,PySem.IsL.update hb _,rfl,.inr ⟨rfl,rfl⟩,rfl⟩
 obtain⟨I',x'⟩:=UR.I.O1 (.inr w4) v1 (UR.fr b w4).1 sb t ⟨eo,_,_,hb,rfl,.inr ⟨rfl,rfl⟩,rfl⟩ tk;have nt:∀c,TupAt s.heap c->c≠b:=λc ⟨i2,o2,_,g2,c2,_⟩ z=>by rw[z,hb] at g2;cases g2;exact absurd (Value.type.inj c2) (by decide)
 have kt:∀c o,TupAt _ c->s.heap.get? c=U o->(s.heap.update b _).get? c=U o:=λc o t g=>(sb.2 c (nt c t)).trans g;have kk:∀c o,TupAt _ c->s.heap.get? c=U o->¬ItO o->TupAt _ c/\(s.heap.update b _).get? c=U o:=λc o t g _=> ⟨t.keep λo g _=>kt c o t g,kt c o t g⟩;refine⟨⟨I',UR.at_,UR.v,UR.hs,by rw[Gdb];exact UR.len,UR.fr,xs,⟨o,es,ep,(sb.2 q λz=>q3 (z▸w4)).trans hq,hc,hd,he⟩,h2,kQ (by rw[Gdb];exact Gdv h3) λj p x' e1 e2=> ?_,h4⟩,
  λc o g v w r n=>(sb.2 c λz=>r (z▸w4)).trans g,λc z=> .inl z,λc z=> .inl z,x'.th⟩
 rcases eK e1 with⟨rfl,e⟩| ⟨n,e⟩
 .cases e;rw[gx] at e2;cases e2;exact⟨w1,w2.keep kk,b,_,eo.push u,ex,w4,rfl,t,by rw[Array.size_push];assumption,by rw[Gdk];exact aP.append ⟨rp.1,λi d v e1 e2=>(rp.2 i d v e1 e2).keep kk⟩ (.cons (rd.keep kk) .nil)⟩
 .obtain⟨y,gy,w⟩:=Paired.ix h3 e;rw[e2] at gy;cases gy;refine w.keep kt (λc o z _ g=>(sb.2 c λy=> ?_).trans g) λ_ z=>z;subst y;have m1:(xs.map (·.2.2))[j]? =U (.ref c):=by rw[Gaj,e2,Gcj,z]
  have m2:(xs.map (·.2.2))[jj]? =U (.ref c):=by rw[Gaj,gx,Gcj,ex]
  exact n ((GeJ (Gae.mp m1).1 h4).mp (m1.trans m2.symm))
end
section
variable{env:aM}{rows:Rws}{f g:DE}
inductive Of(g f:DE)(env:aM)(rows:Rws)(out:aM×Rws):Prop
 |mk (y r:RV) (ks:List D) (k:List Key) (eM :Rws) (_:g env=U y) (_:f env=U r) (_:y.d= .tup ks) (_:r.d.imm=O) (_:keysOf ks=U k) (_:vY rows k r.d=U eM) (_:out=(env,eM)):Of g f env rows out
def Hy{rows:Rws}{out:aM×Rws}{g f:DE}(w:GW g f env rows=U out):Of g f env rows out:=a6 w λy hy w=>a6 w λr hr w=>by
 generalize RD:y.d=dy at w;cases dy<;>try exact nn w rfl
 rename_i ks;dsimp only at w;split at w
 .rename_i c;rw[Gac] at c;exact a6 w λk hk w=>aS w λeM hs e=> ⟨y,r,ks,k,eM,hy,hr,RD,c.1,hk,hs,e.symm⟩
 .exact nn w rfl
def Ee{rows:Rws}(yv:vY rows k d=U eM):rows.length<a9/\((∃jj ds k0,rows.findIdx? (λp=>decide (p.1=k))=U jj/\rows[jj]? =U (k0,.lst ds)/\ds.length<a9/\eM =rows.set jj (k,.lst (ds++[d])))\/(rows.findIdx? (λp=>decide (p.1=k))=J/\eM =rows++[(k,.lst [d])])):=by
 unfold vY at yv;split at yv
 .rename_i hz;refine⟨hz, ?_⟩;split at yv
  .rename_i jj yF;split at yv
   .simp_all
   .cases yv
  .rename_i yF;cases yv;exact .inr ⟨yF,rfl⟩
 .cases yv
def AP{X:Cx}{s3:Vg}{xr:Rws}{out:aM×Rws}{ds:List D}{r:RV}{zG:List Ent}(he:∀R,PE (X.wb R) e f)(xG:starEach [e] X.env=[(M,eval e X.env)])(hr:f env=U r)(c:r.d.imm=O)(J3:gm X i q R3 env Z s3 xr)(S3:kg X q R env Z s R3 env Z s3)(h1:vO s3.heap q zG)(h2:(zG.map (·.1)).Nodup)(h3:Paired (qj R3 s3.heap) xr zG)(h4:(zG.map (·.2.2)).Nodup)(hx:zG[jj]? =U x)(hg:xr[jj]? =U (k,.lst ds))(eP:ds.length<a9)(ex:x.2.2= .ref b)(er:out=(env,xr.set jj (k,.lst (ds++[r.d])))):
  MethodOn X.prog X.w X.A "append" eG (.ref b) (backTo eG (starEach [e] X.env)) (λ_ s' =>Flow.next= .next/\∃R' Z',gm X i q R' out.1 Z' s' out.2/\kg X q R env Z s R' out.1 Z' s') X.xe s3:=by
 obtain⟨y,gy,w1,w2,b',xC,eo,w3,w4,w5,w6,w7,w8⟩:=Paired.ix h3 hg;rw[hx] at gy;cases gy;rw[ex] at w3;cases w3;cases w5;obtain⟨n,hb⟩:=w6.ex;refine⟨"list","list.append",Gcq,PySem.F.slot_list_append,PySem.F.type_list_append,w6.lst.isList.typeIs,λa z=>by cases z;exact⟨_,hb,rfl⟩, ?_⟩;rw[xG];refine GbY rfl (GcK (GaX (thn (he R3 env Z s3 r J3.I hr) λv s4 ⟨x4,r4⟩=>GbA ?_)));obtain⟨J4,S4⟩:=J3.step (J3.I.exp x4) x4.stp J3.at_;obtain⟨v1,v2,_⟩:=J3.row w4;obtain⟨q1,q2,q3,q4,q5⟩:=J3.dq;have kp:∀b o,TupAt _ b->s3.heap.get? b=U o->s4.heap.get? b=U o:=λb o t g=>have⟨v,w⟩:=J3.I.Eb t;x4.keep b o g (λz=>v (.inl z)) id
 have kr:∀b o,R3 b->s3.heap.get? b=U o->s4.heap.get? b=U o:=λb o z g=>x4.keep b o g (λy=>(J3.row z).1 (.inl y)) id;have Si:=kr b _ w4 hb;have rd:Rep (TupAt s4.heap) s4.heap r.d v:=by
  rcases(r4.inn J3.I) with z| ⟨a,rfl,z,T⟩
  .exact .one z
  .exact(T.rep (z.2 (by have:=c;generalize r.d=d at this;cases d<;>first|rfl|(simp[D.imm] at this;done)))).uh c
 obtain⟨J5,S5⟩:=J4.app (tk:=s4.toks) (d:=r.d) (u:=v) ⟨(let⟨o,es,ep,g,c,d,he⟩:=h1;⟨o,es,ep,x4.keep q o g (λz=>q4 (.inl z)) id,c,d,he⟩),h2,Paired.uc h3 λ_ _ w=>w.keep kp (λb o _=>kr b o) λ_ z=>z,h4⟩ hg hx ex Si (by rw[<-w8.sz,<-eL];exact eP) ⟨w8.1,λi d v e1 e2=>(w8.2 i d v e1 e2).keep λb o t g _=> ⟨t.keep λo g _=>kp b o t g,kp b o t g⟩⟩ rd;subst er;exact call_meets F.slot_list_append ⟨_,Si,rfl⟩ F.entry_list_append (F.args_list_append_2 _ _) (PySem.list_append b eo n v (by lia)) ⟨Si,rfl,R3,Z,J5,S3.trans (S4.trans S5)⟩
def Lc{X:Cx}{pos apos eG:Pos}(hu:X.A.units+20<cLine)(hN:X.N[i]? =U x)(hv:Vis X.env.scope x)(hk:∀R,PE (X.wb R) ke g)(he:∀R,PE (X.wb R) e f)(hd:(x==Dgs)=M)(eO:(x==("__classdict__":Str))=M)
  (m:M2 X (.Name x px) "setdefault" ap ke (.List [] lp) cp)(xG:starEach [e] X.env=[(M,eval e X.env)])
  (eY:attributeBase (.Call (.Attribute (.Name x px) "setdefault" ap) [ke,.List [] lp] [] cp) "append" X.env (eval (.Call (.Attribute (.Name x px) "setdefault" ap) [ke,.List [] lp] [] cp) X.env)=eval (.Call (.Attribute (.Name x px) "setdefault" ap) [ke,.List [] lp] [] cp) X.env)
  (xv:((backTo eG (starEach [e] X.env)).all (λx=> !x.1)&&(backToKw eG (keywordEach [] X.env)).all (λx=>x.1.isSome)
   &&decide (([e]:List Vi).length+([]:List Keyword).length+(if([]:List Keyword).isEmpty then 0 else 1)<30))=O)
  (eN:(apos.endLine==eG.line)=O)(hs:swapsWith (.Call (.Attribute (.Call (.Attribute (.Name x px) "setdefault" ap) [ke,.List [] lp] [] cp) "append" apos) [e] [] eG) J pos.line X.env=pure M):
  PM X i (.Expr (.Call (.Attribute (.Call (.Attribute (.Name x px) "setdefault" ap) [ke,.List [] lp] [] cp) "append" apos) [e] [] eG) pos) (GW g f):=λq R env Z s rows out UR w=>by
 obtain⟨y,r,ks,k,eM,hy,hr,RD,c,zO,yv,rfl⟩:=Hy w;obtain⟨hl,yr⟩:=Ee yv;clear w yv;rw[eL] at hl;refine GeA (wpAny_Call_method_late eY xv eN rfl (wpAny_Call_method m.base m.few m.line GdP PySem.F.slot_dict_setdefault PySem.F.type_dict_setdefault (fF (X:=X.wb R) UR.I ⟨_,UR.at_⟩ hN hv hd eO ?_))) UR.I.quiet hs;rw[UR.v];obtain⟨xs0,QF,_⟩:=UR.dct;refine⟨QF.typeIs,λa z=>by cases z;obtain⟨ob,_,_,g,c,_⟩:=QF;exact⟨ob,g,c.2.1⟩, ?_⟩;rw[m.trees];refine GbY rfl (GcK (GaX (thn (hk R env Z s y UR.I hy) λkv s1 ⟨x1,r1⟩=>GaX (thn (De (X:=X.wb R) iQ env Z s1 ⟨.tn,.lst []⟩ (UR.I.exp x1) rfl) λlv s2 ⟨x2,r2⟩=>GbA ?_))));obtain⟨_,a1,rfl,n1,T1⟩:=r2;have J1:=(UR.step (UR.I.exp x1) x1.stp UR.at_)
 have J2:=(J1.1.step (J1.1.I.exp x2) x2.stp UR.at_)
 have x12:=x1.trans x2;have i2:=(r1.later UR.I J1.1.I x2).inn UR.I;rw[RD,fH zO] at i2;obtain⟨kb,rfl,kz,tk⟩:=i2.key;obtain⟨xs,dd,rel,nd⟩:=J2.1.dct;have hz:xs.length<=sizeLine:=by rw[<-Gdv rel];exact GaJ hl
 obtain⟨fs,fn⟩:=Ed (k:=k) rel;have S2:=J1.2.trans J2.2;have dA:vO s2.heap q xs:=let⟨o,es,ep,g,c,d,he,_⟩:=dd
 ⟨o,es,ep,g,c,d,he⟩
 have nd1:(xs.map (·.1)).Nodup:=let⟨_,_,_,_,_,_,_,_,n⟩:=dd
 n
 refine call_meetsIn PySem.F.slot_dict_setdefault dd.typeIs PySem.F.entry_dict_setdefault (PySem.F.args_dict_setdefault_3 _ _ _) (mW q kb UR.hs (.ref a1)) ⟨Gcx (by lia),k,xs,iD i2,dd,hz,λp hp=> ?_,λhn h' R6 xQ => ?_⟩
 .rcases yr with⟨jj,ds,k0,yF,xB,eP,er⟩| ⟨yF,_⟩
  .obtain⟨d,x,e1,e2,e3,w⟩:=fs jj yF;rw[xB] at e1;cases e1;rw[e3] at hp;cases hp;obtain⟨_,_,b,_,_,ex,_⟩:=w;have J3:=(J2.1.step (s' :={s2 with toks:=s2.toks+kk.draws k}) (J2.1.I.exp (.tok _)) (Ext.tok _).stp UR.at_)
   rw[ex];exact AP he xG hr c J3.1 (S2.trans J3.2) dA nd1 rel nd e2 xB eP ex (by rw[er])
  .rw[fn yF] at hp;cases hp
 .rcases yr with⟨jj,ds,k0,yF,_⟩| ⟨yF,er⟩
  .obtain⟨_,_,_,_,e3,_⟩:=fs jj yF;rw[hn] at e3;cases e3
  .have t1:∃eo,SqA s2.heap a1 "list" eo/\eo.size<=sizeLine/\aP (TupAt s2.heap) s2.heap [] eo.toList:=by
    obtain⟨_,_,eo,e,t,z,rp⟩:=T1;cases e;exact⟨eo,t,z,by rw[rp.empty];exact .nil⟩
   obtain⟨RB,t1,z1,RA⟩:=t1;have nt1:∀o,s2.heap.get? a1=U o->¬qW o:=λo g yR=>by
    obtain⟨c,_⟩:=yR;obtain⟨o',_,g',c',_⟩:=t1;rw[g] at g';cases g';rw[c] at c';exact absurd (Value.type.inj c') (by decide)
   have UT:=Inv.more (R:=R) J1.1.I x2 n1 t1.th nt1;have nb:¬X.bad a1/\¬R a1/\¬X.vol a1:=⟨λz=>J1.1.I.bt a1 (.inl z) n1,λz=>J1.1.I.bt a1 (.inr z) n1,λz=>J1.1.I.bt a1 (J1.1.I.ok.vb a1 z) n1⟩
   obtain⟨q1,q2,q3,q4,q5⟩:=J2.1.dq;have qa:q≠a1:=λz=>by obtain⟨o,_,_,g,_⟩:=(show vO s1.heap q _ from(J1.1.dd.choose_spec).1);rw[z,n1] at g;cases g
   have nq:∀b,TupAt s2.heap b->b≠q:=λb yQ z=>by
    obtain⟨i',o2,_,g2,c2,_⟩:=yQ;obtain⟨o,_,_,g,c,_⟩:=dA;rw[z,g] at g2;cases g2;rw[c.1] at c2;exact absurd (Value.type.inj c2) (by decide)
   have kt:∀b o,TupAt s2.heap b->s2.heap.get? b=U o->h'.get? b=U o:=λb o t g=>(xQ.2 b (nq b t)).trans g;have kk2:∀b o,TupAt s2.heap b->s2.heap.get? b=U o->¬ItO o->TupAt h' b/\h'.get? b=U o:=λb o t g _=> ⟨t.keep λo g _=>kt b o t g,kt b o t g⟩;rw[storedH_new hn] at R6;obtain⟨o',QY,QZ,g',c',d',SU,_,n'⟩:=R6;have P:Paired (qj (λb=>R b\/b=a1) h') (rows++[(k,.lst [])]) (xs++[(k,kb,.ref a1)]):=by
    refine Paired.snoc (Paired.uc rel λ_ _ w=>w.keep kt (λb o _ z g=>(xQ.2 b λy=>q3 (y▸z)).trans g) λ_=> .inl) ⟨rfl,((tk.rep (kz.2 rfl)).uh pR).keep kk2,a1,[],RB,rfl,.inr rfl,rfl,t1.keep λo g _=>(xQ.2 a1 (Gbg qa)).trans g,z1, ?_⟩;rw[RA.empty];exact .nil
   have nv:((xs++[((k,kb,Value.ref a1):Ent)]).map (·.2.2)).Nodup:=by
    rw[Gbe,GdT];refine⟨nd,by simp,λa ha b hb e=> ?_⟩;obtain⟨x,hx,rfl⟩:=GaP.mp ha;obtain⟨j,hj⟩:=GbC.mp hx;obtain⟨p,hp⟩:∃p,rows[j]? =U p:=⟨_,Gaa (by rw[Gdv rel];exact(Gae.mp hj).1)⟩
    obtain⟨y,gy,_,_,r',_,_,e1,e2,_⟩:=Paired.ix rel hp;rw[hj] at gy;cases gy;simp only[Gav,List.map_nil,Gam] at hb;rw[e1,hb] at e;cases e;exact nb.2.1 e2
   have J3:gm X i q (λb=>R b\/b=a1) env Z {s2 with heap:=h',toks:=s2.toks+kk.draws k} (rows++[(k,.lst [])]):=
    ⟨UT.Qi UR.at_ UR.v xQ ⟨o',QY,QZ,g',c',d'⟩ _,UR.at_,UR.v,UR.hs,by rw[GaF];exact hl,λb z=>z.elim (UR.fr b) λz=>by rw[z];exact⟨J1.1.I.n0 n1,nb.1,nb.2.2⟩,_,⟨o',QY,QZ,g',c',d',SU⟩,n',P,nv⟩
   have S3:kg X q R env Z s1 (λb=>R b\/b=a1) env Z {s2 with heap:=h',toks:=s2.toks+kk.draws k}:=
    ⟨λb o g v w r n=>(xQ.2 b n).trans (x2.keep b o g (λz=>v (.inl z)) id),λb z=> .inl z,λb z=>z.imp id λz=>by rw[z];exact n1,λb t=>by
     by_cases z:b=q
     .rw[z];exact .of g'
     .unfold Th;rw[xQ.2 b z];exact x2.th b t⟩
   refine AP he xG hr c (k:=k) (jj:=rows.length) (ds:=[]) (b:=a1) (x:=((k,kb,Value.ref a1):Ent)) J3 (J1.2.trans S3) ⟨o',QY,QZ,g',c',d',SU⟩ n' P nv ?_ ?_ (by decide) rfl ?_
   .rw[Gdv rel,GaW (GaN _),GeM]
    rfl
   .rw[GaW (GaN _),GeM]
    rfl
   .rw[er,List.set_append_right _ _ (GaN _),GeM]
    rfl
def kg.wide{R W R' :Vh->Prop}(x:kg X q R env Z s R' env' Z' s'):kg X q (λb=>R b\/W b) env Z s (λb=>R' b\/W b) env' Z' s' :=
 ⟨λb o g v w r n=>x.keep b o g v w (λz=>r (.inl z)) n,x.own,λb z=>z.elim (λz=>(x.r b z).imp .inl id) λz=> .inl (.inr z),x.th⟩
def gm.kp{X:Cx}{s:Vg}{R:Vh->Prop}{wr:List Vh}{s' :Vg}(UR:gm X i q R env Z s rows)(I' :Inv (X.wb R) env Z s')(k:∀b o,b∉wr->s.heap.get? b=U o->s'.heap.get? b=U o)(hq:q∉wr)(hr:∀b,R b->b∉wr)(ht:∀b,TupAt s.heap b->b∉wr):gm X i q R env Z s' rows:=by
 refine hde λG fin=> ?_;obtain⟨xs,⟨o,es,ep,g,c,d,he⟩,n,p,n2⟩:=UR.dd;exact fin (⟨I',UR.at_,UR.v,UR.hs,UR.len,UR.fr,xs,⟨o,es,ep,k q o hq g,c,d,he⟩,n,Paired.uc p λ_ _ w=>w.keep (λb o t g=>k b o (ht b t) g) (λb o _ z g=>k b o (hr b z) g) λ_ z=>z,n2⟩)
def Ld{X:Cx}(hp:PassesOwn (model X.prog X.w) X.A X.env X.xe)(hc:X.calm=O)(zf:i≠j)(hN:X.N.Nodup)(hj:X.N[j]? =U x)(hx:Loc X x)(hf:X.fn x=O\/X.env.scope.names.lookup x=U .local)(he:∀R,PE (X.wb R) e f)(hb:PMs X i body n1)(hs:∀x,foldedSetIterable e X.env x=pure x):
  PM X i (.For (.Name x px) e body [] pos) (Du j f n1):=λq R env Z s rows out UR w=>a6 w λr hr w=>by
 refine hde λG Sm=> ?_;obtain⟨xs,hd,w⟩:=GA w;obtain⟨U0,w⟩:=GB w;refine Sm (wpAny_For (thn (he R env Z s r UR.I hr) λv s1 eX=>(hde λG eJ=> ?_)) hs);obtain⟨x1,r1⟩:=eX;refine eJ ?_;obtain⟨J1,S1⟩:=UR.step (UR.I.exp x1) x1.stp UR.at_;have i1:=r1.inn UR.I;rw[show r.d= .tup xs from hd] at i1;obtain⟨l,eo,rfl,_,t,z,rp⟩:=i1.sq rfl;have hn:s1.heap.get? s1.heap.objs.size=J:=aJ;have W:=KTurns.ofWalks (target:= .Name x px) (Walks.tuple (prog:=X.prog) (w:=X.w) (UR.I.ok.hd hc) s1.heap.objs.size l (λz=>t.th (z▸hn)) eo) λi v s Q E st hq=>by obtain⟨o,g,c,d⟩:=st.1;exact Au g c d (by decide) hq
 have hl:eo.size=xs.length:=by have:=rp.1;simpa using this.symm
 rw[hl] at W;refine GcW t.tup ?_;have x2:Ext (X.wb R) No s1 {s1 with heap:=s1.heap.push {cls:= .type "tuple_iterator",data:= .fields #[.ref l,.int 0 0]}}:=J1.I.push _ s1.toks;have QR:(s1.heap.push {cls:= .type "tuple_iterator",data:= .fields #[.ref l,.int 0 0]}).get? s1.heap.objs.size=_:=Gat _ rfl;have t2:SqA (s1.heap.push {cls:= .type "tuple_iterator",data:= .fields #[.ref l,.int 0 0]}) l "tuple" eo:=t.keep λo g _=>Gag _ g;generalize eQ:({s1 with heap:=s1.heap.push {cls:= .type "tuple_iterator",data:= .fields #[.ref l,.int 0 0]}}:Vg)=s2 at x2⊢;have xq:s2.heap.get? s1.heap.objs.size=U {cls:= .type "tuple_iterator",data:= .fields #[.ref l,.int 0 0]}:=by rw[<-eQ];exact QR
 have t2:SqA s2.heap l "tuple" eo:=by rw[<-eQ];exact t2
 clear eQ;generalize s1.heap.objs.size=it at*;obtain⟨J2,S2⟩:=J1.step (J1.I.exp x2) x2.stp J1.at_;have yI:∀(i:Nat) d v,xs[i]? =U d->eo[i]? =U v->Rep (TupAt s2.heap) s2.heap d v:=λi d v e1 e2=>((rp.2 i d v e1 (by simpa using e2)).uh (kT U0 i d e1)).keep λb o t g _=>by
  exact⟨t.keep λo g _=>x2.keep b o g (λz=>(J1.I.Eb t).1 (.inl z)) id,(x2.keep b o g (λz=>(J1.I.Eb t).1 (.inl z)) id)⟩
 have qs:Th s1.heap q:=let⟨_,⟨_,_,_,g,_,_,_⟩,_⟩:=J1.dd
 .of g
 have nq:it≠q:=λz=>qs (z▸hn);have lq:l≠q:=λz=>by
  obtain⟨_,⟨o,_,_,g,c,_⟩,_⟩:=J1.dd;obtain⟨o',_,g',c',_⟩:=t;rw[z,g] at g';cases g';rw[c.1] at c';exact absurd (Value.type.inj c') (by decide)
 have lc:=J2.I.sQ ⟨eo,t2⟩;have ic:=J1.I.cl hn;have nv:∀{b},Cln (X.wb R) env Z b->¬X.vol b/\¬Own env Z b/\¬R b:=λc=> ⟨λz=>c.1 (UR.I.ok.vb _ z),λ⟨j,h1,h2⟩=>c.2 j h1.ol.top h2,λz=>c.1 (.inr z)⟩;have ps:∀{α:Type} {t:Sem α} {Q:α->Vg->Prop} {E' :VSP} {s},wpX X t Q X.xe s->(∀e s',notedBy (model X.prog X.w) X.A X.env (cameBackBy (model X.prog X.w) X.A X.env X.xe) e s' ->E' e s')->wpX X t Q E' s:=λh k=>GaB (Gem hp h) (λ_ _ q=>q) k;refine codeAny_forLoop_any (λm s' =>∃c Rc e' Z' eM,gm X i q Rc e' Z' s' eM /\kg X q (λb=>R b\/b∈[it]) env Z s2 (λb=>Rc b\/b∈[it]) e' Z' s' /\(∀b,Rc b->R b\/s2.heap.get? b=J)/\(s'.heap.IsTupleIter it l c/\s'.heap.IsTuple l eo)/\c<=xs.length/\m=xs.length -c/\pV j n1 (xs.drop c) e' eM =U out) ?_ xs.length ⟨0,R,env,Z,rows,J2,.refl,λb z=> .inl z,⟨⟨_,xq,rfl,rfl⟩,t2.tup⟩,Gbm _,rfl,w⟩;rintro m s3 ⟨c,Rc,e3,Z3,xr,J3,S3,r3,yA,hle,rfl,q3⟩;have thI:Th s2.heap it:= .of xq;have nr:¬Rc it:=λz=>(r3 it z).elim (nv ic).2.2 thI;have nl:¬Rc l:=λz=>(r3 l z).elim (nv lc).2.2 t2.th;have hw2:∀b∈[it],(X.wb Rc).s₀.heap.get? b=J/\¬(X.wb Rc).bad b:=λb m=>by rw[Gam.mp m];exact⟨J1.I.n0 hn,λz=>z.elim (λz=>ic.1 (.inl z)) nr⟩
 have hi:∀(i:Nat) (h:Vj),(h.IsTupleIter it l i/\h.IsTuple l eo)->∀b∈[it],∃o,h.get? b=U o/\ItO o:=λi h st=>by obtain⟨o,g,c,d⟩:=st.1;exact ito g c d
 have tw:∀b,TupAt s3.heap b->b∉[it]:=λb ⟨_,o,_,g,_,_,e3⟩ m=>by obtain⟨o',g',⟨_,_,_,z⟩⟩:=hi _ _ yA b m;rw[g] at g';cases g';rw[e3] at z;cases z
 have o3:∀b,b=it\/b=l->¬X.vol b/\¬Own e3 Z3 b/\¬Rc b/\b≠q:=λb hb=>by
  rcases hb with rfl|rfl
  .exact⟨(nv ic).1,λz=>(S3.own _ z).elim (nv ic).2.1 thI,nr,nq⟩
  .exact⟨(nv lc).1,λz=>(S3.own _ z).elim (nv lc).2.1 t2.th,nl,lq⟩
 by_cases hU:c<xs.length
 .refine ps (thn (draw (X:=X.wb Rc) W J3.I yA hw2 hi hU) λr s4 Rt=>(hde λG eJ=> ?_)) λ_ _ z=>z;obtain⟨v,xJ,h4⟩:=Rt;refine eJ ?_;subst xJ;refine ps (thn h4 λ_ s5 T8=>(hde λG eJ=> ?_)) λ_ _ z=>z;obtain⟨p5,yh,I5,k5⟩:=T8;refine eJ ?_;have J5:gm X i q Rc e3 Z3 s5 xr:=J3.kp I5 (λb o n g=>k5.keep n g) (λm=>nq (Gam.mp m).symm) (λb z m=>nr (Gam.mp m▸z)) tw;rw[(Gbz hU)] at q3;refine a6 q3 λo5 zT q5=> ?_;have S25:=S3.trans (⟨λb o g _ _ n _=>k5.keep (λm=>n (.inr m)) g,λb z=> .inl z,λb z=> .inl z,λb t=>(Classical.em (b∈[it])).elim (λm=>let⟨o,g,_⟩:=hi _ _ yh b m;.of g) (k5.th b t)⟩);have r4:Rep (Cln (X.wb Rc) e3 Z3) s5.heap xs[c] v:=((yI c xs[c] v (by simp[hU]) p5).keep λb o t g _=>by
   have⟨v1,v2⟩:=J2.I.Eb t;have kp:∀o,s2.heap.get? b=U o->s5.heap.get? b=U o:=λo g=>S25.keep b o g v1 v2 (λz=>z.elim (λz=>(J2.I.sQ t).1 (.inr z)) λm=>by
    obtain⟨_,o',_,g',_,_,e3⟩:=t;rw[Gam.mp m,xq] at g';cases g';cases e3) λz=>by
    obtain⟨_,⟨o2,_,_,g2,c2,_⟩,_⟩:=J2.dd;obtain⟨_,o',_,g',c',_⟩:=t;rw[z,g2] at g';cases g';rw[c2.1] at c';exact absurd (Value.type.inj c') (by decide)
   exact⟨J5.I.sQ (t.keep λo g _=>kp o g),kp o g⟩)
  refine ps (wpAny_assign_Name (thn (fX (X:=X.wb Rc) (r:=⟨.c,xs[c]⟩) J5.I .refl r4 (i:=j) rfl hN hj hx hf) λ_ s6 T7=>(hde λG eJ=> ?_))) λ_ _ z=>z;obtain⟨Z6,I6,x6⟩:=T7;refine eJ ?_;obtain⟨J6,S6⟩:=J5.step I6 x6 (by rw[Gax (Gbg zf)];exact J5.at_);refine ps (thn (hb q Rc _ Z6 s6 xr o5 J6 zT) λfl s7 T6=>(hde λG eJ=> ?_)) λ_ _ z=>z;obtain⟨xT,R7,Z7,J7,S7⟩:=T6;refine eJ ?_;subst xT;have S67:=S6.trans S7;refine⟨_,by lia,c+1,R7,_,Z7,_,J7,S25.trans S67.wide,λb z=>(S67.r b z).elim (r3 b) λn=> .inr (GaO λz=>S25.th b z n),W.frame _ _ _ yh λb m o g=> ?_,hU,rfl,q5⟩;have⟨h1,h2,h3,h4⟩:=o3 b (by simpa using m);exact S67.keep b o g h1 h2 h3 h4
 .have eV :c=xs.length:=by lia
  subst eV;rw[GbS] at q3;cases q3;refine ps (thn (drawn (X:=X.wb Rc) W J3.I yA hw2 hi) λr s4 T5=>(hde λG eJ=> ?_)) λ_ _ z=>z;obtain⟨xJ,I4,k4⟩:=T5;refine eJ ?_;subst xJ;have ni:∀{b},Th s1.heap b->b≠it:=λt z=>t (z▸hn);exact ps (GbF ⟨rfl,Rc,Z3,(J3.kp I4 (λb o n g=>k4.keep n g) (λm=>nq (Gam.mp m).symm) (λb z m=>nr (Gam.mp m▸z)) tw),S1.trans ⟨λb o g v w n nq=>k4.keep (λm=>ni (.of g) (Gam.mp m)) (S3.keep b o (x2.keep b o g (λz=>v (.inl z)) id) v w (λz=>z.elim n λm=>ni (.of g) (Gam.mp m)) nq),
   λb z=>(S3.own b z).imp id x2.n0,λb z=>(r3 b z).imp id x2.n0,λb t=>k4.th b (S3.th b (x2.th b t)) λm=>ni t (Gam.mp m)⟩⟩) λ_ _ z=>z
def Inv.less{X:Cx}(I:Inv (X.wb R) env Z s)(ok:X.Ok):Inv X env Z s:=by
 have kp:∀b o,Cln (X.wb R) env Z b->s.heap.get? b=U o->¬ItO o->Cln X env Z b/\s.heap.get? b=U o:=λb o f g _=> ⟨⟨λz=>f.1 (.inl z),f.2⟩,g⟩;refine⟨ok,I.os,I.bare,I.base,I.slot,I.loc,I.cell,λj t g=> ?_,I.dj,I.len,λb z=>I.bt b (.inl z),I.th0,λb o z=>I.bt2 b o (.inl z),I.fl⟩;have sl:=I.sl j t g;cases t with
 |sh d=>exact Rep.keep sl kp
 |own d=>obtain⟨t,b,e,h1,h2,h3⟩:=sl;exact⟨t,b,e,h1,λz=>h2 (.inl z),h3.keep kp λ_ g _=>g⟩
 |lok d=>obtain⟨t,b,e,h1,h2,h3⟩:=sl;exact⟨t,b,e,h1,λz=>h2 (.inl z),h3.keep kp λ_ g _=>g⟩
 |bor d=>obtain⟨t,b,e,h2,h3⟩:=sl;exact⟨t,b,e,λz=>h2 (.inl z),h3.keep kp λ_ g _=>g⟩
def Cb{X:Cx}{i:Nat}{pos:Pos}{st:Vk}(TO:X.ni=O)(hN:X.N.Nodup)(hi:X.N[i]? =U x)(hx:Loc X x)(hf:X.fn x=O\/X.env.scope.names.lookup x=U .local)(hv:Vis X.env.scope x)(hd:(x==Dgs)=M)(eO:(x==("__classdict__":Str))=M)(h1:PM X i st n1)
  (hs:swapsWith (.Dict [] [] dp) (U (.Name x pos')) pos.line X.env=pure M):PSs X [.Assign [.Name x pos'] (.Dict [] [] dp) pos,st,.Return (U (.Name x px)) rp] (tA i n1):=λenv Z s o I w=>a6 w λout RO w=>by
 refine hde λG fin=> ?_;cases w;refine fin (Gbq (Gco (thn (AO env Z s ⟨.tn,.dT []⟩ I rfl) λv s1 eX=>(hde λG fin=> ?_)) hs));obtain⟨x1,r1⟩:=eX;obtain⟨_,q,rfl,QO,T1⟩:=r1;obtain⟨TJ,_,xs,⟨ob,es,ep,g,c,d,he,_⟩,w⟩:=T1.dct;cases w;obtain⟨t,e,q1,q2,q3,q4,q5⟩:=kU (i:=i) (r:=⟨.tn,.opq⟩) I x1 ⟨rfl,q,rfl,QO,.any,[],#[],rfl,⟨ob,es,ep,g,c,d⟩,Gbm _,.nil⟩ rfl;refine fin ?_;have hii:i<env.length:=by rw[I.len];exact(Gae.mp hi).1
 refine hde λG fin=> ?_;have et:t= .own .opq:=by
  have:=congrArg (λl:aM=>l[i]?) e
  simpa[hii] using this.symm
 subst et;refine fin (store (I.exp x1) hN hi hx hf q2 q3 λs2 I2 k z=>hde λG fin=> ?_);have I3:=I2.swap (Gau hii) (.inl ⟨rfl,rfl⟩);rw[GeN] at I3;refine fin ?_;have ew:X.wb (λ_=>False)=X:=by unfold Cx.wb;simp only[or_false]
 have UR:gm X i q (λ_=>False) _ _ s2 []:=⟨by rw[ew];exact I3,Gau hii,bp,TJ,Gbm _,λb z=>z.elim,[],⟨ob,es,ep,k q ob g (λv=>(I.cl QO).1 (I.ok.vb _ v)),c,d,he⟩,GeB,.nil,GeB⟩
 refine Gbq (thn (h1 q _ _ _ s2 [] out UR RO) λfl s3 Rt=>hde λG fin=> ?_);obtain⟨rfl,R',Z',J',S'⟩:=Rt;refine fin (Gbq (Gdj (fF (X:=X.wb R') J'.I ⟨_,J'.at_⟩ hi hv hd eO ⟨⟨_,_,J'.I.less I.ok⟩,λ_=>(hde λG fin=> ?_),λz=>nomatch z⟩)));obtain⟨xs,dd,rel,_⟩:=J'.dct;obtain⟨d1,d2,d3,_⟩:=J'.dq;refine fin ?_;rw[J'.v];refine⟨q,rfl,d1,(Top.E7 J'.hs J'.len dd (Kts.Hw rel)).keep (λb o f g _=> ⟨f.imp id λz=> ⟨⟨TO,(J'.fr b z).2.1⟩,λy=>d3 (y▸z)⟩,g⟩) λo g _=>g⟩
end
end
section
variable [Wd]
def tB(ns:List Int)(i:Nat):Int:=ns[i]?.getD 0
theorem oV(n:Int)(ns:List Int):∀k,preSum (tB (n::ns)) (k+1)=n+preSum (tB ns) k
 |0=>by simp[preSum,tB]
 |k+1=>by
  rw[preSum,oV n ns k,preSum];have:tB (n::ns) (k+1)=tB ns k:=by simp[tB]
  rw[this];simp+arith
theorem qk:∀ns,preSum (tB ns) ns.length=ns.sum
 |[]=>rfl
 |n::ns=>by rw[GaC,oV,qk ns,List.sum_cons]
theorem uL:∀{ds:List D} {is:List Int} {us:List Vf},jQ ds=U is->aP F h ds us->us.length=is.length/\∀(i:Nat) v,us[i]? =U v->∃t,v= .int (tB is i) t
 |[],is,us,e,r=>by cases e;rw[r.empty];exact⟨rfl,λi v h=>by simp at h⟩
 | .int n::ds,is,us,e,r=>by
  refine hde λG fin=> ?_;obtain⟨Uy,e',rfl⟩:=Gab.mp (show(jQ ds).map _=U is from e);obtain⟨v,w,rfl,h1,h2⟩:=r.gM;obtain⟨l,k⟩:=uL e' h2;obtain⟨t,rfl⟩:=h1.inn.int;refine fin (⟨by rw[GaC,GaC,l],λi v hi=> ?_⟩);cases i with
  |zero=>cases hi;exact⟨t,rfl⟩
  |succ i=>obtain⟨t,e⟩:=k i v hi;exact⟨t,e⟩
def Cc{X:Cx}(hc:X.calm=O):gh X (.builtin "sum") BE:=λenv Z s ds us r I ps e=>by
 refine hde λG fin=> ?_;obtain⟨d,xs,rfl,h1,h2⟩:=pX e;obtain⟨is,hb,rfl⟩:=Gab.mp h2;obtain⟨v,rfl,i⟩:=gO ps;obtain⟨c,q,hq⟩:=jZ h1;obtain⟨a,eo,rfl,_,t,z,rp⟩:=i.sq q;obtain⟨hn,hv⟩:=uL hb rp;have hn:eo.size=is.length:=by simpa using hn
 refine fin (call_sum_walkG (mQ (I.ok.hd hc) t hq λIt fp wr St s₂ W st lt kept=> ⟨It,fp,wr,_,_,St,tB is,rfl,W,st,lt,λi v p=>hv i v (by simp_all),λh' tk t hk=>(hde λG fin=> ?_)⟩));obtain⟨⟨zo,e⟩,k⟩:=kept h' tk hk;refine fin ?_;rw[hn,qk,e];exact⟨I.kept k _,.one rfl⟩
end
section
variable [Wd]
def eF{α β:Type}{o:Option α}{k:α->Option β}{y:β}(h:o.bind k=U y):∃x,o=U x/\k x=U y:=GaZ.mp h
structure Gm where
 N:List Str
 kd:Str->Option Vq
 fns:Str->Option (Bool×Nat×(SpF))
 bl:List Str
 top:Bool
 sx:Nat:=0
 sy:Nat:=0
 ni:Bool:=M
 ins:List Str:=[]
 xE:(Vi->Option DE)->Vi->Option DE:=λ_ _=>J
structure Ev where
 E:Vi->Option DE
 V:Vi->Option DT
 T:Vi->Option DT
 W:Vi->Option DT
 S:Vk->Option DS
 B:List Vk->Option DS
def av{α:Type}(b:Bool)(x:Option α):Option α:=if b then x else J
def cN{α:Type}{x:Option α}{y:α}(h:av b x=U y):b=O/\x=U y:=by
 unfold av at h;simp_all
def ar{α:Type}{b:Bool}{x:Option α}{y:α}{C:Prop}(h:av b x=U y)(k:b=O->x=U y->C):C:=let q:=cN h;k q.1 q.2
def ixN(N:List Str)(x:Str):Option Nat:=N.findIdx? λy=>y==x
def wB(h:ixN N x=U i):N[i]? =U x:=by
 obtain⟨h1,h2,_⟩:=GcM.mp h;simp_all
def rdK:Option Vq->Bool
 |some .local=>O
 |some .cell=>O
 |some .free=>O
 |_=>M
def odd(x:Str):Bool:=x=="__debug__"||x=="__classdict__"
def vR(G:Gm)(x:Str):Option Nat:=av (rdK (G.kd x)&& !odd x) (ixN G.N x)
def lR(G:Gm)(x:Str):Option Nat:=av ((G.kd x==U .local||(G.top&&G.kd x==U .cell))&& !G.ins.contains x) (ixN G.N x)
def gR(G:Gm)(x:Str):Bool:=G.kd x==U .globalImplicit&& !odd x&&x !="__name__"
def bR(G:Gm)(x:Str):Bool:=gR G x&&G.bl.contains x
def ns:Vi->Bool
 | .Starred _ _=>M
 |_=>O
def aR(f:Vi->Option DE):List Vi->Option (Nat×DA)
 |[]=>U (0,aL)
 |e::es=>av (ns e) ((f e).bind λx=>(aR f es).map λr=>(r.1+1,ae x r.2))
structure b8(G:Gm)(X:Cx):Prop where
 N:X.N=G.N
 nd:X.N.Nodup
 vis:∀x,rdK (G.kd x)=O->Vis X.env.scope x
 loc:∀x,((G.kd x==U .local||(G.top&&G.kd x==U .cell))&& !G.ins.contains x)=O->Loc X x/\(X.fn x=O\/X.env.scope.names.lookup x=U .local)
 gl:∀x,G.kd x=U .globalImplicit->Gl X x
 cf:∀x,uu (G.kd x)=O->uu (X.env.kindOf x)=O
 sw:G.top=O->∀x,(X.env.blockKind== .function&&X.env.kindOf x==U .local)=(G.kd x==U .local)
 calm:X.calm=O
 own:X.xe=λ_ _=>False
 st:G.top=O->∀b,X.frm b->b∈frs X.stack
 hu:X.A.units+20<cLine
 fns:∀x ni np sp,G.fns x=U (ni,np,sp)->∃k fa fd ps,nY X.K X.mg X.base ni k fa fd ps sp/\bU k X.A/\X.mg x=U (.ref fa)/\PySem.W.keepIn X.K (.ref fa)=O/\Binds X.K fd ps
 ni:G.ni=O->X.ni=O
 no:∀x∈G.bl,X.mg x=J
 xE:G.ins.isEmpty=M->∀E,(∀e f,E e=U f->PE X e f)->∀e f,G.xE E e=U f->PE X e f
structure cO(v:Ev)(X:Cx):Prop where
 E:∀e f,v.E e=U f->PE X e f
 V:∀e t,v.V e=U t->PB X e t
 T:∀e t,v.T e=U t->PT X e t
 W:∀e t,v.W e=U t->PW X e t
 S:∀s f,v.S s=U f->PS X s f
 B:∀b f,v.B b=U f->PSs X b f
def aW(h:ns e=O):starEach (e::es) env=(M,eval e env)::starEach es env:=by
 cases e<;>first|rfl|cases h
def rO{X:Cx}(g:b8 G X)(h:vR G x=U i):X.N[i]? =U x/\Vis X.env.scope x/\(x==Dgs)=M/\(x==("__classdict__":Str))=M:=by
 refine ar h λh1 h2=> ?_;rw[Gac] at h1;have:=h1.2;unfold odd at this;simp only[GcI,GcL] at this;exact⟨by rw[g.N];exact wB h2,g.vis x h1.1,this.1,this.2⟩
def km{X:Cx}(g:b8 G X)(h:lR G x=U i):X.N[i]? =U x/\Loc X x/\(X.fn x=O\/X.env.scope.names.lookup x=U .local):=by
 exact ar h λh1 h2=> ⟨by rw[g.N];exact wB h2,g.loc x h1⟩
def JD(g:b8 G X)(h:gR G x=O):Gl X x/\x≠"__name__"/\(x==Dgs)=M:=by
 unfold gR at h;simp only[Gac,bne_iff_ne,Gas] at h;have:=h.1.2;unfold odd at this;simp only[GcI,GcL] at this;exact⟨g.gl x h.1.1,h.2,this.1⟩
def uM{X:Cx}(g:b8 G X)(h:bR G x=O):Gl X x/\X.mg x=J/\x≠"__name__"/\(x==Dgs)=M:=by
 unfold bR at h;rw[Gac] at h;obtain⟨h1,h2,h3⟩:=JD g h.1;exact⟨h1,g.no x (by simp_all),h2,h3⟩
def AQ(h:aR f es=U (n,r))(hn:n≠0):∃e t,es=e::t/\ns e=O/\∃m q,aR f t=U (m,q):=by
 cases es with
 |nil=>cases h;exact absurd rfl hn
 |cons e t=>
  refine hde λG fin=>ar h λh1 h2=>a6 h2 λx hx h2=> ?_;obtain⟨⟨m,q⟩,hq,h2⟩:=Gab.mp h2;exact fin (⟨e,t,rfl,h1,m,q,hq⟩)
def Og:Vi->Bool
 | .Slice _ _ _ _=>M
 |_=>O
def Le(h:Og b=O):Aq b:=by
 cases b<;>first|exactλ_ _=>rfl|cases h
def plT:Vi->Bool
 | .UnaryOp _ _ _=>M
 | .BoolOp _ _ _=>M
 | .IfExp _ _ _ _=>M
 | .Compare _ _ _ _=>M
 |_=>O
def Lf{e:Vi}(h:plT e=O):∀whole,isTrue e env whole=(do let v<-whole;standAt e.pos;holding [v] (truthy v)):=by
 cases e<;>first|exactλ_=>rfl|cases h
def Hz(op:Vt)(b:Vi):Option (D->D->Option Bool):=av (!behindInMarks op b) (match op with
 | .Lt=>U ltB
 | .LtE=>U leB
 | .Gt=>U gtB
 | .GtE=>U geB
 | .Eq=>U eqB
 | .NotEq=>U neB
 | .Is=>U g8
 | .IsNot=>U gK
 | .In=>U inB
 | .NotIn=>U NV)
abbrev Rc:=Gm->Ev
def cqR(v:Ev)(a:Vi):List Vt->List Vi->Option DT
 |[op],[b]=>(Hz op b).bind λo=>(v.E a).bind λf=>(v.E b).map λg=>ao o f g
 |[op,op'],[b,c]=>(Hz op b).bind λo=>(Hz op' c).bind λo' =>(v.E a).bind λf=>(v.E b).bind λg=>(v.E c).map λh=>sL o o' f g h
 |_,_=>J
def cpR(v:Ev):Vi->Option DT
 | .Compare a ops bs _=>cqR v a ops bs
 |_=>J
def nmO:Vi->Option Str
 | .Name x _=>U x
 |_=>J
def bo(op:BoolOp)(t u:DT):DT:=match op with
 | .And=>cK t u
 | .Or=>orT t u
def bvR(v:Vi->Option DT)(p:Pos)(op:BoolOp)(w:Vi->Option DT):List Vi->Option DT
 |[]=>J
 |a::r=>(match r with
  |[]=>v a
  |_::_=>(v a).bind λt=>(w (.BoolOp op r p)).map λu=>bo op t u)
def vV(v:Ev)(G:Gm)(e:Vi):Option DT:=match e with
 | .Compare _ _ _ _=>cpR v e
 | .BoolOp op es p=>bvR v.V p op v.V es
 | .UnaryOp op a _=>(match op with
  | .Not=>(v.V a).map pK
  |_=>(v.E e).map iq)
 |_=>(v.E e).map iq
def tV(v:Ev)(e:Vi):Option DT:=match e with
 | .Compare _ _ _ _=>cpR v e
 | .BoolOp _ _ _=>v.W e
 | .UnaryOp op a _=>(match op with
  | .Not=>(v.T a).map pK
  |_=>J)
 |_=>av (plT e) ((v.E e).map iq)
def wV(v:Ev):Vi->Option DT
 | .BoolOp op es p=>bvR v.T p op v.W es
 |_=>J
def tgs(G:Gm):List Vi->Option (List Nat)
 |[]=>U []
 |e::r=>(nmO e).bind λx=>(lR G x).bind λi=>(tgs G r).map λis=>i::is
def tgR(G:Gm):Vi->Option DG
 | .Name x _=>(lR G x).map gN
 | .Tuple es _ _=>(tgs G es).map gT
 |_=>J
def tgN:Vi->List Str
 | .Name x _=>[x]
 | .Tuple es _ _=>es.filterMap nmO
 |_=>[]
def Ef:Vi->Bool
 | .Set _ _ _=>M
 |_=>O
def inG(G:Gm)(scope:Vp)(tn:List Str):Gm:={G with ni:=M,ins:=[],xE:=λ_ _=>J,N:=tn++G.N.filter λx=>scope.names.lookup x==U .free,kd:=λx=>scope.names.lookup x,top:=M}
def Lg(G:Gm)(scope:Vp):List Nat:=(G.N.filter λx=>scope.names.lookup x==U .free).filterMap (ixN G.N)
def tsR(v:Ev):List Vi->Option DT
 |[]=>U dS
 |[c]=>v.T c
 |_=>J
def cH(h:nmO e=U x):∃p,e= .Name x p:=by
 cases e<;>first|exact nn h rfl|(cases h;exact⟨_,rfl⟩)
def mY(h:Ef e=O):∀x,foldedSetIterable e env x=pure x:=by
 cases e<;>first|exactλ_=>rfl|cases h
def slO(v:Ev):Option Vi->Option DO
 |none=>U noO
 |some e=>(v.E e).map jS
def kR:Const->Option DE
 | .int i=>U (kE (.int i))
 | .bool b=>U (kE (.bl b))
 | .none=>U (kE .non)
 | .str x=>U (kE (.str x))
 |_=>J
def ixR(v:Ev)(a b:Vi):Option DE:=av (Og b) ((v.E a).bind λf=>(v.E b).map λg=>Vd f g)
def nLC:Vi->Bool
 | .ListComp _ _ _ _=>M
 | .SetComp _ _ _ _=>M
 | .DictComp _ _ _ _ _=>M
 |_=>O
def ko(h:nLC e=O):swapsWith e t n env=pure M:=by
 cases e<;>first|rfl|cases h
def swB(G:Gm)(x:Str)(p lp:Pos)(scope:Vp):Bool:=(G.kd x==U .local)&&(p.line==lp.line)&& !(scope.names.any λ(n,k)=>n==x&&(k== .local||k== .cell))
def Qj:Nat->SpV
 |0=>UZ
 |_=>gP
def Eg(sx:Nat)(x:Str)(n:Nat):Option (SpV):=
 if x="len"/\n=1 then U b5 else if x="min"/\n=2 then U j4
 else if x="any"/\n=1 then U anyS
 else if x="int"/\n=1 then U qZ else if x="tuple"/\n=1 then U gf
 else if x="sum"/\n=1 then U BE
 else if x="sorted"/\n=1 then U (Qj sx)
 else if x="max"/\n=1 then U u7 else if x="max"/\n=2 then U pL else J
def atB:Vi->Bool
 | .Call f args kw _=>(match f with
  | .Name _ _=> !(args.isEmpty&&kw.isEmpty)
  |_=>O)
 |_=>O
def ql(h:atB o=O):attributeBase o m env w=w:=by
 cases o<;>try rfl
 rename_i f args kw p;cases f<;>try rfl
 cases args with
 |nil=>cases kw with
  |nil=>cases h
  |cons _ _=>rfl
 |cons _ _=>rfl
def Eh:Vi->Option (Vi×List Vi×List Keyword×Pos)
 | .Call f a k p=>U (f,a,k,p)
 |_=>J
def Lh:Vi->Option (Vi×Str×Pos)
 | .Attribute o m p=>U (o,m,p)
 |_=>J
def uN(e:Vi):Option (Vi×Str×List Vi):=(Eh e).bind λc=>(Lh c.1).bind λa=>av (c.2.2.1.isEmpty&&a.2.2.endLine==c.2.2.2.line&&atB a.1) (U (a.1,a.2.1,c.2.1))
def pG(h:Eh e=U (f,a,k,p)):e= .Call f a k p:=by
 cases e<;>first|exact nn h rfl|(cases h;rfl)
def AR(h:Lh e=U (o,m,p)):e= .Attribute o m p:=by
 cases e<;>first|exact nn h rfl|(cases h;rfl)
def jh(h:uN e=U (o,m,args)):∃ap p,e= .Call (.Attribute o m ap) args [] p/\(ap.endLine==p.line)=O/\atB o=O:=by
 refine a6 h λzp h1 h2=> ?_;obtain⟨f,a,k,p⟩:=zp
 refine a6 h2 λzp h3 h4=> ?_;obtain⟨o',m',ap⟩:=zp
 refine ar h4 λc h5=> ?_;cases h5;cases pG h1;cases AR h3;rw[Gac,Gac] at c;have k0:=Gba.mp c.1.1;subst k0;exact⟨_,_,rfl,c.1.2,c.2⟩
def rb:Vi->Bool
 | .Tuple _ _ _=>O
 |_=>M
def s1R(v:Ev)(G:Gm)(tg iter:Vi)(x:Str):List Vi->Option DI
 |[a]=>if x="range" then av (bR G x&&ns a) ((v.E a).map cz)
  else if x="enumerate" then av (bR G x&&ns a&&rb tg) ((v.E a).map rE) else(v.E iter).map cy
 |[a,b]=>if x="range" then av (bR G x&&ns a&&ns b) ((v.E a).bind λf=>(v.E b).map λg=>pD f g) else(v.E iter).map cy
 |_=>(v.E iter).map cy
def viR(v:Ev)(tg o:Vi)(m:Str):Option DI:=if m="items" then av (rb tg) ((v.E o).map (Dt cG)) else J
def Ei(v:Ev)(G:Gm)(tg iter:Vi):Option DI:=match iter with
 | .Call f args kw _=>(match kw with
  |[]=>(match f with
   | .Name x _=>s1R v G tg iter x args
   | .Attribute _ _ _=>(uN iter).bind λq=>av q.2.2.isEmpty (viR v tg q.1 q.2.1)
   |_=>(v.E iter).map cy)
  |_=>(v.E iter).map cy)
 |_=>(v.E iter).map cy
def Ej(G:Gm):Vi->Option Nat
 | .Name x _=>ixN G.N x
 | .Call f args _ _=>(match args with
  |[e]=>if nmO f=U "enumerate" then(nmO e).bind (ixN G.N) else J
  |_=>J)
 |_=>J
def scB(G:Gm)(scope:Vp)(N:List Str)(n:Nat)(aq:List Nat):Bool:=
 (scope.names.all λy=>y.2 != .cell)&&scope.kind== .function&&(scope.names.all λy=>y.2 != .local||scope.names.lookup y.1==U .local)&&(scope.names.all λy=>y.2 != .free||uu (G.kd y.1))
  &&N.drop n==(aq.map λi=>(G.N[i]?).getD ("":Str))&&decide (n<=N.length)&&(aq.all λi=>decide (i<G.N.length))&&((N.drop n).all λx=>scope.names.lookup x==U .free)&&decide N.Nodup&&G.top
def tgA(G:Gm):Vi->List Nat
 | .Name x _=>(lR G x).toList
 | .Tuple es _ _=>(tgs G es).getD []
 |_=>[]
def hvR(G:Gm)(tg iter:Vi):Option (Nat×(List (List Key×D)->List D)):=(uN iter).bind λq=>(nmO q.1).bind λx=>(vR G x).bind λi=>av q.2.2.isEmpty (if q.2.1="items" then av (rb tg) (U (i,cG)) else J)
def lcR(r:Rc)(G:Gm)(elt tg iter:Vi)(ifs:List Vi)(scope:Vp):Option DE:=
 av (scB G scope (inG G scope (tgN tg)).N (tgN tg).length (Lg G scope)&&Ef iter&&(tgA (inG G scope (tgN tg)) tg).all λi=>decide (i<(tgN tg).length)) ((tgR (inG G scope (tgN tg)) tg).bind λgd=>(tsR (r (inG G scope (tgN tg))) ifs).bind λt=>((r (inG G scope (tgN tg))).E elt).bind λf=>
  (match hvR G tg iter with
  |some q=>U (pU q.2 q.1 (tgN tg).length (Lg G scope) gd t f)
  |none=>(Ei (r G) G tg iter).map λsrc=>dR (Ej G iter) (tgN tg).length (Lg G scope) src gd t f))
def opO:Operator->Option (D->D->Option RV)
 | .Add=>U aw
 | .Sub=>U ip
 | .Mult=>U bX
 | .FloorDiv=>U jG
 | .Mod=>U nV
 | .Pow=>U mJ
 |_=>J
def sxO(G:Gm):List Vi->Nat
 |[e]=>if(nmO e).isSome then G.sy else G.sx
 |_=>G.sx
def clR(v:Ev)(G:Gm)(x:Str)(args:List Vi):Option DE:=match G.fns x with
 |some (ni,np,sp)=>av (gR G x) ((aR v.E args).bind λa=>av (a.1==np&&a.1 !=0) (U (if ni then vX sp a.2 else ai sp a.2)))
 |none=>av (bR G x) ((aR v.E args).bind λa=>(Eg (sxO G args) x a.1).map λo=>g9 o a.2)
def iC:Vi->Option Int
 | .Constant c _ _=>(match c with
  | .int i=>U i
  |_=>J)
 |_=>J
def mxR(v:Ev)(G:Gm)(x:Str):List Vi->List Keyword->Option DE
 |[a],[k]=>av (x=="max"&&k.arg==U "default"&&bR G x&&ns a) ((iC k.value).bind λi=>(v.E a).map (mmE lU (.int i)))
 |_,_=>J
def unR(v:Ev)(G:Gm)(e a:Vi):UnaryOp->Option DE
 | .USub=>(v.E a).map (unE D0)
 | .Not=>(vV v G e).map bE
 |_=>J
def suR(v:Ev)(a b:Vi):Option DE:=match b with
 | .Slice lo hi st _=>av st.isNone ((v.E a).bind λf=>(slO v lo).bind λl=>(slO v hi).map λh=>slE f l h)
 |_=>ixR v a b
def lgR(r:Rc)(G:Gm)(elt:Vi)(scope:Vp):List Comprehension->Option DE
 |[g]=>av (g.is_async==0) (lcR r G elt g.target g.iter g.ifs scope)
 |_=>J
def g2R(v:Ev)(o:Vi)(m:Str):List Vi->Option DE
 |[a,b]=>av (m=="get"&&ns a&&ns b) ((v.E o).bind λf=>(v.E a).bind λg=>(v.E b).map λh=>Ds f g h)
 |_=>J
def caR(v:Ev)(G:Gm)(e:Vi)(args:List Vi)(kw:List Keyword):Vi->Option DE
 | .Attribute _ _ _=>(uN e).bind λq=>g2R v q.1 q.2.1 q.2.2
 | .Name x _=>(match kw with
  |[]=>clR v G x args
  |_=>mxR v G x args kw)
 |_=>J
def hkR(G:Gm)(E:Vi->Option DE)(e:Vi):Option DE:=if G.ins.isEmpty then J else G.xE E e
def eR(r:Rc)(G:Gm)(e:Vi):Option DE:=match e with
 | .Attribute _ _ _=>hkR G (r G).E e
 | .Name x _=>(vR G x).map vE
 | .Constant c _ _=>kR c
 | .BinOp a op b _=>(opO op).bind λo=>((r G).E a).bind λf=>((r G).E b).map λg=>Ve o f g
 | .UnaryOp op a _=>unR (r G) G e a op
 | .Compare _ _ _ _=>(vV (r G) G e).map bE
 | .BoolOp _ _ _=>(vV (r G) G e).map bE
 | .IfExp c a b _=>((r G).T c).bind λt=>((r G).E a).bind λf=>((r G).E b).map λg=>ifE t f g
 | .Tuple es _ _=>(aR (r G).E es).map λa=>cX a.2
 | .List es _=>(aR (r G).E es).map λa=>bQ a.2
 | .Subscript a b _=>suR (r G) a b
 | .ListComp elt gs scope _=>lgR r G elt scope gs
 | .Dict ks vs _=>av (ks.isEmpty&&vs.isEmpty) (U sM)
 | .Call f args kw _=>match hkR G (r G).E e with
  |some f=>U f
  |none=>caR (r G) G e args kw f
 |_=>J
def asR(r:Rc)(G:Gm)(x:Str)(p:Pos)(e:Vi):Option DE:=match e with
 | .ListComp _ _ scope lp=>av G.top ((r G).E e)
 |_=>av (nLC e) ((r G).E e)
def meR(v:Ev)(G:Gm)(x m:Str)(args:List Vi):Option DS:=(vR G x).bind λi=>match args with
 |[a]=>av (ns a) (if m="append" then(v.E a).map λf=>gw i f else if m="extend" then(v.E a).map λf=>JY i f else J)
 |[a,b]=>av (ns a&&ns b) (if m="insert" then(v.E a).bind λf=>(v.E b).map λg=>Kr i f g else J)
 |_=>J
def exR(v:Ev)(G:Gm):Vi->Option DS
 | .Call f args kw eG=>(match f with
  | .Attribute o m apos=>(match o with
   | .Name x _=>av (kw.isEmpty&&(apos.endLine==eG.line)) (meR v G x m args)
   |_=>J)
  |_=>J)
 |_=>J
def tyR(r:Rc)(G:Gm)(e:Vi):List Vi->Option DS
 |[t]=>(match t with
  | .Name x p=>(lR G x).bind λi=>(asR r G x p e).map λf=>au i f
  | .Subscript o k _=>(nmO o).bind λx=>(vR G x).bind λi=>av (nLC e) (((r G).E k).bind λf=>((r G).E e).map λg=>BF i f g)
  |_=>J)
 |_=>J
def sR(r:Rc)(G:Gm)(s:Vk):Option DS:=match s with
 | .Assign ts e _=>tyR r G e ts
 | .Return e _=>(match e with
  |some e=>((r G).E e).map λf=>if G.ni then jW f else UW f
  |none=>U Jx)
 | .If c xs ys _=>((r G).T c).bind λt=>((r G).B xs).bind λa=>((r G).B ys).map λb=>ifS t a b
 | .For tg iter body els _=>av (els.isEmpty&&Ef iter) ((Ei (r G) G tg iter).bind λsrc=>(tgR G tg).bind λgd=>((r G).B body).map λb=>dN (Ej G iter) src gd b)
 | .While c body els _=>av els.isEmpty (((r G).T c).bind λt=>((r G).B body).map λb=>pM t b)
 | .Break _=>U bkS
 | .Continue _=>U ctS
 | .Pass _=>U aC
 | .Expr e _=>exR (r G) G e
 |_=>J
def blR(v:Ev):List Vk->Option DS
 |[]=>U aC
 |[s]=>v.S s
 |s::t::rest=>(v.S s).bind λa=>(v.B (t::rest)).map λb=>ak a b
def lsE:Vi->Bool
 | .List es _=>es.isEmpty
 |_=>M
def sdR(v:Ev)(x:Str)(e:Vi):Option DM:=(uN e).bind λq=>av (q.2.1=="append") (match q.2.2 with
 |[b]=>(uN q.1).bind λp=>(nmO p.1).bind λy=>av (p.2.1=="setdefault"&&y==x&&ns b) (match p.2.2 with
  |[k,l]=>av (ns k&&lsE l) ((v.E k).bind λg=>(v.E b).map λf=>GW g f)
  |_=>J)
 |_=>J)
def m1R(v:Ev)(G:Gm)(i:Nat)(e:Vi):List Vi->Option DM
 |[t]=>(nmO t).bind λy=>(lR G y).bind λj=>av (i !=j&&nLC e) ((v.E e).map λf=>setM j f)
 |_=>J
def msR(v:Ev)(G:Gm)(x:Str)(i:Nat):Vk->Option DM
 | .Assign ts e _=>m1R v G i e ts
 | .Expr e _=>sdR v x e
 |_=>J
def mbR(v:Ev)(G:Gm)(x:Str)(i:Nat):List Vk->Option DM
 |[]=>J
 |s::rest=>(match rest with
  |[]=>msR v G x i s
  |_::_=>(msR v G x i s).bind λa=>(mbR v G x i rest).map λb=>Kt a b)
def asV:Vk->Option (Vi×Vi)
 | .Assign ts e _=>(match ts with
  |[t]=>U (t,e)
  |_=>J)
 |_=>J
def foV:Vk->Option (Vi×Vi×List Vk)
 | .For t i b o _=>av o.isEmpty (U (t,i,b))
 |_=>J
def reV:Vk->Option Vi
 | .Return e _=>e
 |_=>J
def diE:Vi->Bool
 | .Dict ks vs _=>ks.isEmpty&&vs.isEmpty
 |_=>M
def dnR(v:Ev)(G:Gm)(a b c:Vk):Option DS:=(asV a).bind λp=>(nmO p.1).bind λx=>(lR G x).bind λi=>(vR G x).bind λi' =>(foV b).bind λq=>(nmO q.1).bind λy=>(lR G y).bind λj=>(reV c).bind λe=>(nmO e).bind λz=>
 av (G.ni&&diE p.2&&z==x&&i==i' &&i !=j&&Ef q.2.1) ((v.E q.2.1).bind λf=>(mbR v G x i q.2.2).map λn=>tA i (Du j f n))
def d3R(v:Ev)(G:Gm):List Vk->Option DS
 |a::rest=>(match rest with
  |[b,c]=>dnR v G a b c
  |_=>J)
 |_=>J
def bdR(v:Ev)(G:Gm)(b:List Vk):Option DS:=match av G.ins.isEmpty (d3R v G b) with
 |some f=>U f
 |none=>blR v b
def Oh(r:Rc):Rc:=λG=> ⟨eR r G,vV (r G) G,tV (r G),wV (r G),sR r G,bdR (r G) G⟩
def mf:Nat->Rc
 |0=>λ_=> ⟨λ_=>J,λ_=>J,λ_=>J,λ_=>J,λ_=>J,λ_=>J⟩
 |n+1=>Oh (mf n)
end
section
variable [Wd]
section
variable{X:Cx}
def HA{st:Vk}{fs:DS}(h:PS X st fs):PSs X [st] fs:=λenv Z s o I q=>Gbq (thn (h env Z s o I q) λfl s1 k=>by
 cases fl<;>first|exact GbF k|exact k)
theorem lN(hf:∀e d,f e=U d->PE X e d):∀{es n r},aR f es=U (n,r)->PA X es r/\(∀pos,(backTo pos (starEach es X.env)).any (·.1)=M)/\es.all ns=O
 |[],n,r,h=>by cases h;exact⟨iQ,λ_=>rfl,rfl⟩
 |e::es,n,r,h=>by
  refine hde λG fin=>ar h λh1 h2=>a6 h2 λx hx h2=> ?_;obtain⟨⟨m,q⟩,hq,h2⟩:=Gab.mp h2;cases h2;obtain⟨a1,a3,a4⟩:=lN hf hq;refine fin (⟨fg (hf e x hx) a1 (aW h1),λpos=> ?_,by rw[GbK,h1,a4];rfl⟩);rw[aW h1];exact a3 pos
def tD(g:b8 G X)(h:Hz op b=U o):behindInMarks op b=M/\jN X op o:=by
 refine ar h λh1 h2=> ⟨by simpa using h1, ?_⟩;have hu:=g.hu;cases op<;>first|exact nn h2 rfl|(cases h2;first|exact NI|exact NJ|exact NK|exact NM|exact NN hu|exact NO hu|exact NP|exact Dd|exact Oe hu|exact L8 hu)
def Ek(g:b8 G X)(k:cO v X)(h:cpR v e=U t):PT X e t/\PB X e t:=by
 cases e<;>try exact nn h rfl
 case Compare a ops bs p=>
  rcases ops with _| ⟨op,_| ⟨op2,_|_⟩⟩<;>rcases bs with _| ⟨b,_| ⟨c,_|_⟩⟩<;>try exact nn h rfl
  .refine a6 h λo ho h=>hde λG fin=>a6 h λf hf h=> ?_;obtain⟨q,hq,rfl⟩:=Gab.mp h;obtain⟨m,h1⟩:=tD g ho;exact fin (⟨K8 h1 (k.E _ _ hf) (k.E _ _ hq) m,(K9 h1 (k.E _ _ hf) (k.E _ _ hq) m).pb⟩)
  .refine a6 h λo ho h=>hde λG fin=>a6 h λo' zN h=>a6 h λf hf h=>a6 h λq hq h=> ?_;obtain⟨u,hu,rfl⟩:=Gab.mp h;obtain⟨_,h1⟩:=tD g ho;obtain⟨m',yp⟩:=tD g zN;exact fin (⟨D8 h1 yp (k.E _ _ hf) (k.E _ _ hq) (k.E _ _ hu) m',(D9 h1 yp (k.E _ _ hf) (k.E _ _ hq) (k.E _ _ hu) m').pb⟩)
def HB(g:b8 G X)(h:Eg sx x n=U o)(hb:bR G x=O)(ha:PA X (e::es) ra)(he:ns e=O)(xg:(backTo pos (starEach es X.env)).any (·.1)=M):PE X (.Call (.Name x p) (e::es) [] pos) (g9 o ra):=by
 obtain⟨b1,b2,b3,b4⟩:=uM g hb;have hc:=g.calm;unfold Eg at h
 repeat' split at h
 all_goals first|cases h|skip
 all_goals (rename_i q;obtain⟨rfl,_⟩:=q)
 all_goals first
  |exact lX Dr b1 b2 (by decide+kernel) ha b3 b4 (aW he) xg
  |exact lX (BL hc) b1 b2 (by decide+kernel) ha b3 b4 (aW he) xg
  |exact lX (BY hc) b1 b2 (by decide+kernel) ha b3 b4 (aW he) xg
  |exact lX (Cc hc) b1 b2 (by decide+kernel) ha b3 b4 (aW he) xg
  |exact uq BX b1 b2 (by decide+kernel) ha b3 b4 (aW he) xg
  |exact uq r7 b1 b2 (by decide+kernel) ha b3 b4 (aW he) xg
  |exact lX (C6 hc) b1 b2 (by decide+kernel) ha b3 b4 (aW he) xg
  |exact lX (C7 hc) b1 b2 (by decide+kernel) ha b3 b4 (aW he) xg
  |exact lX (by rcases sx with _|_<;>first|exact uG|exact mU) b1 b2 (show bootBuiltins "sorted"=U (.builtin "sorted") by decide+kernel) ha b3 b4 (aW he) xg
def El(h:PE X e f):PB X e (iq f):=λenv Z s b I q=>by
 refine a6 q λx hx q=>thn (h env Z s x I hx) λu s1 eX=>hde λG eJ=> ?_;obtain⟨x1,r1⟩:=eX;refine eJ ?_;split at q<;>cases q
 rename_i hd;have i:=r1.inn I;rw[hd] at i;exact⟨i.bl,x1⟩
def Em(h:PE X e f)(hp:plT e=O):PT X e (iq f):=λenv Z s b I q=>isTrue_plain (thn (El h env Z s b I q) λv s1 ⟨hv,x⟩=>by subst hv;exact Gbv ⟨rfl,x⟩) (Lf hp _)
def Li(h:PB X a t):PB X (.UnaryOp .Not a pos) (pK t):=λenv Z s b I q=>aS q λk hk q=>UnaryOp_ (thn (h env Z s k I hk) λv s1 xI=>by
 obtain⟨rfl,x⟩:=xI;exact not_of (Gbv ⟨by rw[<-q],x⟩))
def JE(g:b8 G X)(k:cO v X)(h:vV v G e=U t):PB X e t:=by
 have ov:∀{e:Vi},(v.E e).map iq=U t->PB X e t:=λh=>by
  obtain⟨u,hu,rfl⟩:=Gab.mp h;exact El (k.E _ _ hu)
 cases e<;>try exact ov h
 case Compare=>exact(Ek (e:= .Compare _ _ _ _) g k h).2
 case BoolOp op es p=>
  match es,h with
  |[],h=>exact nn h rfl
  |[a],h=>exact Kd (k.V _ _ h)
  |a::b::r,h=>
   refine a6 h λa ha h=> ?_;obtain⟨u,hu,rfl⟩:=Gab.mp h;cases op
   .exact Ke (k.V _ _ ha) (k.V _ _ hu)
   .exact NR (k.V _ _ ha) (k.V _ _ hu)
 case UnaryOp op a p=>
  cases op<;>try exact ov h
  obtain⟨u,hu,rfl⟩:=Gab.mp h;exact Li (k.V _ _ hu)
def Oi(g:b8 G X)(k:cO v X)(h:tV v e=U t):PT X e t:=by
 have ov:∀{e:Vi},av (plT e) ((v.E e).map iq)=U t->PT X e t:=λh=>by
  refine ar h λc h=> ?_;obtain⟨u,hu,rfl⟩:=Gab.mp h;exact Em (k.E _ _ hu) c
 cases e<;>try exact ov h
 case Compare=>exact(Ek (e:= .Compare _ _ _ _) g k h).1
 case BoolOp=>exactλenv Z s b I q=>k.W _ _ h _ env Z s b I q
 case UnaryOp op a p=>
  cases op<;>try exact nn h rfl
  obtain⟨u,hu,rfl⟩:=Gab.mp h;exact Kc (k.T _ _ hu)
def Oj(k:cO v X)(h:wV v e=U t):PW X e t:=by
 cases e<;>try exact nn h rfl
 case BoolOp op es p=>
  match es,h with
  |[],h=>exact nn h rfl
  |[a],h=>
   cases op
   .exact GI (k.T _ _ h)
   .exact Ka (k.T _ _ h)
  |a::b::r,h=>
   refine a6 h λa ha h=> ?_;obtain⟨u,hu,rfl⟩:=Gab.mp h;cases op
   .exact Kb (k.T _ _ ha) (k.W _ _ hu)
   .exact NQ (k.T _ _ ha) (k.W _ _ hu)
theorem Eo(g:b8 G X):∀{es is},tgs G es=U is->PGs X es is/\(assignEach es X.env).length=is.length/\(assignEach es X.env).findIdx? (·.1)=J
 |[],is,h=>by cases h;exact⟨GU,rfl,rfl⟩
 |e::r,is,h=>by
  refine hde λG fin=>a6 h λx hx h2=> ?_;clear h;obtain⟨p,rfl⟩:=cH hx;refine a6 h2 λi hi h=> ?_;obtain⟨js,hj,rfl⟩:=Gab.mp h;obtain⟨h1,h2,h3⟩:=km g hi;obtain⟨a1,a2,a3⟩:=Eo g hj;refine fin (⟨Dl (Ar g.nd h1 h2 h3) a1 rfl, ?_, ?_⟩)
  .show(assignEach r _).length+1=_;rw[a2]
   rfl
  .show(_::assignEach r _).findIdx? _=J;rw[List.findIdx?_cons,a3]
   rfl
def tF(g:b8 G X)(h:tgR G e=U gd):(∀w,(w=O->rb e=O)->PG X w e gd)/\∀n,((tgA G e).all λi=>decide (i<n))=O->Tgt n gd:=by
 cases e<;>try exact nn h rfl
 case Name x p=>
  obtain⟨i,hi,rfl⟩:=Gab.mp h;obtain⟨h1,h2,h3⟩:=km g hi;refine⟨λw hw=>(by cases w with|false=>exact Ar g.nd h1 h2 h3|true=>cases hw rfl),λn c=>Kx ?_⟩;have c:((lR G x).toList.all λi=>decide _)=O:=c;simp_all
 case Tuple es p q=>
  obtain⟨is,hi,rfl⟩:=Gab.mp h;obtain⟨a1,a2,a3⟩:=Eo g hi;refine⟨λw _=>Km g.calm a1 a2 a3,λn c=>Ky ?_⟩;have c:(((tgs G es).getD []).all λi=>decide _)=O:=c
  rwa[hi] at c
def PIr(X:Cx)(tg e:Vi)(src:DI):Prop:=∃w,(w=O->rb tg=O)/\PI X w tg e src
def Ep{tg:Vi}{P:Prop}(hT:rb tg=O)(h:∀{es j q},tg= .Tuple es j q->P):P:=by
 cases tg<;>first|exact h rfl|exact Bool.noConfusion hT
def mh{v:Ev}(g:b8 G X)(k:cO v X)(h:(v.E e).map cy=U src):PIr X tg e src:=aS h λ_ hu z=>z▸⟨M,nofun,Ko g.calm (k.E _ _ hu)⟩
def Lj{v:Ev}(g:b8 G X)(k:cO v X)(h:av (bR G "range"&&ns a) ((v.E a).map cz)=U src):PIr X tg (.Call (.Name "range" px) [a] [] p) src:=ar h λc h=>aS h λu hu z=>by
 subst z;rw[Gac] at c;obtain⟨b1,b2,_⟩:=uM g c.1;exact⟨M,nofun,BG g.calm b1 b2 (k.E _ _ hu) (aW c.2)⟩
def Ol{v:Ev}(g:b8 G X)(k:cO v X)(h:av (bR G "enumerate"&&ns a&&rb tg) ((v.E a).map rE)=U src):PIr X tg (.Call (.Name "enumerate" px) [a] [] p) src:=ar h λc h=>aS h λu hu z=>by
 subst z;rw[Gac,Gac] at c;obtain⟨b1,b2,_⟩:=uM g c.1.1;exact Ep c.2 λe=>by subst e;exact⟨O,λ_=>rfl,H8 g.calm b1 b2 (k.E _ _ hu) (aW c.1.2)⟩
def Ll{v:Ev}(g:b8 G X)(k:cO v X)(h:av (bR G "range"&&ns a&&ns b) ((v.E a).bind λf=>(v.E b).map λg=>pD f g)=U src):PIr X tg (.Call (.Name "range" px) [a,b] [] p) src:=ar h λc h=>a6 h λf hf h=>aS h λu hu z=>by
 subst z;rw[Gac,Gac] at c;obtain⟨b1,b2,_⟩:=uM g c.1.1;exact⟨M,nofun,BH g.calm b1 b2 (k.E _ _ hf) (k.E _ _ hu) (by rw[aW c.1.2,aW c.2];rfl) (aW c.2)⟩
def Om{ap p:Pos}(g:b8 G X)(k:cO v X)(hl:(ap.endLine==p.line)=O)(ha:atB o=O)(h:viR v tg o m=U src):PIr X tg (.Call (.Attribute o m ap) [] [] p) src:=by
 unfold viR at h;by_cases q:m="items"
 .subst q;exact ar h λc h=>aS h λu hu z=>Ep c λe=>by
   subst e z;exact⟨O,λ_=>rfl,(uK g.calm (L9 (k.E _ _ hu)) (ql ha) hl).of λenv ds z=>Ca env ds z⟩
 .simp_all
def Lm(g:b8 G X)(k:cO v X)(h:s1R v G tg (.Call (.Name x px) args [] p) x args=U src):PIr X tg (.Call (.Name x px) args [] p) src:=by
 rcases args with _| ⟨a,_| ⟨b,_| ⟨_,_⟩⟩⟩
 .exact mh g k h
 .replace h:(if x="range" then _ else _)=U src:=h;by_cases q:x="range"
  .subst q;exact Lj g k h
  .rw[Gaw q] at h;by_cases q:x="enumerate"
   .subst q;exact Ol g k h
   .rw[Gaw q] at h;exact mh g k h
 .replace h:(if x="range" then _ else _)=U src:=h;by_cases q:x="range"
  .subst q;exact Ll g k h
  .rw[Gaw q] at h;exact mh g k h
 .exact mh g k h
def tG(g:b8 G X)(k:cO v X)(h:Ei v G tg e=U src):∃w,(w=O->rb tg=O)/\PI X w tg e src:=by
 show PIr X tg e src;cases e<;>try exact mh g k h
 case Call f args kw p=>
  cases kw with
  |cons _ _=>exact mh g k h
  |nil=>
   cases f<;>try exact mh g k h
   case Name x px=>exact Lm g k h
   case Attribute o m ap=>
    refine a6 h λzp hq h1=> ?_;obtain⟨o,m,as⟩:=zp;obtain⟨ap,p,e,hl,ha⟩:=jh hq;cases e;refine ar h1 λc h=> ?_;cases Gba.mp c;exact Om g k hl ha h
end
end
section
variable [Wd]
theorem mj{env:PySem.Env}:∀{names:List (Str×Vq)},names.lookup x=U .globalImplicit->(names.map λ(n,k)=>if(k==NameKind.free&&env.scope.kind== .function&&env.kindOf n==U .cell) then(n,NameKind.cell) else(n,k)).lookup x=U .globalImplicit
 |[],h=>by simp at h
 |(n,k)::r,h=>by
  rw[Gbr] at h;rw[Gav];dsimp only;cases hx:x==n with
  |true=>
   simp_all
  |false=>
   rw[hx] at h;split
   .rw[Gbr,hx];exact mj h
   .rw[Gbr,hx];exact mj h
def wC{N:List Str}(g:b8 G X)(h:scB G scope N n aq=O):jg X scope N n aq/\N.Nodup:=by
 refine hde λG fin=> ?_;unfold scB at h;simp only[Gac] at h;obtain⟨⟨⟨⟨⟨⟨⟨⟨⟨h1,h2⟩,h3⟩,h4⟩,h5⟩,h6⟩,h7⟩,h8⟩,h9⟩,zX⟩:=h;refine fin (⟨⟨h1,by simpa using h2,h3,Gal.mpr λy hy=> ?_,by rw[g.N];exact Gay (by simpa using h5),Gay h6,by rw[g.N];exact h7,h8,g.st zX⟩,Gay h9⟩);have:=Gal.mp h4 y hy;rw[Gbd] at this⊢;exact this.imp id (g.cf _)
def tH(g:b8 G X)(h:scB G scope (inG G scope tn).N n aq=O)(cl:List (Str×Vh))(C:Vh)(s:Vg)(bad:Vh->Prop):b8 (inG G scope tn) (blk X scope (inG G scope tn).N cl C s bad):=by
 have nd:=(wC g h).2;have nc:∀x,scope.names.lookup x≠U .cell:=λx hx=>by
  have:=Gal.mp (wC g h).1.cell _ (GbV hx);simp at this
 have lk:∀{x k},k=NameKind.local\/k=NameKind.free->scope.names.lookup x=U k->Vis (blk X scope (inG G scope tn).N cl C s bad).env.scope x:=λ{x k} hk q=>by
  rcases hk with rfl|rfl
  .exact .inl (Ges q)
  .exact .inr (fh q)
 exact{
  N:=rfl
  nd:=nd
  vis:=λx hx=>by
   have hx:rdK (scope.names.lookup x)=O:=hx
   match q:scope.names.lookup x with
   |some .local=>exact lk (.inl rfl) q
   |some .free=>exact lk (.inr rfl) q
   |some .cell=>exact absurd q (nc x)
   |none=>rw[q] at hx;cases hx
   |some .globalExplicit=>rw[q] at hx;cases hx
   |some .globalImplicit=>rw[q] at hx;cases hx
  loc:=λx hx=>by
   have hx:scope.names.lookup x=U .local:=by simpa[inG] using hx
   exact⟨⟨.inl (Ges hx),λ_ z=>nomatch z⟩,.inr (Ges hx)⟩
  gl:=λx hx=>mj hx
  cf:=λx hx=>by
   have hx:uu (scope.names.lookup x)=O:=hx;have q:scope.names.lookup x=U .free:=by
    match q:scope.names.lookup x,hx with
    |some .free,_=>rfl
    |some .cell,_=>exact absurd q (nc x)
   rcases(fh q) with z|z
   .exact(congrArg uu z).trans rfl
   .exact(congrArg uu z).trans rfl
  sw:=λz=>by cases z
  st:=λz=>by cases z
  calm:=g.calm
  own:=rfl
  hu:=g.hu
  ni:=λz=>by cases z
  fns:=g.fns
  no:=g.no
  xE:=λh=>nomatch h}
def Ln(g:b8 G X)(h:hvR G tg iter=U q):∃w,(w=O->rb tg=O)/\∃cs,BV X w tg iter cs/\∀n aq gd t u e v,pU q.2 q.1 n aq gd t u e=U v->mP n aq cs gd t u e=U v:=by
 refine a6 h λzp h1 h2=> ?_;obtain⟨o,m,as⟩:=zp;obtain⟨ap,p,rfl,hl,ha⟩:=jh h1;clear h h1;refine a6 h2 λx hx h3=> ?_;clear h2;obtain⟨px,rfl⟩:=cH hx;clear hx;refine a6 h3 λi hi h4=> ?_;clear h3;refine ar h4 λc2 h5=> ?_;clear h4;cases Gba.mp c2;obtain⟨v1,v2,v3,v4⟩:=rO g hi;split at h5
 .rename_i q;cases q
  refine ar h5 λc3 h6=> ?_;cases h6;exact Ep c3 λe=>by cases e;exact⟨O,λ_=>c3,_,H4 (uK g.calm (Ht v1 v2 v3 v4) rfl hl),λ_ _ _ _ _=>Hv⟩
 .exact nn h5 rfl
def Lo(g:b8 G X)(k:cO v X)(h:(match hvR G tg iter with
  |some q=>U (pU q.2 q.1 n aq gd t u)
  |none=>(Ei v G tg iter).map λsrc=>dR l n aq src gd t u)=U f):∃w,(w=O->rb tg=O)/\∃cs,BV X w tg iter cs/\∀e v,f e=U v->mP n aq cs gd t u e=U v:=by
 generalize hq:hvR G tg iter=q at h;cases q with
 |some q=>
  cases h;obtain⟨w,hw,cs,I,z⟩:=Ln g hq;exact⟨w,hw,cs,I,z _ _ _ _ _⟩
 |none=>
  refine aS h λsrc RH e=> ?_;cases e;obtain⟨w,hw,I⟩:=tG g k RH;exact⟨w,hw,_,O4 I,H5⟩
def Er(hr:∀G X,b8 G X->cO (r G) X)(g:b8 G X)(h:lcR r G elt tg iter ifs scope=U f):
  PE X (.ListComp elt [⟨tg,iter,ifs,0⟩] scope pos) f/\(∀{x i p' p},lR G x=U i->swapsWith (.ListComp elt [⟨tg,iter,ifs,0⟩] scope pos) (U (.Name x p')) p.line X.env=pure O->PS X (.Assign [.Name x p'] (.ListComp elt [⟨tg,iter,ifs,0⟩] scope pos) p) (au i f)):=by
 refine ar h λc h=> ?_;rw[Gac,Gac] at c;refine a6 h λgd hg h=>a6 h λt ht h=>a6 h λu hu h=> ?_;obtain⟨S,nd⟩:=wC g c.1.1;obtain⟨w,hw,cs,I,hf⟩:=Lo g (hr G X g) h;clear h;have B:Blk X scope (inG G scope _).N w tg elt ifs gd t u:=⟨λcl C s bad=>(tF (tH g c.1.1 cl C s bad) hg).1 w hw,λcl C s bad=>by
  have k:=hr _ _ (tH g c.1.1 cl C s bad);unfold tsR at ht;split at ht
  .cases ht;exact BS
  .exact BU (k.T _ _ ht)
  .exact(by cases ht),λcl C s bad=>(hr _ _ (tH g c.1.1 cl C s bad)).E _ _ hu⟩
 have no:=(tF (tH g c.1.1 [] 0 X.s₀ No) hg).2 _ c.2;exact⟨(H6 S I no B (mY c.1.2)).of hf,λhx hs=>by
  obtain⟨l1,l2,l3⟩:=km g hx;exact(H7 g.nd l1 l2 l3 S I no B hs (mY c.1.2)).of λe o z=>a6 z λr hr z=>by
   show(mP _ _ _ _ _ _ e).bind _=_;rw[hf e r hr];exact z⟩
def Lp(g:b8 G X)(k:cO v X)(h:clR v G x args=U f):PE X (.Call (.Name x p) args [] pos) f:=by
 unfold clR at h;split at h
 .rename_i ni np sp hf;refine ar h λc h=>a6 h λzp ha h=>(ar h λc2 h=> ?_);obtain⟨n,a⟩:=zp
  cases h;simp only[Gac,Gas,bne_iff_ne] at c2;obtain⟨rfl,n0⟩:=c2;obtain⟨e,t,rfl,h1,m,q,hq⟩:=AQ ha n0;obtain⟨kk,fa,fd,ps,F,hr,hm,hk,hb⟩:=g.fns x _ _ _ hf;obtain⟨g1,_,g3⟩:=JD g c;cases ni with
  |true=>exact Dp F hr g1 hm hk hb (lN k.E ha).1 g3 (aW h1) ((lN k.E hq).2.1 pos)
  |false=>exact GV F hr g1 hm hk hb (lN k.E ha).1 g3 (aW h1) ((lN k.E hq).2.1 pos)
 .refine ar h λc h' => ?_;have blt:∀{sx:Nat} {args:List Vi} {f:DE},((aR v.E args).bind λa=>(Eg sx x a.1).map λo=>g9 o a.2)=U f->PE X (.Call (.Name x p) args [] pos) f:=λ{sx args f} h=>by
   refine a6 h λzp ha h=> ?_;obtain⟨n,a⟩:=zp
   obtain⟨o,ho,rfl⟩:=Gab.mp h;obtain⟨e,t,rfl,h1,m,q,hq⟩:=AQ ha (λz=>by subst z;simp[Eg] at ho);exact HB g ho c (lN k.E ha).1 h1 ((lN k.E hq).2.1 pos)
  exact blt h'
def Oo(h:iC e=U i):∃a b,e= .Constant (.int i) a b:=by
 cases e<;>try exact nn h rfl
 rename_i c a b;cases c<;>first|exact nn h rfl|(cases h;exact⟨_,_,rfl⟩)
def Es(k:cO v X)(h:slO v e=U d):PO X e d:=by
 unfold slO at h;split at h
 .cases h;exact GL
 .obtain⟨u,hu,rfl⟩:=Gab.mp h;exact GN (k.E _ _ hu)
def JF{X:Cx}{ap cp:Pos}(h1:ns e=O)(h2:ns f=O)(hb:attributeBase o m X.env (eval o X.env)=eval o X.env)(hl:(ap.endLine==cp.line)=O):M2 X o m ap e f cp:=
 ⟨hb,by rw[aW h1,aW h2];rfl,hl,by rw[aW h1,aW h2];rfl⟩
def Et(g:b8 G X)(hE:∀e f,E e=U f->PE X e f)(h:hkR G E e=U f):PE X e f:=by
 unfold hkR at h;split at h
 .cases h
 .rename_i q;exact g.xE (by simp_all) E hE e f h
def Lq(g:b8 G X)(k:cO v X)(h:suR v a b=U f):PE X (.Subscript a b p) f:=by
 have ix:∀{b:Vi},ixR v a b=U f->PE X (.Subscript a b p) f:=λ{b} h=>by
  refine ar h λc h=>a6 h λ_ ha h=> ?_;obtain⟨_,hb,rfl⟩:=Gab.mp h;exact NT g.hu (k.E _ _ ha) (k.E _ _ hb) (Le c)
 cases b<;>try exact ix h
 case Slice lo hi st _=>
  refine ar h λc h=> ?_;cases st with
  |some _=>cases c
  |none=>
   refine a6 h λ_ ho h=>a6 h λ_ ha h=> ?_;obtain⟨_,hb,rfl⟩:=Gab.mp h;exact Di (k.E _ _ ho) (Es k ha) (Es k hb)
def Oq(h:kR c=U f):PE X (.Constant c k p) f:=by
 cases c<;>first|exact nn h rfl|(cases h;first|exact D4|exact NH|exact K3|exact K4)
def Lr{v:Ev}(k:cO v X)(h:(opO op).bind (λo=>(v.E a).bind λf=>(v.E b).map λg=>Ve o f g)=U f):PE X (.BinOp a op b p) f:=by
 refine a6 h λo ho h=> ?_;refine a6 h λ_ ha h=> ?_;obtain⟨_,hb,rfl⟩:=Gab.mp h;have ka:=k.E _ _ ha;have kb:=k.E _ _ hb;cases op<;>try exact nn ho rfl
 all_goals cases ho
 all_goals first|exact rm Kk ka kb|exact rm K5 ka kb|exact rm Kh ka kb|exact rm GF ka kb|exact rm K6 ka kb|exact rm Ki ka kb
def Ls(g:b8 G X)(k:cO v X)(h:caR v G (.Call fn args kw eG) args kw fn=U f):PE X (.Call fn args kw eG) f:=by
 cases fn<;>try exact nn h rfl
 case Attribute o m ap=>
  refine a6 h λzp hq h2=> ?_;obtain⟨o,m,as⟩:=zp
  clear h;obtain⟨ap,p,e,hl,ha⟩:=jh hq;cases e;have h3:g2R v o m args=U f:=h2;clear h2;unfold g2R at h3;split at h3
  .refine ar h3 λc h4=> ?_;simp only[Gac,Gas] at c;obtain⟨⟨rfl,c1⟩,c2⟩:=c;refine a6 h4 λ_ k1 h5=>a6 h5 λ_ k2 h6=> ?_;obtain⟨_,k3,rfl⟩:=Gab.mp h6;exact Hr g.hu (k.E _ _ k1) (k.E _ _ k2) (k.E _ _ k3) (JF c1 c2 (ql ha) hl)
  .cases h3
 case Name x p=>
  cases kw with
  |nil=>
   exact Lp g k h
  |cons kw Tv=>
   match args,Tv,h with
   |[a],[],h=>
    refine ar h λc h=>a6 h λi hi h=> ?_;obtain⟨u,hu,rfl⟩:=Gab.mp h;obtain⟨kn,kv,kp⟩:=kw;simp only[Gac,Gas] at c;obtain⟨⟨⟨rfl,rfl⟩,c3⟩,c4⟩:=c;obtain⟨b1,b2,_⟩:=uM g c3;obtain⟨_,_,rfl⟩:=Oo hi;exact Hp g.calm b1 b2 (k.E _ _ hu) D4 (aW c4)
   |[],_,h=>exact nn h rfl
   |_::_::_,_,h=>exact nn h rfl
   |[_],_::_,h=>exact nn h rfl
def Ou(hr:∀G X,b8 G X->cO (r G) X)(g:b8 G X)(h:eR r G e=U f):PE X e f:=by
 have k:=hr G X g;have vv:∀{e:Vi} {f:DE},(vV _ G e).map bE=U f->PE X e f:=λh=>by
  obtain⟨u,hu,rfl⟩:=Gab.mp h;exact(JE g k hu).pe
 cases e<;>try exact nn h rfl
 case Name x p=>
  obtain⟨i,hi,rfl⟩:=Gab.mp h;obtain⟨v1,v2,v3,v4⟩:=rO g hi;exact K2 i v1 v2 v3 v4
 case Constant c _ _=>exact Oq h
 case BinOp a op b p=>exact Lr k h
 case UnaryOp op a p=>
  cases op<;>try exact nn h rfl
  case USub=>
   obtain⟨u,hu,rfl⟩:=Gab.mp h;exact Kj (k.E _ _ hu)
  case Not=>exact vv h
 case Compare=>exact vv h
 case BoolOp=>exact vv h
 case IfExp c a b p=>
  refine a6 h λ_ ho h=>a6 h λ_ ha h=> ?_;obtain⟨_,hb,rfl⟩:=Gab.mp h;exact NS (k.T _ _ ho) (k.E _ _ ha) (k.E _ _ hb)
 case Tuple=>
  obtain⟨⟨n,a⟩,ha,rfl⟩:=Gab.mp h;exact Kf (lN k.E ha).1
 case List=>
  obtain⟨⟨n,a⟩,ha,rfl⟩:=Gab.mp h;exact De (lN k.E ha).1
 case Subscript a b p=>exact Lq g k h
 case ListComp elt gs scope p=>
  match gs,h with
  |[],h=>exact nn h rfl
  |_::_::_,h=>exact nn h rfl
  |[⟨tg,iter,ifs,n⟩],h=>
   refine ar h λc h=> ?_;cases(show n=0 from by simpa using c);exact(Er hr g h).1
 case Dict ks vs p=>
  refine ar h λc h=> ?_;cases h;rw[Gac,Gba,Gba] at c;obtain⟨rfl,rfl⟩:=c;exact AO
 case Attribute=>exact Et g (λe f h=>k.E e f h) h
 case Call fn args kw eG=>
  replace h:(match hkR G (r G).E _ with|some f=>U f|none=>caR _ G _ args kw fn)=U f:=h;cases qq:hkR G (r G).E _ with
  |some f' =>rw[qq] at h;cases h;exact Et g (λe f h=>k.E e f h) qq
  |none=>
  rw[qq] at h;exact Ls g k h
def Lu{apos eG:Pos}(g:b8 G X)(k:cO v X)(hl:(apos.endLine==eG.line)=O)(h:meR v G x m args=U f):PS X (.Expr (.Call (.Attribute (.Name x px) m apos) args [] eG) pos) f:=by
 refine a6 h λi hi h' => ?_;clear h;obtain⟨v1,v2,v3,v4⟩:=rO g hi;split at h'
 .refine ar h' λc h2=> ?_;clear h';split at h2
  .rename_i q;subst q
   obtain⟨u,hu,rfl⟩:=Gab.mp h2;exact(Dv Gcq PySem.F.slot_list_append PySem.F.type_list_append rG v1 v2 (fg (k.E _ _ hu) iQ (aW c)) v3 v4 (aW c) rfl (by rw[aW c];rfl) hl rfl rfl).of Ku
  .split at h2
   .rename_i q;subst q
    obtain⟨u,hu,rfl⟩:=Gab.mp h2;exact(Dv Gcq PySem.F.slot_list_extend PySem.F.type_list_extend BQ v1 v2 (fg (k.E _ _ hu) iQ (aW c)) v3 v4 (aW c) rfl (by rw[aW c];rfl) hl rfl rfl).of Kv
   .cases h2
 .refine ar h' λc h2=> ?_;clear h';rw[Gac] at c;split at h2
  .rename_i q;subst q
   refine a6 h2 λa ha h3=> ?_;obtain⟨u,hu,rfl⟩:=Gab.mp h3;exact(Dv Gcq PySem.F.slot_list_insert PySem.F.type_list_insert BR v1 v2 (fg (k.E _ _ ha) (fg (k.E _ _ hu) iQ (aW c.2)) (aW c.1)) v3 v4 (aW c.1) rfl (by rw[aW c.1,aW c.2];rfl) hl (by rw[aW c.2];rfl) rfl).of Kw
  .cases h2
 .cases h'
def Lv(hr:∀G X,b8 G X->cO (r G) X)(hl:∀G elt gs scope p f,(r G).E (.ListComp elt gs scope p)=U f->∃r',(∀G X,b8 G X->cO (r' G) X)/\lgR r' G elt scope gs=U f)(g:b8 G X)(hx:lR G x=U i)(h:asR r G x p e=U f):PS X (.Assign [.Name x p] e pos) (au i f):=by
 obtain⟨l1,l2,l3⟩:=km g hx;have oth:av _ _=U f->PS X (.Assign [.Name x p] e pos) _:=λh=>by
  exact ar h λc h' =>Dj g.nd l1 l2 l3 ((hr G X g).E _ _ h') (ko c)
 cases e<;>try exact oth h
 case ListComp elt gs scope lp=>
  clear oth;refine ar h λc h' => ?_;clear h;have E:=(hr G X g).E _ _ h';obtain⟨r',xJ,hq⟩:=hl _ _ _ _ _ _ h'
  match gs,hq with
  |[],hq=>exact nn hq rfl
  |_::_::_,hq=>exact nn hq rfl
  |[⟨tg,iter,ifs,n⟩],hq=>
   refine ar hq λc2 hq=> ?_;cases(show n=0 from by simpa using c2);have sw:swapsWith (.ListComp elt [⟨tg,iter,ifs,0⟩] scope lp) (U (.Name x p)) pos.line X.env=pure (swB G x p lp scope):=by
    unfold swB;rw[<-g.sw c x]
    rfl
   cases z:swB G x p lp scope with
   |true=>rw[z] at sw;exact(Er xJ g hq).2 hx sw
   |false=>rw[z] at sw;exact Dj g.nd l1 l2 l3 E sw
end
section
variable [Wd]
def Ov(hr:∀G X,b8 G X->cO (r G) X)(hl:∀G elt gs scope p f,(r G).E (.ListComp elt gs scope p)=U f->∃r',(∀G X,b8 G X->cO (r' G) X)/\lgR r' G elt scope gs=U f)(g:b8 G X)(h:sR r G s=U f):PS X s f:=by
 have k:=hr G X g;have ow:PassesOwn (model X.prog X.w) X.A X.env X.xe:=by rw[g.own];exact PassesOwn.never
 cases s<;>try exact nn h rfl
 case Assign ts e p=>
  match ts,h with
  |[],h=>exact nn h rfl
  |_::_::_,h=>exact nn h rfl
  |[t],h=>
   cases t<;>try exact nn h rfl
   case Name x p=>
    refine hde λG fin=>a6 h λi hi h=> ?_;obtain⟨u,hu,rfl⟩:=Gab.mp h;exact fin (Lv hr hl g hi hu)
   case Subscript o ix p=>
    refine hde λG fin=>a6 h λx hx h2=> ?_;clear h;obtain⟨px,rfl⟩:=cH hx;refine a6 h2 λi hi h=>ar h λc h=>a6 h λ_ hf h=> ?_;obtain⟨_,hg,rfl⟩:=Gab.mp h;obtain⟨v1,v2,v3,v4⟩:=rO g hi;exact fin (L6 v1 v2 (k.E _ _ hf) (k.E _ _ hg) v3 v4 (ko c) λI nc tp T hv hy e=>Hq g.hu I nc tp T hv hy e)
 case Return e p=>
  cases e with
  |none=>cases h;exact GS
  |some e=>
   obtain⟨u,hu,rfl⟩:=Gab.mp h;cases hn:G.ni with
   |true=>exact GR (g.ni hn) (k.E _ _ hu)
   |false=>exact Kl (k.E _ _ hu)
 case If=>
  refine hde λG fin=>a6 h λt ht h=>a6 h λa ha h=> ?_;obtain⟨u,hu,rfl⟩:=Gab.mp h;exact fin (NU (k.T _ _ ht) (k.B _ _ ha) (k.B _ _ hu))
 case For tg iter body els p=>
  refine hde λG fin=>ar h λc h2=> ?_;clear h;rw[Gac,Gba] at c;obtain⟨rfl,c⟩:=c;refine a6 h2 λt ht h=>a6 h λa ha h=> ?_;obtain⟨u,hu,rfl⟩:=Gab.mp h;obtain⟨w,hw,hi⟩:=tG g k ht;exact fin (Kn ow hi ((tF g ha).1 w hw) (k.B _ _ hu) (mY c))
 case While c body els p=>
  refine hde λG fin=>ar h λq h2=> ?_;clear h;rw[Gba] at q;subst q;refine a6 h2 λt ht h=> ?_;obtain⟨u,hu,rfl⟩:=Gab.mp h;refine fin ?_;exact Dy ow (k.T _ _ ht) (k.B _ _ hu)
 case Break=>cases h;exact Dk
 case Continue=>cases h;exact GQ
 case Pass=>cases h;exact GP
 case Expr e p=>
  cases e<;>try exact nn h rfl
  case Call fn args kw eG=>
   cases fn<;>try exact nn h rfl
   case Attribute o m apos=>
    cases o<;>try exact nn h rfl
    case Name x px=>
     refine ar h λc h2=> ?_;clear h;rw[Gac,Gba] at c;obtain⟨rfl,c⟩:=c;exact Lu g k c h2
theorem b8.wb{G:Gm}{X:Cx}(g:b8 G X)(hi:G.ins.isEmpty=O)(R:Vh->Prop):b8 G (X.wb R):=⟨g.N,g.nd,g.vis,g.loc,g.gl,g.cf,g.sw,g.calm,g.own,g.st,g.hu,g.fns,g.ni,g.no,λh=>by rw[hi] at h;cases h⟩
def Eu(h:asV s=U (t,d)):∃p,s= .Assign [t] d p:=by
 cases s<;>try exact nn h rfl
 rename_i ts _ _;rcases ts with _| ⟨s,_| ⟨_,_⟩⟩<;>first|exact nn h rfl|(cases h;exact⟨_,rfl⟩)
def Lw(h:foV s=U (t,i,b)):∃p,s= .For t i b [] p:=by
 cases s<;>try exact nn h rfl
 refine ar h λo h=> ?_;simp_all
def Lx(h:reV s=U e):∃p,s= .Return (U e) p:=by
 cases s<;>try exact nn h rfl
 cases(show _=U _ from h);exact⟨_,rfl⟩
def Ly(h:diE e=O):∃p,e= .Dict [] [] p:=by
 cases e<;>try exact Bool.noConfusion h
 rename_i ks vs p;have h:(_&&_)=O:=h;simp_all
def Lz(h:lsE e=O):∃p,e= .List [] p:=by
 cases e<;>try exact Bool.noConfusion h
 cases Gba.mp h;exact⟨_,rfl⟩
def LA{α:Type}{l:List Vi}{k:Vi->Vi->Option α}{y:α}(h:(match l with|[a,b]=>k a b|_=>J)=U y):∃a b,l=[a,b]/\k a b=U y:=by
 rcases l with _| ⟨a,_| ⟨b,_| ⟨_,_⟩⟩⟩<;>first|exact⟨_,_,rfl,h⟩|exact nn h rfl
def Ew{α:Type}{l:List Vi}{k:Vi->Option α}{y:α}(h:(match l with|[a]=>k a|_=>J)=U y):∃a,l=[a]/\k a=U y:=by
 rcases l with _| ⟨a,_| ⟨b,_⟩⟩<;>first|exact⟨_,rfl,h⟩|exact nn h rfl
def LB{X:Cx}(hv:∀R,cO v (X.wb R))(g:b8 G X)(hx:vR G x=U i)(h:sdR v x e=U f):PM X i (.Expr e p) f:=by
 refine a6 h λzp h1 h2=> ?_;obtain⟨o,m,as⟩:=zp;obtain⟨ap,cp,rfl,hl,ha⟩:=jh h1;clear h h1;refine ar h2 λc h3=> ?_;cases Gas.mp c;clear h2 c;obtain⟨b,e1,h3⟩:=Ew h3;cases e1;refine a6 h3 λzp h4 h5=> ?_;obtain⟨o2,m2,UN⟩:=zp;clear h3;obtain⟨UO,UM,rfl,zb,UH⟩:=jh h4;clear h4;refine a6 h5 λy hy h6=> ?_;clear h5;obtain⟨px,rfl⟩:=cH hy;clear hy;refine ar h6 λc h7=> ?_;clear h6;simp only[Gac,Gas] at c;obtain⟨⟨rfl,rfl⟩,c3⟩:=c;obtain⟨kx,l,e2,h7⟩:=LA h7;cases e2;refine ar h7 λc h8=> ?_;clear h7;rw[Gac] at c;obtain⟨c1,c2⟩:=c;obtain⟨pl,rfl⟩:=Lz c2;refine a6 h8 λ_ hg h9=>aS h9 λ_ hf ze=> ?_;cases ze;obtain⟨v1,v2,v3,v4⟩:=rO g hx;exact Lc g.hu v1 v2 (λR=>(hv R).E _ _ hg) (λR=>(hv R).E _ _ hf) v3 v4 (JF c1 rfl rfl zb) (aW c3) (ql ha) (by rw[aW c3];rfl) hl rfl
def LC{X:Cx}(hv:∀R,cO v (X.wb R))(g:b8 G X)(h:m1R v G i e ts=U f):PM X i (.Assign ts e p) f:=by
 obtain⟨t,e1,h1⟩:=Ew h;cases e1;refine a6 h1 λy hy h2=> ?_;clear h h1;obtain⟨px,rfl⟩:=cH hy;refine a6 h2 λj hj h=>ar h λc h=>aS h λu hu ze=> ?_;cases ze;rw[Gac,bne_iff_ne] at c;obtain⟨l1,l2,l3⟩:=km g hj;exact Lb c.1 g.nd l1 l2 l3 (λR=>(hv R).E _ _ hu) (ko c.2)
def Ex{X:Cx}{st:Vk}(hv:∀R,cO v (X.wb R))(g:b8 G X)(hx:vR G x=U i)(h:msR v G x i st=U f):PM X i st f:=by
 cases st<;>try exact nn h rfl
 case Assign ts e p=>exact LC hv g h
 case Expr e p=>exact LB hv g hx h
theorem Ey{X:Cx}(hv:∀R,cO v (X.wb R))(g:b8 G X)(hx:vR G x=U i):∀{b f},mbR v G x i b=U f->PMs X i b f
 |[],_,h=>nn h rfl
 |[s],_,h=>Hx (Ex hv g hx h)
 |s::t::rest,_,h=>by
  refine a6 h λa ha h=> ?_;obtain⟨u,hu,rfl⟩:=Gab.mp h;exact Ec (Ex hv g hx ha) (Ey hv g hx hu)
def LD{X:Cx}(hv:∀R,cO v (X.wb R))(g:b8 G X)(h:dnR v G a b c=U f):PSs X [a,b,c] f:=by
 refine a6 h λzp ha h1=> ?_;obtain⟨t,d⟩:=zp;obtain⟨pa,rfl⟩:=Eu ha;clear h ha;refine a6 h1 λx hx h2=> ?_;clear h1;obtain⟨px,e1⟩:=cH hx;cases(show t=_ from e1);clear hx;refine a6 h2 λi hi h3=> ?_;clear h2;refine a6 h3 λi' eV h4=> ?_;clear h3;refine a6 h4 λzp hb h5=> ?_;obtain⟨tg,it,body⟩:=zp;obtain⟨pb,rfl⟩:=Lw hb;clear h4 hb;refine a6 h5 λy hy h6=> ?_;clear h5;obtain⟨py,e2⟩:=cH hy;cases(show tg=_ from e2);clear hy;refine a6 h6 λj hj h7=> ?_;clear h6;refine a6 h7 λe he h8=> ?_;clear h7;obtain⟨pc,rfl⟩:=Lx he;clear he;refine a6 h8 λz hz h9=> ?_;clear h8;obtain⟨pz,rfl⟩:=cH hz;clear hz;refine ar h9 λcc zX=> ?_;clear h9;simp only[Gac,Gas,bne_iff_ne] at cc;obtain⟨⟨⟨⟨⟨c1,c2⟩,rfl⟩,rfl⟩,c5⟩,c6⟩:=cc;obtain⟨pd,e3⟩:=Ly c2;cases(show d=_ from e3);refine a6 zX λ_ hf Ui=>aS Ui λ_ hn ze=> ?_;cases ze;obtain⟨l1,l2,l3⟩:=km g hi;obtain⟨_,v2,v3,v4⟩:=rO g eV;obtain⟨k1,k2,k3⟩:=km g hj;exact Cb (g.ni c1) g.nd l1 l2 l3 v2 v3 v4 (Ld (by rw[g.own];exact PassesOwn.never) g.calm c5 g.nd k1 k2 k3 (λR=>(hv R).E _ _ hf) (Ey hv g eV hn) (mY c6)) rfl
def LF{X:Cx}(hv:∀R,cO v (X.wb R))(g:b8 G X)(h:d3R v G b=U f):PSs X b f:=by
 match b,h with
 |[],h=>exact nn h rfl
 |[_],h=>exact nn h rfl
 |[_,_],h=>exact nn h rfl
 |_::_::_::_::_,h=>exact nn h rfl
 |[a,b,c],h=>exact LD hv g h
theorem jk:∀n G X,b8 G X->cO (mf n G) X
 |0,G,X,g=>by constructor<;>(intro _ _ h;cases h)
 |n+1,G,X,g=>by
  have hr:=jk n;have k:=hr G X g;have hl:∀G elt gs scope p f,(mf n G).E (.ListComp elt gs scope p)=U f->∃r' :Rc,(∀G X,b8 G X->cO (r' G) X)/\lgR r' G elt scope gs=U f:=λG elt gs scope p f h=>by
   cases n with
   |zero=>cases h
   |succ n=>exact⟨mf n,jk n,h⟩
  refine⟨λe f h=>Ou hr g h,λe t h=>JE g k h,λe t h=>Oi g k h,λe t h=>Oj k h,λs f h=>Ov hr hl g h,λb f h=> ?_⟩;have h:bdR _ G b=U f:=h;unfold bdR at h;split at h
  .rename_i q;cases h;refine ar q λq1 q2=> ?_;exact LF (λR=>hr G _ (g.wb q1 R)) g q2
  unfold blR at h;split at h
  .cases h;exact GO
  .exact HA (k.S _ _ h)
  .refine a6 h λa ha h=> ?_;obtain⟨u,hu,rfl⟩:=Gab.mp h;exact uj (k.S _ _ ha) (k.B _ _ hu)
structure Fun(K:FrW)(x:Str)(st:Vk)(f:Vh)(fd:Vr):Prop where
 ex:∃(oc:Vf) (od:Option Vh) (kV doc pm:Vf) (an:Option Vh) (eS ct:Vf) (xY:Array (Option Vf)),
  fd=PySem.W.fnOf x x (gr st) (bD st) (af st) .none kV doc pm an eS ct/\K.lookup f=U ⟨oc,od,.func fd,xY⟩/\PySem.W.codeIn K eS x=O
 kp:PySem.W.keepIn K (.ref f)=O
section
variable{K:FrW}{mg:Str->Option Vf}{base:Vj}
def bU.mono(r:bU k A)(h:j<=k):bU j A:=⟨r.hd,by have:=r.dp;lia,by have:=r.un;lia⟩
structure En where
 ni:Bool:=M
 x:Str
 k:Nat
 np:Nat
 sp:SpF
def mZ(K:FrW)(mg:Str->Option Vf)(base:Vj)(e:En):Prop:=∃fa fd ps,nY K mg base e.ni e.k fa fd ps e.sp/\mg e.x=U (.ref fa)/\PySem.W.keepIn K (.ref fa)=O/\Binds K fd ps
def tJ(T:List En)(k:Nat)(x:Str):Option (Bool×Nat×(SpF)):=(T.find? λe=>e.x==x&&decide (e.k<=k)).map λe=>(e.ni,e.np,e.sp)
def AS(hT:∀e∈T,mZ K mg base e):∀x ni np sp,tJ T k x=U (ni,np,sp)->∃j fa fd ps,nY K mg base ni j fa fd ps sp/\j<=k/\mg x=U (.ref fa)/\PySem.W.keepIn K (.ref fa)=O/\Binds K fd ps:=λx ni np sp h=>by
 refine hde λG fin=> ?_;obtain⟨e,he,h⟩:=Gab.mp h;cases h;have h1:=GcF he;rw[Gac] at h1;obtain⟨fa,fd,ps,a1,a2,a3,a4⟩:=hT e (GbP he);have e1:=Gas.mp h1.1;subst e1;exact fin (⟨_,fa,fd,ps,a1,Gay h1.2,a2,a3,a4⟩)
def LH{N ps:List Str}(F:Fun K x sd fa fd)(S:bH N ps (af sd))(xN:ps.length=np)
  (hT:∀e∈T,mZ K mg base e)(hb:∀x∈bl,mg x=J)
  (hc:(mf 60 ⟨N,λx=>(af sd).names.lookup x,tJ T k,bl,O,sx,sy,ni,[],λ_ _=>J⟩).B (bD sd)=U b):nY K mg base ni (k+1) fa fd ps (bF N.length np b):=by
 refine hde λG fin=> ?_;obtain⟨oc,od,kV,doc,pm,an,eS,ct,xY,rfl,lk,eO⟩:=F.ex;refine fin (JC lk eO S xN λA outer B s hr=>(jk 60 _ _ ?_).B _ _ hc);exact{
  N:=rfl
  nd:=S.nd
  vis:=λx hx=>by
   have hx:rdK ((af sd).names.lookup x)=O:=hx
   match q:(af sd).names.lookup x with
   |some .local=>exact .inl q
   |some .free=>exact .inr (.inr q)
   |some .cell=>exact .inr (.inl q)
   |none=>rw[q] at hx;cases hx
   |some .globalExplicit=>rw[q] at hx;cases hx
   |some .globalImplicit=>rw[q] at hx;cases hx
  loc:=λx hx=>by
   refine⟨⟨(hde λG fin=> ?_),λ_ z=>nomatch z⟩,.inl rfl⟩;rw[Gac] at hx;have hx:=hx.1;simp only[GdZ,Gbd,Gas] at hx;exact fin hx
  gl:=λx hx=>hx
  cf:=λx hx=>hx
  sw:=λ_ y=>by
   have:(PySem.Env.blockKind (envOfC x (af sd) s.heap.objs.size fa eS)==ScopeKind.function)=O:=by
    show((if(af sd).kind.isAnnotationScope then _ else(af sd).kind)==_)=O;rw[S.kind]
    rfl
   exact(congrArg (· &&_) this).trans (GdZ _)
  calm:=rfl
  own:=rfl
  st:=λ_ b z=>by
   rcases z with z|z
   .exact Gaq.mpr (.inl z)
   .exact Gaq.mpr (.inr z)
  hu:=by have:=hr.un;show(A.deeper _).units+20<_;lia
  ni:=id
  fns:=λx ni np sp h=>by obtain⟨j,fa,fd,ps,a1,a2,a3⟩:=AS hT x ni np sp h;exact⟨j,fa,fd,ps,a1,hr.mono a2,a3⟩
  no:=hb
  xE:=λh=>nomatch h}
end
end
end NL
namespace NL
open PySem PySem.Spec PyProof.Rows
section
def Ez{α:Type}{m:Sem α}{Q:α->Vg->Prop}(e:s=s')(h:wpAny (model prog w) A m Q E s'):wpAny (model prog w) A m Q E s:=e▸h
variable{us:List Vf}{h:Vj}
def EA{prog:Vn}{w:World}{A:Vm}{os:OsState}{QI sub:List Vf}{mN:Str->Option Vf}{oI:Vo}{Q:VSP}(Fn:ExcBaseFacts Bn newId inN bmN)(SV:QI.contains (.type Bn)=O)(F:ExcBaseFacts B nid initId QI)(T:OwnTail h QI bm)
  (hC:h.get? C=U (excClassObj nm q C N bs bm hdct sn sub ab col dd k0 k1 k2 k3 k5 newId))(hn:h.Ns N mN)(hi:mN "__init__"=U (.ref fI))(U4:h.get? fI=U oI)(Sd:oI.cls= .type "function")
  (hq:∀h' e,Heap.MadeExcOf h h' e (.ref C) us->h.objs.size<e->wpAny (model prog w) (A.under (.builtin "type.__call__" ⟨.ref C::us,[]⟩)) (call (.ref fI) (.ref e::us)) (λr s' =>r= .none/\Q (.ref e) s') E ⟨h',g,d,t,os⟩)(hz:us.length<=sizeLine):
  wpAny (model prog w) A (call (.ref C) us) Q E ⟨h,g,d,t,os⟩:=by
 have f1:=tc_lookup;have f2:=tc_bind (.ref C);have tC:Shared.TypeIs ⟨h,g,d,t,os⟩ (.ref C) "type":=⟨_,hC,rfl⟩
 apply GcJ;apply codeAny_of_tree
 wp_walk using Gdl hC
 refine⟨rfl,codeAny_call_builtin_at (Code.quiet_builtin _ (by decide+kernel)) entry_typeCall (wpAny_check_type_call_sub hC ?_)⟩
 wp_walk using Gdl hC,wpAny_madeBy_exc hC
 refine codeAny_call_builtin_code (Code.quiet_builtin _ Fn.quiet) (wpAny_check_new_subU Fn SV T hC (codeAny_exc_new_subU Fn SV F T hC ?_ hz));have old:∀b o,h.get? b=U o->((h.push {cls:= .type "tuple",data:= .seq us.toArray}).push {cls:= .ref C,data:= .fields #[.ref h.objs.size,.none,.none,.none,.bool M,.none]}).get? b=U o:=λb o e=>Gag _ (Gag _ e);have eE:((h.push {cls:= .type "tuple",data:= .seq us.toArray}).push {cls:= .ref C,data:= .fields #[.ref h.objs.size,.none,.none,.none,.bool M,.none]}).get? (h.objs.size+1)=U {cls:= .ref C,data:= .fields #[.ref h.objs.size,.none,.none,.none,.bool M,.none]}:=by heap_get
 have eT:((h.push {cls:= .type "tuple",data:= .seq us.toArray}).push {cls:= .ref C,data:= .fields #[.ref h.objs.size,.none,.none,.none,.bool M,.none]}).get? h.objs.size=U {cls:= .type "tuple",data:= .seq us.toArray}:=Gag _ (Gat _ rfl);have mE:Heap.MadeExcOf h ((h.push {cls:= .type "tuple",data:= .seq us.toArray}).push {cls:= .ref C,data:= .fields #[.ref h.objs.size,.none,.none,.none,.bool M,.none]}) (h.objs.size+1) (.ref C) us:=⟨old,Gbc (Gdz _),h.objs.size,eE,Gbc (GaN _),eT⟩
 have run:=hq _ _ mE (Nat.lt_succ_self _);have T1:=T.keeps old;have eC:=old _ _ hC;have nN:Heap.Ns _ N mN:=let⟨o,es,ep,e,r⟩:=hn;⟨o,es,ep,old _ _ e,r⟩
 have eI:=old _ _ U4;refine Ez (s' :=⟨(h.push {cls:= .type "tuple",data:= .seq us.toArray}).push {cls:= .ref C,data:= .fields #[.ref h.objs.size,.none,.none,.none,.bool M,.none]},g,d,t,os⟩) rfl ?_;generalize (h.push {cls:= .type "tuple",data:= .seq us.toArray}).push {cls:= .ref C,data:= .fields #[.ref h.objs.size,.none,.none,.none,.bool M,.none]}=h1 at*;have tI:Shared.TypeIs ⟨h1,g,d,t,os⟩ (.ref fI) "function":=⟨_,eI,Sd⟩
 have inC:(Value.ref C::bm).contains (.ref C)=O:=by simp
 have sC:∀{P:Bool->Vg->Prop} {E' :VSP},P O ⟨h1,g,d,t,os⟩->wpAny (model prog w) (A.under (.builtin "type.__call__" ⟨.ref C::us,[]⟩)) (isSubtype (.ref C) (.ref C)) P E' ⟨h1,g,d,t,os⟩:=λq=>wpAny_isSubtype_exc eC (by rw[inC];exact q);have lI:∀{P:Option Vf->Vg->Prop} {E' :VSP},P (U (.ref fI)) ⟨h1,g,d,t,os⟩->wpAny (model prog w) (A.under (.builtin "type.__call__" ⟨.ref C::us,[]⟩)) (typeLookup (.ref C) (Str.ofString "__init__")) P E' ⟨h1,g,d,t,os⟩:=λq=>wpAny_typeLookup_tail eC nN T1 F.mroIs F.init.lookup (by rw[hi];exact q);refine Gad (Gad (Gad (Gdl eE (Gao (sC ?_)))))
 wp_walk using Gdl eE
 refine lI (GbB (Gad (Gad (wpAny_typeOf tI (GcN (by decide) (Gao (Gad (on run ?_))))))));rintro _ s' ⟨rfl,q⟩
 wp_walk
 exact q
def EB{prog:Vn}{w:World}{os:OsState}{sub:List Vf}{e:Vh}{Q:VSP}(F:ExcBaseFacts B nid initId QI)(T:OwnTail h QI bm)
  (hC:h.get? C=U (excClassObj nm q C N bs bm hdct sn sub ab col dd k0 k1 k2 k3 k5 newId))(he:h.get? e=U {cls:= .ref C,dict:=dx,data:= .fields #[.ref t0,x1,x2,x3,x4,x5],slots:=sl})
  (hq:∀h',h'.get? e=U {cls:= .ref C,dict:=dx,data:= .fields #[.ref h.objs.size,x1,x2,x3,x4,x5],slots:=sl}->h'.get? h.objs.size=U {cls:= .type "tuple",data:= .seq us.toArray}->(∀b o,b≠e->h.get? b=U o->h'.get? b=U o)->Q .none ⟨h',g,d,t,os⟩)(hz:us.length<=sizeLine):
  wpAny (model prog w) A (call (.builtin initId) (.ref e::us)) Q E ⟨h,g,d,t,os⟩:=by
 apply GcJ;apply Gdu F.init.plain F.initEntry;apply wpAny_check_init_subU F T hC he rfl
 wp_walk
 .refine hq _ ((Gcb (Obj.mapFields λx=>x.setIfInBounds 0 (.ref h.objs.size)) (Gag {cls:= .type "tuple",data:= .seq us.toArray} he) rfl).trans rfl) ?_ λb o n k=> ?_
  .rw[GbL _ _ (Gbg (Ger (Gbj he)))];exact Gat _ rfl
  .rw[GbL _ _ (Gbg n)];exact Gag _ k
end
def FX(h:Vj)(a:Vh)(cls:Vf)(dx:Option Vh)(vs:Array Vf):Prop:=∃sl,h.get? a=U {cls:=cls,dict:=dx,data:= .fields vs,slots:=sl}
section
variable{h:Vj}
def FX.at{h' :Vj}(x:FX h a cls dx vs)(k:∀o,h.get? a=U o->h'.get? a=U o):FX h' a cls dx vs:=by obtain⟨sl,q⟩:=x;exact⟨sl,k _ q⟩
def FX.lt(x:FX h a cls dx vs):a<h.objs.size:=let⟨_,q⟩:=x;Gbj q
def qn{z:Vg}(f:FX z.heap a cls dx vs)(e:vs[i]? =U x)(h:Q x z):wpAny (model prog w) A (field (.ref a) i) Q E z:=by obtain⟨_,q⟩:=f;exact wpAny_field q rfl e h
def tK{z:Vg}{vs:Array Vf}(f:FX z.heap a cls dx vs)(h:∀h',FX h' a cls dx (vs.setIfInBounds k x)->Heap.SameBut a z.heap h' ->Q () {z with heap:=h' })(hk:k<vs.size):wpAny (model prog w) A (setField (.ref a) k x) Q E z:=by
 obtain⟨sl,q⟩:=f;exact wpAny_setField q rfl hk (h _ ⟨sl,Gcb _ q rfl⟩ (GcS ..))
def Trc(h:Vj)(e:Vh)(tb:Vf):Prop:=tb= .none\/∃T cls dx ts,tb= .ref T/\T≠e/\FX h T cls dx ts/\ts[3]? =U .none
def EC{A:Vm}{z:Vg}{env:PySem.Env}(ya:A.frames=U (env::outer))(hl:z.heap.FunFrames base (env::outer))(hf:env.frame=U L)
  (f:FX z.heap e cls dx #[a0,tb,x2,x3,x4,x5])(ht:Trc z.heap e tb)
  (hQ:∀h' T ts,FX h' e cls dx #[a0,.ref T,x2,x3,x4,x5]->T≠e->z.heap.objs.size<=T->FX h' T (.type "traceback") J ts->ts[3]? =U .none->
   (∀b o,b≠e->tb≠ .ref b->z.heap.get? b=U o->∃sl,h'.get? b=U {o with slots:=sl})->(∀b o,b≠e->tb≠ .ref b->b∉(env::outer).filterMap (·.frame)->z.heap.get? b=U o->h'.get? b=U o)->Q () {z with heap:=h' }):
  wpAny (model prog w) A (noteFrame (.ref e) env) (λ_ s' =>wpAny (model prog w) A (setFlight (.ref e) J) Q E s') E z:=by
 have ne:e∉(env::outer).filterMap _:=λm=>by
  obtain⟨_,o,ho,no⟩:=hl.mem m;obtain⟨sl,q⟩:=f;rw[q] at ho;cases ho;exact no _ rfl
 have make:∀(y) (P),y.heap.FunFrames base (env::outer)->FX y.heap e cls dx #[a0,tb,x2,x3,x4,x5]->(∀h' T ts,FX h' e cls dx #[a0,.ref T,x2,x3,x4,x5]->T≠e->y.heap.objs.size<=T->FX h' T (.type "traceback") J ts->3<ts.size->
   (∀b o,b≠e->y.heap.get? b=U o->∃sl,h'.get? b=U {o with slots:=sl})->(∀b o,b≠e->b∉(env::outer).filterMap (·.frame)->y.heap.get? b=U o->h'.get? b=U o)->P () {y with heap:=h' })->∀(hd:Vf) (n:Bool) E',
   wpAny (model prog w) A (do let a<-frameOf env;let pl<-entryPlaceOf L n;let b<-EntryCells.newEntry hd a .none (rawInt L) .none pl;setField (.ref e) 1 b) P E' y:=by
  intro y P hl f hP hd n E';refine Gad (wpAny_frameOf_fun ya hl hf λh1 s1=>Gad (wpAny_entryPlaceOf λpl xg=>Gad (GbN ?_ (xg.sizeOk5 _ _ _ _ _))));have e1:FX h1 e cls dx #[a0,tb,x2,x3,x4,x5]:=by obtain⟨sl,q⟩:=f;exact⟨sl,(s1.2.1 e ne).trans q⟩
  have nT:h1.objs.size≠e:=Ger e1.lt;refine tK (z:={y with heap:=h1.push _}) (e1.at λo=>Gag _) (λh' fx sb=>hP h' h1.objs.size _ fx nT (Nat.le_of_eq s1.1.symm) ⟨_,(sb.2 _ nT).trans (Gat _ rfl)⟩ ?_ (λb o n q=> ?_) λb o n m q=> ?_) (by simp)
  .simp only[Gcn,GaF,GaC,GcY];lia
  .obtain⟨sl,q⟩:=s1.2.2 b o q;exact⟨sl,(sb.2 b n).trans (Gag _ q)⟩
  .exact(sb.2 b n).trans (Gag _ ((s1.2.1 b m).trans q))
 have land:∀(h1:Vj) (T:Vh) (ts:Array Vf) {P:Unit->Vg->Prop} {E'},FX h1 e cls dx #[a0,.ref T,x2,x3,x4,x5]->T≠e->FX h1 T (.type "traceback") J ts->3<ts.size->(∀h' zm,FX h' e cls dx #[a0,.ref T,x2,x3,x4,x5]->FX h' T (.type "traceback") J zm ->zm[3]? =U .none->(∀b o,b≠T->h1.get? b=U o->h'.get? b=U o)->P () {z with heap:=h' })->
   wpAny (model prog w) A (setFlight (.ref e) J) P E' {z with heap:=h1}:=by
  intro h1 T ts P E' fe n ft sz hP;refine Gad (qn (z:={z with heap:=h1}) (i:=1) (x:= .ref T) fe rfl (GcN (by simp) (tK (z:={z with heap:=h1}) ft (λh' zY sb=>hP h' _ (fe.at λo=>(sb.2 e (Gbg n)).trans) zY ?_ λb o n q=>(sb.2 b n).trans q) sz)));simp[sz]
 simp only[noteFrame,hf];rcases ht with rfl| ⟨T0,c0,d0,t0,rfl,n0,f0,q0⟩
 .refine Gad (qn (i:=1) (x:= .none) f rfl (GcD rfl (make z _ hl f (λh1 T ts fe n le ft sz k1 k2=>land h1 T ts fe n ft sz λh' zm Sn zY q k=>hQ h' T zm Sn n le zY q (λb o nb _ e=> ?_) λb o nb _ nf e=> ?_) _ _ _)))
  .obtain⟨sl,e1⟩:=k1 b o nb e;exact⟨sl,k b _ (Gbi (Gcz (Gbj e) le)) e1⟩
  .exact k b o (Gbi (Gcz (Gbj e) le)) (k2 b o nb nf e)
 .refine Gad (qn (i:=1) (x:= .ref T0) f rfl (GcN (by simp) (Gad (qn (i:=3) f0 q0 (GcD (by simp[rawInt]) (Gad (tK f0 (λh0 UL sb=> ?_) ((GcH.mp q0).1))))))));have old:∀b o,b≠T0->z.heap.get? b=U o->h0.get? b=U o:=λb o n e=>(sb.2 b n).trans e;refine make {z with heap:=h0} _ (hl.of_keeps λb o e no=> ⟨o,old b o (λq=>by obtain⟨sl,q1⟩:=f0;rw[q,q1] at e;cases e;exact no _ rfl) e,rfl⟩) (f.at λo=>old e o (Gbg n0)) (λh1 T ts fe n le ft sz k1 k2=>land h1 T ts fe n ft sz λh' zm Sn zY q k=>hQ h' T zm Sn n (sb.1▸le) zY q (λb o nb nt e=> ?_) λb o nb nt nf e=> ?_) _ _ _
  .have nT:b≠T0:=λq=>nt (by rw[q]);obtain⟨sl,e1⟩:=k1 b o nb (old b o nT e);exact⟨sl,k b _ (Gbi (Gcz (Gbj (old b o nT e)) le)) e1⟩
  .have nT:b≠T0:=λq=>nt (by rw[q]);exact k b o (Gbi (Gcz (Gbj (old b o nT e)) le)) (k2 b o nb nf (old b o nT e))
def Cd(h:wpAny (model prog w) A (noteFrame (.ref e) env) (λ_ s' =>wpAny (model prog w) A (setFlight (.ref e) J) Q E s') E z):wpAny (model prog w) A (leaving env (.ref e)) Q E z:=Gad h
end
open PySem.W (findIn clsIn mroIn looks_findIn looks_clsIn looks_mroIn InstAt set_plain check_slot osa_eq Looks handedIn handedOut_of keepIn readsIn findCls specialIn cls_value method_cls nsIn nsOkIn tailIn tail_of_in isNs_of_in takesIn findObj_data findObj class_get handed_on KitX kitOne looks_find)
def lk{z:Vg}{α:Type}{t:Sem α}{r:α}{Q:α->Vg->Prop}(x:Looks (model prog w) z.heap t r)(q:Q r {z with toks:=n}):wpAny (model prog w) A t Q E {z with toks:=n}:=x _ _ _ _ (λ_ _ e=>e) q
def Ce{h:Vj}(n:h.Ns1 a λy=>if y=name then U v else J):∃o,h.get? a=U o/\o.data.pastItsLine=J:=by
 have one:Within (λy=>if y=name then U v else J) [name]:=λy e=>by
  simp_all
 obtain⟨o,es,ep,q,d,le⟩:=n.count one;have le:_<=1:=le;exact⟨o,q,d▸pastItsLine_dict (by exact Gak ‹_› (by simp))⟩
def uO{z:Vg}{K:FrW}{cd:ClassData}(X:K.In z.heap)(hs:findIn K (.ref C) "__setattr__"=U (U (.builtin "object.__setattr__")))(ho:mroIn K C (.type "object")=U O)
  (hc:clsIn K C=U cd)(hm:cd.mro=[.ref C,.ref H,.type "ValueError",.type "Exception",.type "BaseException",.type "object"])(hd:cd.hasDict=O)(hn:findIn K (.ref C) name=U J)(f:FX z.heap e (.ref C) J vs)
  (hQ:∀h' yH,FX h' e (.ref C) (U z.heap.objs.size) vs->h'.Ns1 z.heap.objs.size (λy=>if y=name then U v else J)->(∀b o,b≠e->z.heap.get? b=U o->h'.get? b=U o)->Q () {z with heap:=h',toks:=yH }):
  wpAny (model prog w) A (setAttr (.ref e) name v) Q E z:=by
 have SF:=PySem.F.store_ValueError;obtain⟨sl,q⟩:=f;have I:InstAt z.heap e {cls:= .ref C,dict:=J,data:= .fields vs,slots:=sl} C J:=⟨q,rfl,rfl,trivial⟩
 have ne:e≠z.heap.objs.size:=Gbi (Gbj q);apply set_plain X I hs;apply Gdu SF.slot.plain SF.entry;apply @check_slot (model prog w) _ _ {z with toks:=z.toks+1} "object.__setattr__" "object" "__setattr__" (.ref e) [.str name z.toks,v] [] _ SF.kind SF.split (I.type.andThen (looks_mroIn X ho)) (SF.args (.ref e) (.str name z.toks) v);rw[osa_eq,refuse_eq];refine Gad (Gad (lk I.type (Gad (lk ((looks_clsIn X hc).andThen .now) ?_))));rw[hm,refuseLoop_ref,refuseLoop_ref,SF.passes];refine Gao (Gad (lk I.type (Gad (lk (GdG X hn) (Gad (Gao ?_))))));have nm:(Value.ref C==Value.type "module")=M:=rfl;have qd:((z.heap.push {cls:= .type "dict",data:= .dict #[]}).update e λo=>{cls:=o.cls,dict:=U z.heap.objs.size,data:=o.data,slots:=o.slots}).get? z.heap.objs.size=U {cls:= .type "dict",data:= .dict #[]}:=(GbL _ _ ne).trans (Gat _ rfl);have n1:=Heap.Ns1.of_empty (h:=(z.heap.push {cls:= .type "dict",data:= .dict #[]}).update e λo=>{cls:=o.cls,dict:=U z.heap.objs.size,data:=o.data,slots:=o.slots}) (a:=z.heap.objs.size) ⟨_,#[],0,qd,rfl,λe he=>absurd he (by simp),λ_=>rfl⟩
 wp_walk using lk (looks_clsIn (M:=model prog w) X hc),wpAny_nsSet1 (s:=⟨_,z.gens,z.drawn,z.toks+1,z.os⟩) n1
 intro h' n2 sb;obtain⟨oD,q2,small⟩:=Ce n2;refine Gad (wpAny_lookBehind q2 small (Gao (hQ h' _ ⟨sl, ?_⟩ ?_ λb o nb k=> ?_)))
 .exact(sb.2 e ne).trans (Gcb _ (Gag _ q) rfl)
 .exact n2
 .exact(sb.2 b (Gbi (Gbj k))).trans ((GbL _ _ (Gbg nb)).trans (Gag _ k))
def ED{z:Vg}{K:FrW}{cd:ClassData}(X:K.In z.heap)(hg:findIn K (.ref C) "__getattribute__"=U (U (.builtin "BaseException.__getattribute__")))(hh:findIn K (.ref C) "__getattr__"=U J)
  (hb:mroIn K C (.type "BaseException")=U O)(hc:clsIn K C=U cd)(hd:cd.hasDict=O)(hn:findIn K (.ref C) name=U J)(f:FX z.heap e (.ref C) (U dx) vs)(n:z.heap.Ns1 dx m)(hm:m name=U v)(hv:handedIn v=O)(hQ:Q v {z with toks:=z.toks+1}):
  wpAny (model prog w) A (getAttr (.ref e) name expr) Q E z:=by
 obtain⟨sl,q⟩:=f;have tE:Looks (model prog w) z.heap (typeOf (.ref e)) (.ref C):=(Looks.ld q).andThen .now;have ln:=GdG (M:=model prog w) X hn;have lc:=looks_clsIn (M:=model prog w) X hc;have no:(Value.builtin "BaseException.__getattribute__"==Value.builtin "object.__getattribute__")=M:=by decide+kernel
 refine Gad (wpAny_mkText (GbB (Gad (lk tE (Gad (lk (GdG (M:=model prog w) X hg) ?_))))));dsimp only;rw[no,Gez];refine GcD rfl (Gad (GcN rfl (lk (GdG (M:=model prog w) X hh) (Gad (wpAny_attempt (GbB ?_))))));have G:=PySem.F.attrBase_ValueError.ga;have bd:=G.bind (.ref e);have nh:(expr&&onTheHeap (Value.builtin "BaseException.__getattribute__"))=M:=by cases expr<;>rfl
 refine GcD (by rw[nh];rfl) (Gad (GdA bd (GcJ (Gdu G.plain PySem.F.entry_bexc_ga (@check_slot (model prog w) _ _ {z with toks:=z.toks+1} "BaseException.__getattribute__" "BaseException" "__getattribute__" (.ref e) [.str name z.toks] [] _ (by decide+kernel) (by decide+kernel) (tE.andThen (looks_mroIn X hb)) (PySem.F.args_bexc_ga _ _) ?_)))))
 wp_walk using lk tE,lk ln,lk lc,wpAny_nsGet (s:=⟨z.heap,z.gens,z.drawn,z.toks+1,z.os⟩) n.ns
 rw[hm]
 wp_walk
 show wpAny _ _ (handedOut v) _ _ _;rw[handedOut_of hv];exact Gao hQ
abbrev bmV:List Vf:=[.type "ValueError",.type "Exception",.type "BaseException",.type "object"]
inductive Ow (h:Vj) (B C f:Vh):Prop
 |mk (nm q N bs hd sn sub ab col dd k0 k1 k2 k3 k5 mN oI:_) (_:h.get? C=U (excClassObj nm q C N bs (.ref B::bmV) hd sn sub ab col dd k0 k1 k2 k3 k5 "ValueError.__new__")) (_:OwnTail h bmV (.ref B::bmV)) (_:h.Ns N mN) (_:mN "__init__"=U (.ref f)) (_:h.get? f=U oI) (_:oI.cls= .type "function"):Ow h B C f
structure XCl(K:FrW)(B C f:Vh)(n:Str):Prop where
 obj:∀h,K.In h->Ow h B C f
 st:findIn K (.ref C) "__setattr__"=U (U (.builtin "object.__setattr__"))
 ob:mroIn K C (.type "object")=U O
 cd:∃cd,clsIn K C=U cd/\cd.mro= .ref C:: .ref B::bmV/\cd.hasDict=O
 nf:findIn K (.ref C) n=U J
 ga:findIn K (.ref C) "__getattribute__"=U (U (.builtin "BaseException.__getattribute__"))
 gt:findIn K (.ref C) "__getattr__"=U J
 be:mroIn K C (.type "BaseException")=U O
 kp:keepIn K (.ref C)=O
structure XBs(K:FrW)(B:Vh):Prop where
 rd:readsIn K B (.type "type")=O
 fc:findCls K (.ref B) (.type "type") "__init__"=U (.val (.builtin "ValueError.__init__"))
 sp:specialIn K (.ref B) "__getattribute__"=U (U (.builtin "type.__getattribute__"))
structure XIs(K:FrW)(C:Vh):Prop where
 ga:findIn K (.ref C) "__getattribute__"=U (U (.builtin "BaseException.__getattribute__"))
 gt:findIn K (.ref C) "__getattr__"=U J
 be:mroIn K C (.type "BaseException")=U O
 ob:mroIn K C (.type "object")=U O
 cd:(clsIn K C).isSome=O
 c1:findIn K (.ref C) "__class__"=U (U (.builtin "object.__class__"))
 c2:specialIn K (.builtin "object.__class__") "__get__"=U (U (.builtin "getset_descriptor.__get__"))
 c3:takesIn K (.builtin "object.__class__")=U O
def Cf{z:Vg}{K:FrW}(X:K.In z.heap)(I:InstAt z.heap e ox C (U od))(x:XIs K C)(hQ:Q (U (.ref C)) {z with toks:=z.toks+1}):wpAny (model prog w) A (getAttr? (.ref e) "__class__") Q E z:=by
 have tE:=I.type (M:=model prog w);refine Gad (wpAny_mkText (Gad (wpAny_attempt (GbB (Gad (lk tE (Gad (lk (GdG (M:=model prog w) X x.ga) (GcD rfl (Gad (GcN rfl (lk (GdG (M:=model prog w) X x.gt) (Gad (wpAny_attempt (GbB ?_)))))))))))))));have G:=PySem.F.attrBase_ValueError.ga;exact GcD rfl (Gad (GdA (G.bind _) (GcJ (Gdu G.plain PySem.F.entry_bexc_ga (@check_slot (model prog w) _ _ {z with toks:=z.toks+1} "BaseException.__getattribute__" "BaseException" "__getattribute__" (.ref e) [.str "__class__" z.toks] [] _ (by decide+kernel) (by decide+kernel) (tE.andThen (looks_mroIn X x.be)) (PySem.F.args_bexc_ga _ _) (Gad (Gao (Gad (Gao (Gad (lk tE (Gad (lk (looks_find (M:=model prog w) X I (findObj_data x.cd x.c1 x.c2 x.c3)) (Gad (GbB (GcJ (class_get X I x.ob (Gao (handed_on rfl (Gao hQ))))))))))))))))))))
def AU{K:FrW}(h:(clsIn K C).isSome=O):∃c d cd sl,K.lookup C=U ⟨c,d,.cls cd,sl⟩:=by
 unfold clsIn at h;split at h
 .exact⟨_,_,_,_,by assumption⟩
 .cases h
theorem uP{K:FrW}{e:Vh}(x:XIs K C):KitX K (.ref e) (.ref C) (λh=>InstAt h e ox C (U od)) where
 ty:=λ_ _ _ I=>I.type
 it:=λ_ _ X _ _ _ _ _ k q=>by obtain⟨_,_,_,_,l⟩:=AU x.cd;exact Gad (wpAny_loadPart (k _ _ (X _ _ l)) (Gao q))
 ne:=λ_ _ _ _ _ _ X at_=>GeG.mpr λq=>by
  obtain⟨_,_,_,_,l⟩:=AU x.cd;cases Gas.mp q;cases(X _ _ l).symm.trans at_
 ca:=λX I k=>Cf X I x k
def HC{K:FrW}{h:Vj}(X:K.In h)(G:h.Ns N mN)(e:nsIn K N n=U (U v)):mN n=U v:=by
 obtain⟨o,es,ep,at_,hd,_,names⟩:=G;cases l:K.lookup N with
 |none=>simp[nsIn,l] at e
 |some o' =>
  obtain rfl:o' =o:=Option.some.inj ((X _ _ l).symm.trans at_);obtain⟨c,d,dt,sl⟩:=o';obtain rfl:dt= .dict es ep:=hd;simp only[nsIn,l] at e;refine(names n).symm.trans ?_;show(es.find? _).map _=_;rw[<-Array.find?_toList];cases q:es.toList.find? _ with
  |some x=>rw[q] at e;exact Option.some.inj e
  |none=>rw[q] at e;dsimp only at e;split at e<;>cases e
def wD{K:FrW}{oI:Vo}
  (l:K.lookup C=U (excClassObj nm q C N bs (.ref B::bmV) O sn sub ab col dd k0 k1 k2 k3 k5 "ValueError.__new__"))(t:tailIn K bmV (.ref B::bmV)=O)(ok:nsOkIn K N=O)(i:nsIn K N "__init__"=U (U (.ref f)))(lf:K.lookup f=U oI)(fc:oI.cls= .type "function")
  (st:findIn K (.ref C) "__setattr__"=U (U (.builtin "object.__setattr__")))(nf:findIn K (.ref C) n=U J)(ga:findIn K (.ref C) "__getattribute__"=U (U (.builtin "BaseException.__getattribute__")))(gt:findIn K (.ref C) "__getattr__"=U J)(kp:keepIn K (.ref C)=O):XCl K B C f n:=by
 have hc:clsIn K C=U {name:=nm,bases:=bs,mro:= .ref C:: .ref B::bmV,ns:=N,qualname:=q,hasDict:=O,slotNames:=sn,subclasses:=sub,abstract:=ab,collection:=col,hasDel:=M}:=by
  unfold clsIn;rw[l]
 have inC:∀T:String,bmV.contains _=O->mroIn K C (.type T)=U O:=λT h=>by
  unfold mroIn;rw[hc];exact congrArg U (by rw[List.contains_cons,List.contains_cons,h,Bool.or_true,Bool.or_true])
 refine⟨λh X=> ?_,st,inC "object" rfl,⟨_,hc,rfl,rfl⟩,nf,ga,gt,inC "BaseException" rfl,kp⟩;have G:h.Ns N _:= .of_isNs (isNs_of_in X ok);exact⟨_,_,N,_,_,_,_,_,_,_,_,_,_,_,_,_,oI,X _ _ l,tail_of_in X t,G,HC X G i,X _ _ lf,fc⟩
def wF{K:FrW}(c:XCl K B C fI n)(c1:findIn K (.ref C) "__class__"=U (U (.builtin "object.__class__")))(c2:specialIn K (.builtin "object.__class__") "__get__"=U (U (.builtin "getset_descriptor.__get__")))(c3:takesIn K (.builtin "object.__class__")=U O):XIs K C:=
 ⟨c.ga,c.gt,c.be,c.ob,by obtain⟨_,h,_⟩:=c.cd;rw[h];rfl,c1,c2,c3⟩
open PySem.W (findIn hasDictIn plainGet plainOver plainGet_of takerIn InstAt instObj emptyDict lookIn isFn handedIn makesIn InitBack)
structure kq(K:FrW)(C:Vh):Prop where
 pg:plainGet K C Str.empty=O
 hd:hasDictIn K C=O
 po:plainOver K C=O
 sa:findIn K (.ref C) "__setattr__"=U (U (.builtin "object.__setattr__"))
section
variable{h:Vj}
def HE(n:h.Ns1 dx mA):∃od,h.get? dx=U od/\∀y,lookIn y od=U (mA y):=by
 obtain⟨⟨c,d,dt,sl⟩,es,ep,g,rfl,hk,_,hm⟩:=n;refine⟨_,g,λy=> ?_⟩;have e:(es.toList.find? (·.key.isStr y)).map (·.val)=mA y:=by rw[<-hm y,Array.find?_toList];rfl
 show(match es.toList.find? _ with|some e=>U _|none=>if es.toList.any _=O then J else U J)=_;rw[<-e,(GeK.mpr λz hz=>by obtain⟨a,t,k⟩:=hk z (Geq.mp hz);simp[DictEntry.refKey,k])];cases es.toList.find? _<;>rfl
def wG(g:h.get? x=U (instObj C dx))(n:h.Ns1 dx mA):∃od,InstAt h x (instObj C dx) C (U od)/\∀y,lookIn y od=U (mA y):=by obtain⟨od,e,l⟩:=HE n;exact⟨od,⟨g,rfl,rfl,e⟩,l⟩
variable{s:Vg}
def HF{K:FrW}(X:K.In s.heap)(c:kq K C)(no:findIn K (.ref C) y=U J)(g:s.heap.get? x=U (instObj C dx))(n:s.heap.Ns1 dx mA)(e:mA y=U v)(hv:handedIn v=O)(q:Q v {s with toks:=s.toks+1}):wpAny (model prog w) A (getAttr (.ref x) y b) Q E s:=
 let⟨_,UR,l⟩:=wG g n
 PySem.W.get_value X UR (plainGet_of c.pg).1 (PySem.W.findObj_own c.hd no rfl (by rw[l,e])) hv q
def EE{K:FrW}(X:K.In s.heap)(c:kq K C)(hf:findIn K (.ref C) y=U (U (.ref f)))(ht:isFn K (.ref f)=O)(g:s.heap.get? x=U (instObj C dx))(n:s.heap.Ns1 dx mA)(e:mA y=J)(q:Q (.ref f,[.ref x]) s):wpAny (model prog w) A (getMethod (.ref x) y pl) Q E s:=
 let⟨od,UR,l⟩:=wG g n
 PySem.W.method_fn X UR (plainGet_of c.pg).1 (plainGet_of c.pg).2 hf (Gas.mp ht) (by show(lookIn y od).map _=U M;rw[l,e];rfl) q
def HG{K:FrW}{ns:List Str}(X:K.In s.heap)(c:kq K C)(no:findIn K (.ref C) y=U J)(g:s.heap.get? x=U (instObj C dx))(ne:dx≠x)(n:s.heap.Ns1 dx mA)(wi:PySem.Within mA ns)(hz:ns.length<=sizeLine)
  (q:∀h' tk,h'.Ns1 dx (λz=>if z=y then U v else mA z)->Heap.SameBut dx s.heap h' ->Q () {s with heap:=h',toks:=tk}):wpAny (model prog w) A (setAttr (.ref x) y v) Q E s:=by
 obtain⟨od,UR,_⟩:=wG g n;refine PySem.W.set_plain X UR c.sa (PySem.W.osa_open X UR c.po (by unfold takerIn;rw[no];rfl) λb=> ?_);obtain⟨cd,hc,hd⟩:=PySem.W.any_some c.hd
 wp_walk using wpAny_loadPart g',lk (PySem.W.looks_clsIn (M:=model prog w) X hc),wpAny_nsSet1 (s:={s with toks:=_+1}) n
 intro h' n2 sb;obtain⟨o,es,ep,go,xU,le⟩:=n2.count (PySem.Within.cons y v wi);exact Gad (wpAny_lookBehind go (by rw[xU];exact pastItsLine_dict (Gak le (by rw[GaC];exact Gec ‹_›))) (Gao (q h' _ n2 sb)))
def EF{A:Vm}{K:FrW}(X:K.In s.heap)(hm:makesIn K C=O)(hi:findIn K (.ref C) "__init__"=U (U (.ref f)))(hf:PySem.W.typeIn K (.ref f)=U (.type "function"))
  (h:codeAny (model prog w) (A.under (.builtin "type.__call__" ⟨.ref C::vs,[]⟩)) (.call (.ref f) ⟨.ref (s.heap.objs.size+1)::vs,[]⟩) (InitBack (s.heap.objs.size+1) R) {s with heap:=(s.heap.push emptyDict).push (instObj C s.heap.objs.size)}):
  codeAny (model prog w) A (.call (.ref C) ⟨vs,[]⟩) R s:=
 PySem.W.make_core (PySem.W.makes_of X hm) (PySem.W.looks_findIn X hi) (λself=>PySem.W.bind_fn X self hf) (.inl rfl) h
end
end NL
namespace NL
open PySem PySem.Spec PyProof.Rows DL
section
variable [Wd]
def HH(I:Inv X env Z s)(e:vE i env=U r):(∃t,env[i]? =U (U t))/\cM X env Z s s r (Z i):=by
 unfold vE at e
 match q:env[i]?,e with
 |some (U (.sh d)),e=>cases e;exact⟨⟨_,rfl⟩,I.sl i _ q⟩
 |some (U (.own d)),e=>cases e;have⟨tp,a,h1,h2,h3,h5⟩:=I.sl i _ q;exact⟨⟨_,rfl⟩,tp,a,h1,h2,h3,h5.imp λb z=> ⟨z,λn=>z.2 i (by rw[q];trivial) (n▸h1)⟩⟩
 |some (U (.lok d)),e=>cases e;have⟨tp,a,h1,h2,h3,h5⟩:=I.sl i _ q;exact⟨⟨_,rfl⟩,tp,a,h1,h3,I.vP (by rw[q];trivial) h1 (by rw[q];exact id),h5⟩
 |some (U (.bor d)),e=>cases e;have⟨tp,a,h1,h3,h5⟩:=I.sl i _ q;exact⟨⟨_,rfl⟩,tp,a,h1,h3,I.vP (by rw[q];trivial) h1 (by rw[q];exact id),h5⟩
def Inn.handed(i:Inn F T h d u):PySem.W.handedIn u=O:=by
 rcases i with e| ⟨a,rfl,_⟩
 .exact At.el e rfl (λ_=>rfl) (λ_ _=>rfl) λ_ _=>rfl
 .rfl
def LI{X:Cx}{o:Ob}(ho:o∈X.ob)(hj:(n,j)∈o.fs)(c:kq X.K o.C)(no:PySem.W.findIn X.K (.ref o.C) n=U J)(hN:X.N[o.h]? =U x)(hv:Vis X.env.scope x)(hd:(x==Dgs)=M)(eO:(x==("__classdict__":Str))=M):PE X (.Attribute (.Name x px) n pos) (vE j):=λenv Z s r I q=>by
 refine hde λG fin=> ?_;obtain⟨vj,rv⟩:=HH I q;obtain⟨g,_,⟨eh,th⟩,mA,n1,_,k⟩:=I.fl o ho;refine fin (Attribute_any_ (fF I th hN hv hd eO ?_) rfl);rw[eh];have x1:Ext X No s {s with toks:=s.toks+1}:= .tok _;exact HF I.kIn c no g n1 ((k n j hj).1 vj) (rv.inn I).handed ⟨x1,rv.later I I x1⟩
def gU(F:Vh->Prop)(h:Vj)(a dx C:Vh)(ns:List Str)(os:List (Option D))(vs:List Vf):Prop:=
 h.get? a=U (PySem.W.instObj C dx)/\dx≠a/\(ns.length=os.length/\os.length=vs.length)/\∃mA,h.Ns1 dx mA/\(∀n,mA n≠J->n∈ns)/\
  ∀(i:Nat) n od v,ns[i]? =U n->os[i]? =U od->vs[i]? =U v->(∀d,od=U d->mA n=U v/\Rep F h d v)/\(od=J->mA n=J)
abbrev nF (outer:List f7) (B:Vh->Prop) (b:Vh):Prop:=b∉frs outer/\¬B b
structure FnR(K:FrW)(mg:Str->Option Vf)(base:Vj)(k:Nat)(f:Vh)(fd:Vr)(p0:Str)(ps:List Str)(C:Vh)(ns:List Str)(sp:List (Option D)->SpF):Prop where
 len:∀os ds d,sp os ds=U d->ds.length=ps.length
 run:∀(A:Vm) (outer:List f7) (B:Vh->Prop) (s:Vg) (args:Args) (us:List Vf) (ds:List D) (os:List (Option D)) (vs:List Vf) (a dx:Vh) (d:D),bU k A->pj K mg base A outer B s->B dx->dx∉frs outer->nF outer B a->base.get? dx=J->
  BindsTo s fd args ((p0::ps).zip (.ref a::us))->gU (nF outer B) s.heap a dx C ns os vs->aP (nF outer B) s.heap ds us->sp os ds=U d->
  codeAny (model Wd.p Wd.w) A (.call (.ref f) args) (λr s' =>∃u,r= .ok (.ret u)/\iE outer s s' /\Res (nN O B) s s' d u) s
def Cx.wo(X:Cx)(PN:List Str)(o:Ob)(ex:List Vh):Cx:={X with N:=X.N++PN,ob:=[o],ex:=ex}
abbrev hid (os:List (Option D)):aM:=os.map (Option.map Slot.sh)
def iA(a dx C:Vh)(n0:Nat)(ns:List Str)(h:Nat:=0):Ob:=⟨a,dx,C,h,ns.zipIdx n0⟩
def sgm(n0:Nat)(Z:Vl)(vs:List Vf):Vl:=λi=>if i<n0 then Z i else vs.getD (i -n0) .none
section
variable{i:Nat}{os:List (Option D)}
def tL{e:aM}(g:(e++hid os)[i]? =U (U t)):(i<e.length/\e[i]? =U (U t))\/(e.length<=i/\∃d,t= .sh d/\os[i -e.length]? =U (U d)):=by
 by_cases h:i<e.length
 .rw[GaS h] at g;exact .inl ⟨h,g⟩
 .rw[GaW (by simp_all),Gaj] at g;cases q:os[i -e.length]? with
  |none=>rw[q] at g;cases g
  |some od=>rw[q] at g;cases od with
   |none=>cases g
   |some d=>cases g;exact .inr ⟨by simp_all,d,rfl,rfl⟩
def tM{e:aM}(t:ba (e++hid os)[i]?):i<e.length/\ba e[i]? :=by
 match g:_[i]?,t with
 |some (U t),tt=>
  rcases tL g with⟨h1,h2⟩| ⟨_,d,rfl,_⟩
  .exact⟨h1,by rw[h2];exact tt⟩
  .exact tt.elim
def Inv.widen{X:Cx}{e:aM}{s:Vg}{ns:List Str}{a:Vh}{hx:Nat}(I:Inv X e Z s)(hX:X.ob=[])(hex:X.ex=[])(t0:∃t,e[hx]? =U (U t))(h0:Z hx= .ref a)(hp:PN.length=os.length)(hJ:∀x∈PN,¬Vis X.env.scope x)(ia:gU (Cln X e Z) s.heap a dx C ns os vs)
  (bd:X.bad dx)(nv:¬X.vol dx)(SA:¬X.vol a)(zv:∀b∈ex,b=dx)(nb:X.base.get? dx=J):Inv (X.wo PN (iA a dx C X.N.length ns hx) ex) (e++hid os) (sgm X.N.length Z vs) s:=by
 obtain⟨ga,ne,⟨l1,l2⟩,mA,n1,wi,at_⟩:=ia;have le:=I.len;have cl:∀b,Cln X e Z b->Cln _ (e++hid os) (sgm _ Z vs) b:=λb z=> ⟨z.1,λi t=>by
  have⟨h1,h2⟩:=tM t;show(if i<X.N.length then Z i else _)≠_;rw[Gar (by lia)];exact z.2 i h2⟩
 have kp:∀b o,Cln X e Z b->s.heap.get? b=U o->¬ItO o->Cln (X.wo PN (iA a dx C X.N.length ns hx) ex) (e++hid os) (sgm X.N.length Z vs) b/\s.heap.get? b=U o:=λb o f g _=> ⟨cl b f,g⟩;have sg:∀{i},i<e.length->sgm X.N.length Z vs i=Z i:=λ{i} h=>Gar (by lia);have fs:∀n i,(n,i)∈(iA a dx C X.N.length ns hx).fs->X.N.length<=i/\ns[i -X.N.length]? =U n:=λn i m=>by
  have:=Gdw.mp m;exact⟨this.1,by simpa using this.2⟩
 refine⟨⟨I.ok.mod,I.ok.kind,I.ok.glob,I.ok.blt,I.ok.above,I.ok.inj,I.ok.has,I.ok.cab,I.ok.hd,I.ok.frames,I.ok.stk,(λb m=>by rw[zv b m];exact nv),I.ok.bs,(λb o g m=>by have g:X.base.get? b=U o:=g;rw[zv b m,nb] at g;cases g),I.ok.lG,I.ok.vb,I.ok.cf,λo ho=> ?_⟩,
  I.os,I.bare,(λb o g f _=>I.base b o g f (by rw[hex];exact(λz=>nomatch z))),I.slot, ?_,I.cell,λi t g=> ?_,λi j b h1 h2 e1 e2=> ?_, ?_,I.bt,I.th0,I.bt2,λo ho=> ?_⟩
 .rw[Gam.mp ho];refine⟨bd,nv,SA,λn i m x hx=>hJ x (hde λG fin=> ?_)⟩;have hx:(X.N++PN)[i]? =U x:=hx;rw[GaW (fs n i m).1] at hx;exact fin (GaH hx)
 .obtain⟨m,hm,lk⟩:=I.loc;refine⟨m,hm,λi x h1 ⟨t,h2⟩ h3=> ?_⟩;have h1:(X.N++PN)[i]? =U x:=h1;by_cases hi:i<X.N.length
  .rw[GaS hi] at h1;rcases tL h2 with⟨_,h2⟩| ⟨h,_⟩
   .rw[sg (by lia)];exact lk i x h1 ⟨t,h2⟩ h3
   .lia
  .rw[GaW (by lia)] at h1;exact absurd h3 (hJ x (GaH h1))
 .rcases tL g with⟨h1,h2⟩| ⟨h1,d,rfl,h2⟩
  .rw[sg h1];exact(I.sl i t h2).keep kp λ_ _ _ _ g _=>g
  .have iv:i -X.N.length<vs.length:=by rw[<-l2];have:=(Gae.mp h2).1;lia
   have e1:sgm X.N.length Z vs i=vs[i -X.N.length]:=by
    show(if i<X.N.length then Z i else _)=_;rw[Gaw (by lia),Gbp,Gaa iv];rfl
   rw[e1];refine hde λG fin=> ?_;obtain⟨n,hn⟩:∃n,ns[i -X.N.length]? =U n:=⟨_,Gaa (by lia)⟩
   exact fin (Rep.keep (((at_ _ n (U d) _ hn (by rw[<-le];exact h2) (Gaa iv)).1 d rfl).2) kp)
 .have t1:=tM (os:=os) h1.top;have t2:=tM h2;rw[sg t1.1] at e1;rw[sg t2.1] at e2
  exact I.dj i j b (by rw[GaS t1.1] at h1;exact h1) t2.2 e1 e2
 .show(e++hid os).length=(X.N++PN).length;simp;lia
 .rw[Gam.mp ho];have p0:hx<e.length:=let⟨_,h⟩:=t0;(Gae.mp h).1
  refine⟨ga,ne,⟨(sg p0).trans h0,let⟨t,h⟩:=t0;⟨t,by show(e++hid os)[hx]? =_;rw[GaS p0];exact h⟩⟩,mA,n1,λn hn=> ?_,λn i m=> ?_⟩
  .show n∈(ns.zipIdx X.N.length).map (·.1)
   simpa using wi n hn
  .obtain⟨h1,h2⟩:=fs n i m;have il:=(Gae.mp h2).1;have io:os[i -X.N.length]? =U os[i -X.N.length]:=Gaa (by lia);have iv:vs[i -X.N.length]? =U vs[i -X.N.length]:=Gaa (by lia);have ev:sgm X.N.length Z vs i=vs[i -X.N.length]:=by
    show(if i<X.N.length then Z i else _)=_;rw[Gaw (by lia),Gbp,iv];rfl
   have eg:(e++hid os)[i]? =U (os[i -X.N.length].map Slot.sh):=by rw[GaW (by lia),Gaj,le,io];rfl
   obtain⟨k1,k2⟩:=at_ _ n _ _ h2 io iv;rw[ev,eg];cases q:os[i -X.N.length] with
   |none=>exact⟨(λ⟨t,z⟩=>nomatch z),λ_=>k2 q⟩
   |some d=>exact⟨λ_=>(k1 d q).1,λz=>absurd ⟨_,rfl⟩ z⟩
end
end
section
variable [Wd]
def rP{env:f7}{K:FrW}{ap cp:Pos}{args:List Vi}(eY:attributeBase o m env (eval o env)=eval o env)
  (xv:((backTo cp (starEach args env)).all (λx=> !x.1)&&(backToKw cp (keywordEach [] env)).all (λx=>x.1.isSome)&&decide (args.length+([]:List Keyword).length+(if([]:List Keyword).isEmpty then 0 else 1)<30))=O)(eN:(ap.endLine==cp.line)=O)
  (h:wpAny (model prog w) A (eval o env) (λov s1=>∃a C dx f mA,ov= .ref a/\K.In s1.heap/\kq K C/\PySem.W.findIn K (.ref C) m=U (U (.ref f))/\PySem.W.isFn K (.ref f)=O/\s1.heap.get? a=U (PySem.W.instObj C dx)/\s1.heap.Ns1 dx mA/\mA m=J/\
   wpAny (model prog w) A (callWith cp (.ref f) [.ref a] (backTo cp (starEach args env)) []) Q E s1) E s):wpAny (model prog w) A (eval (.Call (.Attribute o m ap) args [] cp) env) Q E s:=by
 rw[arm_eval_Call,eY];refine Gad (thn h λov s1 zp=>hde λG eJ=> ?_);obtain⟨a,C,dx,f,mA,rfl,X,c,hf,ht,g,n,no,hc⟩:=zp;refine eJ (Gad (GdX ?_));have hform:methodCallForm _ _ _=O:=xv;unfold methodCall;rw[hform];exact Gad (GbB (EE X c hf ht g n no (Gad (GdA (by unfold methodCallPos;simp[eN]) hc))))
section
variable{C:Vh}{os:List (Option D)}{ds:List D}
def Cg{scope:Vp}{s s1:Vg}(x:InCallC s s.heap.objs.size m (cellsFrom (s.heap.objs.size+1) scope.names []) mc s1):(∀b,Th s.heap b->b∉frs outer->¬Kq (envOfC qual scope s.heap.objs.size f cd) outer b)/\∀b o,s.heap.get? b=U o->s1.heap.get? b=U o:=by
 refine hde λG fin=> ?_;obtain⟨h1,tk,rfl,hk⟩:=x.done;refine fin (⟨λb t n=> ?_,hk⟩);rintro((rfl|v)| ⟨y,v⟩)
 .exact t aJ
 .exact n v
 .exact t (Gbc (GaJ (x.above y b (GbV v))))
variable{ps N:List Str}{base:Vj}
def rQ{K:FrW}{scope:Vp}{A:Vm}{s:Vg}{B:Vh->Prop}{a:Vh}{ns:List Str}{ex:List Vh}(hp:PN.length=os.length)(hJ:∀x∈PN,scope.names.lookup x=J)(S:bH N ps scope)(hd:A.handled=J)(e0:pj K mg base A outer B s)(hl:(.ins C::ds:List D).length=ps.length)
  (x:InCallC s s.heap.objs.size (bindL (envOfC qual scope s.heap.objs.size f cd).kindOf (ps.zip (.ref a::us)) λ_=>J) (cellsFrom (s.heap.objs.size+1) scope.names []) (bindC (envOfC qual scope s.heap.objs.size f cd).kindOf (ps.zip (.ref a::us)) λ_=>J) s1)
  (bd:B dx)(nd:dx∉frs outer)(na:nF outer B a)(nb:base.get? dx=J)(ia:gU (nF outer B) s.heap a dx C ns os vs)(r:aP (nF outer B) s.heap ds us)(zv:∀b∈ex,b=dx):
  Inv ((lW K mg base ni B N qual scope f cd A outer s).wo PN (iA a dx C N.length ns) ex) (bY N.length (.ins C::ds)++hid os) (sgm N.length (λi=>(Value.ref a::us).getD i .none) vs) s1:=by
 refine hde λG fin=> ?_;obtain⟨vn,hk⟩:=Cg (outer:=outer) (qual:=qual) (f:=f) (cd:=cd) x;obtain⟨ga,ne,ll,mA,n1,wi,at_⟩:=ia;refine fin (hde λG fin=> ?_);have cl:∀b,nF outer B b->Th _ b->Cln (lW K mg base ni B N qual scope f cd A outer s) (bY N.length (.ins C::ds)) (λi=>(Value.ref a::us).getD i .none) b:=λb z t=> ⟨λy=>y.elim (vn b t z.1) z.2,λi t=>(sP t).elim⟩;refine fin ((rD (ni:=ni) S hd e0 hl (.cons (.sq (eo:=#[]) rfl na ⟨dx,ga⟩ (GaN 0) rfl (λi d v e=>by cases e)) r) x).widen rfl rfl ⟨.sh _,rfl⟩ rfl hp (λx hx v=> ?_) ⟨hk _ _ ga,ne,ll,mA,by obtain⟨o,es,ep,g,r⟩:=n1;exact⟨o,es,ep,hk _ _ g,r⟩,wi,λi n od v h1 h2 h3=> ?_⟩ (.inr bd) (λv=>vn dx (by obtain⟨_,_,_,g,_⟩:=n1;exact .of g) nd v) (λv=>vn a (.of ga) na.1 v) zv nb)
 .have:=hJ x hx;rcases v with v|v|v<;>rw[show(lW K mg base ni B N qual scope f cd A outer s).env.scope=scope from rfl,this] at v<;>cases v
 .obtain⟨k1,k2⟩:=at_ i n od v h1 h2 h3;exact⟨λd e=> ⟨(k1 d e).1,(k1 d e).2.keep λb o z g _=> ⟨cl b z (.of g),hk b o g⟩⟩,k2⟩
def o9(n np:Nat)(C:Nat)(b:DS)(os:List (Option D))(ds:List D):Option D:=if ds.length=np then(b (bY n (.ins C::ds)++hid os)).bind λo=>match o with
 | .ret d=>U d
 | .nx _=>U .non
 |_=>J else J
def LJ{K:FrW}{ns:List Str}(lk:K.lookup f=U ⟨oc,od,.func (PySem.W.fnOf name qual params body scope dV kV doc pm an eS ct),xY⟩)(eO:PySem.W.codeIn K eS qual=O)
  (S:bH N (p0::ps) scope)(xN:ps.length=np)(hp:PN.length=ns.length)(hJ:∀x∈PN,scope.names.lookup x=J)
  (xk:∀A outer B s a dx,base.get? dx=J->bU k (A.deeper (envOfC qual scope s.heap.objs.size f eS))->PSs ((lW K mg base O B N qual scope f eS A outer s).wo PN (iA a dx C N.length ns) []) body b):
  FnR K mg base (k+1) f (PySem.W.fnOf name qual params body scope dV kV doc pm an eS ct) p0 ps C ns (o9 N.length np C b):=by
 have len:∀os ds d,o9 N.length np C b os ds=U d->ds.length=ps.length:=λos ds d h=>by unfold o9 at h;split at h<;>first|(rw[xN];assumption)|cases h
 refine⟨len,λA outer B s args us ds os vs a dx d hr e0 bd nd na nb hb ia r eW=> ?_⟩;have hl:=len _ _ _ eW;have KX:=e0.mod.kin.keeps e0.bs;have hkind:∀y∈(p0::ps).zip (.ref a::us),scope.names.lookup y.1=U .local\/(scope.names.lookup y.1=U .cell/\((cellsFrom (s.heap.objs.size+1) _ []).lookup y.1).isSome=O):=λxI hy=>by
  obtain⟨n,v⟩:=xI;rcases S.par n (GcA hy).1 with q|q
  .exact .inl q
  .exact .inr ⟨q,GbX _ _ _ (.inl q)⟩
 refine GcB hr.depth (KX _ _ lk) rfl S.co S.gen rfl (GcX KX eO) (hb _ _ _ _ (GbZ S.kind hkind λenv he s1 x=> ?_));subst he;refine⟨(e0.mod.nolimit.keeps e0.bs).keeps x.toInCall.keep,Geo ?_⟩;unfold o9 at eW;rw[Gar (by rw[<-xN];exact hl)] at eW;refine a6 eW λo ho q=>GaB (xk A outer B s a dx nb (hr.deeper _) _ _ s1 o (rQ (ni:=O) (ex:=[]) (by rw[hp];exact ia.2.2.1.1) hJ S hr.hd e0 (by simp[hl]) x bd nd na nb ia r (λb z=>nomatch z)) ho) (λfl s' hs=> ?_) λe s' z=>False.elim z;have fin:∀{e' Z'},Inv ((lW K mg base O B N qual scope f eS A outer s).wo PN (iA a dx C N.length ns) []) e' Z' s' ->iE outer s s' :=λI' => ⟨I'.os,I'.bare,λb o g n=>I'.base b o g n (λz=>nomatch z),λb o g n=>I'.slot b o g n,I'.th0⟩;cases o<;>cases fl<;>first|exact False.elim hs|skip
 .cases q;obtain⟨Z',I',_⟩:=hs;exact⟨_,rfl,fin I',(λh=>nomatch h),λ_=> .one trivial⟩
 .cases q;obtain⟨⟨e',Z',I'⟩,rs⟩:=hs;exact⟨_,rfl,fin I',rs.imp λb z=> ⟨rfl,λy=>z.2 (.inr y)⟩⟩
 .cases q
 .cases q
end
end
end NL
namespace DL
def j6(env:Env)(j:Nat):Option (Option D):=match env[j]? with
 |some (U (.sh d))=>U (U d)
 |some J=>U J
 |_=>J
def objs(env:Env)(C h:Nat):List Nat->Option (List (Option D))
 |[]=>match env[h]? with
  |some (U (.sh (.ins C')))=>if C' =C then U [] else J
  |_=>J
 |j::js=>(j6 env j).bind λd=>(objs env C h js).map λds=>d::ds
def rdE(C h:Nat)(js:List Nat)(sp:List (Option D)->SpF)(a:DA):DE:=λenv=>(a env).bind λrs=>if rs.all (·.free)=O then(objs env C h js).bind λos=>(sp os (rs.map (·.d))).map dZ else J
end DL
namespace NL
open PySem PySem.Spec PyProof.Rows DL
section
variable [Wd]
section
variable{os:List (Option D)}
def AV{env:aM}{js j0:List Nat}(e:objs env C h js=U os):(∃C',C' =C/\env[h]? =U (U (.sh (.ins C'))))/\os.length=js.length/\∀(i:Nat) j od,js[i]? =U j->os[i]? =U od->j6 env j=U od:=by
 induction js generalizing os with
 |nil=>
  unfold objs at e;split at e
  .split at e<;>cases e
   rename_i g hc;exact⟨⟨_,hc,g⟩,rfl,λi j od h=>by cases h⟩
  .cases e
 |cons j js ih=>
  refine hde λG fin=> ?_;obtain⟨d,hd,e⟩:=GaZ.mp e;obtain⟨ds,xB,rfl⟩:=Gab.mp e;obtain⟨h1,h2,h3⟩:=ih xB;refine fin (⟨h1,by rw[GaC,GaC,h2],λi j' od e1 e2=> ?_⟩);cases i with
  |zero=>cases e1;cases e2;exact hd
  |succ i=>exact h3 i j' od e1 e2
variable{s:Vg}{X:Cx}
def Inv.ins{js:List Nat}{ns:List Str}{o:Ob}{C h:Nat}(I:Inv X env Z s)(ho:o∈X.ob)(hh:o.h=h)(hf:o.fs=ns.zip js)(hl:ns.length=js.length)(e:objs env C h js=U os):gU (Cln X env Z) s.heap o.a o.dx o.C ns os (js.map Z)/\Cln X env Z o.a:=by
 refine hde λG fin=> ?_;obtain⟨⟨C',_,g⟩,l,k⟩:=AV (j0:=[]) e;obtain⟨ga,ne,⟨eh,_⟩,mA,n1,wi,at_⟩:=I.fl o ho;subst hh;refine fin (⟨⟨ga,ne,⟨by lia,by simp[l]⟩,mA,n1,λn hn=> ?_,λi n od v h1 h2 h3=> ?_⟩, ?_⟩)
 .have:=wi n hn;refine hde λG fin=> ?_;rw[hf,Geg (by lia)] at this;lia
 .rw[Gaj] at h3;obtain⟨j,hj,rfl⟩:=Gab.mp h3;have m:(n,j)∈o.fs:=by
   rw[hf];exact GaH (by rw[Gci];exact⟨h1,hj⟩)
  obtain⟨a1,a2⟩:=at_ n j m;have sl:=k i j od hj h2;unfold j6 at sl;split at sl<;>cases sl
  .rename_i d q;exact⟨(λd' e=>by cases e;exact⟨a1 ⟨_,q⟩,I.sl j _ q⟩),(λz=>nomatch z)⟩
  .rename_i q;exact⟨(λd z=>nomatch z),λ_=>a2 λ⟨t,z⟩=>by rw[q] at z;cases z⟩
 .have r:=I.sl _ _ g;rw[eh] at r;rcases Rep.inn r with z| ⟨a,z,f,_⟩
  .exact z.elim
  .cases z;exact f
def gU.of{ns:List Str}{o:Ob}(x:gU (Cln X env Z) s.heap o.a o.dx o.C ns os us)(I:Inv X env Z s):gU (nF X.stack (nN O (Cln X env Z))) s.heap o.a o.dx o.C ns os us:=by
 refine hde λG fin=> ?_;obtain⟨g,ne,l,mA,n1,wi,k⟩:=x;exact fin (⟨g,ne,l,mA,n1,wi,λi n od v h1 h2 h3=>by obtain⟨a,b⟩:=k i n od v h1 h2 h3;exact⟨λd e=> ⟨(a d e).1,Rep.imp (a d e).2 λb z _=> ⟨λm=>z.1 (I.ok.vb b (.inl (I.cA b m))),λy=>y.2 z⟩⟩,b⟩⟩)
def HI{js:List Nat}{ns:List Str}{o:Ob}{p0:Str}{sp:List (Option D)->SpF}(F:FnR X.K X.mg X.base k f fd p0 ps o.C ns sp)(hr:bU k X.A)(hb:Binds X.K fd (p0::ps))(I:Inv X env Z s)(ho:o∈X.ob)(hh:o.h=h)(hf:o.fs=ns.zip js)(hl:ns.length=js.length)(nb:X.base.get? o.dx=J)
  (e:objs env C h js=U os)(r:aP (Cln X env Z) s.heap ds us)(eW:sp os ds=U d):wpX X (call (.ref f) (.ref o.a::us)) (λu s' =>Ext X No s s' /\cM X env Z s s' (dZ d) u) X.xe s:=by
 obtain⟨ia,ca⟩:=I.ins ho hh hf hl e;have ob:=I.ok.ob o ho;have nF1:∀b,Cln X env Z b->nF _ (nN O _) b:=λb z=> ⟨λm=>z.1 (I.ok.vb b (.inl (I.cA b m))),λy=>y.2 z⟩;refine GcJ (Gdn (F.run _ _ _ s ⟨.ref _::us,[]⟩ us ds os _ _ _ d hr (I.Dm O) ⟨rfl,λz=>z.1 ob.1⟩ (λm=>ob.2.1 (.inl (I.cA _ m))) (nF1 _ ca) nb (hb s _ I.kIn (by rw[GaC,GaC,<-r.1,F.len _ _ _ eW])) (ia.of I) (r.keep λb o z g _=> ⟨nF1 b z,g⟩) eW) λr s' eX=>hde λG eJ=> ?_);obtain⟨u,e,c,q⟩:=eX;refine eJ ?_;subst e;have x:=c.ext I;exact⟨x,q.rv (I.exp x) x I λb z=>GaO λn=>z.2 ⟨rfl,n⟩⟩
def EG{js:List Nat}{ns:List Str}{o:Ob}{ap cp:Pos}{args:List Vi}(F:FnR X.K X.mg X.base k f fd p0 ps o.C ns sp)(hr:bU k X.A)(hb:Binds X.K fd (p0::ps))(ho:o∈X.ob)(hh:o.h=h)(hf:o.fs=ns.zip js)(hl:ns.length=js.length)(nb:X.base.get? o.dx=J)
  (c:kq X.K o.C)(hm:PySem.W.findIn X.K (.ref o.C) m=U (U (.ref f)))(Sb:PySem.W.isFn X.K (.ref f)=O)(hk:PySem.W.keepIn X.K (.ref f)=O)(xZ:m∉ns)(hN:X.N[o.h]? =U x)(hv:Vis X.env.scope x)(hd:(x==Dgs)=M)(eO:(x==("__classdict__":Str))=M)
  (ha:PA X args ra)(xu:(args=[]/\ra=aL)\/∃e es,args=e::es/\starEach (e::es) X.env=(M,eval e X.env)::starEach es X.env/\(backTo cp (starEach es X.env)).any (·.1)=M)
  (xv:((backTo cp (starEach args X.env)).all (λx=> !x.1)&&(backToKw cp (keywordEach [] X.env)).all (λx=>x.1.isSome)&&decide (args.length+([]:List Keyword).length+(if([]:List Keyword).isEmpty then 0 else 1)<30))=O)(eN:(ap.endLine==cp.line)=O):
  PE X (.Call (.Attribute (.Name x px) m ap) args [] cp) (rdE o.C h js sp ra):=λenv Z s r I q=>a6 q λrs xp q=>by
 split at q<;>first|cases q;done|skip
 rename_i hfree;refine a6 q λos yk q=>aS q λd eW RJ=> ?_;subst RJ;obtain⟨ga,ne,⟨eh,th⟩,mA,n1,wi,_⟩:=I.fl o ho;have no:=GaO λz=>xZ (by
  have:=wi m z
  rwa[hf,Geg (by simp[*])] at this)
 refine rP rfl xv eN (fF I th hN hv hd eO ⟨_,_,_,f,mA,eh,I.kIn,c,hm,Sb,ga,n1,no, ?_⟩);have fin:∀{us:List Vf} {s1:Vg},Ext X No s s1->Paired _ rs us->wpAny _ _ _ (λu s' =>Ext X No s s' /\cM X env Z s s' _ u) _ s1:=λ{us s1} x1 p=>
  thn (HI F hr hb (I.exp x1) ho hh hf hl nb yk (gG I p hfree) eW) λu s2 xI=>by obtain⟨x2,q⟩:=xI;exact⟨x1.trans x2,q.from x1⟩
 rcases xu with⟨rfl,rfl⟩| ⟨e,es,rfl,h1,h2⟩
 .cases xp;exact PySem.W.callWith_K0 I.kIn hk (fin (Ext.refl) .nil)
 .exact Gce I.ok.mod.kin hk (thn (ha cp env Z s rs I xp) λus s1 yz=>by obtain⟨x1,p⟩:=yz;exact⟨(I.exp x1).kIn,fin x1 p⟩) h1 h2
end
end
end NL
namespace DL
inductive OX where
 |nx (e:Env)
 |ret (d:D) (e:Env)
 |rz (C:Nat) (n:PySem.Str) (d:D) (e:Env)
 |fin (d:D)
inductive OV where
 |v (d:D) (e:Env)
 |rz (C:Nat) (n:PySem.Str) (d:D) (e:Env)
abbrev DSM:=Env->Option OX
abbrev DEM:=Env->Option OV
def cB(f:DS):DSM:=λenv=>(f env).bind λo=>match o with
 | .nx e=>U (.nx e)
 | .ret d=>U (.fin d)
 |_=>J
def aE:DSM:=λenv=>U (.nx env)
def aF(f g:DSM):DSM:=λenv=>(f env).bind λo=>match o with
 | .nx e=>g e
 |o=>U o
def ifX(t:DT)(f g:DSM):DSM:=λenv=>(t env).bind λb=>if b=O then f env else g env
def Ci(f:DE):DSM:=λenv=>(f env).bind λr=>if r.k= .tb\/(r.k= .c/\r.d.top=O) then J else U (.ret r.d env)
def wH(j:Nat)(f:DE):DSM:=λenv=>(j6 env j).bind λ_=>(f env).bind λr=>if r.free=O then U (.nx (env.set j (U (.sh r.d)))) else J
def AW(f:DEM):DSM:=λenv=>(f env).map λo=>match o with
 | .v _ e=> .nx e
 | .rz C n d e=> .rz C n d e
def rR(f:DEM):DSM:=λenv=>(f env).map λo=>match o with
 | .v d e=> .ret d e
 | .rz C n d e=> .rz C n d e
def rf(i:Nat)(f:DEM):DSM:=λenv=>(f env).map λo=>match o with
 | .v d e=> .nx (e.set i (U (.sh d)))
 | .rz C n d e=> .rz C n d e
end DL
namespace NL
open PySem PySem.Spec PyProof.Rows DL
section
variable [Wd]
def Cx.fw(X:Cx)(b:Vh):Prop:=∃o∈X.ob,b=o.dx
def TrT(h:Vj)(e:Vh)(tb:Vf):Prop:=tb= .none\/∃T ts,tb= .ref T/\T≠e/\FX h T (.type "traceback") J ts/\ts[3]? =U .none
structure ExcAt(F:Vh->Prop)(s1 s' :Vg)(a:Vh)(C:Vh)(n:Str)(d:D)(dx t0:Vh)(tb v:Vf)(m:Str->Option Vf):Prop where
 fx:FX s'.heap a (.ref C) (U dx) #[.ref t0,tb,.none,.none,.bool M,.none]
 tr:TrT s'.heap a tb
 na:s1.heap.get? a=J
 nd:s1.heap.get? dx=J
 nt:∀T,tb= .ref T->s1.heap.get? T=J
 ne:dx≠a
 ns:s'.heap.Ns1 dx m
 mn:m n=U v
 rep:Rep (λb=>F b/\b≠a) s'.heap d v
inductive XE (X:Cx) (e:aM) (Z:Vl) (s:Vg) (C:Nat) (n:Str) (d:D) (e' :aM) (x:Vf) (s' :Vg):Prop
 |mk (Z' s1 a dx t0 tb v m:_) (_:x= .ref a) (_:Inv X e' Z' s1) (_:Stp X X.fw e Z s e' Z' s1) (_:Ext X No s1 s') (_:ExcAt (Cln X e' Z') s1 s' a C n d dx t0 tb v m):XE X e Z s C n d e' x s'
def SM(X:Cx)(e:aM)(Z:Vl)(s:Vg)(o:OX)(f:Flow)(s' :Vg):Prop:=match o,f with
 | .nx e',.next=>∃Z',Inv X e' Z' s' /\Stp X X.fw e Z s e' Z' s'
 | .ret d e',.ret u=>(∃Z',Inv X e' Z' s')/\Res X.rN X.s₀ s' d u
 | .fin d,.ret u=>(∃e' Z',Inv X e' Z' s')/\Res X.rN X.s₀ s' d u
 |_,_=>False
def EM(X:Cx)(e:aM)(Z:Vl)(s:Vg)(o:OX)(x:Vf)(s' :Vg):Prop:=match o with
 | .rz C n d e' =>XE X e Z s C n d e' x s'
 |_=>False
def VM(X:Cx)(e:aM)(Z:Vl)(s:Vg)(o:OV)(u:Vf)(s' :Vg):Prop:=match o with
 | .v d e' =>∃Z',Inv X e' Z' s' /\Stp X X.fw e Z s e' Z' s' /\Rep (Cln X e' Z') s'.heap d u/\d.top=M
 |_=>False
def EV(X:Cx)(e:aM)(Z:Vl)(s:Vg)(o:OV)(x:Vf)(s' :Vg):Prop:=match o with
 | .rz C n d e' =>XE X e Z s C n d e' x s'
 |_=>False
def QM(X:Cx)(st:Vk)(f:DSM):Prop:=∀env Z s o,Inv X env Z s->f env=U o->wpX X (exec st X.env) (SM X env Z s o) (EM X env Z s o) s
def QMs(X:Cx)(st:List Vk)(f:DSM):Prop:=∀env Z s o,Inv X env Z s->f env=U o->wpX X (execs st X.env) (SM X env Z s o) (EM X env Z s o) s
def PXM(X:Cx)(e:Vi)(f:DEM):Prop:=∀env Z s o,Inv X env Z s->f env=U o->wpX X (eval e X.env) (VM X env Z s o) (EV X env Z s o) s
def Cx.gA(X:Cx):Prop:=∀x s,X.xe x s->False
section
def Stp.mono(x:Stp X No env Z s env' Z' s'):Stp X W env Z s env' Z' s' :=⟨λb o g v w _=>x.keep b o g v w id,x.own,x.cl,x.lk,x.th⟩
def Stp.xe{X:Cx}(x:Stp X X.fw env Z s env' Z' s1)(h:XE X env' Z' s1 C n d e' u s'):XE X env Z s C n d e' u s' :=
 by obtain⟨τ,s2,a,dx,t0,tb,v,m,h1,I,y,z,z2⟩:=h;exact⟨τ,s2,a,dx,t0,tb,v,m,h1,I,x.trans y,z,z2⟩
def Stp.sm{X:Cx}(x:Stp X X.fw env Z s env' Z' s1)(h:SM X env' Z' s1 o fl s'):SM X env Z s o fl s' :=by
 unfold SM at*;split at h<;>first|exact h|(have⟨τ,I,y⟩:=h;exact⟨τ,I,x.trans y⟩)
def Stp.em{X:Cx}(x:Stp X X.fw env Z s env' Z' s1)(h:EM X env' Z' s1 o u s'):EM X env Z s o u s' :=by
 unfold EM at*;split at h<;>first|exact h.elim|exact x.xe h
variable{st:Vk}
def AX{X:Cx}(hm:X.gA)(h:PS X st f):QM X st (cB f):=λenv Z s o I q=>a6 q λo1 h1 q=>GaB (h env Z s o1 I h1) (λfl s' k=>by
 cases o1<;>cases q
 all_goals (cases fl<;>first|exact _ k|(obtain⟨τ,I',y⟩:=k;exact⟨τ,I',y.mono⟩)|exact k)) λx s z=>(hm x s z).elim
def HJ:QMs X [] aE:=λenv Z s o I q=>by cases q;exact GbF ⟨Z,I,Stp.refl⟩
def EH{fs:DSM}(h1:QM X st fs)(h2:QMs X rest gs):QMs X (st::rest) (aF fs gs):=λenv Z s o I q=>a6 q λo1 hq q=>Gbq (GaB (h1 env Z s o1 I hq) (λfl s1 k=>by
 cases o1<;>cases fl<;>first|exact False.elim k|skip
 .obtain⟨Z1,I1,x1⟩:=k;exact GaB (h2 _ Z1 s1 o I1 q) (λfl s2 k=>x1.sm k) λ_ _ k=>x1.em k
 .cases q;exact k
 .cases q;exact k) λx s' k=>by
  cases o1<;>first|exact False.elim k|(cases q;exact k))
theorem Ox{X:Cx}(hm:X.gA)(hc:PT X c t)(ha:QMs X ss fs)(hb:QMs X rest gs):QM X (.If c ss rest pos) (ifX t fs gs):=λenv Z s o I q=>a6 q λb hq q=>wpAny_If (GaB (hc env Z s b I hq) (λd s1 eU=>by
 obtain⟨rfl,x1⟩:=eU;have I1:=I.exp x1;cases d with
 |true=>exact GaB (ha env Z s1 o I1 q) (λfl s2 k=>x1.stp.mono.sm k) λ_ _ k=>x1.stp.mono.em k
 |false=>exact GaB (hb env Z s1 o I1 q) (λfl s2 k=>x1.stp.mono.sm k) λ_ _ k=>x1.stp.mono.em k) λx s z=>(hm x s z).elim)
theorem LK{X:Cx}(hm:X.gA)(hn:X.ni=O)(he:PE X e f):QM X (.Return (U e) pos) (Ci f):=λenv Z s o I q=>a6 q λr hr q=>by
 split at q<;>cases q
 rename_i ok;refine Gdj (GaB (he env Z s r I hr) (λv s1 ⟨x1,r1⟩=> ⟨⟨Z,I.exp x1⟩, ?_⟩) λx s z=>(hm x s z).elim);obtain⟨k,d⟩:=r;have nt:∀{P:Prop},d.top=O->d.top=M->P:=λt f=>by rw[t] at f;cases f
 cases k with
 |c=>exact⟨λtp=>absurd (.inr ⟨rfl,tp⟩) ok,λ_=>Rep.imp r1 λb z _=> .inr ⟨hn,z.1⟩⟩
 |tn=>obtain⟨tp,a,h1,h2,h3⟩:=r1;exact⟨λ_=> ⟨a,h1,I.n0 h2,h3.imp λb z=> .inr ⟨⟨hn,z.1.1⟩,z.2⟩⟩,nt tp⟩
 |to=>obtain⟨tp,a,h1,h2,h3,h4⟩:=r1;exact⟨λ_=> ⟨a,h1,h2,h4.imp λb z=> .inr ⟨⟨hn,z.1.1⟩,z.2⟩⟩,nt tp⟩
 |tb=>exact absurd (.inl rfl) ok
def HK{X:Cx}{pos:Pos}(he:PXM X e fe)(hs:swapsWith e J pos.line X.env=pure M):QM X (.Expr e pos) (AW fe):=λenv Z s o I q=>aS q λr hr h=>by
 subst h;refine GeA (GaB (he env Z s r I hr) (λv s1 k=> ?_) λx s1 k=> ?_) I.quiet hs
 .cases r<;>first|exact False.elim k|(obtain⟨τ,I',y,_⟩:=k;exact⟨τ,I',y⟩)
 .cases r<;>first|exact _ k|exact k
def HL{X:Cx}(hn:X.ni=O)(he:PXM X e fe):QM X (.Return (U e) pos) (rR fe):=λenv Z s o I q=>aS q λr hr h=>by
 subst h;refine Gdj (GaB (he env Z s r I hr) (λv s1 k=> ?_) λx s1 k=> ?_)
 .cases r<;>first|exact False.elim k|skip
  obtain⟨τ,I',y,rp,tp⟩:=k;exact⟨⟨τ,I'⟩,(λt=>by rw[tp] at t;cases t),λ_=>rp.imp λb z _=> .inr ⟨hn,z.1⟩⟩
 .cases r<;>first|exact _ k|exact k
def LL{X:Cx}{pos:Pos}(hN:X.N.Nodup)(hi:X.N[i]? =U x)(hx:Loc X x)(hf:X.fn x=O\/X.env.scope.names.lookup x=U .local)(he:PXM X e fe)(hs:swapsWith e (U (.Name x pos')) pos.line X.env=pure M):QM X (.Assign [.Name x pos'] e pos) (rf i fe):=λenv Z s o I q=>aS q λr hr h=>by
 subst h;refine Gco (GaB (he env Z s r I hr) (λv s1 k=> ?_) λx s1 k=> ?_) hs
 .cases r<;>first|exact False.elim k|skip
  obtain⟨τ,I',y,rp,tp⟩:=k;refine GaB (fX (r:=⟨.c,_⟩) I' .refl rp rfl hN hi hx hf) (λ_ s2 yy=>by obtain⟨τ2,I2,y2⟩:=yy;exact⟨τ2,I2,y.trans y2.mono⟩) λ_ _ z=>z
 .cases r<;>first|exact _ k|exact k
def Inv.Oy{X:Cx}{env env' :aM}{Z' :Vl}{s' :Vg}{o:Ob}{UR:Nat->Prop}(I:Inv X env Z s)(ho:o∈X.ob)(x:Ext X (λb=>b=o.dx) s s')(hd:∀b,s'.heap.get? o.dx=U b->¬qW b)(hl:env'.length=env.length)(out:∀i,¬UR i->env'[i]? =env[i]? /\Z' i=Z i)(nt:∀i,UR i->¬ba env[i]? /\¬ba env'[i]?)
  (hr:∀i,UR i->∀d,env'[i]? =U (U (.sh d))->Rep (Cln X env Z) s'.heap d (Z' i))(xF:ud env' Z' s'.heap o)(hv:∀i,UR i->∀x,X.N[i]? =U x->¬Vis X.env.scope x)(sep:∀o' ∈X.ob,o' =o\/(o'.dx≠o.dx/\o'.a≠o.dx/\¬UR o'.h/\∀n i,(n,i)∈o'.fs->¬UR i))
  (u6:o.dx∈X.ex\/X.s₀.heap.get? o.dx=J):Inv X env' Z' s' /\Stp X X.fw env Z s env' Z' s' :=by
 obtain⟨bd,nv,SA,_⟩:=I.ok.ob o ho;have nb:∀b,¬X.bad b->¬X.frm b:=λb n v=>n (I.ok.vb b (.inl v));have nW:∀b,¬X.bad b->b≠_:=λb n e=>n (e▸bd);have tj:=λ{i} t j=>(nt i j).2 t;have top:∀i,ba env'[i]? ↔ba env[i]? :=λi=>by
  by_cases j:UR i
  .exact⟨λt=>((nt i j).2 t).elim,λt=>((nt i j).1 t).elim⟩
  .rw[(out i j).1]
 have cl:∀b,Cln X env Z b->Cln X env' Z' b:=λb z=> ⟨z.1,λi t=>by rw[(out i (tj t)).2];exact z.2 i ((top i).mp t)⟩;have ol:∀{i},lF env'[i]? ->¬UR i/\lF env[i]? :=λ{i} t=>have j:=tj t.top;⟨j,(out i j).1▸t⟩
 have ck:∀x' c v,X.env.cells.lookup x' =U c->s.heap.IsCell c v->s'.heap.IsCell c v:=λy c v l ⟨p,g,z⟩=>by
  by_cases f:X.frm c
  .have⟨_,g⟩:=x.ex.slot c p g f;exact⟨_,g,z⟩
  .exact⟨p,x.keep c p g f (λe=>nv (.inr ⟨y,e▸l⟩)),z⟩
 refine⟨⟨I.ok,x.ex.os.trans I.os,x.ex.bare I.bare,λb p g f ne=> ?_,λb p g f=> ?_, ?_,λy c l=> ?_,λi t g=> ?_,λi j a h1 h2 e1 e2=> ?_,hl.trans I.len,λb z=>x.th b (I.bt b z),λb z=>x.th b (I.th0 b z),λb p z g=> ?_,λo' m=> ?_⟩,
  λb p g v _ w=>x.keep b p g (λz=>v (.inl z)) λe=>w ⟨o,ho,e⟩,λb ⟨i,h1,h2⟩=> ?_,λb z _=>cl b z,λi t w g=> ?_,x.th⟩
 .exact x.keep b p (I.base b p g f ne) (λv=>v.elim (λz=>by rw[z,I.ok.above] at g;cases g) f) λz=>u6.elim (λm=>ne (z▸m)) λl=>by rw[z,l] at g;cases g
 .have⟨sl,g1⟩:=I.slot b p g f;have⟨sl,g2⟩:=x.ex.slot b _ g1 (.inr f);exact⟨sl,g2⟩
 .have⟨m,⟨p,es,ep,g,r⟩,lk⟩:=I.loc;have⟨sl,g'⟩:=x.ex.slot _ p g (.inl rfl);refine⟨m,⟨_,es,ep,g',r⟩,λi y h1 h2 h3=> ?_⟩;have j:=λj=>hv i j y h1 h3;rw[(out i j).1] at h2;rw[(out i j).2];exact(lk i y h1 h2 h3).imp id λ⟨k,c,l,z⟩=> ⟨k,c,l,ck y c _ l z⟩
 .have⟨v,z⟩:=I.cell y c l;exact⟨v,ck y c v l z⟩
 .by_cases j:UR i
  .cases t with
   |sh d=>exact Rep.imp (hr i j d g) λb z _=>cl b z
   |_=>exact((nt i j).2 (by rw[g];trivial)).elim
  .rw[(out i j).1] at g;rw[(out i j).2];exact(I.sl i t g).keep (λb q f g _=> ⟨cl b f,x.keep b q g (nb b f.1) (nW b f.1)⟩) λa q n _ g _=>x.keep a q g (nb a n) (nW a n)
 .obtain⟨j1,h1⟩:=ol h1;rw[(out i j1).2] at e1;rw[(out j (tj h2)).2] at e2;exact I.dj i j a h1 ((top j).mp h2) e1 e2
 .cases q:s.heap.get? b with
  |none=>exact absurd q (I.bt b z)
  |some p' =>
   by_cases f:X.frm b
   .have⟨sl,k⟩:=x.ex.slot b p' q f;rw[k] at g;cases g;exactλt=>I.bt2 b p' z q t
   .by_cases e:b=o.dx
    .subst e;exact hd p g
    .rw[x.keep b p' q f e] at g;cases g;exact I.bt2 b _ z q
 .rcases sep o' m with rfl| ⟨q1,q2,q3,q4⟩
  .exact xF
  .have⟨_,k2,k3,_⟩:=I.ok.ob o' m;exact(I.fl o' m).keep (λb g=>x.keep _ b g (λz=>k3 (.inl z)) q2) (λb g=>x.keep _ b g (λz=>k2 (.inl z)) q1) ⟨(out _ q3).2,by rw[(out _ q3).1]⟩ λn i m=> ⟨(out i (q4 n i m)).2,by rw[(out i (q4 n i m)).1]⟩
 .have j:=tj (qX.ol h1).top;rw[(out i j).1] at h1;rw[(out i j).2] at h2;exact .inl ⟨i,h1,h2⟩
 .have j:=tj (by rw[g];cases t<;>first|exact w.elim|trivial);rw[(out i j).1] at g;exact⟨g,(out i j).2⟩
end
end
section
variable [Wd]
def Cx.sep(X:Cx)(o:Ob)(UR:Nat->Prop):Prop:=∀o' ∈X.ob,o' =o\/(o'.dx≠o.dx/\o'.a≠o.dx/\¬UR o'.h/\∀n i,(n,i)∈o'.fs->¬UR i)
section
def AY{hh:Vj}(g:hh.Ns1 b m):∀p,hh.get? b=U p->¬qW p:=λp q eU=>by
 obtain⟨_,_,_,z⟩:=eU;obtain⟨o,es,ep,g,e,_⟩:=g;lia
variable{X:Cx}
def Inv.fld{env:aM}{s s' :Vg}{o:Ob}(I:Inv X env Z s)(ho:o∈X.ob)(hj:(n,j)∈o.fs)(zP:j<X.N.length)(hu:∀p∈o.fs,(p.1=n↔p.2=j))(sp:X.sep o (· =j))(hh:o.h≠j)(u6:o.dx∈X.ex\/X.s₀.heap.get? o.dx=J)(ns:¬ba env[j]?)
  (x:Ext X (λb=>b=o.dx) s s')(n0:s.heap.Ns1 o.dx mA)(n1:s'.heap.Ns1 o.dx (λz=>if z=n then U u else mA z))(rp:Rep (Cln X env Z) s'.heap d u):
  Inv X (env.set j (U (.sh d))) (iR Z j u) s' /\Stp X X.fw env Z s (env.set j (U (.sh d))) (iR Z j u) s' :=by
 have jl:j<env.length:=I.len▸zP;obtain⟨ga,ne,⟨eh,th⟩,Tj,n2,wi,at_⟩:=I.fl o ho;obtain rfl:mA=Tj :=by
  obtain⟨p,es,ep,g,e,_,_,k⟩:=n0;obtain⟨p',QY,QZ,g',e',_,_,k'⟩:=n2;rw[g] at g';cases g';rw[e] at e';cases e'
  funext z;rw[<-k z,<-k' z]
 refine I.Oy ho x (AY n1) (by simp) (λi q=> ⟨Gax (Gbg q),aX q⟩) (λi q=> ?_) (λi q d' g=> ?_) ⟨x.keep _ _ ga (λz=>(I.ok.ob o ho).2.2.1 (.inl z)) (λz=>ne z.symm),ne,⟨by rw[aX hh];exact eh,by rw[Gax (Gbg hh)];exact th⟩,_,n1,λz hz=> ?_,λm i q=> ?_⟩ (λi q y h1=> ?_) sp u6
 .subst q;exact⟨ns,by rw[Gau jl];exact id⟩
 .subst q;rw[Gau jl] at g;cases g;rw[bp];exact rp
 .by_cases e:z=n
  .subst e;exact GaP.mpr ⟨_,hj,rfl⟩
  .simp only[Gaw e] at hz;exact wi z hz
 .by_cases e:i=j
  .subst e;have:m=n:=(hu _ q).mpr rfl;subst this;rw[Gau jl,bp];exact⟨λ_=>Gar rfl,λz=>absurd ⟨_,rfl⟩ z⟩
  .have:m≠n:=λz=>e ((hu _ q).mp z);rw[Gax (Gbg e),aX e];simp only[Gaw this];exact at_ m i q
 .subst q;exact(I.ok.ob o ho).2.2.2 n _ hj y h1
def LM{pos:Pos}{o:Ob}(hm:X.gA)(ho:o∈X.ob)(hj:(n,j)∈o.fs)(zP:j<X.N.length)(hu:∀p∈o.fs,(p.1=n↔p.2=j))(sp:X.sep o (· =j))(hh:o.h≠j)(u6:o.dx∈X.ex\/X.s₀.heap.get? o.dx=J)(hz:o.fs.length<=sizeLine)(c:kq X.K o.C)(no:PySem.W.findIn X.K (.ref o.C) n=U J)
  (hN:X.N[o.h]? =U x)(hv:Vis X.env.scope x)(hd:(x==Dgs)=M)(eO:(x==("__classdict__":Str))=M)(he:PE X e f)(hs:swapsWith e (U (.Attribute (.Name x px) n ap)) pos.line X.env=pure M):QM X (.Assign [.Attribute (.Name x px) n ap] e pos) (wH j f):=λenv Z s o' I q=>a6 q λod RP q=>a6 q λr hr q=>by
 by_cases hf:r.free=O
 case neg=>rw[Gaw hf] at q;cases q
 rw[Gar hf] at q;cases q;refine plainObj_wpAny_Assign_Attribute (GaB (he env Z s r I hr) (λv s1 eX=>(hde λG eJ=> ?_)) λx s z=>(hm x s z).elim) hs;obtain⟨x1,rv⟩:=eX;refine eJ ?_;have I1:=I.exp x1;obtain⟨ga,ne,⟨eh,th⟩,mA,n0,wi,at_⟩:=I1.fl o ho;refine fF I1 th hN hv hd eO ?_;rw[eh];refine HG I1.kIn c no ga ne n0 (λy h=>wi y h) (by simp_all) λh' tk n1 sb=> ?_;have nx:Ext X _ s1 {s1 with heap:=h',toks:=tk}:=⟨⟨rfl,id,λb p g _ k=>(sb.2 b k).trans g,λb p g fr=> ⟨_,(sb.2 b λz=>(I.ok.ob o ho).2.1 (.inl (z▸fr))).trans g⟩⟩,λb t=>by
  by_cases e:b=o.dx
  .subst e;obtain⟨p,_,_,g,_⟩:=n1;exact .of g
  .exactλz=>t ((sb.2 b e).symm.trans z)⟩
 have nt:¬ba env[j]? :=λt=>by
  unfold j6 at RP;split at RP<;>first|cases RP;done|(rename_i q;rw[q] at t;exact t)
 have⟨I2,y⟩:=I1.fld ho hj zP hu sp hh u6 nt nx n0 n1 ((rv.rep I hf).keep λb p z g _=> ⟨z,(sb.2 b λe=>z.1 (e▸(I.ok.ob o ho).1)).trans g⟩);exact⟨_,I2,x1.stp.mono.trans y⟩
end
end
section
variable [Wd]
def AZ(h h1:Vj):Vj:=⟨h.objs.mapIdx λb o=>if(h1.get? b).isSome then o else⟨o.cls,o.dict,.freed,o.slots⟩,h.life⟩
def Cj{h h1:Vj}:(AZ h h1).get? b=if(h1.get? b).isSome then h.get? b else J:=by
 generalize e:(λb=>(h1.get? b).isSome)=p;have e2:(AZ h h1).objs=h.objs.mapIdx λb o=>if p b then o else⟨o.cls,o.dict,.freed,o.slots⟩:=by subst e;rfl
 rw[(congrFun e b)];unfold Heap.get?;rw[e2,Array.getElem?_mapIdx];cases q:h.objs[b]? with
 |none=>simp
 |some o=>cases z:p b<;>simp
def upTo(s' s1:Vg):Vg:={s' with heap:=AZ s'.heap s1.heap}
def TrT.trc(t:TrT h e tb):Trc h e tb:=t.imp id λeU=>by obtain⟨T,ts,h1,h2,h3,h4⟩:=eU;exact⟨T,_,_,ts,h1,h2,h3,h4⟩
def gV{s' s1:Vg}:(upTo s' s1).heap.get? b=U o↔Th s1.heap b/\s'.heap.get? b=U o:=by
 show(AZ _ _).get? b=_↔_;rw[Cj];unfold Th;cases q:s1.heap.get? b<;>simp
def B0{s' s1:Vg}(x:∀b,Th s1.heap b->Th s'.heap b):Th (upTo s' s1).heap b↔Th s1.heap b:=by
 refine⟨λt=> ?_,λt=> ?_⟩
 .cases q:(upTo s' s1).heap.get? b with
  |none=>exact absurd q t
  |some o=>exact(gV.mp q).1
 .cases q:s'.heap.get? b with
  |none=>exact absurd q (x b t)
  |some o=>exact .of (gV.mpr ⟨t,q⟩)
def Cm{s1:Vg}(h:s1.heap.get? b=J):(upTo s' s1).heap.get? b=J:=by
 cases q:(upTo s' s1).heap.get? b with
 |none=>rfl
 |some o=>exact absurd h (gV.mp q).1
theorem Ext.upTo(x:Ext X No s1 s'):Ext X No s1 (upTo s' s1):=⟨⟨x.ex.os,x.ex.bare,λb o g f w=>gV.mpr ⟨.of g,x.keep b o g f w⟩,λb o g f=>by obtain⟨sl,k⟩:=x.ex.slot b o g f;exact⟨sl,gV.mpr ⟨.of g,k⟩⟩⟩,λb t=>(B0 x.th).mpr t⟩
def tN{s' s1:Vg}(hb:AllBare s'.gens)(x:∀b,Th s1.heap b->Th s'.heap b):iE outer (upTo s' s1) s' :=⟨rfl,hb,λb o g _=>(gV.mp g).2,λb o g _=> ⟨_,(gV.mp g).2⟩,λb t=>x b ((B0 x).mp t)⟩
def B2{X:Cx}{C:Nat}(xu:X.stack=X.env::X.outer)(ya:X.env.frame=U X.env.locals)(I:Inv X env Z s1)(x:Ext X No s1 s')(k:ExcAt (Cln X env Z) s1 s' a C n d dx t0 tb v m)
  (hQ:∀h' T,Ext X No s1 {s' with heap:=h' }->ExcAt (Cln X env Z) s1 {s' with heap:=h' } a C n d dx t0 (.ref T) v m->Q () {s' with heap:=h' }):wpX X (noteFrame (.ref a) X.env) (λ_ s' =>wpX X (setFlight (.ref a) J) Q E s') E s' :=by
 refine EC (I.ok.frames.trans (by rw[xu])) (xu▸(I.exp x).stack) ya k.fx k.tr.trc λh' T ts fe nT le ft q k1 k2=>hQ h' T ⟨⟨x.ex.os,x.ex.bare,λb o g f w=> ?_,λb o g f=> ?_⟩,λb t=> ?_⟩ ⟨fe,.inr ⟨T,ts,rfl,nT,ft,q⟩,k.na,k.nd,λT' e=> ?_,k.ne, ?_,k.mn, ?_⟩
 .exact k2 b o (λz=>by rw[z,k.na] at g;cases g) (λz=>by rw[k.nt b z] at g;cases g) (λz=>f (by
   exact I.cA b (by rw[xu];exact z))) (x.keep b o g f w)
 .obtain⟨sl,g'⟩:=x.ex.slot b o g f;obtain⟨zt,g2⟩:=k1 b _ (λz=>by rw[z,k.na] at g;cases g) (λz=>by rw[k.nt b z] at g;cases g) g';exact⟨zt,g2⟩
 .cases g:s'.heap.get? b with
  |none=>exact absurd g (x.th b t)
  |some o=>
   obtain⟨sl,g2⟩:=k1 b o (λz=>t (z▸k.na)) (λz=>t (k.nt b z)) g;exact .of g2
 .cases e;exact x.n0 (Gbc le)
 .obtain⟨o,es,ep,g,e1,r⟩:=k.ns;refine⟨o,es,ep,k2 dx o k.ne (λz=> ?_) (λz=> ?_) g,e1,r⟩
  .rcases k.tr with rfl| ⟨T,ts,rfl,_,⟨_,f⟩,_⟩
   .cases z
   .lia
  .obtain⟨_,o,g,_⟩:=I.stack.mem (by rw[xu];exact z);rw[k.nd] at g;cases g
 .refine k.rep.keep λb o f g ni=> ⟨f,k2 b o f.2 (λz=> ?_) (λz=>f.1.1 (I.ok.vb b (.inl (I.cA b (by rw[xu];exact z))))) g⟩;rcases k.tr with rfl| ⟨T,ts,rfl,_,⟨_,ft⟩,_⟩
  .cases z
  .cases z;rw[ft] at g;cases g;exact ni ⟨_,_,rfl,rfl⟩
end
end NL
namespace DL
inductive RM where
 |ret (d:D)
 |rz (C:Nat) (n:PySem.Str) (d:D)
abbrev SpM:=List (Option D)->List D->Option (RM×List (Option D))
def j7:List (Option Slot)->Option (List (Option D))
 |[]=>U []
 |none::r=>(j7 r).map (J:: ·)
 |some (.sh d)::r=>(j7 r).map (U d:: ·)
 |_=>J
def fJ(n:Nat):OX->Option (RM×List (Option D))
 | .nx e=>(j7 (e.drop n)).map λos=>(.ret .non,os)
 | .ret d e=>(j7 (e.drop n)).map λos=>(.ret d,os)
 | .rz C m d e=>(j7 (e.drop n)).map λos=>(.rz C m d,os)
 | .fin _=>J
def j8(n np C:Nat)(b:DSM):SpM:=λos ds=>if ds.length=np then(b (bY n (.ins C::ds)++os.map (Option.map Slot.sh))).bind (fJ n) else J
def gW:Env->List Nat->List (Option D)->Env
 |e,j::js,o::os=>gW (e.set j (o.map .sh)) js os
 |e,_,_=>e
def wI:RM->Env->OV
 | .ret d,e=> .v d e
 | .rz C n d,e=> .rz C n d e
def RM.flat:RM->Bool
 | .ret d=> !d.top
 |_=>O
def cY(C h:Nat)(js:List Nat)(sp:SpM)(a:DA):DEM:=λenv=>(a env).bind λrs=>if rs.all (·.free)=O then(objs env C h js).bind λos=>(sp os (rs.map (·.d))).bind λr=>if r.1.flat=O then U (wI r.1 (gW env js r.2)) else J else J
end DL
namespace NL
open PySem PySem.Spec PyProof.Rows DL
section
variable [Wd]
structure uQ(outer:List f7)(dx:Vh)(s s' :Vg):Prop where
 os:s'.os=s.os
 bare:AllBare s'.gens
 keep:∀b o,s.heap.get? b=U o->b∉frs outer->b≠dx->s'.heap.get? b=U o
 slot:∀b o,s.heap.get? b=U o->b∈frs outer->∃sl,s'.heap.get? b=U {o with slots:=sl}
 th:∀b,Th s.heap b->Th s'.heap b
def Qk(outer:List f7)(B:Vh->Prop)(s s1 s' :Vg)(r:Except Vf Flow)(m:RM):Prop:=match m with
 | .ret d=>s1=s' /\∃u,r= .ok (.ret u)/\Res (nN O B) s s' d u
 | .rz C n d=>∃e QE t0 tb v mm,r= .error (.ref e)/\ExcAt (nF outer B) s1 s' e C n d QE t0 tb v mm
structure FnM(K:FrW)(mg:Str->Option Vf)(base:Vj)(k:Nat)(f:Vh)(fd:Vr)(p0:Str)(ps:List Str)(C:Vh)(ns:List Str)(sp:SpM):Prop where
 len:∀os ds r,sp os ds=U r->ds.length=ps.length
 run:∀(A:Vm) (outer:List f7) (B:Vh->Prop) (s:Vg) (args:Args) (us:List Vf) (ds:List D) (os:List (Option D)) (vs:List Vf) (a dx:Vh) (m:RM) (xb :List (Option D)),bU k A->pj K mg base A outer B s->B dx->dx∉frs outer->nF outer B a->base.get? dx=J->
  BindsTo s fd args ((p0::ps).zip (.ref a::us))->gU (nF outer B) s.heap a dx C ns os vs->aP (nF outer B) s.heap ds us->sp os ds=U (m,xb)->
  codeAny (model Wd.p Wd.w) A (.call (.ref f) args) (λr s' =>∃s1 xK,uQ outer dx s s1/\gU (nF outer B) s1.heap a dx C ns xb xK /\iE outer s1 s' /\Qk outer B s s1 s' r m) s
theorem ExcAt.imp{s1 Sy :Vg}(k:ExcAt F s1 s' a C n d dx t0 tb v m)(hF:∀b,F b->F' b)(h1:∀b,s1.heap.get? b=J->Sy.heap.get? b=J):ExcAt F' Sy s' a C n d dx t0 tb v m:=
 ⟨k.fx,k.tr,h1 _ k.na,h1 _ k.nd,λT e=>h1 _ (k.nt T e),k.ne,k.ns,k.mn,k.rep.imp λb z _=> ⟨hF b z.1,z.2⟩⟩
theorem qp:∀{l:List (Option Slot)} {os},j7 l=U os->l=hid os
 |[],_,h=>by cases h;rfl
 |none::r,_,h=>by obtain⟨os,h1,rfl⟩:=Gab.mp h;rw[qp h1];rfl
 |some (.sh d)::r,_,h=>by obtain⟨os,h1,rfl⟩:=Gab.mp h;rw[qp h1];rfl
 |some (.own _)::_,_,h=>by cases h
 |some (.lok _)::_,_,h=>by cases h
 |some (.bor _)::_,_,h=>by cases h
def Inv.LN{X:Cx}{e:aM}{s:Vg}{PN ns:List Str}(I:Inv (X.wo PN (iA a dx C X.N.length ns) ex) e Z s)(hp:PN.length=ns.length)(r:j7 (e.drop X.N.length)=U xb):gU (Cln (X.wo PN (iA a dx C X.N.length ns) ex) e Z) s.heap a dx C ns xb ((List.range ns.length).map λi=>Z (X.N.length+i)):=by
 obtain⟨ga,ne,_,mA,n1,wi,at_⟩:=I.fl _ (GcU _);have le:_=(_++PN).length:=I.len;have dr:=qp r;have ll:=congrArg List.length dr;simp at ll le;have lo:ns.length=xb.length:=by simp_all
 refine⟨ga,ne,⟨lo,by simp[lo]⟩,mA,n1,λn hn=> ?_,λi n od v h1 h2 h3=> ?_⟩
 .have:=wi n hn
  simpa[iA] using this
 .rw[Gaj] at h3;obtain⟨j,hj,rfl⟩:=Gab.mp h3;obtain⟨_,rfl⟩:=Gae.mp hj;rw[List.getElem_range];have eg:e[X.N.length+i]? =U (od.map Slot.sh):=by rw[<-Gbf,dr,Gaj,h2];rfl
  obtain⟨k1,k2⟩:=at_ _ _ (Gdw.mpr ⟨Gee _ _,by simpa using h1⟩);refine⟨λd hd=> ?_,λhd=> ?_⟩
  .subst hd;exact⟨k1 ⟨_,eg⟩,I.sl _ _ eg⟩
  .subst hd;exact k2 λ⟨t,z⟩=>by rw[eg] at z;cases z
def LO{K:FrW}{base:Vj}{N ps ns:List Str}(lk:K.lookup f=U ⟨oc,od,.func (PySem.W.fnOf name qual params body scope dV kV doc pm an eS ct),xY⟩)(eO:PySem.W.codeIn K eS qual=O)
  (S:bH N (p0::ps) scope)(xN:ps.length=np)(hp:PN.length=ns.length)(hJ:∀x∈PN,scope.names.lookup x=J)
  (xk:∀A outer B s a dx,base.get? dx=J->bU k (A.deeper (envOfC qual scope s.heap.objs.size f eS))->QMs ((lW K mg base O B N qual scope f eS A outer s).wo PN (iA a dx C N.length ns) [dx]) body b):
  FnM K mg base (k+1) f (PySem.W.fnOf name qual params body scope dV kV doc pm an eS ct) p0 ps C ns (j8 N.length np C b):=by
 have len:∀os ds r,j8 N.length np C b os ds=U r->ds.length=ps.length:=λos ds d h=>by unfold j8 at h;split at h<;>first|(rw[xN];assumption)|cases h
 refine⟨len,λA outer B s args us ds os vs a dx m xb hr e0 bd nd na nb hb ia r eW=> ?_⟩;have hl:=len _ _ _ eW;have KX:=e0.mod.kin.keeps e0.bs;have hkind:∀y∈(p0::ps).zip (.ref a::us),scope.names.lookup y.1=U .local\/(scope.names.lookup y.1=U .cell/\((cellsFrom (s.heap.objs.size+1) _ []).lookup y.1).isSome=O):=λeU hy=>by
  obtain⟨n,v⟩:=eU;rcases S.par n (GcA hy).1 with q|q
  .exact .inl q
  .exact .inr ⟨q,GbX _ _ _ (.inl q)⟩
 refine GcB hr.depth (KX _ _ lk) rfl S.co S.gen rfl (GcX KX eO) (hb _ _ _ _ (GbZ S.kind hkind λenv he s1 x=> ?_));subst he;refine⟨(e0.mod.nolimit.keeps e0.bs).keeps x.toInCall.keep,Geo ?_⟩;unfold j8 at eW;rw[Gar (by lia)] at eW;refine a6 eW λo ho q=> ?_;have nf:∀{e' Z'} b,Cln ((lW K mg base O B N qual scope f eS A outer s).wo PN (iA a dx C N.length ns) [dx]) e' Z' b->nF outer B b:=λb z=> ⟨λm=>z.1 (.inl (.inl (.inr m))),λy=>z.1 (.inr y)⟩;have fin:∀{e' Z' z},Inv ((lW K mg base O B N qual scope f eS A outer s).wo PN (iA a dx C N.length ns) [dx]) e' Z' z->uQ outer dx s z:=λI' => ⟨I'.os,I'.bare,λb o g n h=>I'.base b o g n (λz=>h (Gam.mp z)),λb o g n=>I'.slot b o g n,I'.th0⟩;have ins:∀{e' Z' z xb},Inv ((lW K mg base O B N qual scope f eS A outer s).wo PN _ [dx]) e' Z' z->j7 _=U xb ->∃xK,gU _ _ a dx C ns xb xK :=λI' q=>by
  obtain⟨h1,h2,h3,mA,h4,h5,h6⟩:=I'.LN hp q;exact⟨_,h1,h2,h3,mA,h4,h5,λi n od v g1 g2 g3=> ⟨λd e=> ⟨((h6 i n od v g1 g2 g3).1 d e).1,((h6 i n od v g1 g2 g3).1 d e).2.imp λb z _=>nf b z⟩,(h6 i n od v g1 g2 g3).2⟩⟩
 refine GaB (xk A outer B s a dx nb (hr.deeper _) _ _ s1 o (rQ (ni:=O) (by rw[hp];exact ia.2.2.1.1) hJ S hr.hd e0 (by simp[hl]) x bd nd na nb ia r (λb z=>Gam.mp z)) ho) (λfl s' hs=> ?_) λe s' hs=> ?_
 .cases o<;>cases fl<;>first|exact False.elim hs|(cases q;done)|skip
  .obtain⟨Sz,h1,h2⟩:=Gab.mp q;cases h2;obtain⟨Z',I',_⟩:=hs;obtain⟨xK,yB⟩:=ins I' h1;exact⟨s',xK,fin I',yB,⟨rfl,I'.bare,λ_ _ g _=>g,λ_ o g _=> ⟨o.slots,g⟩,λ_ t=>t⟩,rfl,_,rfl,(λh=>nomatch h),λ_=> .one trivial⟩
  .obtain⟨Sz,h1,h2⟩:=Gab.mp q;cases h2;obtain⟨⟨Z',I'⟩,rs⟩:=hs;obtain⟨xK,yB⟩:=ins I' h1;exact⟨s',xK,fin I',yB,⟨rfl,I'.bare,λ_ _ g _=>g,λ_ o g _=> ⟨o.slots,g⟩,λ_ t=>t⟩,rfl,_,rfl,rs.imp λb z=> ⟨rfl,λy=>z.2 (.inr y)⟩⟩
 .cases o<;>first|exact False.elim hs|skip
  obtain⟨Sz,h1,h2⟩:=Gab.mp q;cases h2;obtain⟨Z',z1,ea,QE,t0,tb,v,mm,rfl,I1,_,x1,kx⟩:=hs;refine Cd (B2 rfl rfl I1 x1 kx λh' T x2 k2=> ?_);obtain⟨xK,yB⟩:=ins (I1.exp x2.upTo) h1;exact⟨_,xK,fin (I1.exp x2.upTo),yB,tN (x2.ex.bare I1.bare) x2.th,ea,QE,t0,.ref T,v,mm,rfl,k2.imp nf λb z=>Cm z⟩
end
section
variable [Wd]
def qr:Vl->List Nat->List Vf->Vl
 |Z,j::js,v::vs=>qr (iR Z j v) js vs
 |Z,_,_=>Z
section
theorem uR:∀{e:aM} {js os},(gW e js os).length=e.length
 |e,[],_=>by cases‹List _›<;>rfl
 |e,j::js,[]=>rfl
 |e,j::js,o::os=>by rw[gW,uR,Gdb]
theorem n6:∀{e:aM} {js os},i∉js->(gW e js os)[i]? =e[i]?
 |e,[],_,h=>by cases‹List _›<;>rfl
 |e,j::js,[],h=>rfl
 |e,j::js,o::os,h=>by rw[gW,n6 (λz=>h (Gaf _ z)),Gax (λz=>h (by rw[z];exact Gai))]
theorem n7:∀{Z:Vl} {js vs},i∉js->qr Z js vs i=Z i
 |Z,[],_,h=>by cases‹List Vf›<;>rfl
 |Z,j::js,[],h=>rfl
 |Z,j::js,v::vs,h=>by rw[qr,n7 (λz=>h (Gaf _ z)),aX (λz=>h (by rw[z];exact Gai))]
theorem B3:∀{e:aM} {js os} {k:Nat} {od},js.Nodup->(∀j∈js,j<e.length)->js[k]? =U j->os[k]? =U od->(gW e js os)[j]? =U (od.map .sh)
 |e,j' ::js,o::os,0,_,nd,lt,h1,h2=>by
  cases h1;cases h2
  rw[gW,n6 (GbO.mp nd).1,Gau (lt _ Gai)]
 |e,j' ::js,o::os,k+1,_,nd,lt,h1,h2=>by
  rw[gW];exact B3 (GbO.mp nd).2 (λj m=>by rw[Gdb];exact lt j (Gaf _ m)) h1 h2
theorem B4:∀{Z:Vl} {js vs} {k:Nat} {v},js.Nodup->js[k]? =U j->vs[k]? =U v->qr Z js vs j=v
 |Z,j' ::js,o::os,0,_,nd,h1,h2=>by
  cases h1;cases h2
  rw[qr,n7 (GbO.mp nd).1,bp]
 |Z,j' ::js,o::os,k+1,_,nd,h1,h2=>by rw[qr];exact B4 (GbO.mp nd).2 h1 h2
def rT{env:aM}{os:List (Option D)}{js:List Nat}{j:Nat}(e:objs env C h js=U os)(hj:j∈js):j<env.length/\¬ba env[j]? :=by
 obtain⟨_,l,k⟩:=AV (j0:=[]) e;obtain⟨i,hi⟩:=Gbs hj;have eV :i<os.length:=by rw[l];exact(Gae.mp hi).1
 have sl:=k i j _ hi (Gaa eV);unfold j6 at sl;split at sl
 .rename_i d q;exact⟨(Gae.mp q).1,by rw[q];exact id⟩
 .rename_i q;exact⟨(Gae.mp q).1,by rw[q];exact id⟩
 .cases sl
variable{X:Cx}
def uQ.ext(I:Inv X env Z s)(nv:¬X.vol dx)(c:uQ X.stack dx s s'):Ext X (λb=>b=dx) s s' :=
 ⟨⟨c.os,λ_=>c.bare,λb o g f n=>c.keep b o g (λm=>f (I.cA b m)) n,λb o g f=>(Classical.em _).elim (c.slot b o g) λn=> ⟨_,c.keep b o g n λe=>nv (.inl (e▸f))⟩⟩,c.th⟩
def EI{eo:Array Vf}{hh:Vj}(g:hh.Ns1 b m):∀p,hh.get? b=U p->¬qW p:=λp q eU=>by
 obtain⟨_,_,_,z⟩:=eU;obtain⟨o,es,ep,g,e,_⟩:=g;lia
def Inv.Oz{os:List (Option D)}{s' :Vg}{js:List Nat}{ns:List Str}{o:Ob}(I:Inv X env Z s)(ho:o∈X.ob)(hh:o.h=h)(hf:o.fs=ns.zip js)(hl:ns.length=js.length)(nd:js.Nodup)(nh:h∉js)(sp:X.sep o (· ∈js))(u6:o.dx∈X.ex\/X.s₀.heap.get? o.dx=J)(e:objs env C h js=U os)(c:uQ X.stack o.dx s s')
  (ia:gU (Cln X env Z) s'.heap o.a o.dx o.C ns xb vs):Inv X (gW env js xb) (qr Z js vs) s' /\Stp X X.fw env Z s (gW env js xb) (qr Z js vs) s' /\∀b,Cln X env Z b->Cln X (gW env js xb) (qr Z js vs) b:=by
 refine hde λG fin=> ?_;obtain⟨ga,ne,⟨l1,l2⟩,mA,n1,wi,at_⟩:=ia;obtain⟨_,_,⟨eh,th⟩,_⟩:=I.fl o ho;subst hh;have lt:∀j∈js,j<env.length:=λj m=>(rT e m).1;have at' :∀i∈js,∃(k:Nat) (od:Option D) (v:Vf) (n:Str),js[k]? =U i/\xb[k]? =U od/\vs[k]? =U v/\ns[k]? =U n/\(gW env js xb)[i]? =U (od.map .sh)/\qr Z js vs i=v:=λi m=>by
  refine hde λG fin=> ?_;obtain⟨k,hk⟩:=Gbs m;have kl:=(Gae.mp hk).1;have e1:xb[k]? =U xb[k]:=Gaa (by lia);have e2:vs[k]? =U vs[k]:=Gaa (by lia);refine fin ?_;exact⟨k,_,_,ns[k],hk,e1,e2,Gaa (by lia),B3 nd lt hk e1,B4 nd hk e2⟩
 have nt2:∀i∈js,¬ba (gW env js xb)[i]? :=λi m=>by
  refine hde λG fin=> ?_;obtain⟨k,od,v,n,_,_,_,_,e1,_⟩:=at' i m;refine fin ?_;rw[e1];cases od<;>exact id
 refine fin ?_;have⟨I',st⟩:=I.Oy (env' :=DL.gW env js xb) (Z' :=qr Z js vs) (UR:=(· ∈js)) ho (c.ext I (I.ok.ob o ho).2.1) (EI (eo:=#[]) n1) uR (λi n=> ⟨n6 n,n7 n⟩) (λi m=> ⟨(rT e m).2,nt2 i m⟩) (λi m d g=> ?_) ⟨ga,ne,⟨by rw[n7 nh];exact eh,by rw[n6 nh];exact th⟩,mA,n1,λn hn=> ?_,λn i m=> ?_⟩ (λi m x hx=> ?_) sp u6
 .refine⟨I',st,λb z=> ⟨z.1,λi t=> ?_⟩⟩;by_cases m:i∈js
  .exact(nt2 i m t).elim
  .rw[n6 m] at t;rw[n7 m];exact z.2 i t
 .obtain⟨k,od,v,n,h1,h2,h3,h4,e1,e2⟩:=at' i m;refine hde λG fin=> ?_;rw[e1] at g;refine fin ?_;cases od<;>cases g
  rw[e2];exact((at_ k n _ v h4 h2 h3).1 _ rfl).2
 .rw[hf,Geg (by lia)];exact wi n hn
 .rw[hf] at m;refine hde λG fin=> ?_;obtain⟨k,hk⟩:=Gbs m;rw[Gci] at hk;obtain⟨k',od,v,n',h1,h2,h3,h4,e1,e2⟩:=at' i (GaH hk.2);have ek:k' =k:=(GeJ (Gae.mp h1).1 nd).mp (h1.trans hk.2.symm);subst ek;obtain⟨k1,k2⟩:=at_ k' n od v hk.1 h2 h3;refine fin ?_;rw[e1,e2];cases od with
  |none=>exact⟨(λyz=>by obtain⟨t,z⟩:=yz;exact nomatch z),λ_=>k2 rfl⟩
  |some d=>exact⟨λ_=>(k1 d rfl).1,λz=>absurd ⟨_,rfl⟩ z⟩
 .obtain⟨k,hk⟩:=Gbs m;have kl:=(Gae.mp hk).1;exact(I.ok.ob o ho).2.2.2 ns[k] i (by rw[hf];exact GaH (i:=k) (by rw[Gci];exact⟨Gaa (by lia),hk⟩)) x hx
end
structure HM(X:Cx)(o:Ob)(ns:List Str)(js:List Nat):Prop where
 mem:o∈X.ob
 fs:o.fs=ns.zip js
 len:ns.length=js.length
 nd:js.Nodup
 nh:o.h∉js
 sep:X.sep o (· ∈js)
 u6:o.dx∈X.ex\/X.s₀.heap.get? o.dx=J
 nb:X.base.get? o.dx=J
def B5{X:Cx}{s:Vg}{os:List (Option D)}{js:List Nat}{ns:List Str}{o:Ob}{p0:Str}{sp:SpM}{m:RM}(F:FnM X.K X.mg X.base k f fd p0 ps o.C ns sp)(hr:bU k X.A)(hb:Binds X.K fd (p0::ps))(I:Inv X env Z s)(US:HM X o ns js)(e:objs env o.C o.h js=U os)(r:aP (Cln X env Z) s.heap ds us)(eW:sp os ds=U (m,xb))(hm:m.flat=O):
  wpX X (call (.ref f) (.ref o.a::us)) (VM X env Z s (wI m (gW env js xb))) (EV X env Z s (wI m (gW env js xb))) s:=by
 obtain⟨ia,ca⟩:=I.ins US.mem rfl US.fs US.len e;have ob:=I.ok.ob o US.mem;have nF1:∀b,Cln X env Z b->nF _ (nN O _) b:=λb z=> ⟨λm=>z.1 (I.ok.vb b (.inl (I.cA b m))),λy=>y.2 z⟩;have cl:∀b,nF X.stack (nN O _) b->Cln X env Z b:=λb z=>GaO λn=>z.2 ⟨rfl,n⟩;refine GcJ (Gdn (F.run _ _ _ s ⟨.ref _::us,[]⟩ us ds os _ _ _ m xb hr (I.Dm O) ⟨rfl,λz=>z.1 ob.1⟩ (λm=>ob.2.1 (.inl (I.cA _ m))) (nF1 _ ca) US.nb (hb s _ I.kIn (by rw[GaC,GaC,<-r.1,F.len _ _ _ eW])) (ia.of I) (r.keep λb o z g _=> ⟨nF1 b z,g⟩) eW) λr s' eX=>hde λG eJ=> ?_);obtain⟨s1,xK,c,yB,c2,q⟩:=eX;refine eJ ?_;obtain⟨h1,h2,h3,mA,h4,h5,h6⟩:=yB;obtain⟨I1,st,SY⟩:=I.Oz US.mem rfl US.fs US.len US.nd US.nh US.sep US.u6 e c ⟨h1,h2,h3,mA,h4,h5,λi n od v g1 g2 g3=> ⟨λd e=> ⟨((h6 i n od v g1 g2 g3).1 d e).1,((h6 i n od v g1 g2 g3).1 d e).2.imp λb z _=>cl b z⟩,(h6 i n od v g1 g2 g3).2⟩⟩;cases m with
 |ret d=>
  obtain⟨rfl,u,rfl,rs⟩:=q;have tp:d.top=M:=by simpa[RM.flat] using hm
  exact⟨_,I1,st,(rs.2 tp).imp λb z _=>z.elim (λz=>I1.sQ z) λz=>SY b (GaO λn=>z.2 ⟨rfl,n⟩),tp⟩
 |rz C n d=>
  obtain⟨e,QE,t0,tb,v,mm,rfl,kx⟩:=q;exact⟨_,s1,e,QE,t0,tb,v,mm,rfl,I1,st,c2.ext I1,kx.imp (λb z=>SY b (cl b z)) λ_ z=>z⟩
end
section
variable [Wd]
section
variable{X:Cx}
def Stp.vm(x:Stp X X.fw env Z s env' Z' s1)(h:VM X env' Z' s1 r u s'):VM X env Z s r u s' :=by
 cases r with
 |v d e=>have⟨τ,I,y,z⟩:=h;exact⟨τ,I,x.trans y,z⟩
 |rz=>exact h.elim
def Stp.ev(x:Stp X X.fw env Z s env' Z' s1)(h:EV X env' Z' s1 r u s'):EV X env Z s r u s' :=by
 cases r with
 |v d e=>exact h.elim
 |rz=>exact Stp.xe x h
def EJ{js:List Nat}{ns:List Str}{o:Ob}{p0:Str}{sp:SpM}{ap cp:Pos}{args:List Vi}(xH:X.gA)(F:FnM X.K X.mg X.base k f fd p0 ps o.C ns sp)(hr:bU k X.A)(hb:Binds X.K fd (p0::ps))(US:HM X o ns js)
  (c:kq X.K o.C)(hm:PySem.W.findIn X.K (.ref o.C) m=U (U (.ref f)))(Sb:PySem.W.isFn X.K (.ref f)=O)(hk:PySem.W.keepIn X.K (.ref f)=O)(xZ:m∉ns)(hN:X.N[o.h]? =U x)(hv:Vis X.env.scope x)(hd:(x==Dgs)=M)(eO:(x==("__classdict__":Str))=M)
  (ha:PA X args ra)(xu:(args=[]/\ra=aL)\/∃e es,args=e::es/\starEach (e::es) X.env=(M,eval e X.env)::starEach es X.env/\(backTo cp (starEach es X.env)).any (·.1)=M)
  (xv:((backTo cp (starEach args X.env)).all (λx=> !x.1)&&(backToKw cp (keywordEach [] X.env)).all (λx=>x.1.isSome)&&decide (args.length+([]:List Keyword).length+(if([]:List Keyword).isEmpty then 0 else 1)<30))=O)(eN:(ap.endLine==cp.line)=O):
  PXM X (.Call (.Attribute (.Name x px) m ap) args [] cp) (cY o.C o.h js sp ra):=λenv Z s r I q=>a6 q λrs xp q=>by
 split at q<;>first|cases q;done|skip
 rename_i hfree;refine a6 q λos yk q=>a6 q λmo eW q=> ?_;obtain⟨mm,xb⟩:=mo;by_cases xT:mm.flat=O
 case neg=>rw[Gaw xT] at q;cases q
 rw[Gar xT] at q;cases q;obtain⟨ga,ne,⟨eh,th⟩,mA,n1,wi,_⟩:=I.fl o US.mem;have no:=GaO λz=>xZ (by
  have:=wi m z
  rwa[US.fs,Geg (by have:=US.len;simp[*])] at this)
 refine rP rfl xv eN (fF I th hN hv hd eO ⟨_,_,_,f,mA,eh,I.kIn,c,hm,Sb,ga,n1,no, ?_⟩);have fin:∀{us:List Vf} {s1:Vg},Ext X No s s1->Paired _ rs us->wpAny _ _ _ _ _ s1:=λ{us s1} x1 p=>
  GaB (B5 F hr hb (I.exp x1) US yk (gG I p hfree) eW xT) (λu s2 q=>Stp.vm x1.stp.mono q) λu s2 q=>Stp.ev x1.stp.mono q
 rcases xu with⟨rfl,rfl⟩| ⟨e,es,rfl,h1,h2⟩
 .cases xp;exact PySem.W.callWith_K0 I.kIn hk (fin (Ext.refl) .nil)
 .exact Gce I.ok.mod.kin hk (GaB (ha cp env Z s rs I xp) (λus s1 eU=>by obtain⟨x1,p⟩:=eU;exact⟨(I.exp x1).kIn,fin x1 p⟩) λx s z=>(xH x s z).elim) h1 h2
def LP{js:List Nat}{ns:List Str}{o:Ob}{p0:Str}{sp:SpM}(xH:X.gA)(F:FnM X.K X.mg X.base k f fd p0 ps o.C ns sp)(hr:bU k X.A)(hb:Binds X.K fd (p0::ps))(US:HM X o ns js)(hg:Gl X fn)(yl:X.mg fn=U (.ref f))(hk:PySem.W.keepIn X.K (.ref f)=O)
  (hN:X.N[o.h]? =U x)(hv:Vis X.env.scope x)(hd:(x==Dgs)=M)(eO:(x==("__classdict__":Str))=M)(zQ:(fn==Dgs)=M)
  (ha:PA X es ra)(he:starEach (.Name x px::es) X.env=(M,eval (.Name x px) X.env)::starEach es X.env)(xg:(backTo cp (starEach es X.env)).any (·.1)=M):
  PXM X (.Call (.Name fn ap) (.Name x px::es) [] cp) (cY o.C o.h js sp ra):=λenv Z s r I q=>a6 q λrs xp q=>by
 split at q<;>first|cases q;done|skip
 rename_i hfree;refine a6 q λos yk q=>a6 q λmo eW q=> ?_;obtain⟨mm,xb⟩:=mo;by_cases xT:mm.flat=O
 case neg=>rw[Gaw xT] at q;cases q
 rw[Gar xT] at q;cases q;obtain⟨ga,ne,⟨eh,th⟩,mA,n1,wi,_⟩:=I.fl o US.mem;refine Gbu (je I hg yl (Gce I.ok.mod.kin hk (GaX (fF I th hN hv hd eO (GaB (ha cp env Z s rs I xp) (λus s1 ⟨x1,p⟩=> ⟨(I.exp x1).kIn, ?_⟩) λx s z=>(xH x s z).elim))) he xg) zQ);rw[eh];exact GaB (B5 F hr hb (I.exp x1) US yk (gG I p hfree) eW xT) (λu s2 q=>Stp.vm x1.stp.mono q) λu s2 q=>Stp.ev x1.stp.mono q
end
end
open PySem.W (method_cls cls_value)
section
variable [Wd]
def uS:1<=sizeLine:=by decide
section
variable{z:Vg}{m:Str->Option Vf}{C e:Vh}{b n:Str}{v:Vf}
def OC(z:Vg)(e C:Vh)(n:Str)(v:Vf)(s' :Vg):Prop:=∃t1 dx m,FX s'.heap e (.ref C) (U dx) #[.ref t1,.none,.none,.none,.bool M,.none]/\s'.heap.Ns1 dx m/\m n=U v/\z.heap.get? dx=J/\dx≠e/\s'.os=z.os/\s'.gens=z.gens/\∀b o,b≠e->z.heap.get? b=U o->s'.heap.get? b=U o
def uT{K:FrW}{env:f7}{p2 p6 xX:Pos}(X:K.In z.heap)(hk:env.scope.kind= .function)(yM:env.globals=mainGlobals)(xZ:z.heap.Ns mainGlobals mg)(hl:z.heap.Ns env.locals m)(bs:XBs K B)(cl:XCl K B C f n)(fx:FX z.heap e (.ref C) J #[.ref t0,.none,.none,.none,.bool M,.none])(ne:env.locals≠e)(nk:∀a o,K.lookup a=U o->a≠e)
  (hm:mg b=U (.ref B))(hg:env.kindOf b=U .globalImplicit)(h1:env.kindOf ("self":Str)=U .local)(h2:env.kindOf y=U .local)(m1:m "self"=U (.ref e))(m2:m y=U v)(xw:(b==Dgs)=M)(yN:(y==Dgs)=M)
  (ht:∃pl,eval (.Call (.Attribute (.Name b p1) "__init__" p2) [.Name "self" p3,.Name y p4] [] p5) env=(do
   let ov<-eval (.Name b p1) env
   standAt p2.atName
   let(f,first)<-holding [ov] (getMethod ov "__init__" pl)
   callWith p5 f first (backTo p5 (starEach [.Name "self" p3,.Name y p4] env)) (backToKw p5 (keywordEach [] env))))
  (xG:swapsWith (.Call (.Attribute (.Name b p1) "__init__" p2) [.Name "self" p3,.Name y p4] [] p5) J p6.line env=pure M)(eQ:swapsWith (.Name y p9) (U (.Attribute (.Name "self" p7) n p8)) xX.line env=pure M):
  wpAny (model prog w) A (execs [.Expr (.Call (.Attribute (.Name b p1) "__init__" p2) [.Name "self" p3,.Name y p4] [] p5) p6,.Assign [.Attribute (.Name "self" p7) n p8] (.Name y p9) xX] env) (λfl s' =>fl= .next/\OC z e C n v s') E z:=by
 refine hde λG fin=> ?_;have ld:∀{x u:_} {p:Pos} {Q:VSP} {s' :Vg} {E'},env.kindOf x=U .local->m x=U u->_=M->s'.heap.Ns _ m->Q u s' ->wpAny (model prog w) A (eval (.Name x p) env) Q E' s' :=λk q d n h=>wpAny_Name (Gel hk k n q h) d;have xB:(("self")==("__debug__"))=M:=by decide
 obtain⟨pl,ht⟩:=ht;obtain⟨sl,q0⟩:=fx;refine fin (Gbq (GeA (PySem.W.methodCall_KW (GcG hk hg (Calls.loadGlobal_global (by simp_all) hm (method_cls X bs.sp (cls_value X bs.rd bs.fc rfl (Gck (GaX (ld h1 m1 xB hl (GaX (ld h2 m2 yN hl (GbA (hde λG fin=> ?_)))))) rfl (by rfl))))) xw) ht) (by simp[interactive,hk]) xG));obtain⟨nm,qq,N,hV,hd,sn,sub,ab,col,dd,k0,k1,k2,k3,k5,mN,oI,hC,T,_⟩:=cl.obj _ X;obtain⟨hh,g,d,tk,os⟩:=z;refine fin (EB Gdx T hC q0 (λh' e1 e2 k=> ?_) uS);have lk' :∀{a:Vh} {mm},a≠e->hh.Ns a mm->h'.Ns a mm:=λne eU=>by obtain⟨o,es,ep,g,r⟩:=eU;exact⟨o,es,ep,k _ _ ne g,r⟩
 refine hde λG fin=> ?_;obtain⟨cd,c1,c2,c3⟩:=cl.cd;refine fin (Gbq (plainObj_wpAny_Assign_Attribute (ld h2 m2 yN (lk' ne hl) (ld h1 m1 xB (lk' ne hl) (uO (λa o l=>k a o (nk a o l) (X a o l)) cl.st cl.ob c1 c2 c3 cl.nf ⟨_,e1⟩ λh2 zo f2 n2 k2=>GbF ⟨rfl,hh.objs.size,h'.objs.size,_,f2,n2,Gar rfl, ?_, ?_,rfl,rfl,λb o nb g=>k2 b o nb (k b o nb g)⟩))) eQ))
 .cases g:hh.get? h'.objs.size with
  |none=>rfl
  |some o=>
   by_cases q:h'.objs.size=e
   .have:=e1;rw[<-q,aJ] at this;cases this
   .have:=k _ _ q g;rw[aJ] at this;cases this
 .exact Ger (Gbj e1)
end
def InF(cp:Bool)(F:Vh->Prop)(h:Vj)(d:D)(v:Vf):Prop:=match cp with
 |true=>∃ds a,d= .lst ds/\v= .ref a/\Top F h d a
 |false=>Rep F h d v
structure ku(K:FrW)(mg:Str->Option Vf)(base:Vj)(f:Vh)(fd:Vr)(x:Str)(C:Vh)(n:Str)(cp:Bool):Prop where
 run:∀(A:Vm) (outer:List f7) (B F:Vh->Prop) (s:Vg) (args:Args) (e t0:Vh) (v:Vf) (d:D),bU 2 A->pj K mg base A outer B s->BindsTo s fd args ([("self":Str),x].zip [.ref e,v])->FX s.heap e (.ref C) J #[.ref t0,.none,.none,.none,.bool M,.none]->base.get? e=J->(∀b,F b->b≠e)->InF cp F s.heap d v->
  codeAny (model Wd.p Wd.w) A (.call (.ref f) args) (λr s' =>r= .ok (.ret .none)/\∃t1 dx m v',FX s'.heap e (.ref C) (U dx) #[.ref t1,.none,.none,.none,.bool M,.none]/\s'.heap.Ns1 dx m/\m n=U v' /\s.heap.get? dx=J/\dx≠e/\s'.os=s.os/\s'.gens=s.gens/\(∀b o,b≠e->s.heap.get? b=U o->s'.heap.get? b=U o)/\Rep (λb=>(F b\/s.heap.get? b=J)/\b≠e) s'.heap d v') s
def B6{K:FrW}{p2 p6 xX:Pos}(lk:K.lookup f=U ⟨oc,od,.func (PySem.W.fnOf name qual params body scope dV kV doc pm an eS ct),xY⟩)(eO:PySem.W.codeIn K eS qual=O)
  (S:bH ["self",x] ["self",x] scope)(bs:XBs K B)(cl:XCl K B C f n)
  (xk:body=[.Expr (.Call (.Attribute (.Name b p1) "__init__" p2) [.Name "self" p3,.Name x p4] [] p5) p6,.Assign [.Attribute (.Name "self" p7) n p8] (.Name x p9) xX])
  (hm:mg b=U (.ref B))(hg:scope.names.lookup b=U .globalImplicit)(h1:scope.names.lookup ("self":Str)=U .local)(h2:scope.names.lookup x=U .local)(hx:x≠"self")
  (xw:(b==Dgs)=M)(yN:(x==Dgs)=M)
  (ht:∀env:f7,∃pl,eval (.Call (.Attribute (.Name b p1) "__init__" p2) [.Name "self" p3,.Name x p4] [] p5) env=(do
   let ov<-eval (.Name b p1) env
   standAt p2.atName
   let(f,first)<-holding [ov] (getMethod ov "__init__" pl)
   callWith p5 f first (backTo p5 (starEach [.Name "self" p3,.Name x p4] env)) (backToKw p5 (keywordEach [] env))))
  (xG:∀env:f7,swapsWith (.Call (.Attribute (.Name b p1) "__init__" p2) [.Name "self" p3,.Name x p4] [] p5) J p6.line env=pure M)(eQ:∀env:f7,swapsWith (.Name x p9) (U (.Attribute (.Name "self" p7) n p8)) xX.line env=pure M):
  ku K mg base f (PySem.W.fnOf name qual params body scope dV kV doc pm an eS ct) x C n M:=by
 refine⟨λA outer B' F s args e t0 v d hr e0 hb fx nb hF rp=> ?_⟩;have KX:=e0.mod.kin.keeps e0.bs;have hkind:∀y∈[_,x].zip [Value.ref e,v],scope.names.lookup y.1=U .local\/(scope.names.lookup y.1=U .cell/\((cellsFrom (s.heap.objs.size+1) _ []).lookup y.1).isSome=O):=λxI hy=>by
  obtain⟨n,v⟩:=xI;rcases S.par n (GcA hy).1 with q|q
  .exact .inl q
  .exact .inr ⟨q,GbX _ _ _ (.inl q)⟩
 refine GcB hr.depth (KX _ _ lk) rfl S.co S.gen rfl (GcX KX eO) (hb _ _ _ _ (GbZ S.kind hkind λenv he s1 x1=> ?_));subst he;refine⟨(e0.mod.nolimit.keeps e0.bs).keeps x1.toInCall.keep,Geo ?_⟩;obtain⟨hh,tk,rfl,hk⟩:=x1.done;obtain⟨sl,q0⟩:=fx;have ndP:[("self":Str),x].Nodup:=by simp[Gbg hx]
 have ns:hh.Ns mainGlobals mg:=let⟨o,es,ep,g,r⟩:=e0.mod.glob
 ⟨o,es,ep,hk _ _ (e0.bs _ _ g),r⟩
 rw[xk];refine GaB (uT (KX.keeps hk) S.kind rfl ns x1.toInCall.ns bs cl ⟨sl,hk _ _ q0⟩ (λz=>by
  have:s.heap.objs.size=e:=z;rw[<-this,aJ] at q0;cases q0) (λa o l z=>by
  have:=e0.mod.kin _ _ l;rw[z,nb] at this;cases this) hm hg h1 h2 (gI (i:=0) ndP rfl rfl h1) (gI (i:=1) ndP rfl rfl h2) xw yN (ht _) (xG _) (eQ _)) (λfl s' eX=> ?_) λ_ _ z=>False.elim z
 refine hde λG eJ=> ?_;obtain⟨xT,t1,dx,m,f1,n1,mn,nd,ne,o1,g1,k1⟩:=eX;refine eJ ?_;subst xT;exact⟨rfl,t1,dx,m,v,f1,n1,mn,(by
  cases g:s.heap.get? dx with
  |none=>rfl
  |some o=>rw[hk _ _ g] at nd;cases nd),ne,o1,g1,λb o nb g=>k1 b o nb (hk b o g),rp.keep λb o z g _=> ⟨⟨.inl z,hF b z⟩,k1 b o (hF b z) (hk b o g)⟩⟩
end
end NL
namespace DL
def rzX(C:Nat)(n:PySem.Str)(cp:Bool)(f:DE):DSM:=λenv=>(f env).bind λr=>match cp,r.d with
 |true,.lst ds=>U (.rz C n (.lst ds) env)
 |false,d=>if r.free=O then U (.rz C n d env) else J
 |_,_=>J
end DL
namespace NL
open PySem PySem.Spec PyProof.Rows DL
open PySem.W (looks_mroIn Looks)
section
variable [Wd]
def bU.und{A:Vm}(r:bU (k+1) A)(C:Vh)(us:List Vf):bU k (A.under (.builtin "type.__call__" ⟨.ref C::us,[]⟩)):=
 ⟨r.hd,by have:=r.dp;show _+1+3*k+5<_;lia,by have:=r.un;show _+1+16*k+200<_;lia⟩
def pj.und{K:FrW}{A:Vm}(e:pj K mg base A outer B s)(C:Vh)(us:List Vf):pj K mg base (A.under (.builtin "type.__call__" ⟨.ref C::us,[]⟩)) outer B s:=
 ⟨(by first|exact e.frames|simpa[Around.under] using _),e.mod,e.bs,e.lG,e.bare,e.nt,e.bth,e.bnt⟩
section
variable{X:Cx}
def HN{s:Vg}(cl:XCl X.K B C fI n)(F:ku X.K X.mg X.base fI fd x C n cp)(hr:bU 3 X.A)(hb:Binds X.K fd [("self":Str),x])(I:Inv X env Z s)(rp:InF cp (Cln X env Z) s.heap d v):
  wpX X (call (.ref C) [v]) (λu s' =>∃a dx t0 v' m,u= .ref a/\Ext X No s s' /\ExcAt (Cln X env Z) s s' a C n d dx t0 .none v' m) E s:=by
 refine hde λG fin=> ?_;obtain⟨hh,g,dr,tk,os⟩:=s;obtain⟨nm,qq,N,bs,hd,sn,sub,ab,col,dd,k0,k1,k2,k3,k5,mN,oI,hC,T,hn,hi,hf,Sd⟩:=cl.obj _ I.kIn;refine fin (EA Gdx rfl Gdx T hC hn hi hf Sd (λh' e m lt=>(hde λG fin=> ?_)) uS);obtain⟨t0,q0,qt,_⟩:=m.there;have I1:=I.exp (I.kept m.keeps tk);have nb:X.base.get? e=J:=by
  cases q:X.base.get? e with
  |none=>rfl
  |some o=>have:=I.bk e o q;rw[show hh.get? e=J from m.new] at this;cases this
 have kp:∀b o,Cln X env Z b->hh.get? b=U o->¬ItO o->(Cln X env Z b/\b≠e)/\h'.get? b=U o:=λb o z g _=> ⟨⟨z,λq=>by rw[q,show hh.get? e=J from m.new] at g;cases g⟩,m.keeps b o g⟩;have RA:InF cp (λb=>Cln X env Z b/\b≠e) h' d v:=by
  cases cp with
  |false=>exact Rep.keep rp kp
  |true=>obtain⟨ds,a,e1,e2,t⟩:=rp;exact⟨ds,a,e1,e2,t.keep kp λo g _=>m.keeps a o g⟩
 refine fin (GcJ (Gdn (F.run _ _ _ _ ⟨h',g,dr,tk,os⟩ ⟨[.ref e,v],[]⟩ e t0 v d (hr.und C [v]) ((I1.Dm O).und C [v]) (hb _ [.ref e,v] I1.kIn rfl) ⟨_,q0⟩ nb (λb z=>z.2) RA) λr s' eX=>hde λG fin=> ?_));obtain⟨rfl,t1,dx,m2,v',f1,n1,mn,nd,ne,o1,g1,k1,yI⟩:=eX;have en:=m.new;have none' :∀{b},h'.get? b=J->hh.get? b=J:=λ{b} q=>by
  cases z:hh.get? b with
  |none=>rfl
  |some o=>rw[m.keeps b o z] at q;cases q
 refine fin ?_;refine⟨rfl,e,dx,t1,v',m2,rfl,⟨⟨o1,λz=>by rw[g1];exact z,λb o q _ _=>k1 b o (λz=>by rw[z,en] at q;cases q) (m.keeps b o q),λb o q _=> ⟨_,k1 b o (λz=>by rw[z,en] at q;cases q) (m.keeps b o q)⟩⟩,λb t=> ?_⟩,⟨f1,.inl rfl,en,none' nd,(λT z=>nomatch z),ne,n1,mn,yI.imp λb z _=> ⟨z.1.elim (λz=>z.1) λz=>I.cl (none' z),z.2⟩⟩⟩;cases q:hh.get? b with
 |none=>exact absurd q t
 |some o=>exact .of (k1 b o (λz=>by rw[z,en] at q;cases q) (m.keeps b o q))
def wJ{A:Vm}(hh:A.handled=J)(h:wpAny (model X.prog X.w) A t (λv s1=>∃a dx t0,v= .ref a/\X.K.In s1.heap/\XCl X.K B C fI n/\FX s1.heap a (.ref C) (U dx) #[.ref t0,.none,.none,.none,.bool M,.none]/\E' (.ref a) s1) E' s):
  wpAny (model X.prog X.w) A (raiseStmt penv (U t) J) Q E' s:=by
 unfold raiseStmt;refine Gad (GaB h (λv s1 eX=>(hde λG fin=> ?_)) λ_ _ y=>y);obtain⟨a,dx,t0,rfl,kin,cl,⟨sl,q⟩,hE⟩:=eX;have tE:Looks (model X.prog X.w) s1.heap (typeOf (.ref a)) (.ref C):=(Looks.ld q).andThen .now;have isB:Looks (model X.prog X.w) s1.heap (isInstance (.ref a) (.type "BaseException")) O:=tE.andThen (looks_mroIn kin cl.be);obtain⟨nm,qq,N,bs,hd,sn,sub,ab,col,dd,k0,k1,k2,k3,k5,mN,oI,hC,_⟩:=cl.obj _ kin;obtain⟨hp,g,d,tk,os⟩:=s1;refine fin ?_
 wp_walk using lk (z:=⟨hp,g,d,tk,os⟩) isB,lk (z:=⟨hp,g,d,tk,os⟩) tE,lk (z:=⟨hp,g,d,tk,os⟩) ((Looks.ld hC).andThen .now),Gdl q
 exact wpAny_raiseNew_none hh hE
def EK(xH:X.gA)(cl:XCl X.K B C fI n)(F:ku X.K X.mg X.base fI fd x C n cp)(hr:bU 3 X.A)(hb:Binds X.K fd [("self":Str),x])(hg:Gl X cn)(hm:X.mg cn=U (.ref C))(he:PE X e f)(xw:(cn==Dgs)=M)
  (hs:starEach [e] X.env=(M,eval e X.env)::starEach [] X.env):QM X (.Raise (U (.Call (.Name cn p1) [e] [] p2)) J p3) (rzX C n cp f):=λenv Z s o I q=>a6 q λrv RJ q=>by
 refine Gad (GdX (wJ hr.hd (Gad (GaB (Q:=λv s1=>∃a dx t0,v= .ref a/\X.K.In _/\XCl _ B C fI n/\FX _ a _ _ #[.ref t0,.none,.none,.none,.bool M,.none]/\EM X env Z s o _ s1) (Gbu (je I hg hm ?_ xw)) (λv s1 q=>Gad (GdX (Gao q))) λ_ _ z=>z))));have xp:ae f aL env=U [rv]:=by unfold ae aL;rw[RJ];rfl
 refine Gce I.ok.mod.kin cl.kp (GaB ((fg he iQ hs) p2 env Z s _ I xp) (λus s1 ⟨x1,p⟩=> ⟨(I.exp x1).kIn, ?_⟩) λx s z=>(xH x s z).elim) hs rfl;obtain⟨u,rfl,ru⟩:=gO p;have I1:=I.exp x1;obtain⟨d,TZ,ho⟩:∃d,InF cp (Cln X env Z) s1.heap d u/\o= .rz C n d env:=by
  cases cp with
  |false=>
   by_cases fr:rv.free=O
   .simp only[fr] at q;cases q;exact⟨_,ru.rep I fr,rfl⟩
   .lia
  |true=>
   obtain⟨k,d⟩:=rv;cases d<;>cases q
   obtain⟨a,eo,e1,_,t,z,rp⟩:=(ru.inn I).sq rfl;exact⟨_,⟨_,a,rfl,e1,_,_,eo,rfl,t,z,rp⟩,rfl⟩
 subst ho;refine GaB (HN cl F hr hb I1 TZ) (λv s2 ⟨a,dx,t0,v',m,ev,x2,k⟩=> ⟨a,dx,t0,ev,(I1.exp x2).kIn,cl,k.fx,Z,s1,a,dx,t0,.none,v',m,rfl,I1,x1.stp.mono,x2,k⟩) λ_ _ z=>z
end
end
section
variable [Wd]
def wK{prog:Vn}{w:World}{z:Vg}{K:FrW}{env:f7}{mg m:Str->Option Vf}{e a:Vh}{p2 p6 xX q5:Pos}{eo:Array Vf}{nn:Nat}{base:Vj}(M0:Mod K mg base)(zi:∀b o,base.get? b=U o->z.heap.get? b=U o/\b≠env.locals/\b≠e)(hk:env.scope.kind= .function)(yM:env.globals=mainGlobals)(Ua:env.builtins=builtinsNs)(hl:z.heap.Ns env.locals m)(bs:XBs K B)(cl:XCl K B C f n)(fx:FX z.heap e (.ref C) J #[.ref t0,.none,.none,.none,.bool M,.none])(ne:env.locals≠e)
  (ho:z.heap.get? a=U o)(cls:o.cls= .type "list")(yO:o.data= .seq eo nn)(hz:eo.size<=sizeLine)
  (hm:mg b=U (.ref B))(RX:mg "list"=J)(hg:env.kindOf b=U .globalImplicit)(Sa:env.kindOf ("list":Str)=U .globalImplicit)(h1:env.kindOf ("self":Str)=U .local)(h2:env.kindOf x=U .local)(h3:env.kindOf y=U .local)(m1:m "self"=U (.ref e))(m2:m x=U (.ref a))(hy:y≠"self")(xw:(b==Dgs)=M)(yN:(x==Dgs)=M)(Se:(y==Dgs)=M)
  (ht:∃pl,eval (.Call (.Attribute (.Name b p1) "__init__" p2) [.Name "self" p3,.Name y p4] [] p5) env=(do
   let ov<-eval (.Name b p1) env
   standAt p2.atName
   let(f,first)<-holding [ov] (getMethod ov "__init__" pl)
   callWith p5 f first (backTo p5 (starEach [.Name "self" p3,.Name y p4] env)) (backToKw p5 (keywordEach [] env))))
  (RI:swapsWith (.Call (.Name "list" q2) [.Name x q3] [] q4) (U (.Name y q1)) q5.line env=pure M)
  (xG:swapsWith (.Call (.Attribute (.Name b p1) "__init__" p2) [.Name "self" p3,.Name y p4] [] p5) J p6.line env=pure M)(eQ:swapsWith (.Name y p9) (U (.Attribute (.Name "self" p7) n p8)) xX.line env=pure M):
  wpAny (model prog w) A (execs [.Assign [.Name y q1] (.Call (.Name "list" q2) [.Name x q3] [] q4) q5,.Expr (.Call (.Attribute (.Name b p1) "__init__" p2) [.Name "self" p3,.Name y p4] [] p5) p6,.Assign [.Attribute (.Name "self" p7) n p8] (.Name y p9) xX] env) (λfl s' =>fl= .next/\∃z2 b',z.heap.get? b' =J/\b' ≠e/\OC z2 e C n (.ref b') s' /\(∃c',z2.heap.get? b' =U {cls:= .type "list",dict:=J,data:= .seq eo c',slots:=#[]})/\z2.os=z.os/\z2.gens=z.gens/\∀b o,b≠env.locals->z.heap.get? b=U o->z2.heap.get? b=U o) E z:=by
 obtain⟨mb,Te,TR⟩:=M0.blt;refine Gbq (Gco (Gbu (GcG hk Sa (Calls.loadGlobal_builtin (by rw[yM];exact(by obtain⟨o,es,ep,g,r⟩:=M0.glob;exact⟨o,es,ep,(zi _ _ g).1,r⟩)) RX (by rw[Ua];exact(by obtain⟨o,es,ep,g,r⟩:=Te;exact⟨o,es,ep,(zi _ _ g).1,r⟩)) ((TR _ (by decide)).trans boot_list) (GbU (GaX (wpAny_Name (Gel hk h2 hl m2 (GbA (call_list_seq a (.inl rfl) ho cls yO (λh' c' k g' =>(wpAny_storeName_local h3 (Heap.Ns.keeps hl k) (λUh xh sb=> ?_) (by rw[hk];rfl))) hz))) yN)) (by rfl) (by rfl))) (by decide))) RI);have k2:=λb o nb g=>(sb.2 b nb).trans (k b o g);obtain⟨sl,q0⟩:=fx;exact GaB (uT (λa o l=>k2 a o (zi _ _ (M0.kin a o l)).2.1 (zi _ _ (M0.kin a o l)).1) hk yM (by obtain⟨o,es,ep,g,r⟩:=M0.glob;exact⟨o,es,ep,k2 _ _ (zi _ _ g).2.1 (zi _ _ g).1,r⟩) xh bs cl ⟨sl,k2 _ _ (Gbg ne) q0⟩ ne (λa o l=>(zi _ _ (M0.kin a o l)).2.2) hm hg h1 h3 ((Gaw (Gbg hy)).trans m1) (Gar rfl) xw Se ht xG eQ) (λfl s' eU=>by obtain⟨xT,q⟩:=eU;exact⟨xT,_,z.heap.objs.size,aJ,(λq=>by rw[<-q,aJ] at q0;cases q0),q,⟨c',(sb.2 _ (λq=>absurd hl.lt (by rw[<-q];exact Nat.lt_irrefl _))).trans g'⟩,rfl,rfl,k2⟩) λ_ _ z=>z
def EL{K:FrW}{p2 p6 xX q5:Pos}(lk:K.lookup f=U ⟨oc,od,.func (PySem.W.fnOf name qual params body scope dV kV doc pm an eS ct),xY⟩)(eO:PySem.W.codeIn K eS qual=O)
  (S:bH [("self":Str),x,y] [("self":Str),x] scope)(bs:XBs K B)(cl:XCl K B C f n)
  (xk:body=[.Assign [.Name y q1] (.Call (.Name "list" q2) [.Name x q3] [] q4) q5,.Expr (.Call (.Attribute (.Name b p1) "__init__" p2) [.Name "self" p3,.Name y p4] [] p5) p6,.Assign [.Attribute (.Name "self" p7) n p8] (.Name y p9) xX])
  (hm:mg b=U (.ref B))(RX:mg "list"=J)(hg:scope.names.lookup b=U .globalImplicit)(yM:scope.names.lookup ("list":Str)=U .globalImplicit)(h1:scope.names.lookup ("self":Str)=U .local)(h2:scope.names.lookup x=U .local)(h3:scope.names.lookup y=U .local)(hx:x≠"self")(hy:y≠"self")
  (xw:(b==Dgs)=M)(yN:(x==Dgs)=M)(Se:(y==Dgs)=M)
  (ht:∀env:f7,∃pl,eval (.Call (.Attribute (.Name b p1) "__init__" p2) [.Name "self" p3,.Name y p4] [] p5) env=(do
   let ov<-eval (.Name b p1) env
   standAt p2.atName
   let(f,first)<-holding [ov] (getMethod ov "__init__" pl)
   callWith p5 f first (backTo p5 (starEach [.Name "self" p3,.Name y p4] env)) (backToKw p5 (keywordEach [] env))))
  (RI:∀env:f7,swapsWith (.Call (.Name "list" q2) [.Name x q3] [] q4) (U (.Name y q1)) q5.line env=pure M)
  (xG:∀env:f7,swapsWith (.Call (.Attribute (.Name b p1) "__init__" p2) [.Name "self" p3,.Name y p4] [] p5) J p6.line env=pure M)(eQ:∀env:f7,swapsWith (.Name y p9) (U (.Attribute (.Name "self" p7) n p8)) xX.line env=pure M):
  ku K mg base f (PySem.W.fnOf name qual params body scope dV kV doc pm an eS ct) x C n O:=by
 refine⟨λA outer B' F s args e t0 v d hr e0 hb fx nb hF rp=>(hde λG fin=> ?_)⟩;obtain⟨ds,a,rfl,rfl,T⟩:∃ds a,d= .lst ds/\v= .ref a/\Top F _ d a:=rp;have KX:=e0.mod.kin.keeps e0.bs;have hkind:∀y∈[_,x].zip [Value.ref e,.ref a],scope.names.lookup y.1=U .local\/(scope.names.lookup y.1=U .cell/\((cellsFrom (s.heap.objs.size+1) _ []).lookup y.1).isSome=O):=λxI hy=>by
  obtain⟨n,v⟩:=xI;rcases S.par n (GcA hy).1 with q|q
  .exact .inl q
  .exact .inr ⟨q,GbX _ _ _ (.inl q)⟩
 refine fin (GcB hr.depth (KX _ _ lk) rfl S.co S.gen rfl (GcX KX eO) (hb _ _ _ _ (GbZ S.kind hkind λenv he s1 x1=>hde λG fin=> ?_)));subst he;refine fin (⟨(e0.mod.nolimit.keeps e0.bs).keeps x1.toInCall.keep,Geo (hde λG fin=> ?_)⟩);have hl:=x1.toInCall.ns;obtain⟨hh,tk,rfl,hk⟩:=x1.done;obtain⟨sl,q0⟩:=fx;have ndP:[("self":Str),x].Nodup:=by simp[Gbg hx]
 have nL:_≠e:=λz=>by rw[<-z,aJ] at q0;cases q0
 obtain⟨eo,⟨o,nn,g,cls,_,yO⟩,z,rp⟩:∃eo,SqA s.heap a (.of "list") eo/\eo.size<=sizeLine/\aP F s.heap ds eo.toList:=by
  obtain⟨c,es,eo,q,t,z,r⟩:=T;cases q;exact⟨eo,t,z,r⟩
 refine fin ?_;rw[xk];refine GaB (wK (B:=B) (C:=C) (f:=f) (base:=base) e0.mod (λb o g=> ⟨hk _ _ (e0.bs _ _ g),(λz=>by
  have z:b=s.heap.objs.size:=z;have:=e0.bs _ _ g;rw[z,aJ] at this;cases this),λz=>by rw[z,nb] at g;cases g⟩) S.kind rfl rfl hl bs cl ⟨sl,hk _ _ q0⟩ nL (hk _ _ g) cls yO z hm RX hg yM h1 h2 h3 (gI (i:=0) ndP rfl rfl h1) (gI (i:=1) ndP rfl rfl h2) hy xw yN Se (ht _) (RI _) (xG _) (eQ _)) (λfl s' eX=> ?_) λ_ _ z=>False.elim z
 refine hde λG fin=> ?_;obtain⟨rfl,z2,b',Tf,ne',⟨t1,dx,m,f1,n1,mn,nd,ne,o1,g1,k1⟩,⟨c',gl⟩,o2,g2,k2⟩:=eX;have old:∀b o,s.heap.get? b=U o->b≠s.heap.objs.size:=λb o g q=>by rw[q,aJ] at g;cases g
 have up:∀b o,s.heap.get? b=U o->z2.heap.get? b=U o:=λb o g=>k2 b o (old b o g) (hk b o g);have QN:∀{b} {h:Vj},(∀b o,s.heap.get? b=U o->h.get? b=U o)->h.get? b=J->s.heap.get? b=J:=λ{b h} u z=>by
  cases g:s.heap.get? b with
  |none=>rfl
  |some o=>rw[u b o g] at z;cases z
 have ks:∀b o,b≠e->s.heap.get? b=U o->s'.heap.get? b=U o:=λb o nb g=>k1 b o nb (up b o g);refine fin (⟨rfl,t1,dx,m,_,f1,n1,mn,QN up nd,ne,o1.trans o2,g1.trans g2,ks,.sq rfl ⟨.inr (QN hk Tf),ne'⟩ ⟨_,_,k1 _ _ ne' gl,rfl,.inr ⟨rfl,rfl⟩,rfl⟩ z (rp.1.trans (by simp)) λi d v e1 e2=>(rp.2 i d v e1 (by simpa using e2)).keep λb o z g _=> ⟨⟨.inl z,hF b z⟩,ks b o (hF b z) g⟩⟩)
end
end NL
namespace DL
def uU(cs:List Nat)(j k:Nat)(f:DSM):DSM:=λenv=>(f env).bind λo=>match o with
 | .rz C n d e=>if cs.contains C=O then U (.nx (((e.set k (U (.sh (.exc C n d)))).set j (U (.sh (.exc C n d)))).set k J)) else J
 |o=>U o
end DL
namespace NL
open PySem PySem.Spec PyProof.Rows DL
open PySem.W (Looks exmOne exm_one)
section
variable [Wd]
abbrev hdl(X:Cx)(e:Vf):Cx:={X with A:=X.A.mark (U e),calm:=M,xe:=λ_ _=>False}
def Inv.mark(I:Inv X env Z s)(e:Vf):Inv (hdl X e) env Z s:=
 ⟨⟨I.ok.mod,I.ok.kind,I.ok.glob,I.ok.blt,I.ok.above,I.ok.inj,I.ok.has,I.ok.cab,(λz=>nomatch z),I.ok.frames,I.ok.stk,I.ok.exf,I.ok.bs,I.ok.Jj,I.ok.lG,I.ok.vb,I.ok.cf,I.ok.ob⟩,I.os,I.bare,I.base,I.slot,I.loc,I.cell,I.sl,I.dj,I.len,I.bt,I.th0,I.bt2,I.fl⟩
def unbind{X:Cx}{env:aM}(I:Inv X env Z s)(hN:X.N.Nodup)(hk:X.N[k]? =U x)(hx:X.env.scope.names.lookup x=U .local)(hh:∀o∈X.ob,X.N[o.h]? ≠U x)(hs:env[k]? =U (U (.sh d)))
  (h:∀s',Inv X (env.set k J) Z s' ->Stp X No env Z s (env.set k J) Z s' ->Q () s'):wpAny UT A (unbindName X.env x) Q E s:=by
 have kl:X.env.kindOf x=U .local:=hx;obtain⟨m,hn,hl⟩:=I.loc;have kk:k<_:=(Gae.mp hs).1;obtain⟨u,hm⟩:∃u,m x=U u:=by
  rcases hl k x hk ⟨_,hs⟩ (.inl hx) with⟨_,e⟩| ⟨z|z,_⟩
  .exact⟨_,e⟩
  all_goals rw[kl] at z;cases z
 have at' :∀{i:Nat} {t},(env.set k J)[i]? =U (U t)->i≠k/\env[i]? =U (U t):=λ{i t} g=>by
  by_cases e:i=k
  .subst e;rw[Gau kk] at g;cases g
  .rw[Gax (Gbg e)] at g;exact⟨e,g⟩
 have top:∀i:Nat,ba (env.set k J)[i]? ↔ba env[i]? :=λi=>by
  by_cases e:i=k
  .subst e;rw[Gau kk,hs];exact Iff.rfl
  .rw[Gax (Gbg e)]
 have ol:∀i:Nat,lF (env.set k J)[i]? ->lF env[i]? :=λi=>by
  by_cases e:i=k
  .subst e;rw[Gau kk];exactλz=>z.elim
  .rw[Gax (Gbg e)];exact id
 have op:∀i:Nat,qX (env.set k J)[i]? ->qX env[i]? :=λi=>by
  by_cases e:i=k
  .subst e;rw[Gau kk];exactλz=>z.elim
  .rw[Gax (Gbg e)];exact id
 have cl:∀b,Cln X env Z b->Cln X _ Z b:=λb z=> ⟨z.1,λi t=>z.2 i ((top i).mp t)⟩;have lnf:X.env.locals∉_:=λz=>by
  have⟨_,o,g,_⟩:=I.ok.lG.mem z;rw[I.ok.above] at g;cases g
 refine wpAny_unbindName_local kl hn hm (by rw[I.ok.kind];rfl) λh' u' xh sb=> ?_;have nv:∀b,¬X.vol b->b≠_:=λb n z=>n (.inl (.inl z));have nb:∀b,¬X.bad b->b≠_:=λb n=>nv b λz=>n (I.ok.vb b z);have ht:Th h' _:=let⟨_,_,_,g,_⟩:=xh
 .of g
 have th:∀b,Th _ b->Th h' b:=λb t=>by
  by_cases e:b=X.env.locals
  .subst e;exact ht
  .unfold Th
   rwa[sb.2 b e]
 have cne:∀y c,X.env.cells.lookup y=U c->c≠X.env.locals:=λy c l z=>by
  have⟨_,o,g,q⟩:=I.cell y c l;have⟨o',_,_,g',q',_⟩:=hn;rw[z,g'] at g;cases g;rw[q] at q';cases q'
 refine h _ ⟨I.ok,I.os,I.bare,λb o g f ne=>(sb.2 b λz=>by rw[z,I.ok.above] at g;cases g).trans (I.base b o g f ne),λb o g f=> ?_,⟨_,xh,λj y h1 ⟨t,h2⟩ h3=> ?_⟩,λy c l=>let⟨v,z⟩:=I.cell y c l;⟨v,z.sameBut sb (cne y c l)⟩,λj t g=> ?_,λi j a h1 h2=>I.dj i j a (ol i h1) ((top j).mp h2),by simpa using I.len,λb z=>th b (I.bt b z),λb z=>th b (I.th0 b z),λb o z g=> ?_,λo ho=> ?_⟩
  ⟨λb o g v _ _=>(sb.2 b (nv b v)).trans g,λb ⟨i,h1,h2⟩=> .inl ⟨i,op i h1,h2⟩,λb z _=>cl b z,λi t w g=> ⟨(at' g).2,rfl⟩,th⟩
 .have⟨sl,g1⟩:=I.slot b o g f;exact⟨sl,(sb.2 b (λz=>lnf (z▸f))).trans g1⟩
 .obtain⟨hj,h2⟩:=at' h2;have ny:y≠x:=λz=>hj (pP hN h1 (z▸hk));refine(hl j y h1 ⟨t,h2⟩ h3).imp (λ⟨k,q⟩=> ⟨k, ?_⟩) λ⟨k,c,l,z⟩=> ⟨k,c,l,z.sameBut sb (cne y c l)⟩;simp[ny,q]
 .exact(I.sl j t (at' g).2).keep (λb o f g _=> ⟨cl b f,(sb.2 b (nb b f.1)).trans g⟩) λa o n _ g _=>(sb.2 a (nb a n)).trans g
 .by_cases e:b=X.env.locals
  .subst e;intro⟨_,_,_,z⟩;obtain⟨o',_,_,g',q',_⟩:=xh;rw[g] at g';cases g';rw[q'] at z;cases z
  .exact I.bt2 b o z ((sb.2 b e).symm.trans g)
 .have⟨_,k2,k3,k4⟩:=I.ok.ob o ho;refine(I.fl o ho).keep (λb g=>(sb.2 _ (nv _ k3)).trans g) (λb g=>(sb.2 _ (nv _ k2)).trans g) ⟨rfl, ?_⟩ λn j m=> ⟨rfl, ?_⟩
  .rw[Gax (λz=>hh o ho (by rw[<-z];exact hk))]
  .rw[Gax (λz=>k4 n j m x (by rw[<-z];exact hk) (.inl hx))]
end
section
variable [Wd]
section
def ExcAt.OE{s' :Vg}(I:Inv X env Z s1)(x:ExcAt (Cln X env Z) s1 s' a C n d dx t0 tb v m):Rep (Cln X env Z) s'.heap (.exc C n d) (.ref a):=by
 obtain⟨sl,fx⟩:=x.fx;refine .sq rfl (I.cl x.na) ⟨dx,_,sl,fx,rfl⟩ (GaN 1) rfl λi d' v' e1 e2=> ?_;cases i with
 |succ i=>cases e1
 |zero=>
  cases e1;cases e2;refine .sq rfl (I.cl x.nd) ⟨m,v,x.ns,x.mn,rfl⟩ (GaN 1) rfl λi d' v' e1 e2=> ?_;cases i with
  |succ i=>cases e1
  |zero=>cases e1;cases e2;exact x.rep.imp λb z _=>z.1
variable{p8:Pos}
def EN{X:Cx}{env:aM}(I1:Inv X env Z s1)(x1:Ext X No s1 s')(kx:ExcAt (Cln X env Z) s1 s' a C n d dx t0 tb v m)(xu:X.stack=X.env::X.outer)(ya:X.env.frame=U X.env.locals)
  (hm:exmOne X.K (.ref C) (.ref Cn)=U O)(hg:Gl X cn)(yl:X.mg cn=U (.ref Cn))(hN:X.N.Nodup)(hj:X.N[j]? =U xj)(hk:X.N[k]? =U en)(RE:Loc X xj)(zK:Loc X en)(zw:X.env.scope.names.lookup en=U .local)(SN:j≠k)
  (hs:swapsWith (.Name en p7) (U (.Name xj p6)) p8.line X.env=pure M)(hf:X.fn xj=O\/X.env.scope.names.lookup xj=U .local)(xw:(cn==Dgs)=M)(hde:(en==Dgs)=M)(Sf:(en==("__classdict__":Str))=M)
  (hq:∀Z2 s2,Inv X (((env.set k (U (.sh (.exc C n d)))).set j (U (.sh (.exc C n d)))).set k J) Z2 s2->Stp X No env Z s1 (((env.set k (U (.sh (.exc C n d)))).set j (U (.sh (.exc C n d)))).set k J) Z2 s2->Q .next s2):
  wpX X (noteFrame (.ref a) X.env) (λ_ s2=>wpX X (setFlight (.ref a) J) (λ_ s3=>wpX X (handleBy (.ref a) X.env [.ExceptHandler (U (.Name cn p5)) (U en) [.Assign [.Name xj p6] (.Name en p7) p8] p9]) Q E s3) E s2) E s' :=by
 refine B2 xu ya I1 x1 kx λh' T x2 k2=> ?_;have I2:=I1.exp x2;refine wpAny_handleBy_cons (codeAny_handlers_test (je (I2.mark _) hg yl ?_ xw)) (by intro q;cases q);obtain⟨sl,oa⟩:=k2.fx;refine exm_one I2.kIn ((Looks.ld oa).andThen .now) hm _ _ _ _ (λ_ _ e=>e) (codeAny_handlers_suite_as ?_);obtain⟨_,ts,eT,nT,ft,q3⟩:=k2.tr.resolve_left (λz=>nomatch z);cases eT;refine Gad (qn k2.fx rfl (GcN rfl (tK ft (λh2 UK sb=> ?_) ((GcH.mp q3).1))));have nt:=k2.nt T rfl;have x3:Ext X No s1 {s' with heap:=h2}:=⟨⟨x2.ex.os,x2.ex.bare,λb o g f w=>(sb.2 b λz=>by rw[z,nt] at g;cases g).trans (x2.keep b o g f w),λb o g f=>let⟨sl,g2⟩:=x2.ex.slot b o g f;⟨sl,(sb.2 b λz=>by rw[z,nt] at g;cases g).trans g2⟩⟩,λb t=>by
  have:=x2.th b t;unfold Th;rw[sb.2 b λz=>t (z▸nt)];exact this⟩
 obtain⟨_,Uj⟩:=ft;have k3:=(k2.OE I1).keep λb o f g ni=> ⟨f,(sb.2 b λz=>by
  rw[z,Uj] at g;cases g;exact ni ⟨_,_,rfl,rfl⟩).trans g⟩
 refine GaB (fX (r:=⟨.c,.exc C n d⟩) (I1.exp x3) .refl k3 rfl hN hk zK (.inr zw)) (λ_ s4 ⟨Z4,I4,y4⟩=> ?_) λ_ _ z=>z;have hkl:k<env.length:=by rw[I1.len];exact(Gae.mp hk).1
 have e4:(env.set k _)[k]? =U (U (.sh (.exc C n d))):=Gau hkl;refine Gbq (Gco (fF (I4.mark (.ref a)) ⟨_,e4⟩ hk (.inl zw) hde Sf (GaB (fX (r:=⟨.c,.exc C n d⟩) I4 .refl (I4.sl k _ e4) rfl hN hj RE hf) (λ_ s5 ⟨Z5,I5,y5⟩=>(GbF (Gad (wpAny_bindName (GaB (fX (r:=⟨.c,.non⟩) I5 .refl (.one trivial) rfl hN hk zK (.inr zw)) (λ_ s6 ⟨Z6,I6,y6⟩=>(wpAny_onRaise (unbind I6 hN hk zw zK.2 (Gau (by simpa using hkl)) λs7 I7 y7=> ?_))) λ_ _ z=>z))))) λ_ _ z=>z)) hs);rw[(GeN ..)] at I7 y7;exact hq _ s7 I7 ((((x3.stp).trans y4).trans y5).trans (y6.trans y7))
def LQ{X:Cx}(hb:QMs X body fb)(xu:X.stack=X.env::X.outer)(ya:X.env.frame=U X.env.locals)
  (hm:∀C∈cs,exmOne X.K (.ref C) (.ref Cn)=U O)(hg:Gl X cn)(yl:X.mg cn=U (.ref Cn))(hN:X.N.Nodup)(hj:X.N[j]? =U xj)(hk:X.N[k]? =U en)(RE:Loc X xj)(zK:Loc X en)(zw:X.env.scope.names.lookup en=U .local)(SN:j≠k)
  (hs:swapsWith (.Name en p7) (U (.Name xj p6)) p8.line X.env=pure M)(hf:X.fn xj=O\/X.env.scope.names.lookup xj=U .local)(xw:(cn==Dgs)=M)(hde:(en==Dgs)=M)(Sf:(en==("__classdict__":Str))=M):
  QM X (.Try body [.ExceptHandler (U (.Name cn p5)) (U en) [.Assign [.Name xj p6] (.Name en p7) p8] p9] [] [] xX) (uU cs j k fb):=λenv Z s o I q=>a6 q λo1 h1 q=>by
 refine wpAny_Try_except (GaB (hb env Z s o1 I h1) (λfl s1 k1=> ?_) λx s1 k1=> ?_)
 .cases o1<;>cases fl<;>first|exact False.elim k1|skip
  .cases q;exact GbF k1
  .cases q;exact k1
  .cases q;exact k1
 .cases o1<;>first|exact False.elim k1|skip
  obtain⟨Z',z1,a,dx,t0,tb,v,m,rfl,I1,y1,x1,kx⟩:=k1;rename_i C n d e;by_cases hc:cs.contains C=O
  case neg=>simp only[hc] at q;cases q
  simp only[hc,Gdm] at q;cases q;exact EN I1 x1 kx xu ya (hm _ (by simpa using hc)) hg yl hN hj hk RE zK zw SN hs hf xw hde Sf λZ2 s2 I2 y2=> ⟨Z2,I2,y1.trans y2.mono⟩
end
end
end NL
namespace DL
def og(cs:List (Nat×Bool))(f:DE):DE:=λenv=>(f env).bind λr=>match r.k,r.d with
 | .c,.exc C _ _=>(cs.lookup C).map λb=> ⟨.c,.bl b⟩
 |_,_=>J
def uV(cs:List Nat)(n:PySem.Str)(f:DE):DE:=λenv=>(f env).bind λr=>match r.k,r.d with
 | .c,.exc C m d=>if cs.contains C=O/\m=n then U ⟨.c,d⟩ else J
 |_,_=>J
def HO(f:DE):DE:=λenv=>(f env).bind λr=>match r.d with
 | .lst ds=>(jP ds).map λbs=> ⟨.c,.int (bs.countP id:Nat)⟩
 |_=>J
end DL
namespace NL
open PySem PySem.Spec PyProof.Rows DL
open PySem.W (kitOne kitAny kia_one kia_tup InstAt)
section
variable [Wd]
section
variable{X:Cx}{env:aM}{Z:Vl}{s:Vg}{u:Vf}{e:Vi}{pos:Pos}{es:List Vi}{us:List Vf}
def PCl(X:Cx)(e:Vi)(u:Vf):Prop:=∀s (Q E:VSP),(∃env Z,Inv X env Z s)->Q u s->wpX X (eval e X.env) Q E s
def EO(hg:Gl X x)(hm:X.mg x=U u)(hd:(x==Dgs)=M):PCl X (.Name x p) u:=λs Q E ⟨env,Z,I⟩ q=>je I hg hm q hd
def HP(hg:Gl X x)(hm:X.mg x=J)(hv:bootBuiltins x=U u)(hn:x≠"__name__")(hd:(x==Dgs)=M):PCl X (.Name x p) u:=λs Q E ⟨env,Z,I⟩ q=>jf I hg hm hv q hn hd
def wL(X:Cx)(es:List Vi)(us:List Vf):Prop:=∀pos s (Q:List Vf->Vg->Prop) (E:VSP),(∃env Z,Inv X env Z s)->Q us s->wpX X (spliced (backTo pos (starEach es X.env))) Q E s
def EP:wL X [] []:=λpos s Q E _ q=>GbA q
def Co(h1:PCl X e u)(h2:wL X es us)(hs:starEach (e::es) X.env=(M,eval e X.env)::starEach es X.env):wL X (e::es) (u::us):=λpos s Q E I q=>by
 rw[hs];show wpAny _ _ (spliced ((M,eval e _)::backTo pos _)) _ _ s;exact GaX (h1 s _ _ I (h2 pos s _ E I q))
def uW{cs:List (Nat×Bool)}{C:Vh}(h:cs.lookup C=U b):(C,b)∈cs:=by
 induction cs with
 |nil=>cases h
 |cons q r ih=>
  rw[Gbr] at h;split at h
  .rename_i z;cases h;rw[Gas.mp z];exact Gai
  .exact Gaf _ (ih h)
def wM{h:Vj}{C:Vh}(r:Rep F h (.exc C n d) u):∃a dx vs m v,u= .ref a/\FX h a (.ref C) (U dx) vs/\h.Ns1 dx m/\m n=U v/\Rep F h d v:=by
 refine hde λG fin=> ?_;obtain⟨a,eo,rfl,_,⟨dx,vs,sl,g,rfl⟩,_,rp⟩:=r.inn.sq rfl;obtain⟨v1,_,e1,r1,_⟩:=aP.gM rp;cases e1;obtain⟨b,eo,e2,_,⟨m,v,ns,mn,rfl⟩,_,yI⟩:=r1.inn.sq rfl;cases e2;obtain⟨v2,_,e3,r2,_⟩:=aP.gM yI;cases e3;exact fin (⟨a,dx,vs,m,v,rfl,⟨sl,g⟩,ns,mn,r2⟩)
def uX{h:Vj}(f:FX h a (.ref C) (U dx) vs)(n:h.Ns1 dx m):∃ox od,InstAt h a ox C (U od):=by
 refine hde λG fin=> ?_;obtain⟨sl,g⟩:=f;obtain⟨o,_,_,g2,_⟩:=n;exact fin (⟨_,o,g,rfl,rfl,g2⟩)
def tO{α:Type}{r:RV}{F:Nat->PySem.Str->D->Option α}{y:α}(q:(match r.k,r.d with
  | .c,.exc C n d=>F C n d
  |_,_=>J)=U y):∃C n d,r=⟨.c,.exc C n d⟩/\F C n d=U y:=by
 obtain⟨k,d⟩:=r;cases k<;>try exact nn q rfl
 cases d<;>first|exact⟨_,_,_,rfl,q⟩|exact nn q rfl
def lst_inv{α:Type}{d:D}{F:List D->Option α}{y:α}(q:(match d with
  | .lst ds=>F ds
  |_=>J)=U y):∃ds,d= .lst ds/\F ds=U y:=by
 cases d<;>first|exact⟨_,rfl,q⟩|exact nn q rfl
def LR(yw:∀q∈cs,XIs X.K q.1/\kitOne X.K (.ref q.1) u=U q.2)(hv:PCl X o u)(he:PE X e f)(hg:Gl X "isinstance")(hm:X.mg "isinstance"=J)
  (xG:starEach [e,o] X.env=(M,eval e X.env)::starEach [o] X.env)(eQ:starEach [o] X.env=(M,eval o X.env)::starEach [] X.env)(xg:(backTo pos (starEach [o] X.env)).any (·.1)=M):PE X (.Call (.Name "isinstance" p) [e,o] [] pos) (og cs f):=λenv Z s r I q=>a6 q λrv hr q=>by
 refine hde λG fin=> ?_;obtain⟨C9,n9,d9,rfl,q⟩:=tO q;obtain⟨b,hb,rfl⟩:=Gab.mp q;refine fin (Gbu (jf I hg hm rfl (Gck ?_ xG xg) (by decide) rfl));rw[xG];show wpAny _ _ (spliced (_::backTo pos (starEach [o] X.env))) _ _ s;refine GaX (thn (he env Z s _ I hr) λu1 s1 ⟨x1,r1⟩=> ?_);have I1:=I.exp x1;rw[eQ];refine GaX (hv s1 _ _ ⟨env,Z,I1⟩ (GbA (hde λG fin=> ?_)));obtain⟨a,dx,vs,m,v,rfl,fx,ns,mn,_⟩:=wM (show Rep _ _ _ _ from r1);obtain⟨ox,od,IA⟩:=uX fx ns;obtain⟨h1,h2⟩:=yw _ (uW hb);exact fin (kia_one (uP h1) I1.kIn IA h2 (λz=>nomatch z) λtk=> ⟨x1.trans (.tok tk),.one rfl⟩)
def HQ(yw:∀q∈cs,XIs X.K q.1/\kitAny X.K (.ref q.1) us=U q.2)(hz:us.length<=sizeLine)(hv:wL X es us)(he:PE X e f)(hg:Gl X "isinstance")(hm:X.mg "isinstance"=J)
  (xG:starEach [e,.Tuple es j p2] X.env=(M,eval e X.env)::starEach [.Tuple es j p2] X.env)(eQ:starEach [.Tuple es j p2] X.env=(M,eval (.Tuple es j p2) X.env)::starEach [] X.env)(xg:(backTo pos (starEach [.Tuple es j p2] X.env)).any (·.1)=M):PE X (.Call (.Name "isinstance" p) [e,.Tuple es j p2] [] pos) (og cs f):=λenv Z s r I q=>a6 q λrv hr q=>by
 refine hde λG fin=> ?_;obtain⟨C9,n9,d9,rfl,q⟩:=tO q;obtain⟨b,hb,rfl⟩:=Gab.mp q;refine fin (Gbu (jf I hg hm rfl (Gck ?_ xG xg) (by decide) rfl));rw[xG];refine GaX (thn (he env Z s _ I hr) λu1 s1 ⟨x1,r1⟩=> ?_);have I1:=I.exp x1;show wpAny _ _ (spliced ((M,eval (.Tuple es j p2) X.env)::[])) _ _ s1;refine GaX (wpAny_Tuple_spliced (hv p2 s1 _ _ ⟨env,Z,I1⟩ (hde λG fin=> ?_)));obtain⟨a,dx,vs,m,v,rfl,fx,ns,mn,_⟩:=wM (show Rep _ _ _ _ from r1);refine fin (⟨hz,GbA (hde λG fin=> ?_)⟩);have x2:Ext X No s1 {s1 with heap:=s1.heap.push {cls:= .type "tuple",data:= .seq us.toArray}}:=I1.push _ s1.toks;obtain⟨ox,od,IA⟩:=uX (fx.at λo g=>Gag _ g) (let⟨o,es,ep,g,r⟩:=ns;⟨o,es,ep,Gag _ g,r⟩);obtain⟨h1,h2⟩:=yw _ (uW hb);exact fin (kia_tup (uP h1) (I1.exp x2).kIn IA (Gat _ rfl) h2 (λz=>nomatch z) λtk=> ⟨x1.trans (x2.trans (.tok tk)),.one rfl⟩)
def HR(yw:∀C∈ls,∃B fI,XCl X.K B C fI n)(he:PE X e f)(hb:attributeBase e n X.env (eval e X.env)=eval e X.env):PE X (.Attribute e n pos) (uV ls n f):=λenv Z s r I q=>a6 q λrv hr q=>by
 obtain⟨C,m,d,rfl,q⟩:=tO q;replace q:(if ls.contains C=O/\m=n then U ⟨.c,d⟩ else J)=U r:=q;by_cases hc:ls.contains C=O/\m=n
 case neg=>rw[Gaw hc] at q;cases q
 rw[Gar hc] at q;cases q;obtain⟨hc,rfl⟩:=hc;refine Attribute_any_ (thn (he env Z s _ I hr) λu1 s1 ⟨x1,r1⟩=> ?_) (by rw[arm_eval_Attribute,hb]);obtain⟨a,dx,vs,m2,v,rfl,fx,ns,mn,rd⟩:=wM (show Rep _ _ _ _ from r1);obtain⟨B,fI,cl⟩:=yw C (by simp_all);obtain⟨cd,c1,_,c3⟩:=cl.cd;exact ED (I.exp x1).kIn cl.ga cl.gt cl.be c1 c3 cl.nf fx ns mn rd.inn.handed ⟨x1.trans (.tok _),rd⟩
theorem uY:∀{ds bs us},jP ds=U bs->aP F h ds us->us=bs.map Value.bool
 |[],bs,us,e,r=>by cases e;exact r.empty
 | .bl b::ds,bs,us,e,r=>by
  obtain⟨hV,h,rfl⟩:=Gab.mp (show(jP ds).map _=U bs from e);obtain⟨v,vs,rfl,h1,h2⟩:=r.gM;rw[uY h h2,Inn.bl h1.inn]
  rfl
theorem count_map:∀bs:List Bool,(bs.map Value.bool).countP (isBoolOf O)=bs.countP id
 |[]=>rfl
 |b::bs=>by
  rw[Gav,List.countP_cons,List.countP_cons,count_map bs];cases b<;>rfl
def ER{apos eG:Pos}(ho:PE X o f)(eY:attributeBase o "count" X.env (eval o X.env)=eval o X.env)
  (xv:((backTo eG (starEach [.Constant (.bool O) j p] X.env)).all (λx=> !x.1)&&(backToKw eG (keywordEach [] X.env)).all (λx=>x.1.isSome)
   &&decide ([Expr.Constant (.bool O) j p].length+([]:List Keyword).length+(if([]:List Keyword).isEmpty then 0 else 1)<30))=O)(eN:(apos.endLine==eG.line)=O)(ht:backTo eG (starEach [.Constant (.bool O) j p] X.env)=[(M,eval (.Constant (.bool O) j p) X.env)]):
  PE X (.Call (.Attribute o "count" apos) [.Constant (.bool O) j p] [] eG) (HO f):=λenv Z s r I q=>a6 q λrv hr q=>by
 obtain⟨k,d⟩:=rv;obtain⟨ds,e9,q⟩:=lst_inv q;cases(show d=_ from e9);obtain⟨bs,hb,rfl⟩:=Gab.mp (show(jP ds).map _=U r from q);refine wpAny_Call_method eY xv eN Gcq PySem.F.slot_list_count PySem.F.type_list_count (thn (ho env Z s _ I hr) λu s1 ⟨x1,r1⟩=> ?_);obtain⟨a,eo,rfl,_,t,z,rp⟩:=(r1.inn I).sq rfl;obtain⟨n,ha⟩:=t.ex;refine⟨⟨_,ha,rfl⟩,λb z=>by cases z;exact⟨_,ha,rfl⟩, ?_⟩;rw[ht];obtain⟨eo⟩:=eo;cases(uY hb rp);refine GbY rfl (GcK (GaX (Constant_bool (GbA (call_meets PySem.F.slot_list_count ⟨_,ha,rfl⟩ PySem.F.entry_list_count (PySem.F.args_list_count_2 _ _) (PySem.SeqAt.list_countAt a _ n J #[] _ (isBoolOf O)) ⟨ha,λy hy=> ?_, ?_⟩)))))
 .obtain⟨b,_,rfl⟩:=GaP.mp (Geq.mpr hy);exact PySem.SeqAt.EqAt.bool_bool b O
 .rw[show((bs.map Value.bool).toArray.toList)=bs.map Value.bool from rfl,count_map];exact⟨x1.trans (.tok _),.one rfl⟩
end
end
end NL
namespace DL
def mkS(h n0 C k:Nat)(sp:SpM)(a:DA)(g:DSM):DS:=λenv=>(a env).bind λrs=>if rs.all (·.free)=O then(sp (List.replicate k J) (rs.map (·.d))).bind λr=>match r with
 |(.ret .non,os)=>(g (env.set h (U (.sh (.ins C)))++os.map (Option.map Slot.sh))).bind λo=>match o with
  | .ret d _=>U (.ret d)
  | .fin d=>U (.ret d)
  |_=>J
 |_=>J else J
end DL
namespace NL
open PySem PySem.Spec PyProof.Rows DL
open PySem.W (InitBack instObj emptyDict makesIn findIn)
section
variable [Wd]
def Cx.more(X:Cx)(dx:Vh):Cx:={X with bad:=λb=>X.bad b\/b=dx}
section
variable{X:Cx}
def Inv.OF{s s0:Vg}(I0:Inv X env Z s0)(x:Ext X No s0 s)(n:s0.heap.get? dx=J)(t:Th s.heap dx)(nt:∀o,s.heap.get? dx=U o->¬qW o)(xF:X.ob=[]):Inv (X.more dx) env Z s:=by
 have I:=I0.exp x;have cl:∀b,Cln X env Z b->b≠dx->Cln (X.more dx) env Z b:=λb z q=> ⟨λy=>y.elim z.1 q,z.2⟩;have ne:∀{b},Th _ b->b≠dx:=λ{b} t z=>t (z▸n);have kp:∀b o,Cln X env Z b->s0.heap.get? b=U o->¬ItO o->Cln _ env Z b/\s.heap.get? b=U o:=λb o f g _=> ⟨cl b f (ne (.of g)),Ext.nf I0 x f.1 g⟩;have tk:∀{d a},Top _ _ d a->¬X.bad a->¬(X.more dx).bad a/\Top _ _ d a:=λ{d a} q nb=>by
  exact⟨λz=>z.elim nb (ne (by obtain⟨_,_,_,_,t,_⟩:=q;exact t.th)),q.keep kp λo g _=>Ext.nf I0 x nb g⟩
 refine⟨⟨I.ok.mod,I.ok.kind,I.ok.glob,I.ok.blt,I.ok.above,I.ok.inj,I.ok.has,I.ok.cab,I.ok.hd,I.ok.frames,I.ok.stk,I.ok.exf,I.ok.bs,I.ok.Jj,I.ok.lG,(λb z=> .inl (I.ok.vb b z)),I.ok.cf,λo ho=> ?_⟩,I.os,I.bare,I.base,I.slot,I.loc,I.cell,λi t g=> ?_,I.dj,I.len,λb z=>z.elim (I.bt b) λq=>q▸‹Th _ dx›,I.th0,λb o z g=>z.elim (λz=>I.bt2 b o z g) λq=>nt o (q▸g),λo ho=> ?_⟩
 .have ho:o∈X.ob:=ho;rw[xF] at ho;cases ho
 .have q:=I0.sl i t g;cases t with
  |sh d=>exact Rep.keep q kp
  |own d=>obtain⟨tp,a,h1,h2,h3,h4⟩:=q;exact⟨tp,a,h1,h2,(tk h4 h3).1,(tk h4 h3).2⟩
  |lok d=>obtain⟨tp,a,h1,h2,h3,h4⟩:=q;exact⟨tp,a,h1,h2,(tk h4 h3).1,(tk h4 h3).2⟩
  |bor d=>obtain⟨tp,a,h1,h3,h4⟩:=q;exact⟨tp,a,h1,(tk h4 h3).1,(tk h4 h3).2⟩
 .have ho:o∈X.ob:=ho;rw[xF] at ho;cases ho
def Inv.forget{e:aM}{a:Vh}{ns:List Str}(I:Inv ((X.more dx).wo PN (iA a dx C X.N.length ns h) []) e Z s)(ok:X.Ok)(xF:X.ob=[]):Inv X (e.take X.N.length) Z s:=by
 have le:_=(X.N++PN).length:=I.len;have gt:∀{i:Nat} {t:Slot},(e.take X.N.length)[i]? =U (U t)->i<X.N.length/\e[i]? =U (U t):=λ{i t} g=>by
  rw[GcV] at g;simp_all
 have tp:∀{i:Nat},ba (e.take X.N.length)[i]? ->ba e[i]? :=λ{i} g=>by
  rw[GcV] at g;split at g<;>first|exact g|exact g.elim
 have tl:∀{i:Nat},lF (e.take X.N.length)[i]? ->lF e[i]? :=λ{i} g=>by
  rw[GcV] at g;split at g<;>first|exact g|exact g.elim
 have cl:∀b,Cln ((X.more dx).wo PN (iA a dx C X.N.length ns h) []) e Z b->Cln X _ Z b:=λb z=> ⟨λy=>z.1 (.inl y),λi t=>z.2 i (tp t)⟩;refine⟨ok,I.os,I.bare,λb o g f _=>I.base b o g f (λz=>nomatch z),I.slot, ?_,I.cell,λi t g=> ?_,λi j b h1 h2=>I.dj i j b (tl h1) (tp h2),by rw[Gdr,le];simp,λb z=>I.bt b (.inl z),I.th0,λb o z=>I.bt2 b o (.inl z),λo ho=>by rw[xF] at ho;cases ho⟩
 .obtain⟨m,hm,lk⟩:=I.loc;refine⟨m,hm,λi x h1 ⟨t,h2⟩ h3=> ?_⟩;obtain⟨il,h2⟩:=gt h2;exact lk i x (by show(X.N++PN)[i]? =_;rw[GaS il];exact h1) ⟨t,h2⟩ h3
 .have q:=I.sl i t (gt g).2;cases t with
  |sh d=>exact Rep.imp q λb z _=>cl b z
  |own d=>obtain⟨tp,a,h1,h2,h3,h4⟩:=q;exact⟨tp,a,h1,h2,λz=>h3 (.inl z),h4.imp cl⟩
  |lok d=>obtain⟨tp,a,h1,h2,h3,h4⟩:=q;exact⟨tp,a,h1,h2,λz=>h3 (.inl z),h4.imp cl⟩
  |bor d=>obtain⟨tp,a,h1,h3,h4⟩:=q;exact⟨tp,a,h1,λz=>h3 (.inl z),h4.imp cl⟩
end
section
variable{X:Cx}
def ES{ns:List Str}{s:Vg}(F:FnM X.K X.mg X.base k f fd p0 ps C ns sp)(hr:bU (k+1) X.A)(hb:Binds X.K fd (p0::ps))(yL:makesIn X.K C=O)(hi:findIn X.K (.ref C) "__init__"=U (U (.ref f)))(hf:PySem.W.typeIn X.K (.ref f)=U (.type "function"))
  (I:Inv X env Z s)(r:aP (Cln X env Z) s.heap ds us)(eW:sp (List.replicate ns.length J) ds=U (.ret .non,xb)):
  wpX X (call (.ref C) us) (λu s' =>∃a dx xK,u= .ref a/\s.heap.get? a=J/\s.heap.get? dx=J/\Ext X No s s' /\gU (λb=>Cln X env Z b/\b≠dx) s'.heap a dx C ns xb xK) E s:=by
 refine GcJ (EF I.kIn yL hi hf ?_);obtain⟨hh,gg,dr,tk,zJ⟩:=s;have k1:∀b o,hh.get? b=U o->((hh.push emptyDict).push (instObj C hh.objs.size)).get? b=U o:=λb o e=>Gag _ (Gag _ e);have x1:=I.kept k1 tk;have I1:=I.exp x1;have gd:((hh.push emptyDict).push (instObj C hh.objs.size)).get? _=U emptyDict:=Gag _ (Gat _ rfl);have ga:((hh.push emptyDict).push (instObj C hh.objs.size)).get? (hh.objs.size+1)=U (instObj C hh.objs.size):=by
  have:(hh.push emptyDict).objs.size=hh.objs.size+1:=by cases hh;simp
  rw[<-this];exact Gat _ rfl
 have nd:hh.get? _=J:=aJ;have na:hh.get? _=J:=Gbc (Gdz _);have nb:X.base.get? hh.objs.size=J:=by
  cases q:X.base.get? _ with
  |none=>rfl
  |some o=>have:=I.bk _ o q;rw[show(Shared.heap ⟨hh,gg,dr,tk,zJ⟩).get? _=J from nd] at this;cases this
 have sth:∀b∈frs _,Th hh b:=λb m=>let⟨_,o,g,_⟩:=I.stack.mem m;.of g
 generalize hh1:(hh.push emptyDict).push _=h1 at*;have B1:pj X.K X.mg X.base X.A X.stack (λb=>nN O (Cln X env Z) b\/b=hh.objs.size) ⟨h1,gg,dr,tk,zJ⟩:=by
  have e1:=I1.Dm O;exact⟨e1.frames,e1.mod,e1.bs,e1.lG,e1.bare,e1.nt,λb z=>z.elim (e1.bth b) λq=>q▸.of gd,λb o z g=>z.elim (λz=>e1.bnt b o z g) λq t=>by
   rw[q,gd] at g;cases g;obtain⟨_,_,_,z⟩:=t;cases z⟩
 have nF1:∀b,Cln X env Z b->Th hh b->nF _ (λb=>nN O _ b\/b=_) b:=λb z t=> ⟨λm=>z.1 (I.ok.vb b (.inl (I.cA b m))),λy=>y.elim (λy=>y.2 z) λq=>t (q▸nd)⟩;have ia:gU (nF X.stack (λb=>nN O (Cln X env Z) b\/b=hh.objs.size)) h1 (hh.objs.size+1) hh.objs.size C ns (List.replicate ns.length J) (List.replicate ns.length .none):=
  ⟨ga,Gbi (Nat.lt_succ_self _),⟨by simp,by simp⟩,_,Heap.Ns1.of_empty ⟨_,#[],0,gd,rfl,λe he=>absurd he (by simp),λ_=>rfl⟩,(λn z=>absurd rfl z),λi n od v h1 h2 h3=>by
   have:od=J:=by rw[GdO] at h2;split at h2<;>cases h2;rfl
   subst this;exact⟨(λd z=>nomatch z),λ_=>rfl⟩⟩
 refine Gdn (F.run _ X.stack _ ⟨h1,gg,dr,tk,zJ⟩ ⟨.ref (hh.objs.size+1)::us,[]⟩ us ds _ _ (hh.objs.size+1) hh.objs.size _ xb (hr.und C us) (B1.und C us) (.inr rfl) (λm=>sth _ m nd) (⟨λm=>sth _ m na,λy=>y.elim (λy=>y.2 (I.cl na)) λq=>absurd q (Nat.succ_ne_self _)⟩) nb (hb _ _ I1.kIn (by rw[GaC,GaC,<-r.1,F.len _ _ _ eW])) ia (r.keep λb o z g _=> ⟨nF1 b z (.of g),k1 b o g⟩) eW) λr s' eX=>hde λG eJ=> ?_;obtain⟨s1,xK,c,yB,c2,q⟩:=eX;refine eJ ?_;obtain⟨rfl,u,rfl,rs⟩:=q;have eu:=(rs.2 rfl).inn.non;subst eu;obtain⟨g1,g2,g3,mA,g4,g5,g6⟩:=yB;refine⟨rfl,_,_,xK,rfl,na,nd,⟨⟨c.os,λ_=>c.bare,λb o g f _=> ?_,λb o g f=> ?_⟩,λb t=> ?_⟩,g1,g2,g3,mA,g4,g5,λi n od v z1 z2 z3=> ⟨λd e=> ⟨((g6 i n od v z1 z2 z3).1 d e).1,((g6 i n od v z1 z2 z3).1 d e).2.imp λb z _=> ⟨GaO λn=>z.2 (.inl ⟨rfl,n⟩),λq=>z.2 (.inr q)⟩⟩,(g6 i n od v z1 z2 z3).2⟩⟩
 .exact c.keep b o (k1 b o g) (λm=>f (I.cA b m)) λq=>by rw[q] at g;rw[show(Shared.heap ⟨hh,gg,dr,tk,zJ⟩).get? hh.objs.size=J from nd] at g;cases g
 .by_cases m:b∈frs X.stack
  .exact c.slot b o (k1 b o g) m
  .exact⟨o.slots,c.keep b o (k1 b o g) m λq=>by rw[q] at g;rw[show(Shared.heap ⟨hh,gg,dr,tk,zJ⟩).get? hh.objs.size=J from nd] at g;cases g⟩
 .exact c.th b (x1.th b t)
def ET{e' :aM}(I:Inv X env Z s)(hr:cM X env Z s s r u)(xu:stored i r env=U e')(hN:X.N.Nodup)(hi:X.N[i]? =U x)(hx:Loc X x)
  (hf:X.fn x=O\/X.env.scope.names.lookup x=U .local)(q:∀s',Inv X e' (iR Z i u) s' ->Stp X No env Z s e' (iR Z i u) s' ->Q () s'):wpAny UT A (storeName X.env x u) Q E s:=by
 refine hde λG fin=> ?_;obtain⟨t,rfl,h1,h2,h3,h4,h5⟩:=kU I .refl hr xu;refine fin (store I hN hi hx hf h2 h3 λs' I' k z=>q s' I' ⟨λb o g v _ _=>k b o g v,h4,h5,λj t' w g=> ?_,z⟩);rcases eK g with⟨_,q⟩| ⟨hj,q⟩
 .lia
 .exact⟨q,aX hj⟩
theorem EU{ns:List Str}{p4:Pos}(xH:X.gA)(xF:X.ob=[])(hex:X.ex=[])(hN:X.N.Nodup)(SO:X.N[h]? =U x)(hx:Loc X x)(U2:X.fn x=O\/X.env.scope.names.lookup x=U .local)(F:FnM X.K X.mg X.base k f fd p0 ps C ns sp)(hr:bU (k+1) X.A)(hb:Binds X.K fd (p0::ps))(yL:makesIn X.K C=O)(hi:findIn X.K (.ref C) "__init__"=U (U (.ref f)))(hf:PySem.W.typeIn X.K (.ref f)=U (.type "function"))
  (hg:Gl X cn)(hm:X.mg cn=U (.ref C))(hk:PySem.W.keepIn X.K (.ref C)=O)(ha:PA X (e::es) ra)(he:starEach (e::es) X.env=(M,eval e X.env)::starEach es X.env)(xg:(backTo p3 (starEach es X.env)).any (·.1)=M)(xw:(cn==Dgs)=M)(hs:swapsWith (.Call (.Name cn p2) (e::es) [] p3) (U (.Name x p1)) p4.line X.env=pure M)
  (hp:PN.length=ns.length)(hJ:∀x∈PN,¬Vis X.env.scope x)(zM:∀a dx,X.base.get? dx=J->X.s₀.heap.get? dx=J->QMs ((X.more dx).wo PN (iA a dx C X.N.length ns h) []) rest g):
  PSs X (.Assign [.Name x p1] (.Call (.Name cn p2) (e::es) [] p3) p4::rest) (mkS h X.N.length C ns.length sp ra g):=λenv Z s o I q=>a6 q λrs xp q=>by
 by_cases hfree:rs.all (·.free)=O
 case neg=>rw[Gaw hfree] at q;cases q
 rw[Gar hfree] at q;refine a6 q λmo eW q=> ?_;obtain⟨m,xb⟩:=mo;cases m with
 |rz=>cases q
 |ret d=>
 cases d<;>first|cases q;done|skip
 refine a6 q λo1 TN q=>Gbq (Gco (Gbu (je I hg hm (Gce I.ok.mod.kin hk (GaB (ha p3 env Z s rs I xp) (λus s1 ⟨x1,p⟩=> ⟨(I.exp x1).kIn, ?_⟩) λx s z=>(xH x s z).elim) he xg) xw)) hs);have I1:=I.exp x1;refine GaB (ES F hr hb yL hi hf I1 (gG I p hfree) eW) (λu s2 eX=>(hde λG eJ=> ?_)) λ_ _ z=>z;obtain⟨a,dx,xK,eu,na,nd,x2,ia⟩:=eX;refine eJ ?_;subst eu;obtain⟨ga,ne,gl,mA,n1,wi,at_⟩:=ia;have Im:=I1.OF x2 nd (let⟨_,_,_,g,_⟩:=n1;.of g) (AY n1) xF;have nv:=λ{b} n v=>I1.bt b (I1.ok.vb b v) n;have no:∀{b},s1.heap.get? b=J->¬Own env Z b:=λ{b} n yz=>by
  obtain⟨i,h1,h2⟩:=yz;obtain⟨a',e',t',_⟩:=I1.ri h1.ol.top;rw[h2] at e';cases e';exact t' n
 refine ET (X:=X.more dx) (r:=⟨.c,.ins C⟩) Im (.sq (eo:=#[]) rfl ⟨λz=>z.elim (I1.cl na).1 (Gbg ne),(I1.cl na).2⟩ ⟨dx,ga⟩ (GaN 0) rfl (λi d v e=>by cases e)) rfl hN SO hx U2 λs3 I3 y3=> ?_;have ia3:gU (Cln (X.more dx) (env.set h (U (.sh (.ins C)))) (iR Z h (.ref a))) s3.heap a dx C ns xb xK :=by
  exact⟨y3.keep _ _ ga (nv na) (no na) id,ne,gl,mA,let⟨o,es,ep,g,r⟩:=n1;⟨o,es,ep,y3.keep _ _ g (nv nd) (no nd) id,r⟩,wi,λi n od v z1 z2 z3=> ⟨λd e=> ⟨((at_ i n od v z1 z2 z3).1 d e).1,(Stp.rep y3 Im (((at_ i n od v z1 z2 z3).1 d e).2.imp λb z _=> ⟨λq=>q.elim z.1.1 z.2,z.1.2⟩))⟩,(at_ i n od v z1 z2 z3).2⟩⟩
 have nb:X.base.get? dx=J:=by
  cases q:X.base.get? dx with
  |none=>rfl
  |some o=>have:=I1.bk dx o q;rw[nd] at this;cases this
 refine GaB (zM a dx nb (I1.n0 nd) _ _ s3 o1 (I3.widen (ex:=[]) xF hex ⟨_,Gau (by rw[I.len];exact(Gae.mp SO).1)⟩ bp (by rw[hp];exact gl.1) hJ ia3 (.inr rfl) (nv nd) (nv na) (λb z=>nomatch z) nb) TN) (λfl s4 k4=> ?_) λx s4 k4=> ?_
 .cases o1<;>cases q
  .cases fl<;>first|exact False.elim k4|skip
   obtain⟨⟨Z',I'⟩,Rz⟩:=k4;exact⟨⟨_,Z',Inv.forget I' I.ok xF⟩,Rz.imp λb z=> ⟨z.1,λy=>z.2 (.inl y)⟩⟩
  .cases fl<;>first|exact False.elim k4|skip
   obtain⟨⟨e',Z',I'⟩,Rz⟩:=k4;exact⟨⟨_,Z',Inv.forget I' I.ok xF⟩,Rz.imp λb z=> ⟨z.1,λy=>z.2 (.inl y)⟩⟩
 .cases o1<;>first|exact False.elim k4|cases q
end
end
end NL
namespace DL
def qu(g:DG)(body:DSM):List D->Env->Option OX
 |[],e=>U (.nx e)
 |d::ds,e=>(g d e).bind λe=>(body e).bind λo=>match o with
  | .nx e=>qu g body ds e
  | .rz _ _ _ _=>J
  |o=>U o
def HS(src:DI)(g:DG)(body:DSM):DSM:=λenv=>(src env).bind λds=>qu g body ds env
end DL
namespace NL
open PySem PySem.Spec PyProof.Rows DL
open PySem.W (KTurns)
section
variable [Wd]
def Stp.JG(x:Stp X W env Z s env' Z' s')(k:∀b,W b->W' b):Stp X W' env Z s env' Z' s' :=⟨λb o g v w n=>x.keep b o g v w λz=>n (k b z),x.own,x.cl,x.lk,x.th⟩
def LU{X:Cx}{s s2:Vg}{w:Bool}{ds:List D}{fs:DSM}{P:Nat->Vf->Vj->Prop}{St:Nat->Vj->Prop}{G:Vh->Prop}{R:Result->Vg->Prop}(xH:X.gA)(W:KTurns X.prog X.w X.A tg I fp wr ds.length P Md St)(I0:Inv X env Z s)(x0:Ext X No s s2)(yU:St 0 s2.heap)
  (hf:∀b∈fp,¬X.bad b/\¬Own env Z b/\Th s2.heap b)(hw:∀b∈wr,s.heap.get? b=J)(hi:∀i h,St i h->∀b∈wr,∃o,h.get? b=U o/\ItO o)(hG:∀b,G b->Cln X env Z b/\Th s2.heap b/\b∉wr)
  (rep:∀i v h d,ds[i]? =U d->P i v h->(∀b o,G b->s2.heap.get? b=U o->h.get? b=U o)->ItR w G h d v)
  (hg:PG X w tg gd)(hb:QMs X body fs)(q:qu gd fs ds env=U o)(hR:∀fl s',SM X env Z s o fl s' ->R (.ok fl) s'):
  codeAny (model X.prog X.w) X.A (.forLoop tg (.ref I) body [] X.env) R s2:=by
 have hw2:∀b∈wr,X.s₀.heap.get? b=J/\¬X.bad b:=λb m=> ⟨I0.n0 (hw b m),λz=>I0.bt b z (hw b m)⟩;have nvf:∀b∈fp,¬X.vol b:=λb m z=>(hf b m).1 (I0.ok.vb b z);have nff:∀b,X.fw b->X.bad b:=λb ⟨o,ho,e⟩=>e▸(I0.ok.ob o ho).1;have ps:∀{α:Type} {t:Sem α} {Q:α->Vg->Prop} {s},wpAny _ _ t Q X.xe s->wpX X t Q (notedBy (model X.prog X.w) X.A X.env λe s' =>R (.error e) s') s:=λh=>GaB h (λ_ _ q=>q) λx s z=>(xH x s z).elim;refine codeAny_forLoop_any (λn s' =>∃i e' Z',Inv X e' Z' s' /\Stp X (λb=>b∈wr\/X.fw b) env Z s2 e' Z' s' /\St i s'.heap/\i<=ds.length/\n=ds.length -i/\qu gd fs (ds.drop i) e' =U o) ?_ ds.length ⟨0,env,Z,I0.exp x0,.refl,yU,Gbm _,rfl,q⟩;rintro n s3 ⟨i,e3,Z3,I3,x3,yA,hle,rfl,q3⟩;have fin:∀{e' Z' s'},Inv X e' Z' s' ->(∀b o,s2.heap.get? b=U o->¬X.vol b->¬Own env Z b->¬(b∈wr\/X.fw b)->s'.heap.get? b=U o)->(∀b,Own e' Z' b->Own env Z b\/s2.heap.get? b=J)->(∀b,Cln X env Z b->Th s2.heap b->Cln X e' Z' b)->
   (∀i t,isB t->e'[i]? =U (U t)->env[i]? =U (U t)/\Z' i=Z i)->(∀b,Th s2.heap b->b∉wr->Th s'.heap b)->Stp X X.fw env Z s e' Z' s' :=λ_ kp ow cl lk th=> ⟨λb o g v w n=>kp b o (x0.keep b o g (λz=>v (.inl z)) id) v w (λm=>m.elim (λm=>by rw[hw b m] at g;cases g) n),
  λb z=>(ow b z).imp id x0.n0,λb c t=>cl b c (x0.th b t),lk,λb t=>th b (x0.th b t) λm=>t (hw b m)⟩
 by_cases hU:i<ds.length
 .refine ps (thn (draw W I3 yA hw2 hi hU) λr s4 ⟨v,hr,h4⟩=> ?_);subst hr;refine GaB h4 (λ_ s5 ⟨p,yh,I5,k5⟩=> ?_) λx s z=>(xH x s z).elim;have x5:Ext X (· ∈wr) s3 s5:=⟨k5.ex0 (λb m=>nvf b (W.sub b m)),λb z=>(Classical.em (b∈wr)).elim (λm=>let⟨o,g,_⟩:=hi _ _ yh b m;.of g) (k5.th b z)⟩
  rw[(Gbz hU)] at q3;refine a6 q3 λe4 zx q4=>a6 q4 λo5 zT q5=> ?_;have gk:∀b o,G b->s2.heap.get? b=U o->s5.heap.get? b=U o:=λb o z g=>by
   obtain⟨c,t,n⟩:=hG b z;exact k5.keep n (x3.keep b o g (λz=>c.1 (I0.ok.vb b z)) (λ⟨j,h1,h2⟩=>c.2 j h1.ol.top h2) λm=>m.elim n λm=>c.1 (nff b m))
  refine GaB (hg e3 Z3 _ _ _ e4 I5 zx ((rep i v _ ds[i] (by simp[hU]) p gk).imp (F' :=Cln X e3 Z3) λb z _=>x3.cl b (hG b z).1 (hG b z).2.1)) (λ_ s6 ⟨Z6,I6,x6⟩=>(GaB (hb e4 Z6 s6 o5 I6 zT) (λfl s7 k7=> ?_) λx s z=> ?_)) λx s z=>(xH x s z).elim
  .have up:∀{e7 Z7},Stp X X.fw e4 Z6 s6 e7 Z7 s7->Stp X (λb=>b∈wr\/X.fw b) env Z s2 e7 Z7 s7:=λx7=>
    x3.trans ((x5.stp.JG λb z=> .inl z).trans ((x6.mono.trans x7).JG λb z=> .inr z))
   cases o5<;>cases fl<;>first|exact False.elim k7|skip
   .obtain⟨Z7,I7,x7⟩:=k7;exact⟨_,by lia,i+1,_,_,I7,up x7,(λx7=>W.frame _ _ _ yh λb m o g=>(x6.mono.trans x7).keep b o g (nvf b m) ((λb hb z=>(x3.own b z).elim (hf b hb).2.1 λn=>(hf b hb).2.2 n) b m) λz=>(hf b m).1 (nff b z)) x7,hU,rfl,q5⟩
   .cases q5;exact hR _ _ k7
   .cases q5;exact hR _ _ k7
  .cases o5<;>first|exact False.elim z|cases q5
 .have eV :i=ds.length:=by lia
  subst eV;rw[GbS] at q3;cases q3;refine ps (thn (drawn W I3 yA hw2 hi) λr s4 ⟨hr,I4,k4⟩=> ?_);subst hr;exact GbF (hR _ _ ⟨Z3,I4,fin I4 (λb o g v w m=>k4.keep (λz=>m (.inl z)) (x3.keep b o g v w m)) x3.own x3.cl x3.lk λb t m=>k4.th b (x3.th b t) m⟩)
def LV{X:Cx}(xH:X.gA)(hi:PI X w tg iter src)(hg:PG X w tg gd)(hb:QMs X body fs)(hs:∀x,foldedSetIterable iter X.env x=pure x):QM X (.For tg iter body [] pos) (HS src gd fs):=λenv Z s o I q=>a6 q λds hd hl=>by
 refine wpAny_For (GaB (hi env Z s ds I hd) (λv s1 h1=>GaB h1 (λyJ s2 eX=>(hde λG eJ=> ?_)) λx s z=>(xH x s z).elim) λx s z=>(xH x s z).elim) hs;obtain⟨I',fp,wr,P,Md,St,G,e,x2,W,yU,h1,h2,h3,h4,_,h5⟩:=eX;refine eJ ?_;subst e;exact LU xH W I x2 yU h1 h2 h3 h4 h5 hg hb hl λ_ _ z=>z
end
end NL
namespace DL
end DL
namespace NL
open PySem PySem.Spec PyProof.Rows DL
end NL
namespace DL
end DL
namespace NL
open PySem PySem.Spec PyProof.Rows DL
end NL
namespace NL
open PySem DL
abbrev SpR:=List (Option D)->SpF
structure Ot where
 x:Str
 h:Nat
 C:Nat
 ns:List Str
 n0:Nat
 w:Bool
 rd:Str->Option (Nat×SpR)
 mt:Str->Option (Nat×SpM)
 fm:Str->Option (Nat×SpM)
def Ot.js(t:Ot):List Nat:=(List.range t.ns.length).map (t.n0+ ·)
def Ot.ix(t:Ot)(n:Str):Option Nat:=(ixN t.ns n).map (t.n0+ ·)
structure Xt where
 ob:Option Ot
 xf:Str->List Nat
 isi:Vi->Option (List (Nat×Bool))
 rz:Str->Option (Nat×Str×Bool)
 ct:Str->Option (List Nat)
def isO(T:Xt)(e:Vi):Option Ot:=T.ob.bind λt=>av (nmO e==U t.x) (U t)
def fxR(T:Xt)(E:Vi->Option DE)(o:Vi)(n:Str):Option DE:=match(isO T o).bind (·.ix n) with
 |some j=>U (vE j)
 |none=>av (atB o) ((E o).map (uV (T.xf n) n))
def ixX(T:Xt)(Tx:Bool)(E:Vi->Option DE):List Vi->Option DE
 |[a,c]=>av (Tx&&ns a&&ns c) ((T.isi c).bind λcs=>(E a).map (og cs))
 |_=>J
def EW:Vi->Option Bool
 | .Constant c _ _=>(match c with
  | .bool b=>U b
  |_=>J)
 |_=>J
def OG:List Vi->Bool
 |[]=>M
 |a::as=>as.isEmpty&&EW a==U O
def mcR(T:Xt)(E:Vi->Option DE)(e:Vi):Option DE:=(uN e).bind λq=>match isO T q.1 with
 |some t=>(t.rd q.2.1).bind λp=>av (q.2.2.length==p.1&&decide (q.2.2.length<30)) ((aR E q.2.2).map λa=>rdE t.C t.h t.js p.2 a.2)
 |none=>av (q.2.1=="count"&&OG q.2.2) ((E q.1).map HO)
def hkX(T:Xt)(bl:Str->Bool)(E:Vi->Option DE)(e:Vi):Option DE:=match e with
 | .Attribute o n _=>fxR T E o n
 | .Call f args kw _=>(match f with
  | .Name x _=>av (x=="isinstance"&&kw.isEmpty) (ixX T (bl x) E args)
  | .Attribute _ _ _=>mcR T E e
  |_=>J)
 |_=>J
def HU:List Vi->Option Vi
 |[e]=>U e
 |_=>J
def hd1:List Vi->Option (Vi×List Vi)
 |[]=>J
 |a::as=>U (a,as)
def xmC(T:Xt)(E:Vi->Option DE)(e:Vi):Option DEM:=(Eh e).bind λc=>((nmO c.1).bind λx=>(hd1 c.2.1).bind λq=>(isO T q.1).bind λt=>(t.fm x).bind λp=>av (c.2.2.1.isEmpty&&q.2.length==p.1&&t.w) ((aR E q.2).map λr=>cY t.C t.h t.js p.2 r.2)).or ((uN e).bind λq=>(isO T q.1).bind λt=>(t.mt q.2.1).bind λp=>av (q.2.2.length==p.1&&decide (q.2.2.length<30)&&t.w) ((aR E q.2.2).map λa=>cY t.C t.h t.js p.2 a.2))
def xmR(T:Xt)(E:Vi->Option DE)(e:Vi):Option DEM:=xmC T E e
def rzR(T:Xt)(E:Vi->Option DE)(o:Option Vi):Option DSM:=o.bind λe0=>(Eh e0).bind λq=>av q.2.2.1.isEmpty ((nmO q.1).bind λc=>(HU q.2.1).bind λe=>(T.rz c).bind λq=>av (ns e) ((E e).map λf=>rzX q.1 q.2.1 q.2.2 f))
def exV:List ExceptHandler->Option (Vi×Str×List Vk)
 |[.ExceptHandler (U c) (U en) b _]=>U (c,en,b)
 |_=>J
def OH:List Vk->Option (List Vi×Vi)
 |[.Assign ts e _]=>U (ts,e)
 |_=>J
def trR(T:Xt)(G:Gm)(f:DSM)(hs:List ExceptHandler):Option DSM:=(exV hs).bind λq=>(nmO q.1).bind λc=>(OH q.2.2).bind λa=>(HU a.1).bind λt=>(nmO t).bind λx=>(nmO a.2).bind λy=>(T.ct c).bind λcs=>(lR G x).bind λj=>(lR G q.2.1).bind λk=>av (y==q.2.1&&j !=k&&G.top&&G.kd q.2.1==U .local&& !odd q.2.1) (U (uU cs j k f))
def asX(T:Xt)(G:Gm)(E:Vi->Option DE)(e:Vi)(ts:List Vi):Option DSM:=(HU ts).bind λt=>((nmO t).bind λx=>(xmR T E e).bind λf=>(lR G x).bind λi=>av (nLC e) (U (rf i f))).or ((Lh t).bind λq=>(isO T q.1).bind λt=>(t.ix q.2.1).bind λj=>av (t.w&&nLC e) ((E e).map λf=>wH j f))
def stX(v:Ev)(G:Gm)(T:Xt)(B:List Vk->Option DSM)(s:Vk):Option DSM:=match s with
 | .Assign ts e _=>(asX T G v.E e ts).or ((v.S s).map cB)
 | .Expr e _=>((xmR T v.E e).bind λf=>av (nLC e) (U (AW f))).or ((v.S s).map cB)
 | .Return e _=>e.bind λe=>((xmR T v.E e).map rR).or ((v.E e).map Ci)
 | .If c xs ys _=>(v.T c).bind λt=>(B xs).bind λa=>(B ys).map λb=>ifX t a b
 | .For tg iter body els _=>(((Ej G iter).bind λ_=>v.S s).map cB).or (av (els.isEmpty&&Ef iter) ((Ei v G tg iter).bind λsrc=>(tgR G tg).bind λgd=>(B body).map λb=>HS src gd b))
 | .Raise e c _=>av c.isNone (rzR T v.E e)
 | .Try body hs els fin _=>av (els.isEmpty&&fin.isEmpty) ((B body).bind λf=>trR T G f hs)
 |_=>(v.S s).map cB
def blX(v:Ev)(G:Gm)(T:Xt):Nat->List Vk->Option DSM
 |0,_=>J
 |n+1,b=>match b with
  |[]=>U aE
  |s::rest=>(stX v G T (blX v G T n) s).bind λf=>(blX v G T n rest).map λg=>aF f g
def lwX(v:Ev)(G:Gm)(mk:Str->Option (Nat×Nat×Nat×SpM))(rest:Nat->List Vk->Option DSM):List Vk->Option DS
 |[]=>J
 |s::r=>((asV s).bind λq=>(nmO q.1).bind λx=>(Eh q.2).bind λc=>(nmO c.1).bind λy=>av c.2.2.1.isEmpty ((mk y).bind λUT=>(lR G x).bind λh=>av (c.2.1.length==UT.2.2.1&& !c.2.1.isEmpty) ((aR v.E c.2.1).bind λa=>(rest h r).map λg=>mkS h G.N.length UT.1 UT.2.1 UT.2.2.2 a.2 g))).or ((v.S s).bind λf=>(lwX v G mk rest r).map λg=>ak f g)
end NL
namespace NL
open PySem PySem.Spec PyProof.Rows DL
open PySem.W (findIn isFn keepIn kitOne kitAny)
section
variable [Wd]
inductive RdR(X:Cx)(C:Vh)(ns:List Str)(m:Str)(sp:List (Option D)->SpF):Prop
 |mk (k f fd p0 ps:_) (_:FnR X.K X.mg X.base k f fd p0 ps C ns sp) (_:bU k X.A) (_:Binds X.K fd (p0::ps)) (_:findIn X.K (.ref C) m=U (U (.ref f))) (_:isFn X.K (.ref f)=O) (_:keepIn X.K (.ref f)=O) (_:m∉ns):RdR X C ns m sp
inductive MtR (X:Cx) (C:Vh) (ns:List Str) (m:Str) (sp:SpM):Prop
 |mk (k f fd p0 ps:_) (_:FnM X.K X.mg X.base k f fd p0 ps C ns sp) (_:bU k X.A) (_:Binds X.K fd (p0::ps)) (_:findIn X.K (.ref C) m=U (U (.ref f))) (_:isFn X.K (.ref f)=O) (_:keepIn X.K (.ref f)=O) (_:m∉ns):MtR X C ns m sp
inductive FmR (X:Cx) (C:Vh) (ns:List Str) (x:Str) (sp:SpM):Prop
 |mk (k f fd p0 ps:_) (_:FnM X.K X.mg X.base k f fd p0 ps C ns sp) (_:bU k X.A) (_:Binds X.K fd (p0::ps)) (_:X.mg x=U (.ref f)) (_:keepIn X.K (.ref f)=O) (_:Gl X x) (_:(x==Dgs)=M):FmR X C ns x sp
structure HV(X:Cx)(t:Ot)(o:Ob):Prop where
 mem:o∈X.ob
 h:o.h=t.h
 C:o.C=t.C
 fs:o.fs=t.ns.zip t.js
 nd:t.ns.Nodup
 nh:t.h∉t.js
 lt:∀j∈t.js,j<X.N.length
 sep:∀UR:Nat->Prop,(∀j,UR j->j∈t.js)->X.sep o UR
 dx:t.w=O->o.dx∈X.ex\/X.s₀.heap.get? o.dx=J
 nb:X.base.get? o.dx=J
 N:X.N[t.h]? =U t.x
 vis:Vis X.env.scope t.x
 d1:(t.x==Dgs)=M
 d2:(t.x==("__classdict__":Str))=M
 cls:kq X.K o.C
 no:∀n∈t.ns,findIn X.K (.ref o.C) n=U J
 sz:t.ns.length<=sizeLine
 rd:∀m np sp,t.rd m=U (np,sp)->RdR X o.C t.ns m sp
 mt:∀m np sp,t.mt m=U (np,sp)->MtR X o.C t.ns m sp
 fm:∀x np sp,t.fm x=U (np,sp)->FmR X o.C t.ns x sp
structure pv(X:Cx)(T:Xt)(bl:Str->Bool):Prop where
 gA:X.gA
 ob:∀t,T.ob=U t->∃o,HV X t o
 xf:∀n,∀C∈T.xf n,∃B fI,XCl X.K B C fI n
 bl:bl "isinstance"=O->Gl X "isinstance"/\X.mg "isinstance"=J
 isi:∀e cs,T.isi e=U cs->(∃u,PCl X e u/\∀q∈cs,XIs X.K q.1/\kitOne X.K (.ref q.1) u=U q.2)\/∃es j p us,e= .Tuple es j p/\wL X es us/\us.length<=sizeLine/\∀q∈cs,XIs X.K q.1/\kitAny X.K (.ref q.1) us=U q.2
def qv{T:Xt}{t:Ot}(h:isO T e=U t):T.ob=U t/\∃p,e= .Name t.x p:=by
 refine hde λG fin=>a6 h λt' h1 h2=>ar h2 λh3 h4=> ?_;cases h4;exact fin (⟨h1,cH (Gas.mp h3)⟩)
def Ot.JH(t:Ot):t.ns.length=t.js.length:=by simp[Ot.js]
def Ot.JI{t:Ot}(h:t.ix n=U j):n∈t.ns/\j∈t.js/\(n,j)∈t.ns.zip t.js/\∃i,t.ns[i]? =U n/\j=t.n0+i:=by
 obtain⟨i,hi,rfl⟩:=Gab.mp h;have h1:=wB hi;have h2:t.js[i]? =U (t.n0+i):=by unfold Ot.js;rw[Gaj,GdC ((Gae.mp h1).1)];rfl
 exact⟨GaH h1,GaH h2,GaH (by rw[Gci];exact⟨h1,h2⟩),i,h1,rfl⟩
theorem ja{env:f7}:∀{es},es.all ns=O->∀pos,(backTo pos (starEach es env)).any (·.1)=M
 |[],_,_=>rfl
 |e::es,h,pos=>by
  rw[GbK,Gac] at h;rw[aW h.1];show(_::backTo pos _).any _=M;rw[List.any_cons,ja h.2 pos]
  rfl
def wN{es:List Vi}{env:f7}(h:es.all ns=O)(hl:es.length<30)(pos:Pos):((backTo pos (starEach es env)).all (λx=> !x.1)&&(backToKw pos (keywordEach [] env)).all (λx=>x.1.isSome)&&decide (es.length+([]:List Keyword).length+(if([]:List Keyword).isEmpty then 0 else 1)<30))=O:=by
 have h1:(backTo pos (starEach es env)).all (λx=> !x.1)=O:=by
  rw[Gal];intro q hq;have:=GeK.mp (ja h pos) q hq
  simpa using this
 have h2:(backToKw pos (keywordEach [] env)).all (λx=>x.1.isSome)=O:=rfl;rw[h1,h2];simp[hl]
def LW(XT:pv X T bl)(hE:∀e f,E e=U f->PE X e f)(h:fxR T E o n=U f):PE X (.Attribute o n pos) f:=by
 unfold fxR at h;split at h
 .rename_i j hq;cases h;refine a6 hq λt ht hj=> ?_;obtain⟨h1,p,rfl⟩:=qv ht;obtain⟨ob,US⟩:=XT.ob t h1;obtain⟨i1,i2,i3,_⟩:=Ot.JI hj;exact LI US.mem (by rw[US.fs];exact i3) US.cls (US.no n i1) (by rw[US.h];exact US.N) US.vis US.d1 US.d2
 .refine ar h λha h=> ?_;obtain⟨f,hf,rfl⟩:=Gab.mp h;exact HR (XT.xf n) (hE o f hf) (ql ha)
def LX(XT:pv X T bl)(hE:∀e f,E e=U f->PE X e f)(h:ixX T (bl "isinstance") E args=U f):PE X (.Call (.Name "isinstance" p) args [] pos) f:=by
 unfold ixX at h;split at h
 .refine ar h λhq h=> ?_;rw[Gac,Gac] at hq;obtain⟨⟨q1,q2⟩,q3⟩:=hq;refine a6 h λcs yw h=> ?_;obtain⟨f,hf,rfl⟩:=Gab.mp h;obtain⟨b1,b2⟩:=XT.bl q1;rcases XT.isi _ _ yw with⟨u,v1,v2⟩| ⟨es,j,p2,us,rfl,v1,v2,v3⟩
  .exact LR v2 v1 (hE _ f hf) b1 b2 (aW q2) (aW q3) (ja (by simp_all) _)
  .exact HQ v3 v2 v1 (hE _ f hf) b1 b2 (aW q2) (aW q3) (ja rfl _)
 .cases h
def tP{X:Cx}{args:List Vi}(hE:∀e f,E e=U f->PE X e f)(h:aR E args=U (k,r)):PA X args r/\args.all ns=O/\((args=[]/\r=aL)\/∃e es,args=e::es/\starEach (e::es) X.env=(M,eval e X.env)::starEach es X.env/\∀cp,(backTo cp (starEach es X.env)).any (·.1)=M):=by
 obtain⟨a1,a2,a3⟩:=lN hE h;refine⟨a1,a3, ?_⟩;cases args with
 |nil=>cases h;exact .inl ⟨rfl,rfl⟩
 |cons e es=>
  rw[GbK,Gac] at a3;exact .inr ⟨e,es,rfl,aW a3.1,ja a3.2⟩
def EX(h:EW e=U b):∃p q,e= .Constant (.bool b) p q:=by
 cases e<;>try exact nn h rfl
 rename_i c _ _;cases c<;>try exact nn h rfl
 cases h;exact⟨_,_,rfl⟩
def HW(h:OG args=O):∃a b,args=[.Constant (.bool O) a b]:=by
 cases args with
 |nil=>exact Bool.noConfusion h
 |cons a as=>
  have h:(_&&EW a==U O)=O:=h;rw[Gac,Gas] at h;obtain⟨p,q,e⟩:=EX h.2;exact⟨p,q,by rw[e,Gba.mp h.1]⟩
def LY(XT:pv X T bl)(hE:∀e f,E e=U f->PE X e f)(h:mcR T E e=U f):PE X e f:=by
 refine hde λG fin=>a6 h λzp hq h9=> ?_;obtain⟨o,m,args⟩:=zp
 clear h;obtain⟨ap,p,rfl,hl,ha⟩:=jh hq;have h:=h9;clear h9;dsimp only at h;refine fin ?_;split at h
 .rename_i t ht;refine hde λG fin=>a6 h λzp hr h=> ?_;obtain⟨np,sp⟩:=zp
  refine ar h λhn h=> ?_;obtain⟨⟨k,r⟩,yK,rfl⟩:=Gab.mp h;rw[Gac] at hn;obtain⟨h1,p2,rfl⟩:=qv ht;obtain⟨ob,US⟩:=XT.ob t h1;obtain⟨k,fa,fd,p0,ps,F,r1,r2,r3,r4,r5,r6⟩:=US.rd m np sp hr;obtain⟨a1,a2,a3⟩:=tP hE yK;have:=EG (px:=p2) F r1 r2 US.mem US.h US.fs t.JH US.nb US.cls r3 r4 r5 r6 (by rw[US.h];exact US.N) US.vis US.d1 US.d2 a1 (a3.imp id λeU=>by obtain⟨e,es,h1,h2,h3⟩:=eU;exact⟨e,es,h1,h2,h3 p⟩) (wN a2 (Gay hn.2) p) hl;rw[US.C] at this;exact fin this
 .refine ar h λhn h=> ?_;obtain⟨f,hf,rfl⟩:=Gab.mp h;rw[Gac] at hn;obtain⟨a,b,rfl⟩:=HW hn.2;cases Gas.mp hn.1;exact ER (hE _ f hf) (ql ha) (wN (es:=[.Constant (.bool O) a b]) rfl (show 1<30 by decide) p) hl rfl
def LZ(XT:pv X T bl)(hE:∀e f,E e=U f->PE X e f)(h:hkX T bl E e=U f):PE X e f:=by
 cases e<;>try exact nn h rfl
 case Attribute=>exact LW XT hE h
 case Call f args kw p=>
  cases f<;>try exact nn h rfl
  case Name x q=>
   refine ar h λhn h=> ?_;rw[Gac] at hn;cases Gas.mp hn.1;cases Gba.mp hn.2;exact LX XT hE h
  case Attribute=>exact LY XT hE h
end
open PySem.W (findIn isFn keepIn kitOne kitAny exmOne)
section
variable [Wd]
structure EY(X:Cx)(T:Xt):Prop where
 st:X.stack=X.env::X.outer
 fr:X.env.frame=U X.env.locals
 ni:X.ni=O
 rz:∀c C n cp,T.rz c=U (C,n,cp)->∃B fI fd x,XCl X.K B C fI n/\ku X.K X.mg X.base fI fd x C n cp/\bU 3 X.A/\Binds X.K fd [("self":Str),x]/\Gl X c/\X.mg c=U (.ref C)/\(c==Dgs)=M
 ct:∀c cs,T.ct c=U cs->∃Cn,(∀C∈cs,exmOne X.K (.ref C) (.ref Cn)=U O)/\Gl X c/\X.mg c=U (.ref Cn)/\(c==Dgs)=M
def HV.OI{t:Ot}(US:HV X t o)(w:t.w=O):HM X o t.ns t.js:=
 ⟨US.mem,US.fs,t.JH,by unfold Ot.js List.Nodup;rw[GdU];exact List.nodup_range.imp λh e=>h (Nat.add_left_cancel e),by rw[US.h];exact US.nh,US.sep _ λj h=>h,US.dx w,US.nb⟩
def M1(h:exV hs=U (c,en,b)):∃p,hs=[.ExceptHandler (U c) (U en) b p]:=by
 rcases hs with _| ⟨⟨_|c,_|en,b,p⟩,_| ⟨_,_⟩⟩<;>first|exact nn h rfl|(cases h;exact⟨_,rfl⟩)
def HX(h:OH b=U (ts,e)):∃p,b=[.Assign ts e p]:=by
 rcases b with _| ⟨s,_| ⟨_,_⟩⟩
 .exact nn h rfl
 .cases s<;>first|exact nn h rfl|(cases h;exact⟨_,rfl⟩)
 .cases s<;>exact nn h rfl
def tQ(h:HU l=U e):l=[e]:=by
 rcases l with _| ⟨s,_| ⟨_,_⟩⟩<;>first|exact nn h rfl|(cases h;rfl)
def M3(h:hd1 l=U (a,as)):l=a::as:=by
 cases l with
 |nil=>exact nn h rfl
 |cons=>cases h;rfl
def M4(XT:pv X T bl)(hE:∀e f,E e=U f->PE X e f)(h:xmC T E e=U fm):PXM X e fm:=by
 refine a6 h λzp h0 h1=> ?_;obtain⟨fn,args,kw,cp⟩:=zp
 refine(GbR.mp h1).elim (λh9=> ?_) λh9=> ?_
 .cases pG h0;refine a6 h9 λy hy h2=>a6 h2 λzp ha h3=> ?_;obtain⟨a,as⟩:=zp
  refine a6 h3 λt ht h4=>a6 h4 λzp hr h5=> ?_;obtain⟨np,sp⟩:=zp
  refine ar h5 λhn h6=> ?_;obtain⟨⟨k,r⟩,yK,rfl⟩:=Gab.mp h6;clear h9 h h0 h1 h2 h3 h4 h5 h6;rw[Gac,Gac] at hn;obtain⟨p1,e1⟩:=cH hy;cases M3 ha;cases Gba.mp hn.1.1;cases e1;obtain⟨h1,p2,rfl⟩:=qv ht;obtain⟨ob,US⟩:=XT.ob t h1;obtain⟨k,fa,fd,p0,ps,F,r1,r2,r3,r4,r5,r6⟩:=US.fm y np sp hr;obtain⟨a1,a2,a3⟩:=tP hE yK;have:=LP (px:=p2) (ap:=p1) (cp:=cp) XT.gA F r1 r2 (US.OI hn.2) r5 r3 r4 (by rw[US.h];exact US.N) US.vis US.d1 US.d2 r6 a1 (aW rfl) (ja a2 _)
  rwa[US.C,US.h] at this
 .refine a6 h9.2 λzp hq h2=> ?_;obtain⟨o,m,args⟩:=zp
  refine a6 h2 λt ht h3=>a6 h3 λzp hr h4=> ?_;obtain⟨np,sp⟩:=zp
  refine ar h4 λhn h5=> ?_;obtain⟨⟨k,r⟩,yK,rfl⟩:=Gab.mp h5;clear h9 h h0 h1 h2 h3 h4 h5;obtain⟨ap,p,rfl,hl,ha⟩:=jh hq;rw[Gac,Gac] at hn;obtain⟨h1,p2,rfl⟩:=qv ht;obtain⟨ob,US⟩:=XT.ob t h1;obtain⟨k,fa,fd,p0,ps,F,r1,r2,r3,r4,r5,r6⟩:=US.mt m np sp hr;obtain⟨a1,a2,a3⟩:=tP hE yK;have:=EJ (px:=p2) XT.gA F r1 r2 (US.OI hn.2) US.cls r3 r4 r5 r6 (by rw[US.h];exact US.N) US.vis US.d1 US.d2 a1 (a3.imp id λeU=>by obtain⟨e,es,h1,h2,h3⟩:=eU;exact⟨e,es,h1,h2,h3 p⟩) (wN a2 (Gay hn.1.2) p) hl
  rwa[US.C,US.h] at this
def wO(g:b8 G X)(XT:pv X T bl)(hE:∀e f,E e=U f->PE X e f)(h:xmR T E e=U fm):PXM X e fm:=M4 XT hE h
def M5(g:b8 G X)(XT:pv X T bl)(hE:∀e f,E e=U f->PE X e f)(h:asX T G E e ts=U fs):QM X (.Assign ts e pos) fs:=by
 refine a6 h λte h0 h1=> ?_;cases tQ h0;refine(GbR.mp h1).elim (λh9=> ?_) λh9=> ?_
 .refine a6 h9 λx hx h2=>a6 h2 λf hf h3=>a6 h3 λi hi h4=>ar h4 λhn h5=> ?_;cases h5;obtain⟨px,rfl⟩:=cH hx;obtain⟨l1,l2,l3⟩:=km g hi;exact LL g.nd l1 l2 l3 (wO g XT hE hf) (ko hn)
 .refine a6 h9.2 λzp h6 h7=> ?_;obtain⟨o,n,pa⟩:=zp
  clear h h1 h9;cases AR h6;refine a6 h7 λt ht h=> ?_;clear h7;refine a6 h λj hj h=>ar h λhn h=> ?_;obtain⟨f,hf,rfl⟩:=Gab.mp h;rw[Gac] at hn;obtain⟨h1,p,rfl⟩:=qv ht;obtain⟨ob,US⟩:=XT.ob t h1;obtain⟨i1,i2,i3,i,i4,i5⟩:=Ot.JI hj;refine LM XT.gA US.mem (by rw[US.fs];exact i3) (US.lt j i2) (λq hq=> ?_) (US.sep _ λj' e=>e▸i2) (by rw[US.h];exactλe=>US.nh (e▸i2)) (US.dx hn.1) (by rw[US.fs];simpa[Ot.js] using US.sz) US.cls (US.no _ i1) (by rw[US.h];exact US.N) US.vis US.d1 US.d2 (hE _ f hf) (ko hn.2);rw[US.fs] at hq;obtain⟨k,hk⟩:=Gbs hq;obtain⟨m,z⟩:=q;rw[Gci] at hk;have kl:=(Gae.mp hk.1).1;have ez:z=t.n0+k:=by
   have:=hk.2;unfold Ot.js at this;rw[Gaj,GdC kl] at this;cases this
   rfl
  subst ez i5;refine⟨λe=> ?_,λe=> ?_⟩
  .subst e;rw[(GeJ kl US.nd).mp (hk.1.trans i4.symm)]
  .have e:k=i:=by simpa using e
   subst e;exact Option.some.inj (hk.1.symm.trans i4)
def M6(XT:pv X T bl)(XS:EY X T)(hE:∀e f,E e=U f->PE X e f)(h:rzR T E oe=U fs):QM X (.Raise oe J pos) fs:=by
 obtain⟨e0,rfl,h0⟩:=eF h;obtain⟨⟨fn,as,kw,p⟩,h1,h2⟩:=eF h0;obtain⟨k0,h3⟩:=cN h2;obtain⟨c,hc,h4⟩:=eF h3;obtain⟨e,he,h5⟩:=eF h4;obtain⟨⟨C,n,cp⟩,hq,h6⟩:=eF h5;obtain⟨hn,h7⟩:=cN h6;obtain⟨f,hf,rfl⟩:=Gab.mp h7;cases pG h1;obtain⟨pc,rfl⟩:=cH hc;cases tQ he;cases Gba.mp k0;obtain⟨B,fI,fd,x,h1,h2,h3,h4,h5,h6,h7⟩:=XS.rz _ _ _ _ hq;exact EK XT.gA h1 h2 h3 h4 h5 h6 (hE _ f hf) h7 (aW hn)
def M7(g:b8 G X)(XS:EY X T)(hb:QMs X body fb)(h:trR T G fb hs=U fs):QM X (.Try body hs [] [] pos) fs:=by
 refine a6 h λzp hx h1=> ?_;obtain⟨ce,en,b⟩:=zp
 refine a6 h1 λc U5 h2=>a6 h2 λzp ha h3=> ?_;obtain⟨ts,ye⟩:=zp
 refine a6 h3 λte ht h4=>a6 h4 λx TF h5=>a6 h5 λy TB h6=>a6 h6 λcs hc h7=>a6 h7 λj hj h8=>a6 h8 λk hk h9=>ar h9 λhn zX=> ?_;cases zX;clear h h1 h2 h3 h4 h5 h6 h7 h8 h9;obtain⟨p1,rfl⟩:=M1 hx;obtain⟨p2,rfl⟩:=cH U5;obtain⟨p3,rfl⟩:=HX ha;cases tQ ht;obtain⟨p4,rfl⟩:=cH TF;obtain⟨p5,rfl⟩:=cH TB;simp only[Gac] at hn;obtain⟨⟨⟨⟨n1,n2⟩,n3⟩,n4⟩,n5⟩:=hn;cases Gas.mp n1;obtain⟨l1,l2,l3⟩:=km g hj;obtain⟨k1,k2,k3⟩:=km g hk;obtain⟨Cn,c1,c2,c3,c4⟩:=XS.ct _ _ hc;have lo:=(g.sw n3 _).trans n4;rw[Gac] at lo;rw[GcI] at n5;unfold odd at n5;rw[GcL] at n5;exact LQ hb XS.st XS.fr c1 c2 c3 g.nd l1 k1 l2 k2 (Gas.mp lo.2) (by simp_all) (ko rfl) l3 c4 n5.1 n5.2
def M8(g:b8 G X)(k:cO v X)(XT:pv X T bl)(XS:EY X T)(hB:∀b f,B b=U f->QMs X b f)(h:stX v G T B s=U fs):QM X s fs:=by
 have lift:∀{s:Vk} {fs},(v.S s).map cB=U fs->QM X s fs:=λh=>by
  obtain⟨f,hf,rfl⟩:=Gab.mp h;exact AX XT.gA (k.S _ f hf)
 cases s with
 |Assign ts e p=>exact(GbR.mp h).elim (M5 g XT k.E) λh=>lift h.2
 |Expr e p=>
  refine(GbR.mp h).elim (λh=> ?_) λh=>lift h.2;obtain⟨f,hf,h1⟩:=eF h;obtain⟨hn,h2⟩:=cN h1;cases h2;exact HK (wO g XT k.E hf) (ko hn)
 |Return e p=>
  obtain⟨e,rfl,h1⟩:=eF h;refine(GbR.mp h1).elim (λh=> ?_) λh=> ?_
  .obtain⟨f,hf,rfl⟩:=Gab.mp h;exact HL XS.ni (wO g XT k.E hf)
  .obtain⟨f,hf,rfl⟩:=Gab.mp h.2;exact LK XT.gA XS.ni (k.E _ f hf)
 |If c xs ys p=>
  obtain⟨t,ht,h1⟩:=eF h;obtain⟨a,ha,h2⟩:=eF h1;obtain⟨b,hb,rfl⟩:=Gab.mp h2;exact Ox XT.gA (k.T _ t ht) (hB _ a ha) (hB _ b hb)
 |For tg iter body els p=>
  refine(GbR.mp h).elim (λh=> ?_) λh=> ?_
  .obtain⟨f,hf,rfl⟩:=Gab.mp h;obtain⟨_,_,q⟩:=eF hf;exact AX XT.gA (k.S _ _ q)
  .obtain⟨hn,h1⟩:=cN h.2;obtain⟨src,hs,h2⟩:=eF h1;obtain⟨gd,hg,h3⟩:=eF h2;obtain⟨b,hb,rfl⟩:=Gab.mp h3;rw[Gac] at hn;cases Gba.mp hn.1;obtain⟨w,hw,hi⟩:=tG g k hs;exact LV XT.gA hi ((tF g hg).1 w hw) (hB _ b hb) (mY hn.2)
 |Raise e c p=>
  obtain⟨hn,h1⟩:=cN h;cases GdE.mp hn;exact M6 XT XS k.E h1
 |Try body hs els fin p=>
  obtain⟨hn,h1⟩:=cN h;obtain⟨f,hf,h5⟩:=eF h1;rw[Gac] at hn;cases Gba.mp hn.1;cases Gba.mp hn.2;exact M7 g XS (hB _ f hf) h5
 |_=>exact lift h
theorem tR(g:b8 G X)(k:cO v X)(XT:pv X T bl)(XS:EY X T):∀i b f,blX v G T i b=U f->QMs X b f
 |0,_,_,h=>by cases h
 |i+1,b,f,h=>by
  unfold blX at h;split at h
  .cases h;exact HJ
  .refine a6 h λa ha h=> ?_;obtain⟨r,hr,rfl⟩:=Gab.mp h;exact EH (M8 g k XT XS (tR g k XT XS i) ha) (tR g k XT XS i _ r hr)
end
structure Cla where
 C:Nat
 ns:List Str
 rd:List (Str×Nat×Nat×SpR)
 mt:List (Str×Nat×Nat×SpM)
 fm:List (Str×Nat×Nat×SpM)
def pick{α:Type}(l:List (Str×Nat×Nat×α))(k:Nat)(x:Str):Option (Nat×α):=(l.find? λe=>e.1==x&&decide (e.2.1<=k)).map λe=>e.2.2
def tS{α:Type}{l:List (Str×Nat×Nat×α)}{sp:α}(h:pick l k x=U (np,sp)):∃j,j<=k/\(x,j,np,sp)∈l:=by
 refine hde λG fin=> ?_;obtain⟨⟨y,j,r⟩,he,h⟩:=Gab.mp h;cases h;have h1:=GcF he;rw[Gac] at h1;have e:=Gas.mp h1.1;subst e;exact fin (⟨j,Gay h1.2,GbP he⟩)
def Cla.ot(c:Cla)(kd:Str->Option Vq)(k:Nat)(x:Str)(h n0:Nat)(w:Bool):Ot:=
 ⟨x,h,c.C,c.ns,n0,w,pick c.rd k,pick c.mt k,λx=>if kd x==U .globalImplicit then pick c.fm k x else J⟩
section
variable [Wd]
structure cV(K:FrW)(mg:Str->Option Vf)(base:Vj)(c:Cla):Prop where
 cls:kq K c.C
 nd:c.ns.Nodup
 no:∀n∈c.ns,findIn K (.ref c.C) n=U J
 sz:c.ns.length<=sizeLine
 rd:∀m k np sp,(m,k,np,sp)∈c.rd->∃f fd p0 ps,FnR K mg base k f fd p0 ps c.C c.ns sp/\Binds K fd (p0::ps)/\findIn K (.ref c.C) m=U (U (.ref f))/\isFn K (.ref f)=O/\keepIn K (.ref f)=O/\m∉c.ns
 mt:∀m k np sp,(m,k,np,sp)∈c.mt->∃f fd p0 ps,FnM K mg base k f fd p0 ps c.C c.ns sp/\Binds K fd (p0::ps)/\findIn K (.ref c.C) m=U (U (.ref f))/\isFn K (.ref f)=O/\keepIn K (.ref f)=O/\m∉c.ns
 fm:∀x k np sp,(x,k,np,sp)∈c.fm->∃f fd p0 ps,FnM K mg base k f fd p0 ps c.C c.ns sp/\Binds K fd (p0::ps)/\mg x=U (.ref f)/\keepIn K (.ref f)=O/\(x==Dgs)=M
def M9{ns:List Str}:ns.zipIdx n0=ns.zip ((List.range ns.length).map (n0+ ·)):=by
 rw[List.zipIdx_eq_zip_range',List.range'_eq_map_range]
def Cla.Ql{X:Cx}{c:Cla}{PN:List Str}(US:cV X.K X.mg X.base c)(hr:bU k X.A)(hN:X.N[h]? =U x)(hv:Vis X.env.scope x)(hd:odd x=M)(hp:PN.length=c.ns.length)(hk:∀y,kd y=U .globalImplicit->Gl X y)
  (hw:w=O->dx∈ex\/X.s₀.heap.get? dx=J)(nb:X.base.get? dx=J):HV (X.wo PN (iA a dx c.C X.N.length c.ns h) ex) (c.ot kd k x h X.N.length w) (iA a dx c.C X.N.length c.ns h):=by
 have hl:=(Gae.mp hN).1;have od:=hd;unfold odd at od;rw[GcL] at od;have js:∀j,j∈(c.ot kd k x h X.N.length w).js->_<=j/\j<X.N.length+c.ns.length:=λj m=>by
  refine hde λG fin=> ?_;obtain⟨i,hi,rfl⟩:=GaP.mp m;have:=Gcc.mp hi;exact fin (⟨Gee _ _,Nat.add_lt_add_left this _⟩)
 exact{
  mem:=GcU _
  h:=rfl
  C:=rfl
  fs:=M9
  nd:=US.nd
  nh:=λm=>by have:=(js _ m).1;have:X.N.length<=h:=this;lia
  lt:=λj m=>by have:=(js _ m).2;show j<(_++PN).length;rw[GaF];lia
  sep:=λUR _ o' m=> .inl (Gam.mp m)
  dx:=hw
  nb:=nb
  N:=by show(_++PN)[h]? =_;rw[GaS hl];exact hN
  vis:=hv
  d1:=od.1
  d2:=od.2
  cls:=US.cls
  no:=US.no
  sz:=US.sz
  rd:=λm np sp q=>by
   refine hde λG fin=> ?_;obtain⟨j,hj,hm⟩:=tS q;obtain⟨f,fd,p0,ps,h1,h2,h3,h4,h5,h6⟩:=US.rd _ _ _ _ hm;exact fin (⟨j,f,fd,p0,ps,h1,hr.mono hj,h2,h3,h4,h5,h6⟩)
  mt:=λm np sp q=>by
   refine hde λG fin=> ?_;obtain⟨j,hj,hm⟩:=tS q;obtain⟨f,fd,p0,ps,h1,h2,h3,h4,h5,h6⟩:=US.mt _ _ _ _ hm;exact fin (⟨j,f,fd,p0,ps,h1,hr.mono hj,h2,h3,h4,h5,h6⟩)
  fm:=λy np sp q=>by
   have q:(if kd y==U .globalImplicit then pick _ k y else J)=U _:=q;split at q
   .rename_i g;refine hde λG fin=> ?_;obtain⟨j,hj,hm⟩:=tS q;obtain⟨f,fd,p0,ps,h1,h2,h3,h4,h5⟩:=US.fm _ _ _ _ hm;exact fin (⟨j,f,fd,p0,ps,h1,hr.mono hj,h2,h3,h4,hk y (Gas.mp g),h5⟩)
   .cases q}
end
section
variable [Wd]
def tT{K:FrW}{mg:Str->Option Vf}{T:List En}{bl:List Str}{A:Vm}{s:Vg}(S:bH N ps (af sd))(hT:∀e∈T,mZ K mg base e)(hb:∀x∈bl,mg x=J)
  (hr:bU k (A.deeper (envOfC x (af sd) s.heap.objs.size fa eS))):b8 ⟨N,λx=>(af sd).names.lookup x,tJ T k,bl,O,sx,sy,ni,[],λ_ _=>J⟩ (lW K mg base ni B N x (af sd) fa eS A outer s):=by
 exact{
  N:=rfl
  nd:=S.nd
  vis:=λx hx=>by
   have hx:rdK ((af sd).names.lookup x)=O:=hx
   match q:(af sd).names.lookup x with
   |some .local=>exact .inl q
   |some .free=>exact .inr (.inr q)
   |some .cell=>exact .inr (.inl q)
   |none=>rw[q] at hx;cases hx
   |some .globalExplicit=>rw[q] at hx;cases hx
   |some .globalImplicit=>rw[q] at hx;cases hx
  loc:=λx hx=>by
   refine⟨⟨?_,λ_ z=>nomatch z⟩,.inl rfl⟩;rw[Gac] at hx;have hx:=hx.1;simp only[GdZ,Gbd,Gas] at hx;exact hx
  gl:=λx hx=>hx
  cf:=λx hx=>hx
  sw:=λ_ y=>by
   have:(PySem.Env.blockKind (envOfC x (af sd) s.heap.objs.size fa eS)==ScopeKind.function)=O:=by
    show((if(af sd).kind.isAnnotationScope then _ else(af sd).kind)==_)=O;rw[S.kind]
    rfl
   exact(congrArg (· &&_) this).trans (GdZ _)
  calm:=rfl
  own:=rfl
  st:=λ_ b z=>by
   rcases z with z|z
   .exact Gaq.mpr (.inl z)
   .exact Gaq.mpr (.inr z)
  hu:=by have:=hr.un;show(A.deeper _).units+20<_;lia
  ni:=id
  fns:=λx ni np sp h=>by obtain⟨j,fa,fd,ps,a1,a2,a3⟩:=AS hT x ni np sp h;exact⟨j,fa,fd,ps,a1,hr.mono a2,a3⟩
  no:=hb
  xE:=λh=>nomatch h}
theorem EZ{G:Gm}{X:Cx}{o:Ob}(g:b8 G X)(hi:G.ins=[])(ho:X.N[o.h]? =U xi)(nd:(X.N++PN).Nodup)(XT:pv (X.wo PN o ex) T blf):b8 {G with N:=G.N++PN,ins:=[xi],xE:=hkX T blf} (X.wo PN o ex) where
 N:=by show _++PN=_++PN;rw[g.N]
 nd:=nd
 vis:=g.vis
 loc:=λx hx=>by
  rw[Gac] at hx;obtain⟨l,f⟩:=g.loc x (by rw[hi,Gac];exact⟨hx.1,rfl⟩);refine⟨⟨l.1,λo' m e=> ?_⟩,f⟩;cases Gam.mp m;have e:(_++PN)[o.h]? =U x:=e;rw[GaS (Gae.mp ho).1,ho] at e;simp_all
 gl:=g.gl
 cf:=g.cf
 sw:=g.sw
 calm:=g.calm
 own:=g.own
 st:=g.st
 hu:=g.hu
 fns:=g.fns
 ni:=g.ni
 no:=g.no
 xE:=λ_ E hE e f h=>LZ XT hE h
end
structure Exs where
 xf:Str->List Nat
 isi:Vi->Option (List (Nat×Bool))
 rz:Str->Option (Nat×Str×Bool)
 ct:Str->Option (List Nat)
def Exs.xt(x:Exs)(ob:Option Ot):Xt:=⟨ob,x.xf,x.isi,x.rz,x.ct⟩
section
variable [Wd]
structure rU(K:FrW)(mg:Str->Option Vf)(kd:Str->Option Vq)(x:Exs):Prop where
 xf:∀n,∀C∈x.xf n,∃B fI,XCl K B C fI n
 isi:∀X:Cx,X.K=K->X.mg=mg->(∀y,kd y=U .globalImplicit->Gl X y)->∀e cs,x.isi e=U cs->(∃u,PCl X e u/\∀q∈cs,XIs K q.1/\kitOne K (.ref q.1) u=U q.2)\/∃es j p us,e= .Tuple es j p/\wL X es us/\us.length<=sizeLine/\∀q∈cs,XIs K q.1/\kitAny K (.ref q.1) us=U q.2
 rz:∀base c C n cp,x.rz c=U (C,n,cp)->∃B fI fd y,XCl K B C fI n/\ku K mg base fI fd y C n cp/\Binds K fd [("self":Str),y]/\kd c=U .globalImplicit/\mg c=U (.ref C)/\(c==Dgs)=M
 ct:∀c cs,x.ct c=U cs->∃Cn,(∀C∈cs,exmOne K (.ref C) (.ref Cn)=U O)/\kd c=U .globalImplicit/\mg c=U (.ref Cn)/\(c==Dgs)=M
structure Ma(K:FrW)(nm qual:Str)(st:Vk)(f:Vh)(fd:Vr):Prop where
 ex:∃(oc:Vf) (od:Option Vh) (kV doc pm:Vf) (an:Option Vh) (eS ct:Vf) (xY:Array (Option Vf)),
  fd=PySem.W.fnOf nm qual (gr st) (bD st) (af st) .none kV doc pm an eS ct/\K.lookup f=U ⟨oc,od,.func fd,xY⟩/\PySem.W.codeIn K eS qual=O
section
variable{sd:Vk}{N PN:List Str}{k sx sy:Nat}{T:List En}{bl:List Str}{x:Exs}
abbrev gmO(sd:Vk)(N PN:List Str)(T:List En)(k:Nat)(bl:List Str)(sx sy:Nat)(xi:Str)(X:Xt):Gm:=⟨N++PN,λx=>(af sd).names.lookup x,tJ T k,bl,O,sx,sy,O,[xi],hkX X λy=>bl.contains y&&(af sd).names.lookup y==U .globalImplicit⟩
variable{X:Cx}
def F4{K:FrW}{mg:Str->Option Vf}{base:Vj}{c:Cla}{h:Nat}{w:Bool}{a:Vh}{ex:List Vh}{kd:Str->Option Vq}(hK:X.K=K)(hM:X.mg=mg)(hB:X.base=base)(mu:X.gA)(US:cV K mg base c)(Y:rU K mg kd x)(hk:∀y,kd y=U .globalImplicit->Gl X y)(hb:∀x∈bl,mg x=J)(hr:bU k X.A)(hN:X.N[h]? =U xi)(hv:Vis X.env.scope xi)(hd:odd xi=M)(hp:PN.length=c.ns.length)
  (hw:w=O->dx∈ex\/X.s₀.heap.get? dx=J)(nb:base.get? dx=J):pv (X.wo PN (iA a dx c.C X.N.length c.ns h) ex) (x.xt (U (c.ot kd k xi h X.N.length w))) (λy=>bl.contains y&&kd y==U .globalImplicit):=by
 subst hK hM hB;exact{
  gA:=mu
  ob:=λt e=>by cases e;exact⟨_,Cla.Ql US hr hN hv hd hp hk hw nb⟩
  xf:=Y.xf
  bl:=λh=>by rw[Gac] at h;exact⟨hk _ (Gas.mp h.2),hb _ (by simp_all)⟩
  isi:=λe cs q=>Y.isi (X.wo PN _ ex) rfl rfl hk e cs q}
def JJ{K:FrW}{kd:Str->Option Vq}(hK:X.K=K)(hM:X.mg=mg)(Y:rU K mg kd x)(hk:∀y,kd y=U .globalImplicit->Gl X y)(hr:bU 3 X.A)(st:X.stack=X.env::X.outer)(fr:X.env.frame=U X.env.locals)(ni:X.ni=O):EY X (x.xt ob):=by
 subst hK hM;exact{
  st:=st
  fr:=fr
  ni:=ni
  rz:=λc C n cp h=>by obtain⟨B,fI,fd,y,h1,h2,h3,h4,h5,h6⟩:=Y.rz _ c C n cp h;exact⟨B,fI,fd,y,h1,h2,hr,h3,hk _ h4,h5,h6⟩
  ct:=λc cs h=>by obtain⟨Cn,h1,h2,h3,h4⟩:=Y.ct c cs h;exact⟨Cn,h1,hk _ h2,h3,h4⟩}
def lj(S:bH N (p0::ps) sc):N[0]? =U p0:=by
 have:=congrArg (·[0]?) S.pre;simp at this;cases N with
 |nil=>simp at this
 |cons a l=>simpa using this
def B7(S:bH N (p0::ps) sc):Vis sc p0:=(S.par p0 Gai).imp id .inl
def HY{K:FrW}{mg:Str->Option Vf}{p0:Str}{ps:List Str}{c:Cla}{b:DS}(F:Ma K nm qual sd fa fd)(S:bH N (p0::ps) (af sd))(xN:ps.length=np)(hT:∀e∈T,mZ K mg base e)(hb:∀x∈bl,mg x=J)(US:cV K mg base c)(Y:rU K mg (λy=>(af sd).names.lookup y) x)(hp:PN.length=c.ns.length)(hJ:∀x∈PN,(af sd).names.lookup x=J)(nd:(N++PN).Nodup)(hd:odd p0=M)
  (hc:(mf 60 (gmO sd N PN T k bl sx sy p0 (x.xt (U (c.ot (λy=>(af sd).names.lookup y) k p0 0 N.length M))))).B (bD sd)=U b):FnR K mg base (k+1) fa fd p0 ps c.C c.ns (o9 N.length np c.C b):=by
 refine hde λG fin=> ?_;obtain⟨oc,od,kV,doc,pm,an,eS,ct,xY,rfl,lk,eO⟩:=F.ex;refine fin (LJ lk eO S xN hp hJ λA outer B s a dx nb hr=>(jk 60 _ _ (EZ (o:=iA a dx c.C N.length c.ns) (tT S hT hb hr) rfl (lj S) nd ?_)).B _ _ hc);exact F4 rfl rfl rfl (λ_ _ z=>z) US Y (λy h=>h) hb hr (lj S) (B7 S) hd hp (λh=>nomatch h) nb
def B8{K:FrW}{mg:Str->Option Vf}{p0:Str}{ps:List Str}{c:Cla}{b:DSM}(F:Ma K nm qual sd fa fd)(S:bH N (p0::ps) (af sd))(xN:ps.length=np)(h3:3<=k)(hT:∀e∈T,mZ K mg base e)(hb:∀x∈bl,mg x=J)(US:cV K mg base c)(Y:rU K mg (λy=>(af sd).names.lookup y) x)(hp:PN.length=c.ns.length)(hJ:∀x∈PN,(af sd).names.lookup x=J)(nd:(N++PN).Nodup)(hd:odd p0=M)
  (hc:blX (mf 60 (gmO sd N PN T k bl sx sy p0 (x.xt (U (c.ot (λy=>(af sd).names.lookup y) k p0 0 N.length O))))) (gmO sd N PN T k bl sx sy p0 (x.xt (U (c.ot (λy=>(af sd).names.lookup y) k p0 0 N.length O)))) (x.xt (U (c.ot (λy=>(af sd).names.lookup y) k p0 0 N.length O))) 60 (bD sd)=U b):FnM K mg base (k+1) fa fd p0 ps c.C c.ns (j8 N.length np c.C b):=by
 refine hde λG fin=> ?_;obtain⟨oc,od,kV,doc,pm,an,eS,ct,xY,rfl,lk,eO⟩:=F.ex;refine fin (LO lk eO S xN hp hJ λA outer B s a dx nb hr=> ?_);have XT:=F4 (w:=O) (a:=a) (X:=lW K mg base O B N qual (af sd) fa eS A outer s) rfl rfl rfl (λ_ _ z=>z) US Y (λy h=>h) hb hr (lj S) (B7 S) hd hp (λ_=> .inl (GcU _)) nb;have g:=EZ (o:=iA a dx _ _ _) (tT (sx:=sx) (sy:=sy) S hT hb hr) rfl (lj S) nd XT;exact tR g (jk 60 _ _ g) XT (JJ rfl rfl Y (λy h=>h) (hr.mono h3) rfl rfl rfl) 60 _ _ hc
end
end
open PySem.W (findIn isFn keepIn makesIn)
section
variable [Wd]
inductive OJ(X:Cx)(rest:Nat->List Vk->Option DSM)(c:Str)(C k np:Nat)(sp:SpM):Prop
 |mk (kk:Nat) (f:Vh) (fd:Vr) (p0:Str) (ps ns PN:List Str) (_:FnM X.K X.mg X.base kk f fd p0 ps C ns sp) (_:bU (kk+1) X.A) (_:Binds X.K fd (p0::ps)) (_:makesIn X.K C=O) (_:findIn X.K (.ref C) "__init__"=U (U (.ref f))) (_:PySem.W.typeIn X.K (.ref f)=U (.type "function")) (_:Gl X c) (_:X.mg c=U (.ref C)) (_:keepIn X.K (.ref C)=O) (_:(c==Dgs)=M) (_:PN.length=ns.length) (_:k=ns.length) (_:(∀x∈PN,¬Vis X.env.scope x)) (_:∀h x r g',X.N[h]? =U x->Vis X.env.scope x->rest h r=U g' ->∀a dx,X.base.get? dx=J->X.s₀.heap.get? dx=J->QMs ((X.more dx).wo PN (iA a dx C X.N.length ns h) []) r g'):OJ X rest c C k np sp
theorem F5{X:Cx}(xH:X.gA)(xF:X.ob=[])(hex:X.ex=[])(g:b8 G X)(k:cO v X)(yL:∀c C k np sp,mk c=U (C,k,np,sp)->OJ X rest c C k np sp):∀{b f},lwX v G mk rest b=U f->PSs X b f
 |[],_,h=>by cases h
 |s::r,f,h=>by
  have plain:∀{f},((v.S s).bind λf=>(lwX v G mk rest r).map λg=>ak f g)=U f->PSs X _ f:=λh=>by
   refine hde λG fin=>a6 h λa ha h=> ?_;obtain⟨b,hb,rfl⟩:=Gab.mp h;exact fin (uj (k.S _ _ ha) (F5 xH xF hex g k yL hb))
  refine(GbR.mp h).elim (λh0=> ?_) λh0=>plain h0.2;clear h;refine hde λG9 fin=>a6 h0 λzp hs h1=> ?_;obtain⟨t,d⟩:=zp;obtain⟨Uv,rfl⟩:=Eu hs;clear hs h0;refine a6 h1 λx hx h2=> ?_;clear h1;obtain⟨px,e1⟩:=cH hx;cases(show t=_ from e1);clear hx;refine a6 h2 λzp hc h3=> ?_;obtain⟨fn,args,kw,cp⟩:=zp;clear h2;cases(show d=_ from pG hc);clear hc;refine a6 h3 λy hy h4=> ?_;clear h3;obtain⟨py,e2⟩:=cH hy;cases(show fn=_ from e2);clear hy;refine ar h4 λk0 h5=> ?_;clear h4;cases Gba.mp k0;refine a6 h5 λzp q h6=> ?_;obtain⟨C,k9,np,sp⟩:=zp;clear h5;refine a6 h6 λi hi h=> ?_;clear h6;refine ar h λhn h=>a6 h λzp ha h=>aS h λg' zy ze=> ?_;cases ze;obtain⟨kk,f,fd,p0,ps,ns,PN,m1,m2,m3,m4,m5,m6,m7,m8,m9,Ts,Tq,rfl,Tp,To⟩:=yL _ _ _ _ _ q;obtain⟨l1,l2,l3⟩:=km g hi;obtain⟨a1,a2,a3⟩:=tP k.E ha;refine fin ?_;rcases a3 with⟨rfl,_⟩| ⟨e,es,rfl,a4,a5⟩
  .simp at hn
  exact EU xH xF hex g.nd l1 l2 l3 m1 m2 m3 m4 m5 m6 m7 m8 m9 a1 a4 (a5 _) Ts (ko rfl) Tq Tp λa dx n1 n2=>To i _ r g' l1 (l2.1.imp id .inl) zy a dx n1 n2
theorem b8.more{G:Gm}{X:Cx}(g:b8 G X)(hi:G.ins.isEmpty=O):b8 G (X.more dx):=⟨g.N,g.nd,g.vis,g.loc,g.gl,g.cf,g.sw,g.calm,g.own,g.st,g.hu,g.fns,g.ni,g.no,λh=>by rw[hi] at h;cases h⟩
section
variable{sd:Vk}{N PN:List Str}{k sx sy:Nat}{T:List En}{bl:List Str}{c:Cla}{y:Exs}
def JK(sd:Vk)(N PN:List Str)(T:List En)(k:Nat)(bl:List Str)(sx sy:Nat)(y:Exs)(c:Cla)(h:Nat)(r:List Vk):Option DSM:=
 (N[h]?).bind λxi=>av (!odd xi) (blX (mf 60 (gmO sd N PN T k bl sx sy xi (y.xt (U (c.ot (λz=>(af sd).names.lookup z) k xi h N.length O))))) (gmO sd N PN T k bl sx sy xi (y.xt (U (c.ot (λz=>(af sd).names.lookup z) k xi h N.length O)))) (y.xt (U (c.ot (λz=>(af sd).names.lookup z) k xi h N.length O))) 60 r)
def HZ{K:FrW}{mg:Str->Option Vf}{ps:List Str}{kk:Nat}{b:DS}{p0:Str}(F:Fun K x sd fa fd)(S:bH N ps (af sd))(xN:ps.length=np)(h3:3<=k)(zO:kk+1<=k)(hT:∀e∈T,mZ K mg base e)(hb:∀x∈bl,mg x=J)(US:cV K mg base c)(Y:rU K mg (λz=>(af sd).names.lookup z) y)(hp:PN.length=c.ns.length)(hJ:∀x∈PN,(af sd).names.lookup x=J)(nd:(N++PN).Nodup)
  (I:FnM K mg base kk fi So p0 pi c.C c.ns spi)(Sh:Binds K So (p0::pi))(yL:makesIn K c.C=O)(hi:findIn K (.ref c.C) "__init__"=U (U (.ref fi)))(zL:PySem.W.typeIn K (.ref fi)=U (.type "function"))(U8:(af sd).names.lookup cn=U .globalImplicit)(U6:mg cn=U (.ref c.C))(U7:keepIn K (.ref c.C)=O)(eO:(cn==Dgs)=M)
  (hc:lwX (mf 60 ⟨N,λx=>(af sd).names.lookup x,tJ T k,bl,O,sx,sy,O,[],λ_ _=>J⟩) ⟨N,λx=>(af sd).names.lookup x,tJ T k,bl,O,sx,sy,O,[],λ_ _=>J⟩ (λz=>if z=cn then U (c.C,c.ns.length,np',spi) else J) (JK sd N PN T k bl sx sy y c) (bD sd)=U b):
  nY K mg base O (k+1) fa fd ps (bF N.length np b):=by
 refine hde λG fin=> ?_;obtain⟨oc,od,kV,doc,pm,an,eS,ct,xY,rfl,lk,Sg⟩:=F.ex;refine fin (JC lk Sg S xN λA outer B s hr=> ?_);have g:=tT (ni:=O) (sx:=sx) (sy:=sy) (B:=B) (outer:=outer) S hT hb hr;refine F5 (λ_ _ z=>z) rfl rfl g (jk 60 _ _ g) (λz C k' Uw sp q=> ?_) hc;split at q<;>cases q
 refine hde λG fin=> ?_;rename_i hz;subst hz;refine fin (⟨kk,fi,So,p0,pi,_,PN,I,hr.mono zO,Sh,yL,hi,zL,U8,U6,U7,eO,hp,rfl,(λx hx v=> ?_),λh xi r g' hN hv hg a dx nb QN=> ?_⟩)
 .have:=hJ x hx;rcases v with v|v|v<;>(have v:(af sd).names.lookup x=_:=v;rw[this] at v;cases v)
 .refine a6 hg λUr TG hg=>hde λG fin=>ar hg λho hg=> ?_;have exi:=Option.some.inj (TG.symm.trans hN);subst exi;have XT:=F4 (ex:=[]) (w:=O) (a:=a) (X:=(lW K mg base O B N x (af sd) fa eS A outer s).more dx) rfl rfl rfl (λ_ _ z=>z) US Y (λy h=>h) hb hr hN hv (by lia) hp (λ_=> .inr QN) nb;have g2:=EZ (o:=iA a dx _ _ _ h) (g.more rfl) rfl hN nd XT;exact fin (tR g2 (jk 60 _ _ g2) XT (JJ rfl rfl Y (λy h=>h) (hr.mono h3) rfl rfl rfl) 60 _ _ hg)
end
end
end NL
namespace NL
open PySem PySem.Spec PyProof.Rows DL
open Att
section
variable [Wd]
def Cp{ni:Bool}{K:FrW}{mg mb:Str->Option Vf}{k:Nat}{fa a:Vh}{fd:Vr}{x:Str}{sp:SpF}{s₁:Vg}{vs:List Vf}{ns:List Int}
  (KX:K.In s₁.heap)(xZ:s₁.heap.Ns mainGlobals mg)(hb:s₁.heap.Ns builtinsNs mb)(Ub:∀x:Str,x≠"__name__"->mb x=bootBuiltins x)(RY:s₁.heap.NoLimit)(hg:s₁.gens=#[])
  (ha:s₁.heap.get? a=U {cls:= .type "list",data:= .seq vs.toArray})(hi:IntsAre vs ns)(hl:ns.length<=sizeLine)(hr:bU k callerA)
  (F:nY K mg s₁.heap ni k fa fd [x] sp)(zS:∀s u,BindsTo s fd ⟨[u],[]⟩ [(x,u)])(eW:sp [.scr ns]=U (.bl O)):
  codeAny (model Wd.p Wd.w) callerA (.call (.ref fa) ⟨[.ref a],[]⟩) (λr s' =>r= .ok (.ret (.bool O))/\OldK s₁.heap s'.heap/\s'.os=s₁.os/\AllBare s'.gens) s₁:=by
 have rp:∀{F:Vh->Prop},aP F s₁.heap (ns.map .int) vs:=λ{F}=>by
  clear ha hl eW;induction hi with
  |nil=>exact .nil
  |cons n t h ih=>exact .cons (.one rfl) ih
 have hz:vs.length=ns.length:=hi.length;have e0:pj K mg s₁.heap callerA [] (λ_=>False) s₁:=⟨rfl,⟨KX,xZ,⟨mb,hb,Ub⟩,RY⟩,λ_ _ g=>g,trivial,.of_eq hg,(λb hb=>nomatch hb),(λb hb=>nomatch hb),λb o hb=>nomatch hb⟩
 refine Gdn (F.run callerA [] _ s₁ ⟨[.ref a],[]⟩ [.ref a] [.scr ns] _ hr e0 (zS s₁ (.ref a)) (.cons (.sq rfl ⟨(λz=>nomatch z),λz=>nomatch z⟩ ⟨_,0,ha,rfl,.inr ⟨rfl,rfl⟩,rfl⟩ (by simpa[hz] using hl) (by simp[hz]) λi d v e1 e2=>rp.2 i d v e1 (by simpa using e2)) .nil) eW) λr s' eX=> ?_;refine hde λG eJ=> ?_;obtain⟨u,e,c,q⟩:=eX;refine eJ ?_;subst e;cases(Rep.inn (q.2 rfl)).bl;exact⟨rfl,OldK.of_keep λb o g=>c.keep b o g (λz=>nomatch z),c.os,c.bare⟩
omit [Wd] in
def F6{l:PySem.W.OpenLaw}{YP:World->Vj->Prop}{d:DefRec}{K:Vs->FrW}{sp:SpF}{x:Str}
  (hn:l.most=U n)(TQ:n<=sizeLine)(zQ:d.params.defaults=[])(hr:bU k callerA)(hY:∀w h,YP w h->(K w.params).In h)
  (F:∀w mg fa h,(K w.params).In h->h.Ns mainGlobals mg->mg d.name=U (.ref fa)->
   ∃fd,(∀s u,BindsTo s fd ⟨[u],[]⟩ [(x,u)])/\∀base,(K w.params).In base->base.Ns mainGlobals mg-> @nY ⟨l.prog,w⟩ (K w.params) mg base ni k fa fd [x] sp)
  (eW:∀ns,ns.length<=n->sp [.scr ns]=U (.bl O)):
  PySem.W.WalkO q loose XP YP l.row.toRowW d [] (λf vs=>PySem.call f vs):=by
 refine Att.uo hn zQ λw s₀ s₁ mg mb fa o pm cd doc a vs ns G Y ho hd eO yl z0 hints eP hg=> ?_;have KX:=hY w _ Y;obtain⟨fd,hb,hF⟩:=F w mg fa _ KX G.T.g yl;exact @Cp ⟨_,w⟩ _ _ _ _ _ _ _ _ _ _ _ _ _ KX G.T.g G.T.b G.T.builtins G.T.nolimit hg z0 hints (Gak eP TQ) hr (hF _ KX G.T.g) hb (eW ns eP)
end
open PySem.W (kitOne kitAny)
theorem rV{K:FrW}:∀{us:List Vf} {bs:List Bool},us.map (kitOne K t)=bs.map U->kitAny K t us=U (bs.any id)
 |[],[],_=>rfl
 |[],_::_,h=>by cases h
 |_::_,[],h=>by cases h
 |u::us,b::bs,h=>by
  injection h with h1 h2
  unfold kitAny;rw[h1];cases b with
  |true=>rfl
  |false=>exact(rV h2).trans rfl
open PySem.W (findIn isFn keepIn kitOne kitAny exmOne)
structure Xc where
 x:Str
 v:Vf
 of:List Nat
def OK:Vf->Bool
 | .ref _=>O
 |_=>M
structure gn where
 cs:List Nat
 xf:List (Nat×Str)
 tb:List Xc
 rz:List (Str×Nat×Str×Bool)
def gn.is(t:gn)(kd:Str->Option Vq)(e:Vi):Option Xc:=(nmO e).bind λx=>av (kd x==U .globalImplicit) (t.tb.find? (·.x==x))
def tuO:Vi->Option (List Vi)
 | .Tuple es _ _=>U es
 |_=>J
def gn.iss(t:gn)(kd:Str->Option Vq):List Vi->Option (List Xc)
 |[]=>U []
 |e::es=>(t.is kd e).bind λc=>(t.iss kd es).map (c:: ·)
def gn.exs(t:gn)(kd:Str->Option Vq):Exs where
 xf n:=(t.xf.filter (·.2==n)).map (·.1)
 isi e:=match t.is kd e with
  |some c=>U (t.cs.map λC=>(C,c.of.contains C))
  |none=>(tuO e).bind λes=>(t.iss kd es).bind λl=>av (decide (l.length<=30)) (U (t.cs.map λC=>(C,(l.map λc=>c.of.contains C).any id)))
 rz c:=av (kd c==U .globalImplicit) ((t.rz.find? (·.1==c)).map (·.2))
 ct c:=av (kd c==U .globalImplicit) ((t.tb.find? (·.x==c)).bind λk=>av (OK k.v&&k.of==t.cs) (U t.cs))
section
variable [Wd]
section
variable{K:FrW}{mg:Str->Option Vf}{t:gn}
structure ky(K:FrW)(mg:Str->Option Vf)(t:gn):Prop where
 xf:∀q∈t.xf,∃B fI,XCl K B q.1 fI q.2
 is:∀C∈t.cs,XIs K C
 tb:∀c∈t.tb,(c.x==Dgs)=M/\(mg c.x=U c.v\/mg c.x=J/\bootBuiltins c.x=U c.v/\c.x≠"__name__")/\∀C∈t.cs,kitOne K (.ref C) c.v=U (c.of.contains C)
 cm:∀c∈t.tb,∀Cn,c.v= .ref Cn->mg c.x=U c.v/\(c.of=t.cs->∀C∈t.cs,exmOne K (.ref C) (.ref Cn)=U O)
 rz:∀q∈t.rz,(∃B fI,XCl K B q.2.1 fI q.2.2.1)/\(∀base,(mg "list"=J->∃fI fd y B,XCl K B q.2.1 fI q.2.2.1/\ku K mg base fI fd y q.2.1 q.2.2.1 q.2.2.2/\Binds K fd [("self":Str),y]))/\mg q.1=U (.ref q.2.1)/\(q.1==Dgs)=M
def gn.JL{X:Cx}{c:Xc}(US:ky K mg t)(hm:X.mg=mg)(hk:∀y,kd y=U .globalImplicit->Gl X y)(h:t.is kd e=U c):PCl X e c.v/\c∈t.tb/\∀es,starEach (e::es) X.env=(M,eval e X.env)::starEach es X.env:=by
 refine hde λG fin=>a6 h λx hx h=> ?_;obtain⟨p,rfl⟩:=cH hx;refine ar h λq h=> ?_;have hc:=GbP h;obtain⟨d,m,_⟩:=US.tb c hc;subst hm;rw[(Gas.mp (GcF (p:=λd:Xc=>_==x) h))] at d m;refine fin (⟨?_,hc,λes=>rfl⟩);rcases m with m| ⟨m,b,n⟩
 .exact EO (hk _ (Gas.mp q)) m d
 .exact HP (hk _ (Gas.mp q)) m b n d
theorem gn.F7{X:Cx}(US:ky K mg t)(hm:X.mg=mg)(hk:∀y,kd y=U .globalImplicit->Gl X y):∀{es l},t.iss kd es=U l->wL X es (l.map (·.v))/\∀c∈l,c∈t.tb
 |[],l,h=>by cases h;exact⟨EP,λ_ z=>nomatch z⟩
 |e::es,l,h=>by
  refine a6 h λc h1 h=> ?_;obtain⟨l,h2,rfl⟩:=Gab.mp h;obtain⟨a,b,s⟩:=gn.JL US hm hk h1;obtain⟨a2,b2⟩:=gn.F7 US hm hk h2;refine⟨Co a a2 (s es),λc' h=> ?_⟩
  grind
def Mb(h:tuO e=U es):∃j p,e= .Tuple es j p:=by
 cases e<;>first|exact nn h rfl|(cases h;exact⟨_,_,rfl⟩)
def Ia(h:OK v=O):∃a,v= .ref a:=by
 cases v<;>first|exact⟨_,rfl⟩|exact Bool.noConfusion h
theorem gn.tU(US:ky K mg t)(hl:mg "list"=J):rU K mg kd (t.exs kd) where
 xf n C h:=by
  obtain⟨q,hq,rfl⟩:=GaP.mp h;obtain⟨h1,h2⟩:=GbQ.mp hq;have:=US.xf q h1;simp_all
 isi X hK hm hk e cs h:=by
  have h:(match t.is kd e with|some c=>U _|none=>_)=U cs:=h;split at h
  .rename_i c h1;cases h;obtain⟨a,b,_⟩:=gn.JL US hm hk h1;refine .inl ⟨_,a,λq hq=> ?_⟩;obtain⟨C,hC,rfl⟩:=GaP.mp hq;exact⟨US.is C hC,(US.tb c b).2.2 C hC⟩
  .refine a6 h λes h0 h=>a6 h λl h1 h=>ar h λhz h=> ?_;cases h;obtain⟨j9,p9,e9⟩:=Mb h0;cases e9;obtain⟨a,b⟩:=gn.F7 US hm hk h1;refine .inr ⟨_,_,_,_,rfl,a,by rw[Gah];exact Gak (Gay hz) (by decide),λq hq=> ?_⟩;obtain⟨C,hC,rfl⟩:=GaP.mp hq;refine⟨US.is C hC,rV ?_⟩;rw[GaL,GaL];exact GaV λc hc=>(US.tb c (b c hc)).2.2 C hC
 rz base c C n cp h:=by
  refine ar h λq h=> ?_;obtain⟨⟨c',r⟩,hf,h⟩:=Gab.mp h;cases h;have e:=Gas.mp (GcF (p:=λd:Str×Nat×Str×Bool=>_==c) hf);subst e;obtain⟨_,h2,h3,h4⟩:=US.rz _ (GbP hf);obtain⟨fI,fd,y,B,k1,k2,k3⟩:=h2 base hl;exact⟨B,fI,fd,y,k1,k2,k3,Gas.mp q,h3,h4⟩
 ct c cs h:=by
  refine ar h λq h=>a6 h λk hf h=>ar h λz h=> ?_;cases h;rw[Gac] at z;have e:=Gas.mp (GcF (p:=λd:Xc=>_==c) hf);subst e;have hc:=GbP hf;obtain⟨Cn,hv⟩:=Ia z.1;obtain⟨m,ex⟩:=US.cm k hc Cn hv;rw[hv] at m;exact⟨Cn,ex (Gas.mp z.2),Gas.mp q,m,(US.tb k hc).1⟩
end
def cV.mk0{K:FrW}{C:Nat}{ns:List Str}(h:kq K C)(nd:ns.Nodup)(no:∀n∈ns,findIn K (.ref C) n=U J)(sz:ns.length<=sizeLine):cV K mg base ⟨C,ns,[],[],[]⟩:=⟨h,nd,no,sz,(λ_ _ _ _ z=>nomatch z),(λ_ _ _ _ z=>nomatch z),λ_ _ _ _ z=>nomatch z⟩
def cV.r1{K:FrW}{c:Cla}{p0:Str}{sp:SpR}(US:cV K mg base c)(F:FnR K mg base k f fd p0 ps c.C c.ns sp)(b:Binds K fd (p0::ps))(h1:findIn K (.ref c.C) x=U (U (.ref f)))(h2:isFn K (.ref f)=O)(h3:keepIn K (.ref f)=O)(h4:x∉c.ns):cV K mg base {c with rd:=(x,k,np,sp)::c.rd}:=
 ⟨US.cls,US.nd,US.no,US.sz,(λm k np sp h=>by
  rcases Gaq.mp h with h|h
  .grind
  .exact US.rd m k np sp h),US.mt,US.fm⟩
def cV.m1{K:FrW}{c:Cla}{p0:Str}{sp:SpM}(US:cV K mg base c)(F:FnM K mg base k f fd p0 ps c.C c.ns sp)(b:Binds K fd (p0::ps))(h1:findIn K (.ref c.C) x=U (U (.ref f)))(h2:isFn K (.ref f)=O)(h3:keepIn K (.ref f)=O)(h4:x∉c.ns):cV K mg base {c with mt:=(x,k,np,sp)::c.mt}:=
 ⟨US.cls,US.nd,US.no,US.sz,US.rd,(λm k np sp h=>by
  rcases Gaq.mp h with h|h
  .grind
  .exact US.mt m k np sp h),US.fm⟩
def cV.f1{K:FrW}{mg:Str->Option Vf}{c:Cla}{p0:Str}{sp:SpM}(US:cV K mg base c)(F:FnM K mg base k f fd p0 ps c.C c.ns sp)(b:Binds K fd (p0::ps))(h1:mg x=U (.ref f))(h2:keepIn K (.ref f)=O)(h3:(x==Dgs)=M):cV K mg base {c with fm:=(x,k,np,sp)::c.fm}:=
 ⟨US.cls,US.nd,US.no,US.sz,US.rd,US.mt,λm k np sp h=>by
  rcases Gaq.mp h with h|h
  .cases h;exact⟨f,fd,p0,ps,F,b,h1,h2,h3⟩
  .exact US.fm m k np sp h⟩
end
open PySem.W (nsIn keepIn codeIn)
def Mc(st:Vk)(N:List Str):Bool:=(af st).kind== .function&& !(af st).isCoroutine&& !(af st).isGenerator&&decide N.Nodup&&decide (N.take (cL st).length=cL st)&&((cL st).all λx=>CY ((af st).names.lookup x))&&(af st).names.all λy=> !(y.2== .free)
def Me{st:Vk}(h:Mc st N=O):bH N (cL st) (af st):=by
 unfold Mc at h;simp only[Gac,Gal,GcI,Gbl,Gas,beq_eq_false_iff_ne] at h;obtain⟨⟨⟨⟨⟨⟨a,b⟩,c⟩,d⟩,e⟩,f⟩,g⟩:=h;refine⟨a,b,c,d,e,λx hx=> ?_,g⟩;have:=f x hx;unfold CY at this;split at this
 .exact .inl ‹_›
 .exact .inr ‹_›
 .cases this
def vals(n:Nat)(v:Nat->Vf):List Vf:=(List.range n).map v
def Ib{us:List Vf}(h:us.length=n):∃v,us=vals n v:=⟨λi=>us.getD i .none,by
 subst h;apply GeI;intro i;unfold vals;rw[Gaj];by_cases c:i<us.length
 .rw[GdC c];simp[Gaa c]
 .rw[GcC (Geh c),GcC (by simp_all)]
  rfl⟩
def wQ(K:FrW)(f:Vh):Option (Vf×Option Vh×Vr×Array (Option Vf)):=match K.lookup f with
 |some ⟨oc,od,.func fd,sl⟩=>U (oc,od,fd,sl)
 |_=>J
def Ic{K:FrW}(h:wQ K f=U (oc,od,fd,sl)):K.lookup f=U ⟨oc,od,.func fd,sl⟩:=by
 unfold wQ at h;split at h
 .cases h;assumption
 .cases h
abbrev Fo:=Vf×Option Vh×Vr×Array (Option Vf)
def asT(q:Str)(st:Vk)(o:Fo):Fo:=(o.1,o.2.1,PySem.W.fnOf (nmS st) q (gr st) (bD st) (af st) .none o.2.2.1.kwdefaults o.2.2.1.doc o.2.2.1.pyModule o.2.2.1.annotations o.2.2.1.code o.2.2.1.closureTuple,o.2.2.2)
def refOf:Option (Option Vf)->Vh
 |some (U (.ref f))=>f
 |_=>0
abbrev Lk:=Option Fo×Option ((Nat->Vf)->Sem (List (Str×Vf)))×Bool
def lk1(K:FrW)(q:Str)(st:Vk)(N:List Str)(f:Vh):Lk:=((wQ K f).map (asT q st),(wQ K f).map λo v=>bindArgs o.2.2.1 ⟨vals (cL st).length v,[]⟩,(wQ K f).any (λo=>codeIn K o.2.2.1.code q)&&keepIn K (.ref f)&&Mc st N)
def lk2(K:FrW)(q:Str)(st:Vk)(f:Vh):Lk:=(wQ K f,U λv=>pure ((cL st).zip (vals (cL st).length v)),O)
def F8{K:FrW}{st:Vk}(h:lk1 K q st N f=lk2 K q st f):∃oc od sl yb,K.lookup f=U ⟨oc,od,.func (asT q st (oc,od,yb,sl)).2.2.1,sl⟩/\codeIn K yb.code q=O/\keepIn K (.ref f)=O/\bH N (cL st) (af st)/\∀us,us.length=(cL st).length->bindArgs (asT q st (oc,od,yb,sl)).2.2.1 ⟨us,[]⟩=pure ((cL st).zip us):=by
 obtain⟨h1,h⟩:=GbJ .. ▸h;obtain⟨h2,h3⟩:=GbJ .. ▸h;cases e:wQ K f with
 |none=>rw[e] at h2;cases h2
 |some o=>
  obtain⟨oc,od,yb,sl⟩:=o;rw[e] at h1 h2 h3;rw[Gac,Gac] at h3;have hf:=congrArg (λz:Fo=>z.2.2.1) (Option.some.inj h1);refine⟨oc,od,sl,yb,by rw[hf];exact Ic e,h3.1.1,h3.1.2,Me h3.2,λus hl=> ?_⟩;obtain⟨v,rfl⟩:=Ib hl;rw[hf];exact congrFun (Option.some.inj h2) v
structure jO where
 st:Vk
 N:List Str
 b:DS
 ni:Bool
 sx:Nat
 sy:Nat
def row(st:Vk)(b:DS):jO:=⟨st,pJ st,b,M,0,0⟩
abbrev gmP (st:Vk) (N:List Str) (T:List En) (bl:List Str) (ni:Bool) (sx sy:Nat):Gm:=⟨N,λx=>(af st).names.lookup x,tJ T T.length,bl,O,sx,sy,ni,[],λ_ _=>J⟩
def jO.en(T:List En)(r:jO):En:=⟨r.ni,nmS r.st,T.length+1,(cL r.st).length,bF r.N.length (cL r.st).length r.b⟩
def jO.go(T:List En):List jO->List En
 |[]=>T
 |r::l=>jO.go (r.en T::T) l
abbrev Ck:=Lk×Option (Option Vf)×Option DS
def jO.l(K:FrW)(bl:List Str)(T:List En):List jO->List Ck
 |[]=>[]
 |r::l=>(lk1 K (nmS r.st) r.st r.N (refOf (nsIn K mainGlobals (nmS r.st))),nsIn K mainGlobals (nmS r.st),(mf 60 (gmP r.st r.N T bl r.ni r.sx r.sy)).B (bD r.st))::jO.l K bl (r.en T::T) l
def jO.r(K:FrW)(T:List En):List jO->List Ck
 |[]=>[]
 |r::l=>(lk2 K (nmS r.st) r.st (refOf (nsIn K mainGlobals (nmS r.st))),U (U (.ref (refOf (nsIn K mainGlobals (nmS r.st))))),U r.b)::jO.r K (r.en T::T) l
section
variable [Wd]
def Mf{K:FrW}{mg:Str->Option Vf}{T:List En}{r:jO}(hm:∀x v,nsIn K mainGlobals x=U (U v)->mg x=U v)(hb:∀x∈bl,mg x=J)(hT:∀e∈T,mZ K mg base e)
  (h:(lk1 K (nmS r.st) r.st r.N (refOf (nsIn K mainGlobals (nmS r.st))),nsIn K mainGlobals (nmS r.st),(mf 60 (gmP r.st r.N T bl r.ni r.sx r.sy)).B (bD r.st))=(lk2 K (nmS r.st) r.st (refOf (nsIn K mainGlobals (nmS r.st))),U (U (.ref (refOf (nsIn K mainGlobals (nmS r.st))))),U r.b)):mZ K mg base (r.en T):=by
 obtain⟨h1,h⟩:=GbJ .. ▸h;obtain⟨h2,h3⟩:=GbJ .. ▸h;obtain⟨oc,od,sl,yb,l,c,k,S,B⟩:=F8 h1;exact⟨_,_,_,LH ⟨⟨_,_,_,_,_,_,_,_,_,rfl,l,c⟩,k⟩ S rfl hT hb h3,hm _ _ h2,k,.all B⟩
theorem B9{K:FrW}{mg:Str->Option Vf}(hm:∀x v,nsIn K mainGlobals x=U (U v)->mg x=U v)(hb:∀x∈bl,mg x=J):∀l T,(∀e∈T,mZ K mg base e)->jO.l K bl T l=jO.r K T l->∀e∈jO.go T l,mZ K mg base e
 |[],T,hT,_=>hT
 |r::l,T,hT,h=>by
  obtain⟨h1,h2⟩:=List.cons.inj h;exact B9 hm hb l _ (Gbt.mpr ⟨Mf hm hb hT h1,hT⟩) h2
end
open PySem.W (nsIn keepIn codeIn findIn isFn makesIn typeIn)
inductive Mr where
 |rd (b:DS)
 |mt (b:DSM)
 |fm (b:DSM)
structure fu where
 st:Vk
 q:Str
 N:List Str
 m:Mr
 sx:Nat
 sy:Nat
def oh(st:Vk)(q:Str)(m:Mr):fu:=⟨st,q,pJ st,m,0,0⟩
def hdS(l:List Str):Str:=l.headD ""
section
variable(K:FrW)(T:List En)(bl PN:List Str)(t:gn)
abbrev exK(t:gn)(st:Vk):Exs:=t.exs λy=>(af st).names.lookup y
abbrev xtC (t:gn) (c:Cla) (k:Nat) (st:Vk) (N:List Str) (w:Bool):Xt:=(exK t st).xt (U (c.ot (λy=>(af st).names.lookup y) k (hdS (cL st)) 0 N.length w))
def Qm(c:Cla)(k:Nat)(r:fu):Option Mr:=match r.m with
 | .rd _=>((mf 60 (gmO r.st r.N PN T k bl r.sx r.sy (hdS (cL r.st)) (xtC t c k r.st r.N M))).B (bD r.st)).map .rd
 | .mt _=>(blX (mf 60 (gmO r.st r.N PN T k bl r.sx r.sy (hdS (cL r.st)) (xtC t c k r.st r.N O))) (gmO r.st r.N PN T k bl r.sx r.sy (hdS (cL r.st)) (xtC t c k r.st r.N O)) (xtC t c k r.st r.N O) 60 (bD r.st)).map .mt
 | .fm _=>(blX (mf 60 (gmO r.st r.N PN T k bl r.sx r.sy (hdS (cL r.st)) (xtC t c k r.st r.N O))) (gmO r.st r.N PN T k bl r.sx r.sy (hdS (cL r.st)) (xtC t c k r.st r.N O)) (xtC t c k r.st r.N O) 60 (bD r.st)).map .fm
def fu.add(c:Cla)(k:Nat)(r:fu):Cla:=match r.m with
 | .rd b=>{c with rd:=(nmS r.st,k+1,(cL r.st).tail.length,o9 r.N.length (cL r.st).tail.length c.C b)::c.rd}
 | .mt b=>{c with mt:=(nmS r.st,k+1,(cL r.st).tail.length,j8 r.N.length (cL r.st).tail.length c.C b)::c.mt}
 | .fm b=>{c with fm:=(nmS r.st,k+1,(cL r.st).tail.length,j8 r.N.length (cL r.st).tail.length c.C b)::c.fm}
def adr(c:Cla)(r:fu):Option (Option Vf):=match r.m with
 | .fm _=>nsIn K mainGlobals (nmS r.st)
 |_=>findIn K (.ref c.C) (nmS r.st)
def mrB(c:Cla)(r:fu):Bool:=decide (cL r.st=hdS (cL r.st)::(cL r.st).tail)&&(PN.all λx=>((af r.st).names.lookup x).isNone)&&decide (r.N++PN).Nodup&& !odd (hdS (cL r.st))&&isFn K (.ref (refOf (adr K c r)))&&decide (nmS r.st∉c.ns)&& !(nmS r.st=="__debug__")
abbrev Ck2:=Lk×Option (Option Vf)×Bool×Option Mr
def fu.l1(c:Cla)(k:Nat)(r:fu):Ck2:=(lk1 K r.q r.st r.N (refOf (adr K c r)),adr K c r,mrB K PN c r,Qm T bl PN t c k r)
def fu.r1(c:Cla)(r:fu):Ck2:=(lk2 K r.q r.st (refOf (adr K c r)),U (U (.ref (refOf (adr K c r)))),O,U r.m)
def fu.go(c:Cla)(k:Nat):List fu->Cla
 |[]=>c
 |r::l=>fu.go (r.add c k) (k+1) l
def fu.l(c:Cla)(k:Nat):List fu->List Ck2
 |[]=>[]
 |r::l=>r.l1 K T bl PN t c k::fu.l (r.add c k) (k+1) l
def fu.r(c:Cla)(k:Nat):List fu->List Ck2
 |[]=>[]
 |r::l=>r.r1 K c::fu.r (r.add c k) (k+1) l
end
section
variable [Wd]
section
variable{K:FrW}{PN:List Str}{t:gn}
def Ie{c:Cla}{r:fu}(h3:3<=k)(hp:PN.length=c.ns.length)(hm:∀x v,nsIn K mainGlobals x=U (U v)->mg x=U v)(hb:∀x∈bl,mg x=J)(hT:∀e∈T,mZ K mg base e)(US:cV K mg base c)(Y:ky K mg t)(hl:mg "list"=J)(h:r.l1 K T bl PN t c k=r.r1 K c):cV K mg base (r.add c k):=by
 obtain⟨h1,h⟩:=GbJ .. ▸h;obtain⟨h2,h⟩:=GbJ .. ▸h;obtain⟨hz,hc⟩:=GbJ .. ▸h;obtain⟨oc,od,sl,yb,l,cc,kk,S,B⟩:=F8 h1;clear h h1;unfold mrB at hz;simp only[Gac,Gal,GcI,Gbl,GdE] at hz;obtain⟨⟨⟨⟨⟨⟨z1,z2⟩,z3⟩,z4⟩,z5⟩,z6⟩,z7⟩:=hz;obtain⟨st,q,N,m,sx,sy⟩:=r;have B:Binds K (asT q st _).2.2.1 _:= .all B;dsimp only at*;have F:Ma K _ q st _ (asT q st _).2.2.1:=⟨⟨_,_,_,_,_,_,_,_,_,rfl,l,cc⟩⟩
 rw[z1] at S B;cases m with
 |rd b=>
  obtain⟨b',hc,e⟩:=Gab.mp hc;cases e;exact US.r1 (HY F S rfl hT hb US (gn.tU Y hl) hp z2 z3 z4 hc) B h2 z5 kk z6
 |mt b=>
  obtain⟨b',hc,e⟩:=Gab.mp hc;cases e;exact US.m1 (B8 F S rfl h3 hT hb US (gn.tU Y hl) hp z2 z3 z4 hc) B h2 z5 kk z6
 |fm b=>
  obtain⟨b',hc,e⟩:=Gab.mp hc;cases e;exact US.f1 (B8 F S rfl h3 hT hb US (gn.tU Y hl) hp z2 z3 z4 hc) B (hm _ _ h2) kk z7
theorem fu.ns{c:Cla}{r:fu}:(r.add c k).ns=c.ns/\(r.add c k).C=c.C:=by
 unfold fu.add;split<;>exact⟨rfl,rfl⟩
theorem uZ(hm:∀x v,nsIn K mainGlobals x=U (U v)->mg x=U v)(hb:∀x∈bl,mg x=J)(hT:∀e∈T,mZ K mg base e)(Y:ky K mg t)(hl:mg "list"=J):∀l c k,3<=k->PN.length=c.ns.length->cV K mg base c->fu.l K T bl PN t c k l=fu.r K c k l->cV K mg base (fu.go c k l)
 |[],c,k,_,_,US,_=>US
 |r::l,c,k,h3,hp,US,h=>by
  obtain⟨h1,h2⟩:=List.cons.inj h;exact uZ hm hb hT Y hl l _ _ (GeF h3) (hp.trans (congrArg _ fu.ns.1.symm)) (Ie h3 hp hm hb hT US Y hl h1) h2
def tbB(K:FrW)(t:gn):Bool:=t.tb.all λc=> !(c.x=="__debug__")&&(match c.v with
  | .ref _=>nsIn K mainGlobals c.x==U (U c.v)
  |v=>nsIn K mainGlobals c.x==U J&&bootBuiltins c.x==U v&& !(c.x=="__name__"))&&t.cs.all (λC=>PySem.W.kitOne K (.ref C) c.v==U (c.of.contains C))&&(!(c.of==t.cs)||match c.v with
  | .ref Cn=>t.cs.all λC=>PySem.W.exmOne K (.ref C) (.ref Cn)==U O
  |_=>O)
def Ig(hm:∀x v,nsIn K mainGlobals x=U (U v)->mg x=U v)(hn:∀x,nsIn K mainGlobals x=U J->mg x=J)(h:tbB K t=O)(xf:∀q∈t.xf,∃B fI,XCl K B q.1 fI q.2)(is:∀C∈t.cs,XIs K C)
  (rz:∀q∈t.rz,(∀base,(mg "list"=J->∃fI fd y B,XCl K B q.2.1 fI q.2.2.1/\ku K mg base fI fd y q.2.1 q.2.2.1 q.2.2.2/\Binds K fd [("self":Str),y]))/\mg q.1=U (.ref q.2.1)/\(q.1==Dgs)=M)(hl:mg "list"=J):ky K mg t:=by
 have h:=Gal.mp h;simp only[Gac,GcI,Gal,Gas] at h;refine⟨xf,is,λc hc=> ?_,λc hc Cn e=> ?_,λq hq=> ?_⟩
 .obtain⟨⟨⟨a,b⟩,d⟩,_⟩:=h c hc;refine⟨a, ?_,d⟩;split at b
  .exact .inl (hm _ _ (Gas.mp b))
  .simp_all
 .obtain⟨⟨⟨_,b⟩,_⟩,d⟩:=h c hc;rw[e] at b d⊢;refine⟨hm _ _ (by simp_all),λz C hC=> ?_⟩;rw[z] at d;have d:∀x∈t.cs,PySem.W.exmOne K (.ref x) (.ref Cn)=U O:=by simpa using d
  exact d C hC
 .obtain⟨a,b⟩:=rz q hq;obtain⟨fI,fd,y,B,k1,_⟩:=a default hl;exact⟨⟨B,fI,k1⟩,a,b⟩
def OL(K:FrW)(PN:List Str)(st:Vk)(c:Cla)(cn:Str):Bool:=(PN.all λx=>((af st).names.lookup x).isNone)&&decide (pJ st++PN).Nodup&&makesIn K c.C&&((af st).names.lookup cn==U .globalImplicit)&&keepIn K (.ref c.C)&& !(cn=="__debug__")&&typeIn K (.ref (refOf (findIn K (.ref c.C) "__init__")))==U (.type "function")
def Mg{mg:Str->Option Vf}{base:Vj}{c:Cla}{k kk:Nat}{st:Vk}{b:DS}{cn x:Str}{np' :Nat}{spi:SpM}{sp:SpF}(h3:3<=k)(zO:kk+1<=k)(hp:PN.length=c.ns.length)(hm:∀x v,nsIn K mainGlobals x=U (U v)->mg x=U v)(hb:∀x∈bl,mg x=J)(hT:∀e∈T,mZ K mg base e)(US:cV K mg base c)(Y:ky K mg t)(hl:mg "list"=J)(hi:c.mt.getLast? =U (("__init__":Str),kk,np',spi))
  {fa:Vh}{oc:Vf}{od:Option Vh}{yb:Vr}{sl:Array (Option Vf)}(lk:K.lookup fa=U ⟨oc,od,.func (asT (nmS st) st (oc,od,yb,sl)).2.2.1,sl⟩)(eO:codeIn K yb.code (nmS st)=O)(kp:keepIn K (.ref fa)=O)(S:bH (pJ st) (cL st) (af st))
  (h:(nsIn K mainGlobals cn,OL K PN st c cn,lwX (mf 60 ⟨pJ st,λx=>(af st).names.lookup x,tJ T k,bl,O,0,0,O,[],λ_ _=>J⟩) ⟨pJ st,λx=>(af st).names.lookup x,tJ T k,bl,O,0,0,O,[],λ_ _=>J⟩ (λz=>if z=cn then U (c.C,c.ns.length,np',spi) else J) (JK st (pJ st) PN T k bl 0 0 (exK t st) c) (bD st))=(U (U (.ref c.C)),O,U b))
  (e:(cL st,bF (pJ st).length (cL st).length b)=([x],sp)):nY K mg base O (k+1) fa (asT (nmS st) st (oc,od,yb,sl)).2.2.1 [x] sp:=by
 obtain⟨e1,e2⟩:=GbJ .. ▸e;rw[<-e1,<-e2];obtain⟨h1,h⟩:=GbJ .. ▸h;obtain⟨hz,hc⟩:=GbJ .. ▸h;unfold OL at hz;simp only[Gac,Gal,Gbl,GdE,Gas] at hz;obtain⟨⟨⟨⟨⟨⟨z1,z2⟩,z3⟩,z4⟩,z5⟩,z6⟩,z7⟩:=hz;obtain⟨fi,So,p0,pi,I,Sh,hf,hn,UB,_⟩:=US.mt _ _ _ _ (List.mem_of_getLast? hi);rw[hf] at z7;exact HZ ⟨⟨_,_,_,_,_,_,_,_,_,rfl,lk,eO⟩,kp⟩ S rfl h3 zO hT hb US (gn.tU Y hl) hp z1 z2 I Sh z3 hf z7 z4 (hm _ _ h1) z5 (by simp_all) hc
end
end
end NL
namespace Den
open DL.D renaming non→A
open DL PySem NL
abbrev kI (n:Int):DE:=kE (.int n)
abbrev kS (s:Str):DE:=kE (.str s)
abbrev ix (i:Nat) (n:Int):DE:=Vd (vE i) (kI n)
abbrev iy (f:DE) (n:Int):DE:=Vd f (kI n)
abbrev v0:DE:=vE 0
abbrev v1:DE:=vE 1
abbrev v2:DE:=vE 2
abbrev v3:DE:=vE 3
abbrev v4:DE:=vE 4
abbrev v5:DE:=vE 5
abbrev v6:DE:=vE 6
abbrev v7:DE:=vE 7
abbrev v8:DE:=vE 8
abbrev v9:DE:=vE 9
abbrev v10:DE:=vE 10
abbrev v11:DE:=vE 11
abbrev v12:DE:=vE 12
abbrev A1 (a:DE):DA:=ae a aL
abbrev A2 (a b:DE):DA:=ae a (A1 b)
abbrev A3 (a b c:DE):DA:=ae a (A2 b c)
abbrev A4 (a b c d:DE):DA:=ae a (A3 b c d)
abbrev A5 (a b c d e:DE):DA:=ae a (A4 b c d e)
abbrev A6 (a b c d e f:DE):DA:=ae a (A5 b c d e f)
abbrev T2 (a b:DE):DE:=cX (A2 a b)
abbrev T3 (a b c:DE):DE:=cX (A3 a b c)
abbrev T4 (a b c d:DE):DE:=cX (A4 a b c d)
abbrev b1 (f:SpV) (a:DE):DE:=g9 f (A1 a)
def oj:DS:=UW (b1 gf (b1 UZ (Ve aw v0 (cX (A1 v1)))))
def lu:SpF:=bF 2 2 oj
def kA:DS:=UW (b1 gf (dR (U 0) 1 [1,2] (cy v0) (gN 0) (orT (ao neB (ix 0 0) v1) (ao neB (ix 0 1) v2)) v0))
def iH:SpF:=bF 3 3 kA
def iU:DS:=UW (T2 (ix 0 0) (ai lu (A2 (ix 0 1) (T3 v1 v2 v3))))
def di:SpF:=bF 4 4 iU
def fK:DS:=UW (T2 (ix 0 0) (ai iH (A3 (ix 0 1) v1 v2)))
def bZ:SpF:=bF 3 3 fK
def iV:DS:=UW (T2 (ai lu (A2 (ix 0 0) (T3 v1 v2 v3))) (ix 0 1))
def iW:SpF:=bF 4 4 iV
def fL:DS:=UW (T2 (ai iH (A3 (ix 0 0) v1 v2)) (ix 0 1))
def fM:SpF:=bF 3 3 fL
def jm:DS:=UW (dR J 1 [1] (cy (ix 0 1)) (gN 0) (ao eqB (ix 0 0) v1) (T2 (ix 0 1) (ix 0 2)))
def n8:SpF:=bF 2 2 jm
def lA:DS:=ak (ifS (ao eqB (ix 0 0) (kS "ever")) (UW (ix 0 1)) aC) (ak (ifS (ao eqB (ix 0 0) (kS "flat")) (UW (ix 0 2)) aC) (ak (ifS (ao g8 v1 (kE A)) (UW (kE A)) aC) (UW (Ve jG (Ve bX v1 (ix 0 2)) (ix 0 3)))))
def jn:SpF:=bF 2 2 lA
def nj:DS:=ak (au 2 (ix 0 4)) (ak (ifS (ao eqB (ix 2 0) (kS "asked")) (UW (kE A)) aC) (ak (au 3 (Ve ip v1 (Ve ip (ix 2 1) (ix 2 4)))) (ak (au 4 (Ve jG v3 (ix 2 2))) (ak (ifS (orT (pK (sL leB ltB (kI 0) v4 (ix 2 3))) (ao gtB (Ve ip v3 (Ve bX v4 (ix 2 2))) (Ve aw (ix 2 4) (ix 2 5)))) (UW (kE A)) aC) (UW v4)))))
def jb:SpF:=bF 5 2 nj
def nu:DS:=ak (au 2 (ix 0 4)) (ak (ifS (ao eqB (ix 2 0) (kS "asked")) (UW (bE (ao ltB v1 (ix 2 1)))) aC) (UW (bE (ao g8 (ai jb (A2 v0 v1)) (kE A)))))
def nz:SpF:=bF 3 2 nu
def gX:DS:=ifS (cK (ao eqB (ix 4 0) v1) (ao leB (ix 4 1) v2)) (au 3 (ix 4 2)) aC
def oW:DS:=ak (au 3 (kE A)) (ak (dN (U 0) (cy v0) (gN 4) gX) (UW v3))
def iI:SpF:=bF 5 3 oW
def dX:DT:=cK (ao gK v1 (kE A)) (ao leB (iy (Vd v2 v5) 0) (Ve ip (ix 7 0) v1))
def gJ:DS:=ak (au 4 (Ve ip v4 (iy (Vd v2 v5) 1))) (au 5 (Ve aw v5 (kI 1)))
def cS:DS:=ak (au 4 (Ve aw v4 (ix 7 1))) (ak (pM dX gJ) (ifS (orT (ao eqB (Ve aw v6 (kI 1)) (b1 b5 v2)) (ao gtB (iy (Vd v2 (Ve aw v6 (kI 1))) 0) (ix 7 0))) (gw 3 (T2 (ix 7 0) v4)) aC))
def tW:DS:=ak (au 2 (b1 UZ v0)) (ak (au 3 (bQ aL)) (ak (au 4 (kI 0)) (ak (au 5 (kI 0)) (ak (dN (U 2) (rE v2) (gT [6,7]) cS) (UW v3)))))
def kB:SpF:=bF 8 2 tW
def fN:DS:=UW (b1 anyS (dR J 1 [] (cy (ix 0 2)) (gN 0) dS (bE (ao eqB (ix 0 0) (kS "kilo")))))
def fO:SpF:=bF 1 1 fN
def iX:DS:=ak (au 3 (ix 2 0)) (ak (au 4 (ix 2 1)) (ak (au 5 (ix 2 2)) (ak (au 6 (Vd (ix 0 3) v3)) (ak (au 7 (Vd (ix 0 1) (ix 6 2))) (ak (au 8 (bQ aL)) (ak (ifS (iq (ai nz (A2 v6 v4))) (gw 8 (kS "astray")) aC) (ak (ifS (ao gtB v5 (iy (ix 6 3) 3)) (gw 8 (kS "most")) aC) (ak (ifS (orT (ao ltB v5 (kI 1)) (ao neB (Ve nV v5 (iy (ix 7 1) 0)) (kI 0))) (gw 8 (kS "part")) aC) (ak (ifS (cK (iq (ai fO (A1 v7))) (ao g8 (ai iI (A3 v1 (ix 6 1) v4)) (kE A))) (gw 8 (kS "weight")) aC) (ak (ifS (ao ltB v4 (Ve aw (iy (Vd (ix 0 0) (ix 6 1)) 1) (ix 7 3))) (gw 8 (kS "young")) aC) (UW (dR (U 8) 1 [3,4] (cy v8) (gN 0) dS (T3 v0 v1 v2)))))))))))))
def fS:SpF:=bF 9 3 iX
def bx:DM:=Kt (setM 4 (Vd (ix 0 3) (ix 3 0))) (GW (T2 (ix 4 1) (ix 4 2)) (T2 (ix 3 1) (ix 3 2)))
def fy:DS:=tA 2 (Du 3 v1 bx)
def cJ:SpF:=bF 5 2 fy
def dI:DS:=ak (au 11 (ai jn (A2 v8 (ai iI (A3 v1 v6 (ix 10 0)))))) (ifS (cK (ao gK v11 (kE A)) (ao gtB (ix 10 1) v11)) (gw 3 (cX (ae (kS "cap") (A6 v6 (ix 4 1) v7 (ix 10 0) (ix 10 1) v11)))) aC)
def cC:DS:=ak (au 9 (ifE (ao eqB (ix 8 0) (kS "ever")) (kE A) (ix 8 1))) (dN J (cy (ai kB (A2 v5 v9))) (gN 10) dI)
def dJ:DS:=ak (au 6 (ix 4 0)) (dN J (rE (iy (Vd (ix 0 1) (ix 4 1)) 2)) (gT [7,8]) cC)
def nA:DS:=ak (au 3 (bQ aL)) (ak (dN J (Dt cG (vX cJ (A2 v0 v2))) (gT [4,5]) dJ) (UW v3))
def gB:SpF:=bF 12 3 nA
def bV:DS:=ak (BF 1 (T2 (ix 2 0) (ix 2 1)) (ix 2 2)) (BF 1 (T2 (ix 2 1) (ix 2 0)) (ix 2 2))
def jc:DS:=ak (au 1 sM) (ak (dN (U 0) (cy v0) (gN 2) bV) (UW v1))
def fP:SpF:=bF 3 1 jc
def iY:DS:=ak (ifS (ao neB (ix 1 1) (ix 2 1)) (UW (kI 0)) aC) (UW (Ds v0 (T2 (ix 1 2) (ix 2 2)) (kI 0)))
def iZ:SpF:=bF 3 3 iY
def bC:DS:=ak (au 9 (Ve ip (ix 8 0) (ix 7 0))) (ak (ifS (ao geB v9 v3) bkS aC) (ifS (ao ltB v9 (ai iZ (A3 v2 (Vd (ix 0 3) (ix 7 1)) (Vd (ix 0 3) (ix 8 1))))) (gw 5 (cX (A5 (kS "gap") (ix 7 1) (ix 7 0) (ix 8 1) (ix 8 0)))) aC))
def bN:DS:=dN J (cy (slE v4 (jS (Ve aw v6 (kI 1))) noO)) (gN 8) bC
def nB:DS:=ak (au 2 (ai fP (A1 (ix 0 2)))) (ak (au 3 (mmE lU (.int 0) (dR J 1 [] (cy (ix 0 2)) (gN 0) dS (ix 0 2)))) (ak (au 4 (b1 UZ (dR (U 1) 1 [] (cy v1) (gN 0) dS (T2 (ix 0 1) (ix 0 0))))) (ak (au 5 (bQ aL)) (ak (dN (U 4) (rE v4) (gT [6,7]) bN) (UW v5)))))
def gC:SpF:=bF 10 2 nB
def bP:DS:=ak (au 4 (ai jb (A2 (Vd (ix 0 3) (ix 3 0)) (ix 3 1)))) (ifS (ao gK v4 (kE A)) (BF 2 (T2 (ix 3 0) v4) (Ve aw (Ds v2 (T2 (ix 3 0) v4) (kI 0)) (kI 1))) aC)
def kC:DS:=ak (au 2 sM) (ak (dN (U 1) (cy v1) (gN 3) bP) (UW (pU cG 2 2 [] (gT [0,1]) (ao gtB v1 (kI 1)) (T3 (kS "twice") (ix 0 0) (ix 0 1)))))
def fA:SpF:=bF 5 2 kC
def fY:DS:=JY 4 (ai fS (A3 v0 v2 v5))
def qw:DS:=ak (au 2 (ix 1 0)) (ak (au 3 (ix 1 1)) (ak (au 4 (Ve aw (Ve aw (ai gB (A3 v0 v2 v3)) (ai gC (A2 v0 v3))) (ai fA (A2 v0 v3)))) (ak (dN (U 3) (cy v3) (gN 5) fY) (UW (b1 gP v4)))))
def nD:SpF:=bF 6 2 qw
def mq:DS:=ak (au 3 (kI 0)) (ak (ifS (ao gtB (b1 b5 v0) (kI 0)) (au 3 (Ve nV (Vd v0 (Ve nV v1 (b1 b5 v0))) (kI 1000003))) aC) (UW (Ve nV (Ve jG (Ve nV (Ve bX (Ve nV (Ve bX (Ve aw v3 (kI 1)) (Ve aw (Ve aw (Ve bX v1 v1) v1) (kI 41))) (kI 999983)) (kI 48271)) (kI 2147483647)) (kI 11)) v2)))
def a7:SpF:=bF 4 3 mq
def dm:DS:=ak (au 6 (Ve aw (Ve aw v1 (kI 1)) (Ve bX (kI 4) v5))) (ak (au 7 (Ve bX v3 (Ve aw (kI 1) (ai a7 (A3 v0 v6 (kI 30)))))) (ak (au 8 (ai a7 (A3 v0 (Ve aw v6 (kI 2)) (kI 3)))) (ak (ifS (ao eqB v8 (kI 0)) (gw 4 (T3 (kS "flat") v7 (Ve bX v2 (Ve aw (kI 1) (ai a7 (A3 v0 (Ve aw v6 (kI 1)) (kI 30))))))) aC) (ak (ifS (ao eqB v8 (kI 1)) (ak (au 9 (Ve bX v2 (Ve aw (kI 1) (ai a7 (A3 v0 (Ve aw v6 (kI 1)) (kI 9)))))) (gw 4 (T4 (kS "kilo") v7 v9 (Ve aw (kI 1) (ai a7 (A3 v0 (Ve aw v6 (kI 3)) (kI 40))))))) aC) (ifS (ao eqB v8 (kI 2)) (gw 4 (T2 (kS "ever") (Ve bX v2 (Ve aw (kI 2) (ai a7 (A3 v0 (Ve aw v6 (kI 1)) (kI 60))))))) aC)))))
def qx:DS:=ak (au 4 (bQ aL)) (ak (dN J (cz (Vd (bQ (A6 (kI 0) (kI 1) (kI 1) (kI 2) (kI 3) (kI 4))) (ai a7 (A3 v0 v1 (kI 6))))) (gN 5) dm) (UW (b1 gf v4)))
def jo:SpF:=bF 10 4 qx
def bO:DS:=ak (au 4 (Ve aw (kI 100) (Ve bX (kI 30) v3))) (ak (au 5 (Vd (bQ (A5 (kI 1) (kI 2) (kI 5) (kI 12) (Ve mJ (kI 10) (kI 5)))) (ai a7 (A3 v0 v4 (kI 5))))) (ak (au 6 (Vd (bQ (A3 (cX (A1 v5)) (T2 v5 (Ve bX (kI 2) v5)) (T3 v5 (Ve bX (kI 3) v5) (Ve bX (kI 7) v5)))) (ai a7 (A3 v0 (Ve aw v4 (kI 1)) (kI 3))))) (ak (au 7 (Ve bX (Vd (bQ (A2 (kI 0) v1)) (ai a7 (A3 v0 (Ve aw v4 (kI 2)) (kI 2)))) (ai a7 (A3 v0 (Ve aw v4 (kI 3)) (kI 20))))) (gw 2 (T4 (Ve aw (kS "stuff") (Vd (kS "abcdef") v3)) v6 (ai jo (A4 v0 (Ve aw v4 (kI 5)) v5 v1)) v7)))))
def jq:DS:=ak (au 2 (bQ aL)) (ak (dN J (cz (Vd (bQ (A6 (kI 1) (kI 2) (kI 3) (kI 3) (kI 2) (kI 6))) (ai a7 (A3 v0 (kI 21) (kI 6))))) (gN 3) bO) (UW (b1 gf v2)))
def gD:SpF:=bF 8 2 jq
def fT:DS:=ak (au 6 (Ve aw (Ve aw (kI 3000) (Ve bX (kI 18) v4)) (Ve bX (kI 3) v5))) (ifS (cK (ao ltB (b1 b5 v3) (kI 12)) (ao eqB (ai a7 (A3 v0 v6 (kI 3))) (kI 0))) (ak (au 7 (T3 v4 v5 (Ve bX v2 (Ve aw (kI 1) (ai a7 (A3 v0 (Ve aw v6 (kI 1)) (kI 10))))))) (Kr 3 (ai a7 (A3 v0 (Ve aw v6 (kI 2)) (Ve aw (b1 b5 v3) (kI 1)))) v7)) aC)
def dz:DS:=dN J (pD v4 v1) (gN 5) fT
def qy:DS:=ak (au 3 (bQ aL)) (ak (dN J (cz v1) (gN 4) dz) (UW (b1 gf v3)))
def jr:SpF:=bF 8 3 qy
def mv:DS:=ak (ifS (ao eqB (ai a7 (A3 v0 v1 (kI 3))) (kI 0)) (UW (T2 (kS "asked") (Ve bX v2 (ai a7 (A3 v0 (Ve aw v1 (kI 1)) (kI 20)))))) aC) (ak (au 3 (Ve bX v2 (Ve aw (kI 1) (ai a7 (A3 v0 (Ve aw v1 (kI 2)) (kI 12)))))) (ak (au 4 (Ve bX v2 (ai a7 (A3 v0 (Ve aw v1 (kI 3)) (Ve jG v3 v2))))) (ak (au 5 (Ve bX v2 (ai a7 (A3 v0 (Ve aw v1 (kI 4)) (Ve jG (Ve ip v3 v4) v2))))) (ak (au 6 (Ve aw v4 (Ve bX v2 (ai a7 (A3 v0 (Ve aw v1 (kI 5)) (kI 10)))))) (UW (cX (A6 (kS "due") v6 v3 (Vd (bQ (A5 (kI 1) (kI 2) (kI 4) (kI 6) (kI 60))) (ai a7 (A3 v0 (Ve aw v1 (kI 6)) (kI 5)))) v4 v5)))))))
def jt:SpF:=bF 7 3 mv
def c7:DS:=gw 2 (T2 (Ve aw (kS "guest") (Vd (kS "abcdef") v3)) (Ve bX v1 (ai a7 (A3 v0 (Ve aw (kI 30) v3) (kI 15)))))
def c9:DS:=ak (au 7 (Ve aw (kI 300) (Ve bX (kI 20) v6))) (ak (au 8 (ai a7 (A3 v0 v7 (b1 b5 v4)))) (ak (au 9 (Ve bX (iy (iy (Vd v4 v8) 1) 0) (Vd (bQ (A3 (kI 4) (kI 15) (kI 2000))) (ai a7 (A3 v0 (Ve aw v7 (kI 1)) (kI 3)))))) (ak (au 10 (T4 (Vd (bQ (A3 (kS "down") (kS "up") (kS "near"))) (Ve nV v6 (kI 3))) (Ve aw (kI 1) (ai a7 (A3 v0 (Ve aw v7 (kI 2)) (kI 90)))) (ai a7 (A3 v0 (Ve aw v7 (kI 3)) (kI 9))) v9)) (ak (au 11 (ai jt (A3 v0 (Ve aw v7 (kI 4)) v1))) (ak (au 12 (cX aL)) (ak (ifS (cK (ao eqB (ix 11 0) (kS "due")) (ao gtB (ix 11 3) (kI 2))) (au 12 (T2 (T3 (kI 1) (kI 1) (kI 2)) (T3 (kI 2) (kI 1) (kI 3)))) aC) (gw 5 (cX (A6 (Ve aw (kS "order") (Vd (kS "abcdefghijkl") v6)) (ai a7 (A3 v0 (Ve aw v7 (kI 12)) (b1 b5 v2))) v8 v10 v11 v12)))))))))
def oX:DS:=ak (au 1 (Vd (bQ (A6 (kI 1) (kI 1) (kI 1) (kI 1) (kI 1) (Ve mJ (kI 10) (kI 6)))) (ai a7 (A3 v0 (kI 1) (kI 6))))) (ak (au 2 (bQ aL)) (ak (dN J (cz (Vd (bQ (A6 (kI 1) (kI 2) (kI 3) (kI 2) (kI 3) (kI 6))) (ai a7 (A3 v0 (kI 20) (kI 6))))) (gN 3) c7) (ak (au 4 (ai gD (A2 v0 v1))) (ak (au 5 (bQ aL)) (ak (dN J (cz (Vd (bQ (A6 (kI 1) (kI 2) (kI 3) (kI 4) (kI 4) (kI 12))) (ai a7 (A3 v0 (kI 22) (kI 6))))) (gN 6) c9) (UW (T4 (b1 gf v2) v4 (ai jr (A3 v0 (b1 b5 v4) v1)) (b1 gf v5))))))))
def iJ:SpF:=bF 13 1 oX
def mw:DS:=ak (au 4 (Vd (bQ (A6 (kI 1) (kI 1) (kI 1) (kI 1) (kI 1) (Ve mJ (kI 10) (kI 6)))) (ai a7 (A3 v0 (kI 1) (kI 6))))) (ak (au 5 (iy (Vd (ix 1 3) v2) 4)) (ak (au 6 (Ve bX v4 (ai a7 (A3 v0 v3 (kI 70))))) (ak (ifS (cK (ao eqB (ix 5 0) (kS "due")) (ao gtB (ai a7 (A3 v0 (Ve aw v3 (kI 3000)) (kI 4))) (kI 0))) (ak (au 7 (Ve aw (ix 5 1) (Ve bX (ai a7 (A3 v0 v3 (g9 j4 (A2 (ix 5 3) (kI 6))))) (ix 5 2)))) (ak (au 8 (bQ (A6 v7 (Ve ip v7 (ix 5 4)) (Ve aw v7 (ix 5 5)) (Ve ip (Ve ip v7 (ix 5 4)) (kI 1)) (Ve aw (Ve aw v7 (ix 5 5)) (kI 1)) v7))) (au 6 (g9 pL (A2 (kI 0) (Vd v8 (ai a7 (A3 v0 (Ve aw v3 (kI 4000)) (kI 6))))))))) aC) (ak (ifS (ao eqB (ai a7 (A3 v0 (Ve aw v3 (kI 5000)) (kI 12))) (kI 0)) (au 6 (Ve aw v6 (kI 1))) aC) (ak (ifS (ao eqB (ai a7 (A3 v0 (Ve aw v3 (kI 5500)) (kI 25))) (kI 0)) (au 6 (Ve mJ (kI 10) (kI 9))) aC) (UW v6))))))
def dQ:SpF:=bF 9 4 mw
def nE:DS:=ak (au 4 (iy (iy (Vd (ix 1 1) (iy (Vd (ix 1 3) v2) 2)) 1) 0)) (ak (au 5 (Ve bX v4 (Ve aw (kI 1) (ai a7 (A3 v0 (Ve aw v3 (kI 6000)) (kI 8)))))) (ak (au 6 (bQ (A6 (kI 0) (unE D0 v5) (Ve aw v5 (kI 1)) (Ve mJ (kI 10) (kI 9)) (Ve bX v4 (kI 2001)) (unE D0 (kI 1))))) (ak (ifS (ao eqB (ai a7 (A3 v0 (Ve aw v3 (kI 7000)) (kI 14))) (kI 0)) (UW (Vd v6 (ai a7 (A3 v0 (Ve aw v3 (kI 8000)) (kI 6))))) aC) (UW v5))))
def cT:SpF:=bF 7 4 nE
def gp:DS:=ifS (cK (ao eqB (ix 4 0) v1) (ao leB (ix 4 1) v2)) (au 3 (ix 4 2)) aC
def nG:DS:=ak (au 3 (kE A)) (ak (dN (U 0) (cy v0) (gN 4) gp) (UW v3))
def gE:SpF:=bF 5 3 nG
def ju:DS:=ifS (cK (ao leB (Ve ip (Ve aw (ix 0 1) (Ve bX v2 (ix 0 2))) (ix 0 4)) v1) (ao leB v1 (Ve aw (Ve aw (ix 0 1) (Ve bX v2 (ix 0 2))) (ix 0 5)))) (UW v2) aC
def rW:DS:=ak (dN J (cz (ix 0 3)) (gN 2) ju) (UW (kE A))
def rX:SpF:=bF 3 2 rW
def dK:DS:=ak (au 6 (Vd (ix 0 3) v3)) (ak (au 7 (Vd (ix 0 1) (ix 6 2))) (ak (ifS (orT (cK (ao eqB (iy (ix 6 4) 0) (kS "asked")) (ao ltB v4 (iy (ix 6 4) 1))) (cK (ao eqB (iy (ix 6 4) 0) (kS "due")) (ao g8 (ai rX (A2 (ix 6 4) v4)) (kE A)))) (gw 2 (T3 (kS "astray") v3 v4)) aC) (ak (ifS (ao gtB v5 (iy (ix 6 3) 3)) (gw 2 (T3 (kS "most") v3 v4)) aC) (ak (ifS (orT (ao ltB v5 (kI 1)) (ao neB (Ve nV v5 (iy (ix 7 1) 0)) (kI 0))) (gw 2 (T3 (kS "part") v3 v4)) aC) (ak (au 8 (dR J 1 [] (cy (ix 7 2)) (gN 0) (ao eqB (ix 0 0) (kS "kilo")) v0)) (ak (ifS (cK (ao gtB (b1 b5 v8) (kI 0)) (ao g8 (ai gE (A3 (ix 1 0) (ix 6 1) v4)) (kE A))) (gw 2 (T3 (kS "weight") v3 v4)) aC) (ifS (ao ltB v4 (Ve aw (iy (Vd (ix 0 0) (ix 6 1)) 1) (ix 7 3))) (gw 2 (T3 (kS "young") v3 v4)) aC)))))))
def nH:DS:=ak (au 2 (bQ aL)) (ak (dN J (cy (ix 1 1)) (gT [3,4,5]) dK) (UW v2))
def jv:SpF:=bF 9 2 nH
def dY:DS:=ak (ifS (ao eqB (ix 0 0) (kS "flat")) (UW (ix 0 2)) aC) (ak (ifS (ao eqB (ix 0 0) (kS "ever")) (UW (ix 0 1)) aC) (ak (ifS (ao g8 v1 (kE A)) (UW (kE A)) aC) (UW (Ve jG (Ve bX v1 (ix 0 2)) (ix 0 3)))))
def cP:SpF:=bF 2 2 dY
def dB:DS:=ifS (cK (ao eqB (ix 3 1) (ix 7 1)) (ao eqB (b1 UZ (bQ (A2 (ix 3 2) (ix 7 2)))) (bQ (A2 (ix 8 0) (ix 8 1))))) (ifS (ao ltB (Ve ip (iy (Vd v2 v5) 0) (iy (Vd v2 v6) 0)) (ix 8 2)) (gw 4 (cX (A5 (kS "gap") (iy (Vd v2 v6) 1) (iy (Vd v2 v6) 0) (iy (Vd v2 v5) 1) (iy (Vd v2 v5) 0)))) aC) aC
def dC:DS:=ak (au 3 (Vd (ix 0 3) (iy (Vd v2 v6) 1))) (ak (au 7 (Vd (ix 0 3) (iy (Vd v2 v5) 1))) (dN J (cy (ix 0 2)) (gN 8) dB))
def cD:DS:=dN J (cz v5) (gN 6) dC
def mz:DS:=ak (au 2 (b1 UZ (dR J 1 [] (cy (ix 1 1)) (gN 0) dS (T2 (ix 0 1) (ix 0 0))))) (ak (au 4 (bQ aL)) (ak (dN J (cz (b1 b5 v2)) (gN 5) cD) (UW v4)))
def jw:SpF:=bF 9 2 mz
def cg:DS:=ak (au 7 (Ve ip (Ve aw (ix 4 1) (Ve bX v6 (ix 4 2))) (ix 4 4))) (ak (au 8 (Ve aw (Ve aw (ix 4 1) (Ve bX v6 (ix 4 2))) (ix 4 5))) (ifS (ao gtB (b1 b5 (dR (U 5) 1 [7,8] (cy v5) (gN 0) (cK (ao leB v1 v0) (ao leB v0 v2)) v0)) (kI 1)) (gw 2 (T3 (kS "twice") v3 v6)) aC))
def bq:DS:=ak (au 4 (iy (Vd (ix 0 3) v3) 4)) (ifS (ao eqB (ix 4 0) (kS "due")) (ak (au 5 (dR J 1 [3] (cy (ix 1 1)) (gN 0) (ao eqB (ix 0 0) v1) (ix 0 1))) (dN J (cz (ix 4 3)) (gN 6) cg)) aC)
def j2:DS:=ak (au 2 (bQ aL)) (ak (dN J (cz (b1 b5 (ix 0 3))) (gN 3) bq) (UW v2))
def fU:SpF:=bF 9 2 j2
def nI:DS:=ak (au 8 (Vd (ix 2 0) (ai a7 (A3 v0 (Ve aw (kI 2600) v3) (b1 b5 (ix 2 0)))))) (au 7 (T4 v4 (ix 8 0) (Ve aw (ix 8 1) (Vd (bQ (A2 (kI 0) (kI 1))) (Ve jG (ai a7 (A3 v0 (Ve aw (kI 2700) v3) (kI 6))) (kI 5)))) (ix 7 3)))
def kD:DS:=ak (au 6 (ai a7 (A3 v0 (Ve aw (kI 2200) v3) (b1 b5 (ix 1 0))))) (ak (au 7 (T4 v4 v6 (Ve bX v5 (ai a7 (A3 v0 (Ve aw (kI 2300) v3) (kI 50)))) (Ve aw (kI 1) (ai a7 (A3 v0 (Ve aw (kI 2400) v3) (kI 200)))))) (ak (ifS (cK (ao gtB (b1 b5 (ix 2 0)) (kI 0)) (ao ltB (ai a7 (A3 v0 (Ve aw (kI 2500) v3) (kI 4))) (Ve aw (kI 2) (b1 qZ (bE (ao eqB v4 (kS "unweigh"))))))) nI aC) (UW v7)))
def qz:DS:=ak (au 8 (Vd (ix 2 1) (ai a7 (A3 v0 (Ve aw (kI 2600) v3) (b1 b5 (ix 2 1)))))) (ak (au 9 (ix 8 0)) (au 10 (g9 j4 (A2 (Ve mJ (kI 10) (kI 9)) (Ve aw (ix 8 1) (Vd (bQ (A2 (kI 0) (kI 1))) (Ve jG (ai a7 (A3 v0 (Ve aw (kI 2700) v3) (kI 6))) (kI 5))))))))
def qA:DS:=ak (au 9 (ai a7 (A3 v0 (Ve aw (kI 2200) v3) (b1 b5 (ix 1 3))))) (ak (au 10 (ai dQ (A4 v0 v1 v9 (Ve aw (kI 2800) v3)))) (ak (ifS (cK (ao gtB (b1 b5 (ix 2 1)) (kI 0)) (orT (ao neB v4 (kS "give")) (ao eqB (ai a7 (A3 v0 (Ve aw (kI 2500) v3) (kI 8))) (kI 0)))) qz aC) (ak (ifS (ao eqB v4 (kS "move")) (UW (T4 v4 v9 v10 (ai dQ (A4 v0 v1 v9 (Ve aw (kI 2900) v3))))) aC) (UW (T4 v4 v9 v10 (ai cT (A4 v0 v1 v9 (Ve aw (kI 2800) v3))))))))
def mC:DS:=ak (au 4 (bQ (ae (kS "give") (ae (kS "give") (ae (kS "give") (ae (kS "give") (ae (kS "strike") (A6 (kS "amend") (kS "amend") (kS "move") (kS "move") (kS "weigh") (kS "unweigh"))))))))) (ak (au 4 (Vd v4 (ai a7 (A3 v0 (Ve aw (kI 2100) v3) (kI 11))))) (ak (au 5 (Vd (bQ (A6 (kI 1) (kI 1) (kI 1) (kI 1) (kI 1) (Ve mJ (kI 10) (kI 6)))) (ai a7 (A3 v0 (kI 1) (kI 6))))) (ak (ifS (orT (ao eqB v4 (kS "weigh")) (ao eqB v4 (kS "unweigh"))) kD aC) qA)))
def gY:SpF:=bF 11 4 mC
def lP:DS:=ak (au 5 (dR J 1 [0,2,4] (cy (ix 1 1)) (gN 0) (cK (ao eqB (slE (Vd (ix 1 3) (ix 0 0)) (jS (kI 1)) (jS (kI 3))) (slE v2 (jS (kI 1)) (jS (kI 3)))) (ao geB (ix 0 1) v3)) v0)) (ak (ifS (ao neB (ix 3 0) (kS "ever")) (au 5 (dR (U 5) 1 [3,4] (cy v5) (gN 0) (ao ltB (ix 0 1) (Ve aw v2 (ix 1 1))) v0)) aC) (ak (ifS (ao eqB (b1 b5 v5) (kI 0)) (UW (kE (.bl O))) aC) (ak (au 6 (b1 u7 (dR (U 5) 1 [] (cy v5) (gN 0) dS (ix 0 1)))) (ak (au 7 (ai cP (A2 v3 (ai gE (A3 (ix 1 0) (ix 2 1) v6))))) (UW (bE (cK (ao gK v7 (kE A)) (ao leB (b1 BE (dR (U 5) 1 [] (cy v5) (gN 0) dS (ix 0 2))) v7))))))))
def dD:SpF:=bF 8 5 lP
def dF:DS:=ifS (pK (iq (ai dD (A5 v1 v2 v6 v7 v9)))) (UW (kE (.bl M))) aC
def j3:DS:=ak (au 8 (bQ (A1 (kI 0)))) (ak (ifS (ao neB (ix 7 0) (kS "ever")) (au 8 (bQ (A3 v4 (Ve aw (Ve ip v4 (ix 7 1)) (kI 1)) (Ve ip v4 (ai a7 (A3 v0 (Ve nV v4 (kI 1000)) (ix 7 1))))))) aC) (dN (U 8) (cy v8) (gN 9) dF))
def dG:DS:=ak (au 6 (Vd (ix 1 3) v3)) (dN J (cy (iy (Vd (ix 1 1) (ix 6 2)) 2)) (gN 7) j3)
def qB:DS:=ak (dN J (cy (ix 2 1)) (gT [3,4,5]) dG) (UW (bE (ao eqB (Ve aw (Ve aw (ai jv (A2 v1 v2)) (ai jw (A2 v1 v2))) (ai fU (A2 v1 v2))) (bQ aL))))
def jx:SpF:=bF 10 3 qB
abbrev Mh:Nat:=127
abbrev F9:Nat:=146
abbrev Ih:Nat:=165
abbrev aQ:Nat:=380
def kN:DE:=kE A
def rzT(f:DE):DSM:=aF (rzX Mh "entry" M f) aE
def rzN(f:DE):DSM:=aF (rzX F9 "entry" M f) aE
def wR:DSM:=aF (wH 2 v1) (aF (wH 3 (T2 (cX aL) (cX aL))) aE)
def qC:SpM:=j8 2 1 aQ wR
def wU:DS:=jW v2
def wW:SpR:=o9 1 0 aQ wU
def iK:DS:=ak (dN J (cy (ai n8 (A2 v5 v1))) (gN 3) (ifS (ao eqB (ix 3 0) v2) (jW (ix 3 1)) aC)) (jW kN)
def fZ:SpR:=o9 4 2 aQ iK
def tX:DSM:=aF (cB (au 2 (ai nD (A2 v3 v1)))) (aF (ifX (ao gtB (b1 b5 v2) (kI 0)) (aF (rzX Ih "faults" O v2) aE) aE) (aF (wH 4 v1) aE))
def om:SpM:=j8 3 1 aQ tX
def nJ(js:List Nat)(f:DE):DSM:=AW (cY aQ 0 js om (A1 f))
def pA(js:List Nat)(o h:DE):DE:=rdE aQ 0 js fZ (A2 o h)
def Fb:DSM:=aF (ifX (ao gK (pA [4,5] v1 v2) kN) (rzT (T2 v1 v2)) aE) (aF (nJ [4,5] (ai di (A4 v5 v1 v2 v3))) aE)
def Fc:SpM:=j8 4 3 aQ Fb
def jy:DS:=jW (bE (ao inB (T2 v1 v2) (dR J 1 [] (cy (ix 4 0)) (gN 0) dS (T2 (ix 0 0) (ix 0 1)))))
def gF:SpR:=o9 3 2 aQ jy
def wgX(js:List Nat)(g h:DE):DE:=rdE aQ 0 js gF (A2 g h)
def Ba:DSM:=aF (ifX (iq (wgX [4,5] v1 v2)) (rzT (T2 v1 v2)) aE) (aF (nJ [4,5] (ai iW (A4 v5 v1 v2 v3))) aE)
def Bb:SpM:=j8 4 3 aQ Ba
def rY:DSM:=aF (ifX (pK (iq (wgX [3,4] v1 v2))) (rzN (T2 v1 v2)) aE) (aF (nJ [3,4] (ai fM (A3 v4 v1 v2))) aE)
def rZ:SpM:=j8 3 2 aQ rY
def va:DSM:=aF (ifX (ao g8 (pA [3,4] v1 v2) kN) (rzN (T2 v1 v2)) aE) (aF (nJ [3,4] (ai bZ (A3 v4 v1 v2))) aE)
def vd:SpM:=j8 3 2 aQ va
def Bc:DSM:=aF (ifX (ao g8 (pA [4,5] v1 v2) kN) (rzN (T2 v1 v2)) aE) (aF (nJ [4,5] (ai di (A4 (ai bZ (A3 v5 v1 v2)) v1 v2 v3))) aE)
def Bd:SpM:=j8 4 3 aQ Bc
def Fd:DSM:=aF (cB (au 4 (pA [5,6] v1 v2))) (aF (ifX (ao g8 v4 kN) (rzN (T2 v1 v2)) aE) (aF (ifX (cK (ao neB v3 v2) (ao gK (pA [5,6] v1 v3) kN)) (rzT (T2 v1 v3)) aE) (aF (nJ [5,6] (ai di (A4 (ai bZ (A3 v6 v1 v2)) v1 v3 v4))) aE)))
def Fe:SpM:=j8 5 3 aQ Fd
def ixk(k:Int):DE:=Vd (vE 1) (kE (.int k))
def onW(s:Str)(f g:DSM):DSM:=aF (ifX (ao eqB (ixk 0) (kE (.str s))) (aF f aE) aE) g
def mX(m:SpM)(a:DA):DSM:=rR (cY aQ 0 [2,3] m a)
def wX:DSM:=onW "weigh" (mX Bb (A3 (ixk 1) (ixk 2) (ixk 3))) (onW "unweigh" (mX rZ (A2 (ixk 1) (ixk 2))) (onW "give" (mX Fc (A3 (ixk 1) (ixk 2) (ixk 3))) (onW "strike" (mX vd (A2 (ixk 1) (ixk 2))) (onW "amend" (mX Bd (A3 (ixk 1) (ixk 2) (ixk 3))) (aF (mX Fe (A3 (ixk 1) (ixk 2) (ixk 3))) aE)))))
def cQ:SpM:=j8 2 1 aQ wX
def cE(l:List Nat):List (Nat×Bool):=[127,146,165].map λc=>(c,l.contains c)
def told(s:Str)(f:DE):DSM:=aF (Ci (T2 (kE (.str s)) f)) aE
def wY:DSM:=aF (cB (au 2 kN)) (aF (cB (au 3 kN)) (aF (uU [127,146,165] 2 4 (aF (rf 3 (cY aQ 0 [7,8] cQ (A1 v1))) aE)) (aF (ifX (cK (ao g8 v2 kN) (ao g8 v3 kN)) (told "done" kN) aE) (aF (ifX (ao g8 v2 kN) (told "other" kN) aE) (aF (cB (au 5 (bQ (A3 (og (cE [127]) v2) (og (cE [146]) v2) (og (cE [165]) v2))))) (aF (cB (au 6 (og (cE []) v2))) (aF (ifX (orT (iq v6) (orT (pK (iq (og (cE [127,146,165]) v2))) (ao neB (HO v5) (kI 1)))) (told "other" kN) aE) (aF (ifX (iq (ix 5 0)) (told "twice" (uV [127,146] "entry" v2)) aE) (aF (ifX (iq (ix 5 1)) (told "noentry" (uV [127,146] "entry" v2)) aE) (told "unsafe" (uV [165] "faults" v2)))))))))))
def jz:SpM:=j8 7 1 aQ wY
def Be:DE:=rdE aQ 2 [7,8] wW aL
def kF:DSM:=aF (cB (au 4 Be)) (aF (rf 5 (cY aQ 2 [7,8] jz (A1 (ai gY (A4 v0 v1 v4 v3))))) (aF (cB (au 6 Be)) (aF (ifX (orT (cK (ao neB (ix 5 0) (kS "done")) (ao neB v6 v4)) (pK (iq (ai jx (A3 v0 v1 v6))))) (aF (Ci (kE (.bl M))) aE) aE) aE)))
def JM:DS:=ak (au 1 (ai iJ (A1 v0))) (mkS 2 7 aQ 2 qC (A1 v1) (aF (HS (cz (Ve aw (Ve aw (g9 j4 (A2 (b1 b5 v0) (kI 40))) (kI 1)) (ai a7 (A3 v0 (kI 12) (kI 3))))) (gN 3) kF) (aF (Ci (kE (.bl O))) aE)))
def ve:SpF:=bF 7 1 JM
end Den
namespace Maths
open DL.D renaming int→P,tup→V,lst→X,str→Y,non→N,dT→Vx,bl→Vy
open DL.Slot renaming sh→Q,own→Z,lok→Vw
open DL Den PySem NL
abbrev Os:=Option Slot
namespace EV
def op2(o:D->D->Option RV)(a b:Option RV):Option RV:=a.bind λx=>b.bind λy=>o x.d y.d
@[scoped simp] theorem Qw{x y:RV}:op2 o (U x) (U y)=o x.d y.d:=rfl
@[scoped simp↓ high] theorem Qx:Ve o f g env=op2 o (f env) (g env):=rfl
@[scoped simp↓ high] theorem Qn:aL env=U []:=rfl
@[scoped simp↓ high] theorem Qy:kE d env=U ⟨.c,d⟩:=rfl
@[scoped simp↓ high] theorem Qz{env:DL.Env}:vE (n+1) (a::env)=vE n env:=rfl
@[scoped simp↓ high] theorem QA{env:DL.Env}:vE 0 (U (Q d)::env)=U ⟨.c,d⟩:=rfl
@[scoped simp↓ high] theorem QB{env:DL.Env}:vE 0 (U (Z d)::env)=U ⟨.to,d⟩:=rfl
@[scoped simp↓ high] theorem QC{env:DL.Env}:vE 0 (U (Vw d)::env)=U ⟨.tb,d⟩:=rfl
@[scoped simp↓ high] theorem QD{env:DL.Env}:vE 0 (U (.bor d)::env)=U ⟨.tb,d⟩:=rfl
@[scoped simp↓ high] theorem PK{env:DL.Env}:ownAt (n+1) (a::env)=ownAt n env:=rfl
@[scoped simp↓ high] theorem PL{env:DL.Env}:ownAt 0 (U (Z d)::env)=U d:=rfl
end EV
def cell(ns:List Int)(k:Int):Int:=if ns.length=0 then 0 else ns[(k%ns.length).toNat]?.getD 0%1000003
def draw(ns:List Int)(k m:Int):Int:=(cell ns k+1)*(k*k+k+41)%999983*48271%2147483647/11%m
open EV in
def Ii(ns:List Int)(k:Int):0<=cell ns k/\cell ns k<1000003:=by
 unfold cell;split
 .decide
 .exact⟨Get _ (by lia),GdH _ (by simp)⟩
def aG(ns:List Int)(k m:Int)(hm:0<m):0<=draw ns k m/\draw ns k m<m:=⟨Get _ (by lia),GdH _ hm⟩
open EV in
def Ij{ns:List Int}(h:0<ns.length):atD ns (k%ns.length)=U (ns[(k%ns.length).toNat]?.getD 0):=by
 unfold atD;have h1:0<=k%(ns.length):=Get _ (by lia);have h2:k%_<ns.length:=GdH _ (by simp[*]);simp_all
def bB(h: -18446744073709551616<i)(h2:i<18446744073709551616):bw i j=O:=by
 unfold bw;rw[Gbd];exact .inl (GaI (by lia))
open EV in
def jA(h: -18446744073709551616<j)(h2:j<18446744073709551616):bw i j=O:=by
 unfold bw;lia
open EV in
def az{ns:List Int}(hk:0<=k)(xM:k<1000000)(hm:0<m):a7 [.scr ns,P k,P m]=U (P (draw ns k m)):=by
 have c:=Ii ns k;have e1:bw k k=O:=bB (by lia) (by exact GaA ‹_› (by simp));have e2:∀j,bw (cell ns k+1) j=O:=λj=>bB (by lia) (by lia);have e3:∀i,bw i 48271=O:=λi=>jA (by simp) (by simp);unfold a7 mq;by_cases h:0<ns.length
 .have hc:cell ns k=ns[(k%ns.length).toNat]?.getD 0%1000003:=by unfold cell;rw[Gaw (by lia)]
  have h' :(0)<ns.length:=by simp[*]
  simp[h,Ij h,e1,<-hc];simp[e2,e3,hm,draw]
 .have hc:cell ns k=0:=by unfold cell;rw[Gar (by simp_all)]
  have h' :¬(0)<ns.length:=by simp[*]
  simp[h,e1];have:=e2 (k*k+k+41);rw[hc] at this;simp at this;simp[this,e3,hm,draw,hc]
theorem se(mk:Os->DL.Env)(r:D->Option D)(hg:∀d x,g d (mk x)=U (mk (U (Q d)))):∀ds x,
  (∀d∈ds,body (mk (U (Q d)))=U (match r d with|some v=> .ret v|none=> .nx (mk (U (Q d)))))->∃y,UX g body ds (mk x)=U (match ds.findSome? r with|some v=> .ret v|none=> .nx (mk y))
 |[],x,_=> ⟨x,rfl⟩
 |d::ds,x,h=>by
  have h1:=h d Gai;cases hr:r d with
  |some v=>
   rw[hr] at h1;exact⟨x,by simp[UX,hg,h1,List.findSome?_cons,hr]⟩
  |none=>
   rw[hr] at h1;obtain⟨y,hy⟩:=se mk r hg ds (U (Q d)) λd' hd=>h d' (Gaf _ hd);exact⟨y,by simp[UX,hg,h1,List.findSome?_cons,hr,hy]⟩
def bf(h1: -4611686018427387904<=i)(h2:i<4611686018427387904):aU i=O:=by
 unfold aU;rw[Gac];exact⟨GaI h1,GaI h2⟩
theorem cU(I:Nat->DL.Env->Prop):∀ds k env,I k env->(∀i d e,ds[i]? =U d->I (k+i) e->∃e1 e2,g d e=U e1/\body e1=U (.nx e2)/\I (k+i+1) e2)->∃e,UX g body ds env=U (.nx e)/\I (k+ds.length) e
 |[],k,env,h,_=> ⟨env,rfl,h⟩
 |d::ds,k,env,h,st=>by
  obtain⟨e1,e2,h1,h2,h3⟩:=st 0 d env rfl h;obtain⟨e,h4,h5⟩:=cU I ds _ e2 h3 λi d' e' hd hI=>by
   have:=st (i+1) d' e' (by simpa using hd) (by rw[show k+_=k+1+i by simp+arith];exact hI)
   rwa[show k+_+1=k+1+i+1 by simp+arith] at this
  refine⟨e,by simp[UX,h1,h2,h4], ?_⟩
  rwa[show k+(d::ds).length=k+1+ds.length by simp;simp+arith]
def br(h:(aN lo n)[i]? =U d):i<n/\d= P (lo+i):=by
 unfold aN at h;rw[Gaj] at h;by_cases hi:i<n
 .rw[GdC hi] at h;cases h;exact⟨hi,rfl⟩
 .rw[GcC (by simp;exact Geh ‹_›)] at h;cases h
def jB:(aN lo n).length=n:=by simp[aN]
theorem cF{α:Type}(zj:α->D)(C:DL.Env->Prop)(p:α->Bool)(r:α->D):∀(xs:List α) e,C e->
  (∀x∈xs,∀e,C e->∃e',g (zj x) e=U e' /\C e' /\t e' =U (p x)/\(p x=O->∃k,f e' =U ⟨k,r x⟩/\RV.free ⟨k,r x⟩=O))->bz g t f (xs.map zj) e=U ((xs.filter p).map r)
 |[],e,_,_=>rfl
 |d::ds,e,h,st=>by
  obtain⟨e',h1,h2,h3,h4⟩:=st d Gai e h;have ih:=cF zj C p r ds e' h2 λd' hd=>st d' (Gaf _ hd);cases q:p d with
  |false=>simp[bz,h1,h3,q,ih]
  |true=>
   obtain⟨k,h5,h6⟩:=h4 q;simp[bz,h1,h3,q,h5,h6,ih]
def fQ{α:Type}(zj:α->D)(C:DL.Env->Prop)(r:α->D)(xs:List α)(e:DL.Env)(h:C e)
  (st:∀x∈xs,∀e,C e->∃e',g (zj x) e=U e' /\C e' /\∃k,f e' =U ⟨k,r x⟩/\RV.free ⟨k,r x⟩=O):bz g dS f (xs.map zj) e=U (xs.map r):=by
 have:=cF (g:=g) (t:=dS) (f:=f) zj C _ r xs e h (λx hx e he=>by
  obtain⟨e',h1,h2,h3⟩:=st x hx e he;exact⟨e',h1,h2,rfl,λ_=>h3⟩)
 rwa[List.filter_eq_self.mpr λ_ _=>rfl] at this
def Cq(bs:List Bool):jP (bs.map Vy)=U bs:=by
 induction bs with
 |nil=>rfl
 |cons b bs ih=>simp[ih]
def oq(bs:List Int):jQ (bs.map P)=U bs:=by
 induction bs with
 |nil=>rfl
 |cons b bs ih=>simp[ih]
@[simp] theorem OM(bs:List Bool):anyS [X (bs.map Vy)]=U ⟨.c,Vy (bs.any id)⟩:=by
 simp[anyS,one,jR,Cq]
def qD(hs:List Int):ay (hs.map P)=O:=by
 induction hs with
 |nil=>rfl
 |cons b bs ih=>simp[ih]
def aa(h:f env=U (.nx e)):ak f g env=g e:=by simp[ak,h]
def jC(h:f env=U (.ret d)):ak f g env=U (.ret d):=by simp[ak,h]
def aD{ds:List D}(hl:ds.length=np)(h:body (bY n ds)=U (.ret d)):bF n np body ds=U d:=by
 unfold bF;rw[Gar hl,h];rfl
def pB(h:t env=U O):ifS t f g env=f env:=by simp[ifS,h]
def jD(h:t env=U M):ifS t f g env=g env:=by simp[ifS,h]
inductive Cap where
 |flat (h t:Int)
 |kilo (h t p:Int)
 |ever (t:Int)
def aT:Cap->D
 | .flat h t=> V [Y "flat",P h,P t]
 | .kilo h t p=> V [Y "kilo",P h,P t,P p]
 | .ever t=> V [Y "ever",P t]
def jJ:Cap->Prop
 | .flat h t=>1<=h/\1<=t/\t<=3100000
 | .kilo h t p=>1<=h/\1<=t/\t<=3100000/\1<=p/\p<=40
 | .ever t=>1<=t/\t<=6200000
def vf(c:Cap):(aT c).imm=O:=by cases c<;>simp[aT]
open EV in
def qE(cs:List Cap):ay (cs.map aT)=O:=by
 induction cs with
 |nil=>rfl
 |cons c cs ih=>
  have:=vf c;simp_all
open EV in
def ou{a b A B:Int}(h0:0<=a)(h1:a<=A)(h2:0<=b)(h3:b<=B):a*b<=A*B:=
 Gdo (Int.mul_le_mul_of_nonneg_right h1 h2) (Int.mul_le_mul_of_nonneg_left h3 (by lia))
def fR{a b:Int}(h0:1<=a)(h1:1<=b):1<=a*b:=by
 have:=Int.mul_le_mul h0 h1 (by simp) (by exact Gbk ‹_›)
 assumption
open EV in
def Cr{ns:List Int}{cs:List Cap}(hk:0<=k)(xM:k<10000)(hp:1<=part)(xq:part<=100000)(hs:1<=ee)(eQ:ee<=1000000)(hc:0<=c)(QW:c<=10)(hl:cs.length<=100):
  ∃cap y6 y7 y8 y9,jJ cap/\dm [U (Q (.scr ns)),U (Q (P k)),U (Q (P part)),U (Q (P ee)),U (Z (X (cs.map aT))),U (Q (P c)),x6,x7,x8,x9]=
   U (.nx [U (Q (.scr ns)),U (Q (P k)),U (Q (P part)),U (Q (P ee)),U (Z (X ((cs++[cap]).map aT))),U (Q (P c)),y6,y7,y8,y9]):=by
 have m4:bw 4 c=O:=bB (by simp) (by simp);generalize zU:k+1+4*c=t;have ht:0<=t:=by lia
 have ht2:t<20000:=by lia
 have d0:=az (ns:=ns) (k:=t) (m:=30) (by simp[*]) (by exact GaA ‹_› (by decide)) (by simp);have d2:=az (ns:=ns) (k:=t+2) (m:=3) (by exact GaE ‹_› (by decide)) (by exact GaA (GaM ‹_› _) (by decide)) (by simp);have d1:=az (ns:=ns) (k:=t+1) (m:=30) (by exact GaE ‹_› (by decide)) (by exact GaA (GaM ‹_› _) (by decide)) (by simp);have Un:=az (ns:=ns) (k:=t+1) (m:=9) (by exact GaE ‹_› (by decide)) (by exact GaA (GaM ‹_› _) (by decide)) (by simp);have Um:=az (ns:=ns) (k:=t+1) (m:=60) (by exact GaE ‹_› (by decide)) (by exact GaA (GaM ‹_› _) (by decide)) (by simp);have d3:=az (ns:=ns) (k:=t+3) (m:=40) (by exact GaE ‹_› (by decide)) (by exact GaA (GaM ‹_› _) (by decide)) (by simp);have l0:=aG ns t 30 (by simp);have l2:=aG ns (t+2) 3 (by simp);have l1:=aG ns (t+1) 30 (by simp);have l1b:=aG ns (t+1) 9 (by simp);have l1c:=aG ns (t+1) 60 (by simp);have l3:=aG ns (t+3) 40 (by simp);have ms:∀j,bw ee j=O:=λj=>bB (by lia) (by lia);have mp:∀j,bw part j=O:=λj=>bB (by lia) (by lia);generalize draw ns t 30=q0 at*;generalize draw ns (t+2) 3=q2 at*;generalize draw ns (t+1) 30=q1 at*;generalize draw ns (t+1) 9=yV at*;generalize draw ns (t+1) 60=q1c at*;generalize draw ns (t+3) 40=q3 at*;have hz:(cs.map aT).length<16777216:=by rw[Gah];exact GaG ‹_› (by decide)
 have ih:=fR (a:=ee) (b:=1+q0) hs (by simp+arith [*]);have e1:∀cap,(cs++[cap]).map aT=cs.map aT++[aT cap]:=λcap=>by simp
 generalize cs.map aT=C at*;have q:q2=0\/q2=1\/q2=2:=by lia
 unfold dm;rcases q with rfl|rfl|rfl
 .refine⟨.flat (ee*(1+q0)) (part*(1+q1)),U (Q (P t)),U (Q (P (ee*(1+q0)))),U (Q (P 0)),x9,⟨ih,fR hp (by simp+arith [*]), ?_⟩, ?_⟩
  .have:=ou (a:=part) (b:=1+q1) (A:=100000) (B:=30) (by exact Gbk ‹_›) xq (by lia) (by lia)
   (exact Gdo ‹_› (by decide))
  .rw[e1];simp[m4,zU,d0,d2,d1,ms,mp,a9,hz,aT]
 .refine⟨.kilo (ee*(1+q0)) (part*(1+yV)) (1+q3),U (Q (P t)),U (Q (P (ee*(1+q0)))),U (Q (P 1)),U (Q (P (part*(1+yV)))),⟨ih,fR hp (by simp+arith [*]), ?_,by simp+arith [*],by lia⟩, ?_⟩
  .have:=ou (a:=part) (b:=1+yV) (A:=100000) (B:=9) (by exact Gbk ‹_›) xq (by lia) (by lia)
   (exact Gdo ‹_› (by decide))
  .rw[e1];simp[m4,zU,d0,d2,Un,d3,ms,mp,a9,hz,aT]
 .refine⟨.ever (part*(2+q1c)),U (Q (P t)),U (Q (P (ee*(1+q0)))),U (Q (P 2)),x9,⟨fR hp (by lia), ?_⟩, ?_⟩
  .have:=ou (a:=part) (b:=2+q1c) (A:=100000) (B:=61) (by exact Gbk ‹_›) xq (by lia) (by lia)
   (exact Gdo ‹_› (by decide))
  .rw[e1];simp[m4,zU,d0,d2,Um,ms,mp,a9,hz,aT]
def at6(h:0<=q)(h2:q<6):∃v,(v=a\/v=b\/v=c\/v=d\/v=e\/v=f)/\atD [P a,P b,P c,P d,P e,P f] q=U (P v):=by
 have:q=0\/q=1\/q=2\/q=3\/q=4\/q=5:=by lia
 rcases this with rfl|rfl|rfl|rfl|rfl|rfl
 .exact⟨a,.inl rfl,rfl⟩
 .exact⟨b,.inr (.inl rfl),rfl⟩
 .exact⟨c,.inr (.inr (.inl rfl)),rfl⟩
 .exact⟨d,.inr (.inr (.inr (.inl rfl))),rfl⟩
 .exact⟨e,.inr (.inr (.inr (.inr (.inl rfl)))),rfl⟩
 .exact⟨f,.inr (.inr (.inr (.inr (.inr rfl)))),rfl⟩
open EV in
def Ff{ns:List Int}{n:Int}(d:a7 [.scr ns,P k,P 6]=U (P q))(ea:atD [P 0,P 1,P 1,P 2,P 3,P 4] q=U (P n))(sm:aU n=O)
  (h1:UX (gN 5) dm (aN 0 n.toNat) [U (Q (.scr ns)),U (Q (P k)),U (Q (P part)),U (Q (P ee)),U (Z (X [])),J,J,J,J,J]=U (.nx [U (Q (.scr ns)),U (Q (P k)),U (Q (P part)),U (Q (P ee)),U (Z (X C)),y5,y6,y7,y8,y9]))(im:ay C=O):
  jo [.scr ns,P k,P part,P ee]=U (V C):=by
 refine aD rfl ((aa (e:=[U (Q (.scr ns)),U (Q (P k)),U (Q (P part)),U (Q (P ee)),U (Z (X [])),J,J,J,J,J]) rfl).trans ((aa (by simp[d,ea,sm,h1,a9];rfl)).trans ?_));simp[im]
def Mi{ns:List Int}(hk:0<=k)(xM:k<10000)(hp:1<=part)(xq:part<=100000)(hs:1<=ee)(eQ:ee<=1000000):∃cs:List Cap,cs.length<=4/\(∀c∈cs,jJ c)/\jo [.scr ns,P k,P part,P ee]=U (V (cs.map aT)):=by
 have d:=az (ns:=ns) (k:=k) (m:=6) (by simp[*]) (by exact GaA ‹_› (by simp)) (by simp);have l:=aG ns k 6 (by simp);generalize draw ns k 6=q at*;obtain⟨n,hn,ea⟩:=at6 (a:=0) (b:=1) (c:=1) (d:=2) (e:=3) (f:=4) l.1 l.2;obtain⟨e,h1,cs,y5,y6,y7,y8,y9,h2,h3,rfl⟩:=cU (g:=gN 5) (body:=dm) (λm env=>∃(cs:List Cap) (y5 y6 y7 y8 y9:Os),cs.length=m/\(∀c∈cs,jJ c)/\env=[U _,U _,U _,U _,U (Z (X (cs.map aT))),y5,y6,y7,y8,y9]) (aN 0 n.toNat) 0
  [U _,U _,U _,U _,U _,J,J,J,J,J] ⟨[],J,J,J,J,J,rfl,by simp,rfl⟩ (by
   rintro i d e hd ⟨cs,y5,y6,y7,y8,y9,h2,h3,rfl⟩;obtain⟨hi,rfl⟩:=br hd;obtain⟨cap,z6,z7,z8,z9,hc,h⟩:=Cr (ns:=ns) (k:=k) (part:=part) (ee:=ee) (c:=0+(i)) (cs:=cs) (x6:=y6) (x7:=y7) (x8:=y8) (x9:=y9) hk xM hp xq hs eQ (by exact Int.natCast_nonneg _) (by lia) (by lia);refine⟨_,_,rfl,h,cs++[cap],U (Q (P (0+(i:Int)))),z6,z7,z8,z9,by simp[h2],λx hx=> ?_,rfl⟩;rcases GaQ.mp hx with hx|hx
   .exact h3 x hx
   .simp at hx;rw[hx];exact hc)
 rw[jB] at h2;exact⟨cs,by lia,h3,Ff d ea (bf (by lia) (by lia)) h1 (qE cs)⟩
def aV{d:D}(h:d.imm=O):dZ d=⟨.c,d⟩:=by
 unfold dZ;have:d.top=M:=by cases d<;>simp[D.imm] at h<;>rfl
 rw[this];rfl
structure fD where
 name:Str
 part:Int
 more:List Int
 aq:List Cap
 young:Int
def aI(s:fD):D:= V [Y s.name,V ((s.part::s.more).map P),V (s.aq.map aT),P s.young]
structure fB(s:fD):Prop where
 p1:1<=s.part
 p2:s.part<=100000
 cl:s.aq.length<=4
 ok:∀c∈s.aq,jJ c
 y0:0<=s.young
def gZ(s:fD):(aI s).imm=O:=by
 have h2:=qD (s.part::s.more);simp[aI] at h2⊢;exact⟨h2,(qE _)⟩
theorem dM{α:Type}{f:α->D}(h:∀a,(f a).imm=O):∀l:List α,ay (l.map f)=O
 |[]=>rfl
 |a::l=>by
  rw[Gav];simp[(h a),(dM h l)]
def Fg{i:Nat}(h:i<6):∃c,atD (Str.ofString "abcdef").cps.toList (i:Int)=U c:=by
 exact⟨_,by rw[bA,Gaa h]⟩
def Ct{i:Nat}(h:i<12):∃c,atD (Str.ofString "abcdefghijkl").cps.toList (i:Int)=U c:=by
 exact⟨_,by rw[bA,Gaa h]⟩
def at5(h:0<=q)(h2:q<5):∃v,(v=a\/v=b\/v=c\/v=d\/v=e)/\atD [P a,P b,P c,P d,P e] q=U (P v):=by
 have:q=0\/q=1\/q=2\/q=3\/q=4:=by lia
 rcases this with rfl|rfl|rfl|rfl|rfl
 .exact⟨a,.inl rfl,rfl⟩
 .exact⟨b,.inr (.inl rfl),rfl⟩
 .exact⟨c,.inr (.inr (.inl rfl)),rfl⟩
 .exact⟨d,.inr (.inr (.inr (.inl rfl))),rfl⟩
 .exact⟨e,.inr (.inr (.inr (.inr rfl))),rfl⟩
def at2(h:0<=q)(h2:q<2):∃v,(v=a\/v=b)/\atD [P a,P b] q=U (P v):=by
 have:q=0\/q=1:=by lia
 rcases this with rfl|rfl
 .exact⟨a,.inl rfl,rfl⟩
 .exact⟨b,.inr rfl,rfl⟩
def Fh(h:0<=q)(h2:q<3):∃ms,atD [V [P p],V [P p,P (2*p)],V [P p,P (3*p),P (7*p)]] q=U (V ((p::ms).map P)):=by
 have:q=0\/q=1\/q=2:=by lia
 rcases this with rfl|rfl|rfl
 .exact⟨[],rfl⟩
 .exact⟨[2*p],rfl⟩
 .exact⟨[3*p,7*p],rfl⟩
section
variable{ch:Nat}
def Fi{ns:List Int}{S:List D}{sz:D}(mk:bw 30 j=O)(hk:100+30*j=k)(da:a7 [.scr ns,P k,P 5]=U (P qa))(pa:atD [P 1,P 2,P 5,P 12,P 100000] qa=U (P part))(m2:bw 2 part=O)(m3:bw 3 part=O)(m7:bw 7 part=O)
  (db:a7 [.scr ns,P (k+1),P 3]=U (P qb))(sb:atD [V [P part],V [P part,P (2*part)],V [P part,P (3*part),P (7*part)]] qb=U sz)(SG:sz.imm=O)(dc:a7 [.scr ns,P (k+2),P 2]=U (P qc))(yc:atD [P 0,P ee] qc=U (P y0))(dd:a7 [.scr ns,P (k+3),P 20]=U (P qd))(my:bw y0 qd=O)(hy:y0*qd=young)
  (yG:atD (Str.ofString "abcdef").cps.toList j=U ch)(ec:jo [.scr ns,P (k+5),P part,P ee]=U (V C))(ic:ay C=O)(hz:S.length<1000):
  bO [U (Q (.scr ns)),U (Q (P ee)),U (Z (X S)),U (Q (P j)),x4,x5,x6,x7]=U (.nx [U (Q (.scr ns)),U (Q (P ee)),U (Z (X (S++[V [Y ("stuff"++ ⟨#[ch]⟩),sz,V C,P young]]))),U (Q (P j)),U (Q (P k)),U (Q (P part)),U (Q sz),U (Q (P young))]):=by
 have z:S.length<16777216:=by exact Gak ‹_› (by simp)
 unfold bO;refine(aa (by simp_all;rfl)).trans ((aa (by simp[da,pa,a9];rfl)).trans ((aa (by simp[m2,m3,m7,db,sb,SG,a9];rfl)).trans ((aa (by simp[dc,yc,dd,my,hy,a9];rfl)).trans ?_)));have w1:(Str.ofString "abcdef").length<=16777216:=by decide
 have w2:(Str.ofString "stuff").length+(⟨#[ch]⟩:Str).length<=16777216:=by
  have:(⟨#[ch]⟩:Str).length=1:=rfl;rw[this]
  decide
 simp[yG,w1,w2,ec,(aV (d:= V C) (by simp[ic])),SG,ic,a9,z]
def wZ{ns:List Int}{n:Int}(d:a7 [.scr ns,P 21,P 6]=U (P q))(ea:atD [P 1,P 2,P 3,P 3,P 2,P 6] q=U (P n))(sm:aU n=O)
  (h1:UX (gN 3) bO (aN 0 n.toNat) [U (Q (.scr ns)),U (Q (P ee)),U (Z (X [])),J,J,J,J,J]=U (.nx [U (Q (.scr ns)),U (Q (P ee)),U (Z (X S)),y3,y4,y5,y6,y7]))(im:ay S=O):
  gD [.scr ns,P ee]=U (V S):=by
 refine aD rfl ?_;unfold jq;refine(aa (e:=[U (Q (.scr ns)),U (Q (P ee)),U (Z (X [])),J,J,J,J,J]) rfl).trans ((aa (by simp[-UX,d,ea,sm,h1,a9];rfl)).trans ?_);simp[im]
def A0{ns:List Int}{i:Nat}{ss:List fD}(hs:1<=ee)(eQ:ee<=1000000)(hi:i<6)(hl:ss.length<=100):
  ∃s y4 y5 y6 y7,fB s/\bO [U (Q (.scr ns)),U (Q (P ee)),U (Z (X (ss.map aI))),U (Q (P (i:Int))),x4,x5,x6,x7]=U (.nx [U (Q (.scr ns)),U (Q (P ee)),U (Z (X ((ss++[s]).map aI))),U (Q (P (i:Int))),y4,y5,y6,y7]):=by
 obtain⟨ch,yG⟩:=Fg hi;have hj:(0)<=(i:Int)/\(i:Int)<=5:=by lia
 have hz:(ss.map aI).length<1000:=by rw[Gah];exact GaG ‹_› (by simp)
 have e1:∀s,(ss++[s]).map aI=ss.map aI++[aI s]:=λs=>by simp
 generalize (i:Int)=j at*;generalize ss.map aI=S at*;generalize hk:100+30*j=k;have la:=aG ns k 5 (by simp);have lb:=aG ns (k+1) 3 (by simp);have lc:=aG ns (k+2) 2 (by simp);obtain⟨part,hp,pa⟩:=at5 (a:=1) (b:=2) (c:=5) (d:=12) (e:=100000) la.1 la.2;obtain⟨ms,sb⟩:=Fh (p:=part) lb.1 lb.2;obtain⟨y0,Uz,yc⟩:=at2 (a:=0) (b:=ee) lc.1 lc.2;obtain⟨cs,c1,c2,ec⟩:=Mi (ns:=ns) (k:=k+5) (part:=part) (ee:=ee) (by lia) (by lia) (by lia) (by lia) hs eQ;refine⟨⟨"stuff"++ ⟨#[ch]⟩,part,ms,cs,y0*draw ns (k+3) 20⟩,U (Q (P k)),U (Q (P part)),U (Q (V ((part::ms).map P))),U (Q (P (y0*draw ns (k+3) 20))),⟨by simp;lia,by simp;lia,c1,c2,GdL (by lia) (aG ns (k+3) 20 (by simp)).1⟩, ?_⟩;rw[e1];exact Fi (bB (by simp) (by simp)) hk (az (ns:=ns) (k:=k) (m:=5) (by lia) (by lia) (by simp)) pa (bB (by simp) (by simp)) (bB (by simp) (by simp)) (bB (by simp) (by simp)) (az (ns:=ns) (k:=k+1) (m:=3) (by lia) (by lia) (by simp)) sb (by simpa using(qD (part::ms))) (az (ns:=ns) (k:=k+2) (m:=2) (by lia) (by lia) (by simp)) yc (az (ns:=ns) (k:=k+3) (m:=20) (by lia) (by lia) (by simp)) (bB (by lia) (by lia)) rfl yG ec (qE cs) hz
def Fj{ns:List Int}(hs:1<=ee)(eQ:ee<=1000000):∃ss:List fD,1<=ss.length/\ss.length<=6/\(∀s∈ss,fB s)/\gD [.scr ns,P ee]=U (V (ss.map aI)):=by
 have d:=az (ns:=ns) (k:=21) (m:=6) (by simp) (by simp) (by simp);have l:=aG ns 21 6 (by simp);generalize draw ns 21 6=q at*;obtain⟨n,hn,ea⟩:=at6 (a:=1) (b:=2) (c:=3) (d:=3) (e:=2) (f:=6) l.1 l.2;obtain⟨e,h1,ss,y3,y4,y5,y6,y7,h2,h3,rfl⟩:=cU (g:=gN 3) (body:=bO) (λm env=>∃(ss:List fD) (y3 y4 y5 y6 y7:Os),ss.length=m/\(∀s∈ss,fB s)/\env=[U _,U _,U (Z (X (ss.map aI))),y3,y4,y5,y6,y7]) (aN 0 n.toNat) 0
  [U _,U _,U _,J,J,J,J,J] ⟨[],J,J,J,J,J,rfl,by simp,rfl⟩ (by
   rintro i d e hd ⟨ss,y3,y4,y5,y6,y7,h2,h3,rfl⟩;obtain⟨hi,rfl⟩:=br hd;obtain⟨s,z4,z5,z6,z7,hc,h⟩:=A0 (ns:=ns) (ee:=ee) (i:=i) (ss:=ss) (x4:=y4) (x5:=y5) (x6:=y6) (x7:=y7) hs eQ (by lia) (by lia);rw[show _+_=(i:Int) by simp];refine⟨_,_,rfl,h,ss++[s],U _,z4,z5,z6,z7,by simp[h2],λx hx=> ?_,rfl⟩;rcases GaQ.mp hx with hx|hx
   .exact h3 x hx
   .simp at hx;rw[hx];exact hc)
 rw[jB] at h2;exact⟨ss,by lia,by lia,h3,wZ d ea (bf (by lia) (by lia)) h1 (dM gZ ss)⟩
def Vc(t:Int×Int×Int):D:= V [P t.1,P t.2.1,P t.2.2]
def lB(t:Int×Int×Int):(Vc t).imm=O:=by simp[Vc]
def Fl(b:Int×Int×Int):Int×Int:=(b.1,b.2.1)
def kH(n:Int)(bs:List (Int×Int×Int)):Prop:=(∀b∈bs,0<=b.1/\b.1<=b.2.1/\b.2.1<n/\1<=b.2.2)/\(bs.map Fl).Nodup
def oy(i j:Int)(bs:List (Int×Int×Int)):Prop:=∀b∈bs,b.1<i\/(b.1=i/\b.2.1<j)
def Cu(f:α->β)(xs:List α)(i:Int)(y:α):(jH xs i y).map f=jH (xs.map f) i (f y):=by
 simp[jH,Gbe,List.map_take,List.map_drop]
open EV in
def Mj{ns:List Int}{L:Int}{B:List D}(Ux:bw 18 i=O)(m3:bw 3 j=O)(hk:3000+18*i+3*j=k)(hL:b5 [X B]=U ⟨.c,P L⟩)(d0:a7 [.scr ns,P k,P 3]=U (P q0))(d1:a7 [.scr ns,P (k+1),P 10]=U (P q1))(d2:a7 [.scr ns,P (k+2),P (L+1)]=U (P q2))(sm:aU q2=O)(mg:bw ee (1+q1)=O)(hg:ee*(1+q1)=g)(hz:B.length<1000):
  fT [U (Q (.scr ns)),U (Q (P xy)),U (Q (P ee)),U (Z (X B)),U (Q (P i)),U (Q (P j)),x6,x7]=
   U (.nx (if L<12/\q0=0 then[U (Q (.scr ns)),U (Q (P xy)),U (Q (P ee)),U (Z (X (jH B q2 (V [P i,P j,P g])))),U (Q (P i)),U (Q (P j)),U (Q (P k)),U (Q (V [P i,P j,P g]))]
    else[U (Q (.scr ns)),U (Q (P xy)),U (Q (P ee)),U (Z (X B)),U (Q (P i)),U (Q (P j)),U (Q (P k)),x7])):=by
 have z:B.length<16777216:=by exact Gak ‹_› (by simp)
 refine(aa (by simp_all;rfl)).trans ?_;by_cases c1:L<12
 .by_cases c2:q0=0
  .simp[-gL,hL,c1,c2,d0,d1,d2,mg,hg,sm,z,a9]
  .simp[-gL,hL,c1,c2,d0]
 .simp[-gL,hL,c1]
open EV in
def Fm{ns:List Int}{n:Nat}{i j:Int}{bs:List (Int×Int×Int)}(hs:1<=ee)(eQ:ee<=1000000)(hn:n<=6)(hi:0<=i)(SQ:i<n)(hj:i<=j)(TY:j<n)(hb:kH n bs)(hU:oy i j bs)(hl:bs.length<=12):
  ∃hV y6 y7,kH n hV /\oy i (j+1) hV /\hV.length<=12/\fT [U (Q (.scr ns)),U (Q (P (n:Int))),U (Q (P ee)),U (Z (X (bs.map Vc))),U (Q (P i)),U (Q (P j)),x6,x7]=
   U (.nx [U (Q (.scr ns)),U (Q (P (n:Int))),U (Q (P ee)),U (Z (X (hV.map Vc))),U (Q (P i)),U (Q (P j)),y6,y7]):=by
 generalize hk:3000+18*i+3*j=k;have l1:=aG ns (k+1) 10 (by simp);have l2:=aG ns (k+2) ((bs.length)+1) (by simp);rw[(Mj (xy:=(n:Int)) (x6:=x6) (x7:=x7) (bB (by simp) (by simp)) (bB (by simp) (by simp)) hk (by simp[b5]) (az (ns:=ns) (k:=k) (m:=3) (by lia) (by lia) (by simp)) (az (ns:=ns) (k:=k+1) (m:=10) (by lia) (by lia) (by simp)) (az (ns:=ns) (k:=k+2) (m:=(bs.length:Int)+1) (by lia) (by lia) (by simp)) (bf (by lia) (by lia)) (bB (i:=ee) (j:=1+draw ns (k+1) 10) (by lia) (by lia)) rfl (by rw[Gah];exact GaG ‹_› (by decide)))];by_cases c:(bs.length:Int)<12/\draw ns k 3=0
 .rw[Gar c];have pm:=pT bs (draw ns (k+2) ((bs.length:Int)+1)) (i,j,ee*(1+draw ns (k+1) 10));refine⟨jH bs (draw ns (k+2) ((bs.length:Int)+1)) (i,j,ee*(1+draw ns (k+1) 10)),U (Q (P k)),U (Q (V [P i,P j,P (ee*(1+draw ns (k+1) 10))])),⟨λb yn => ?_, ?_⟩,λb yn => ?_,by rw[BP];lia,by rw[Cu];rfl⟩
  .rcases Gaq.mp (pm.mem_iff.mp yn) with h|h
   .subst h;exact⟨hi,hj,TY,fR hs (by simp+arith [*])⟩
   .exact hb.1 b h
  .rw[(pm.map Fl).nodup_iff,Gav,GbO];refine⟨λh=> ?_,hb.2⟩;obtain⟨b,yn,e⟩:=GaP.mp h;have h1:=hU b yn;unfold Fl at e;simp_all
  .rcases Gaq.mp (pm.mem_iff.mp yn) with h|h
   .subst h;exact .inr ⟨rfl,by show j<j+1;simp+arith⟩
   .have:=hU b h;lia
 .rw[Gaw c];exact⟨bs,U (Q (P k)),x7,hb,λb h=>by have:=hU b h;lia,hl,rfl⟩
def Ik{ns:List Int}{n:Nat}{i:Int}{bs:List (Int×Int×Int)}(hs:1<=ee)(eQ:ee<=1000000)(hn:n<=6)(hi:0<=i)(SQ:i<n)(hb:kH n bs)(hU:oy i i bs)(hl:bs.length<=12):
  ∃hV y5 y6 y7,kH n hV /\oy (i+1) (i+1) hV /\hV.length<=12/\dz [U (Q (.scr ns)),U (Q (P (n:Int))),U (Q (P ee)),U (Z (X (bs.map Vc))),U (Q (P i)),x5,x6,x7]=
   U (.nx [U (Q (.scr ns)),U (Q (P (n:Int))),U (Q (P ee)),U (Z (X (hV.map Vc))),U (Q (P i)),y5,y6,y7]):=by
 obtain⟨e,h1,hV,y5,y6,y7,h2,zW,h3,rfl⟩:=cU (g:=gN 5) (body:=fT) (λm env=>∃(hV :List _) (y5 y6 y7:Os),kH n hV /\oy i (i+(m)) hV /\hV.length<=12/\env=[U (Q (.scr ns)),U (Q (P (n))),U (Q (P ee)),U (Z (X (hV.map Vc))),U (Q (P i)),y5,y6,y7]) (aN i ((n)-i).toNat) 0 _ ⟨bs,x5,x6,x7,hb,by rw[show i+_=i by simp];exact hU,hl,rfl⟩ (by
  rintro j d e hd ⟨hV,y5,y6,y7,h2,zW,h3,rfl⟩;obtain⟨hj,rfl⟩:=br hd;obtain⟨Ss,z6,z7,q1,yV,q2,q3⟩:=Fm (ns:=ns) (n:=n) (ee:=ee) (i:=i) (j:=i+(j)) (bs:=hV) (x6:=y6) (x7:=y7) hs eQ hn hi SQ (by lia) (by lia) h2 (by simp_all) h3;exact⟨_,_,rfl,q3,Ss,U (Q (P (i+_))),z6,z7,q1,by rw[show i+(_:Int)=i+(j)+1 by simp+arith];exact yV,q2,rfl⟩)
 refine⟨hV,y5,y6,y7,h2,λb h=>by have:=zW b h;lia,h3, ?_⟩;have sa:aU i=O:=bf (by lia) (by lia);have sb:aU (n)=O:=bf (by simp) (by lia);unfold dz;generalize _=nn at*;simp[-UX,sa,sb,h1]
open EV in
def Fp{ns:List Int}{n:Int}(sm:aU n=O)(h1:UX (gN 4) dz (aN 0 n.toNat) [U (Q (.scr ns)),U (Q (P n)),U (Q (P ee)),U (Z (X [])),J,J,J,J]=U (.nx [U (Q (.scr ns)),U (Q (P n)),U (Q (P ee)),U (Z (X B)),y4,y5,y6,y7]))(im:ay B=O):jr [.scr ns,P n,P ee]=U (V B):=by
 refine aD rfl ((aa (e:=[U (Q (.scr ns)),U (Q (P n)),U (Q (P ee)),U (Z (X [])),J,J,J,J]) rfl).trans ((aa (by simp_all;rfl)).trans ?_));simp[im]
def Mk{ns:List Int}{n:Nat}(hs:1<=ee)(eQ:ee<=1000000)(hn:n<=6):∃bs,kH n bs/\bs.length<=12/\jr [.scr ns,P (n:Int),P ee]=U (V (bs.map Vc)):=by
 obtain⟨e,h1,hV,y4,y5,y6,y7,h2,zW,h3,rfl⟩:=cU (g:=gN 4) (body:=dz) (λm env=>∃(hV :List _) (y4 y5 y6 y7:Os),kH n hV /\oy (m) (m) hV /\hV.length<=12/\env=[U _,U _,U _,U (Z (X (hV.map Vc))),y4,y5,y6,y7]) (aN 0 (n:Int).toNat) 0 [U _,U _,U _,U _,J,J,J,J] ⟨[],J,J,J,J,⟨λb hb=>by simp at hb,by simp⟩,λb hb=>by simp at hb,by simp,rfl⟩ (by
  rintro j d e hd ⟨hV,y4,y5,y6,y7,h2,zW,h3,rfl⟩;obtain⟨hj,rfl⟩:=br hd;obtain⟨Ss,z5,z6,z7,q1,yV,q2,q3⟩:=Ik (ns:=ns) (n:=n) (ee:=ee) (i:=0+(j)) (bs:=hV) (x5:=y5) (x6:=y6) (x7:=y7) hs eQ hn (by simp) (by simp_all) h2 (λb h=>by have:=zW b h;assumption) h3;exact⟨_,_,rfl,q3,Ss,U (Q (P (0+_))),z5,z6,z7,q1,λb h=>by have:=yV b h;assumption,q2,rfl⟩)
 exact⟨hV,h2,h3,Fp (bf (by simp) (by lia)) h1 (dM lB hV)⟩
inductive Cv where
 |asked (b:Int)
 |due (b e m ea la:Int)
def bG:Cv->D
 | .asked b=> V [Y "asked",P b]
 | .due b e m ea la=> V [Y "due",P b,P e,P m,P ea,P la]
def jE:Cv->Prop
 | .asked b=>0<=b
 | .due b e m ea la=>1<=e/\e<=12000000/\(m=1\/m=2\/m=4\/m=6\/m=60)/\0<=ea/\0<=la/\ea+la<e/\ea<=b/\b<=30000000
def oz(u:Cv):(bG u).imm=O:=by cases u<;>simp[bG]
open EV in
def Ml{ns:List Int}{w b e:Int}(hs:1<=ee)(eQ:ee<=1000000)(d0:a7 [.scr ns,P k,P 3]=U (P q0))(c:¬q0=0)(d2:a7 [.scr ns,P (k+2),P 12]=U (P (w -1)))(ms:∀j,bw ee j=O)(he:ee*w=e)(hq:e/ee=w)(d3:a7 [.scr ns,P (k+3),P w]=U (P u))(UD:ee*u=ea)(TL:(e -ea)/ee=w -u)(d4:a7 [.scr ns,P (k+4),P (w -u)]=U (P v))(TU:ee*v=la)(d5:a7 [.scr ns,P (k+5),P 10]=U (P t))(hb:ea+ee*t=b)(d6:a7 [.scr ns,P (k+6),P 5]=U (P qm))(am:atD [P 1,P 2,P 4,P 6,P 60] qm=U (P m)):
  jt [.scr ns,P k,P ee]=U (V [Y "due",P b,P e,P m,P ea,P la]):=by
 have sp:0<ee:=by assumption
 have Tb:ee<1073741824:=by lia
 have w1:1+(w -1)=w:=by simp+arith
 refine aD rfl ((aa (by simp_all;rfl)).trans ((aa (by simp_all;rfl)).trans ((aa (by simp_all;rfl)).trans ((aa (by simp[sp,Tb,TL,d4,ms,TU];rfl)).trans ((aa (by simp[d5,ms,hb];rfl)).trans ?_)))));simp[d6,am,a9]
open EV in
def Mm{ns:List Int}(hk:0<=k)(xM:k<10000)(hs:1<=ee)(eQ:ee<=1000000):∃u,jE u/\jt [.scr ns,P k,P ee]=U (bG u):=by
 have d0:=az (ns:=ns) (k:=k) (m:=3) (by simp[*]) (by exact GaA ‹_› (by simp)) (by simp);have ms:∀j,bw ee j=O:=λj=>bB (by lia) (by lia);by_cases c:draw ns k 3=0
 .refine⟨.asked (ee*draw ns (k+1) 20),GdL (by exact Gbk ‹_›) (aG ns (k+1) 20 (by simp)).1,(aD rfl ?_)⟩;unfold mv;refine jC ?_;simp[bY,d0,c,(az (ns:=ns) (k:=k+1) (m:=20) (by exact GaE ‹_› (by decide)) (by exact GaA (GaM ‹_› _) (by decide)) (by simp)),ms,a9,bG]
 .have d2:=az (ns:=ns) (k:=k+2) (m:=12) (by exact GaE ‹_› (by decide)) (by exact GaA (GaM ‹_› _) (by decide)) (by simp);have l2:=aG ns (k+2) 12 (by simp);generalize hw:1+draw ns (k+2) 12=w;have hw' :draw ns (k+2) 12=w -1:=by lia
  rw[hw'] at d2;have d3:=az (ns:=ns) (k:=k+3) (m:=w) (by exact GaE ‹_› (by decide)) (by exact GaA (GaM ‹_› _) (by decide)) (by lia);have l3:=aG ns (k+3) w (by lia);generalize draw ns (k+3) w=u at*;have d4:=az (ns:=ns) (k:=k+4) (m:=w -u) (by exact GaE ‹_› (by decide)) (by exact GaA (GaM ‹_› _) (by decide)) (by simp[*]);have l4:=aG ns (k+4) (w -u) (by simp[*]);generalize draw ns (k+4) (w -u)=v at*;have d5:=az (ns:=ns) (k:=k+5) (m:=10) (by exact GaE ‹_› (by decide)) (by exact GaA (GaM ‹_› _) (by decide)) (by simp);have l5:=aG ns (k+5) 10 (by simp);generalize draw ns (k+5) 10=t at*;have l6:=aG ns (k+6) 5 (by simp);obtain⟨m,hm,am⟩:=at5 (a:=1) (b:=2) (c:=4) (d:=6) l6.1 l6.2;refine⟨.due (ee*u+ee*t) (ee*w) m (ee*u) (ee*v),⟨fR hs (by simp_all), ?_,hm,GdL (by exact Gbk ‹_›) l3.1,GdL (by exact Gbk ‹_›) l4.1, ?_, ?_, ?_⟩,Ml hs eQ d0 c d2 ms rfl (Int.mul_ediv_cancel_left w (by lia)) d3 rfl (by rw[<-Int.mul_sub];exact Int.mul_ediv_cancel_left _ (by lia)) d4 rfl d5 rfl (az (ns:=ns) (k:=k+6) (m:=5) (by exact GaE ‹_› (by decide)) (by exact GaA (GaM ‹_› _) (by decide)) (by simp)) am⟩
  .have:=ou (a:=ee) (b:=w) (A:=1000000) (B:=12) (by exact Gbk ‹_›) eQ (by lia) (by lia)
   assumption
  .have h1:ee*u+ee*v=ee*(u+v):=by rw[Int.mul_add]
   have h2:ee*(u+v)<ee*w:=Int.mul_lt_mul_of_pos_left (by lia) (by assumption)
   (simp[*])
  .have:=GdL (a:=ee) (b:=t) (by exact Gbk ‹_›) l5.1
   (simp+arith [*])
  .have h1:=ou (a:=ee) (b:=u) (A:=1000000) (B:=12) (by exact Gbk ‹_›) eQ (by simp[*]) (by lia);have h2:=ou (a:=ee) (b:=t) (A:=1000000) (B:=10) (by exact Gbk ‹_›) eQ (by simp[*]) (by lia);lia
structure Va where
 name:Str
 aA:Int
 aO:Int
 way:Str
 top:Int
 per:Int
 most:Int
 f9:Cv
 Al:List D
def ah(o:Va):D:= V [Y o.name,P o.aA,P o.aO,V [Y o.way,P o.top,P o.per,P o.most],bG o.f9,V o.Al]
structure lC(ng Td:Nat)(o:Va):Prop where
 g0:0<=o.aA
 g1:o.aA<ng
 s0:0<=o.aO
 s1:o.aO<Td
 du:jE o.f9
 ti:ay o.Al=O
open EV in
def Mn{env:DL.Env}(h:env[11]? =U (U (Q (bG u))))(hl:env.length=13):∃T:List D,ay T=O/\∀(he:env[12]? =U (U (Q (V [])))),ifS (cK (ao eqB (Vd (vE 11) (kE (P 0))) (kE (Y "due"))) (ao gtB (Vd (vE 11) (kE (P 3))) (kE (P 2))))
  (au 12 (cX (ae (cX (ae (kE (P 1)) (ae (kE (P 1)) (ae (kE (P 2)) aL)))) (ae (cX (ae (kE (P 2)) (ae (kE (P 1)) (ae (kE (P 3)) aL)))) aL))))
  aC env=U (.nx (env.set 12 (U (Q (V T))))):=by
 have e0:∀(he:env[12]? =U _),env.set 12 (U (Q (V [])))=env:=λhe=>by
  apply GeI;intro i;by_cases q:12=i
  .subst q;rw[Gau (by simp[*]),he]
  .rw[Gax q]
 cases u with
 |asked b=>
  refine⟨[],rfl,λhe=> ?_⟩;rw[e0 he];unfold bG at h;simp[h,eqB]
 |due b e m ea la=>
  unfold bG at h;by_cases c:m>2
  .refine⟨[V [P 1,P 1,P 2],V [P 2,P 1,P 3]],rfl,λhe=> ?_⟩;simp[h,eqB,c,a9,DL.stored]
  .refine⟨[],rfl,λhe=> ?_⟩;rw[e0 he];simp[h,eqB,c]
open EV in
def Mo(h:0<=r):∃w,atD [Y "down",Y "up",Y "near"] (r%3)=U (Y w):=by
 have:r%3=0\/r%3=1\/r%3=2:=by lia
 rcases this with q|q|q<;>rw[q]
 .exact⟨"down",rfl⟩
 .exact⟨"up",rfl⟩
 .exact⟨"near",rfl⟩
def at3(h:0<=q)(h2:q<3):∃v,(v=a\/v=b\/v=c)/\atD [P a,P b,P c] q=U (P v):=by
 have:q=0\/q=1\/q=2:=by lia
 rcases this with rfl|rfl|rfl
 .exact⟨a,.inl rfl,rfl⟩
 .exact⟨b,.inr (.inl rfl),rfl⟩
 .exact⟨c,.inr (.inr rfl),rfl⟩
open EV in
def Fq{ns:List Int}{r:Int}{US:List D}{w:Str}(Tn:bw 20 r=O)(hk:300+20*r=k)(Sj:b5 [V S]=U ⟨.c,P LS⟩)(d0:a7 [.scr ns,P k,P LS]=U (P st))(hS:atD S st=U (V [nm,V (P part::UT),C,Vu]))(d1:a7 [.scr ns,P (k+1),P 3]=U (P q1))(hf:atD [P 4,P 15,P 2000] q1=U (P f))(mm:bw part f=O)(hm:part*f=most)
  (hw:atD [Y "down",Y "up",Y "near"] (r%3)=U (Y w))(d2:a7 [.scr ns,P (k+2),P 90]=U (P q2))(d3:a7 [.scr ns,P (k+3),P 9]=U (P q3))(du:jt [.scr ns,P (k+4),P ee]=U (bG u))(Sk:b5 [X G]=U ⟨.c,P LG⟩)(dg:a7 [.scr ns,P (k+12),P LG]=U (P g))(yG:atD (Str.ofString "abcdefghijkl").cps.toList r=U ch)(hz:US.length<1000)
  (iT:ay T=O)(ht:∀env:DL.Env,env=[U (Q (.scr ns)),U (Q (P ee)),U (Z (X G)),x3,U (Q (V S)),U (Z (X US)),U (Q (P r)),U (Q (P k)),U (Q (P st)),U (Q (P most)),U (Q (V [Y w,P (1+q2),P q3,P most])),U (Q (bG u)),U (Q (V []))]->
   ifS (cK (ao eqB (Vd (vE 11) (kE (P 0))) (kE (Y "due"))) (ao gtB (Vd (vE 11) (kE (P 3))) (kE (P 2)))) (au 12 (cX (ae (cX (ae (kE (P 1)) (ae (kE (P 1)) (ae (kE (P 2)) aL)))) (ae (cX (ae (kE (P 2)) (ae (kE (P 1)) (ae (kE (P 3)) aL)))) aL)))) aC env=U (.nx (env.set 12 (U (Q (V T)))))):
  c9 [U (Q (.scr ns)),U (Q (P ee)),U (Z (X G)),x3,U (Q (V S)),U (Z (X US)),U (Q (P r)),x7,x8,x9,eZ,xa,x12]=
   U (.nx [U (Q (.scr ns)),U (Q (P ee)),U (Z (X G)),x3,U (Q (V S)),U (Z (X (US++[V [Y ("order"++ ⟨#[ch]⟩),P g,P st,V [Y w,P (1+q2),P q3,P most],bG u,V T]]))),U (Q (P r)),U (Q (P k)),U (Q (P st)),U (Q (P most)),U (Q (V [Y w,P (1+q2),P q3,P most])),U (Q (bG u)),U (Q (V T))]):=by
 have z:US.length<16777216:=by exact Gak ‹_› (by simp)
 have iu:=oz u;generalize bG u=UQ at*;have w1:(Str.ofString "abcdefghijkl").length<=16777216:=by decide
 have w2:(Str.ofString "order").length+(⟨#[ch]⟩:Str).length<=16777216:=by
  have:(⟨#[ch]⟩:Str).length=1:=rfl;rw[this]
  decide
 refine(aa (by simp[Tn,hk];rfl)).trans ((aa (by simp[Sj,d0];rfl)).trans ((aa (by simp[hS,d1,hf,mm,hm,a9];rfl)).trans ((aa (by simp[hw,d2,d3,a9];rfl)).trans ((aa (e:=[U (Q (.scr ns)),U (Q (P ee)),U (Z (X G)),x3,U (Q (V S)),U (Z (X US)),U (Q (P r)),U (Q (P k)),U (Q (P st)),U (Q (P most)),U (Q (V [Y w,P (1+q2),P q3,P most])),U (Q UQ),x12]) (by simp[du,(aV iu)])).trans ((aa (ht _ rfl)).trans ?_)))));simp[-gL,Sk,dg,yG,w1,w2,iu,iT,a9,z]
def cw(o:Va)(h:ay o.Al=O):(ah o).imm=O:=by
 have:=oz o.f9;simp[ah,this,h]
variable{os:List Va}
def A7{ns:List Int}{i:Nat}{G:List D}{ss:List fD}(hs:1<=ee)(eQ:ee<=1000000)(hi:i<12)(hG:1<=G.length)(UJ:G.length<=100)(hS:1<=ss.length)(UI:ss.length<=100)(xA:∀s∈ss,fB s)(hl:os.length<=100):
  ∃o y7 y8 y9 xm xl yf,lC G.length ss.length o/\c9 [U (Q (.scr ns)),U (Q (P ee)),U (Z (X G)),x3,U (Q (V (ss.map aI))),U (Z (X (os.map ah))),U (Q (P (i:Int))),x7,x8,x9,eZ,xa,x12]=
   U (.nx [U (Q (.scr ns)),U (Q (P ee)),U (Z (X G)),x3,U (Q (V (ss.map aI))),U (Z (X ((os++[o]).map ah))),U (Q (P (i:Int))),y7,y8,y9,xm,xl,yf]):=by
 obtain⟨ch,yG⟩:=Ct hi;have hj:(0)<=(i:Int)/\(i:Int)<=11:=by lia
 have hz:(os.map ah).length<1000:=by rw[Gah];exact GaG ‹_› (by simp)
 have e1:∀s,(os++[s]).map ah=os.map ah++[ah s]:=λs=>by simp
 generalize (i:Int)=r at*;generalize os.map ah=US at*;generalize hk:300+20*r=k;have d0:=az (ns:=ns) (k:=k) (m:=(ss.length:Int)) (by lia) (by lia) (by exact GcQ.mpr ‹_›);have l0:=aG ns k (ss.length:Int) (by exact GcQ.mpr ‹_›);generalize draw ns k (ss.length:Int)=st at*;obtain⟨n,rfl⟩:=GaK l0.1;have hn:n<ss.length:=by simp_all
 have hSat:atD (ss.map aI) (n:Int)=U (V [Y ss[n].name,V (P ss[n].part::ss[n].more.map P),V (ss[n].aq.map aT),P ss[n].young]):=by
  rw[bA,Gaj,Gaa hn]
  rfl
 have ok:=xA ss[n] (Gap hn);have okp1:=ok.p1;have okp2:=ok.p2;have l1:=aG ns (k+1) 3 (by simp);obtain⟨f,UC,hf⟩:=at3 (a:=4) (b:=15) (c:=2000) l1.1 l1.2;obtain⟨w,hw⟩:=Mo (r:=r) hj.1;obtain⟨u,u1,du⟩:=Mm (ns:=ns) (k:=k+4) (ee:=ee) (by lia) (by lia) hs eQ;have lg:=aG ns (k+12) (G.length:Int) (by exact GcQ.mpr ‹_›);obtain⟨T,iT,ht⟩:=Mn (u:=u) (env:=[U (Q (.scr ns)),U (Q (P ee)),U (Z (X G)),x3,U (Q (V (ss.map aI))),U (Z (X US)),U (Q (P r)),U (Q (P k)),U (Q (P (n:Int))),U (Q (P (ss[n].part*f))),U (Q (V [Y w,P (1+draw ns (k+2) 90),P (draw ns (k+3) 9),P (ss[n].part*f)])),U (Q (bG u)),U (Q (V []))]) rfl rfl;refine⟨⟨"order"++ ⟨#[ch]⟩,draw ns (k+12) (G.length:Int),(n:Int),w,1+draw ns (k+2) 90,draw ns (k+3) 9,ss[n].part*f,u,T⟩,U (Q (P k)),U (Q (P (n:Int))),U (Q (P (ss[n].part*f))),U (Q (V [Y w,P (1+draw ns (k+2) 90),P (draw ns (k+3) 9),P (ss[n].part*f)])),U (Q (bG u)),U (Q (V T)),⟨lg.1,lg.2,by simp,by simp;simp[*],u1,iT⟩, ?_⟩;rw[e1];exact Fq (bB (by simp) (by simp)) hk (by simp[b5]) d0 hSat (az (ns:=ns) (k:=k+1) (m:=3) (by lia) (by lia) (by simp)) hf (bB (by lia) (by lia)) rfl hw (az (ns:=ns) (k:=k+2) (m:=90) (by lia) (by lia) (by simp)) (az (ns:=ns) (k:=k+3) (m:=9) (by lia) (by lia) (by simp)) du rfl (az (ns:=ns) (k:=k+12) (m:=(G.length:Int)) (by lia) (by lia) (by exact GcQ.mpr ‹_›)) yG hz iT λenv he=>by subst he;exact ht rfl
open EV in
def A8{ns:List Int}{i:Nat}{gs:List (Str×Int)}(hs:1<=ee)(eQ:ee<=1000000)(hi:i<6)(hl:gs.length<=100):
  ∃g:Str×Int,c7 [U (Q (.scr ns)),U (Q (P ee)),U (Z (X (gs.map λg=> V [Y g.1,P g.2]))),U (Q (P (i:Int))),x4,x5,x6,x7,x8,x9,eZ,xa,x12]=
   U (.nx [U (Q (.scr ns)),U (Q (P ee)),U (Z (X ((gs++[g]).map λg=> V [Y g.1,P g.2]))),U (Q (P (i:Int))),x4,x5,x6,x7,x8,x9,eZ,xa,x12]):=by
 obtain⟨ch,yG⟩:=Fg hi;have hj:(0)<=(i:Int)/\(i:Int)<=5:=by lia
 have hz:(gs.map λg=>V [Y g.1,P g.2]).length<16777216:=by rw[Gah];exact GaG ‹_› (by simp)
 have e1:∀s:Str×Int,((gs++[s]).map λg=>V [Y g.1,P g.2])=(gs.map λg=>V [Y g.1,P g.2])++[V [Y s.1,P s.2]]:=λs=>by simp
 generalize (i)=j at*;generalize (gs.map λg=>V [Y _,P g.2])=G at*;have ms:∀j,bw ee j=O:=λj=>bB (by lia) (by lia);have w1:(Str.ofString "abcdef").length<=16777216:=by decide
 have w2:(Str.ofString "guest").length+(⟨#[ch]⟩:Str).length<=16777216:=by
  have:(⟨#[ch]⟩:Str).length=1:=rfl;rw[this]
  decide
 refine⟨("guest"++ ⟨#[ch]⟩,ee*draw ns (30+j) 15), ?_⟩;rw[e1];simp[c7,yG,w1,w2,(az (ns:=ns) (k:=30+j) (m:=15) (by lia) (by lia) (by simp)),ms,a9,hz]
structure World where
 bM:List (Str×Int)
 ax:List fD
 df:List (Int×Int×Int)
 UU:List Va
def cj(g:Str×Int):D:= V [Y g.1,P g.2]
def aj(w:World):D:= V [V (w.bM.map cj),V (w.ax.map aI),V (w.df.map Vc),V (w.UU.map ah)]
structure aB(w:World):Prop where
 g1:1<=w.bM.length
 g6:w.bM.length<=6
 s1:1<=w.ax.length
 s6:w.ax.length<=6
 so:∀s∈w.ax,fB s
 b12:w.df.length<=12
 bo:kH w.ax.length w.df
 o1:1<=w.UU.length
 o12:w.UU.length<=12
 oo:∀o∈w.UU,lC w.bM.length w.ax.length o
def qF(g:Str×Int):(cj g).imm=O:=by simp[cj]
open EV in
def Cw{ns:List Int}{ng no:Int}(d1:a7 [.scr ns,P 1,P 6]=U (P q1))(h1:atD [P 1,P 1,P 1,P 1,P 1,P 1000000] q1=U (P ee))(dg:a7 [.scr ns,P 20,P 6]=U (P qg))(hg:atD [P 1,P 2,P 3,P 2,P 3,P 6] qg=U (P ng))(sg:aU ng=O)
  (lg:UX (gN 3) c7 (aN 0 ng.toNat) [U (Q (.scr ns)),U (Q (P ee)),U (Z (X [])),J,J,J,J,J,J,J,J,J,J]=U (.nx [U (Q (.scr ns)),U (Q (P ee)),U (Z (X G)),y3,J,J,J,J,J,J,J,J,J]))
  (es:gD [.scr ns,P ee]=U (V S))(iS:ay S=O)(Ul :a7 [.scr ns,P 22,P 6]=U (P qo))(ho:atD [P 1,P 2,P 3,P 4,P 4,P 12] qo=U (P no))(so:aU no=O)
  (lo:UX (gN 6) c9 (aN 0 no.toNat) [U (Q (.scr ns)),U (Q (P ee)),U (Z (X G)),y3,U (Q (V S)),U (Z (X [])),J,J,J,J,J,J,J]=U (.nx [U (Q (.scr ns)),U (Q (P ee)),U (Z (X G)),y3,U (Q (V S)),U (Z (X US)),y6,y7,y8,y9,xm,xl,yf]))
  (Sj:b5 [V S]=U ⟨.c,P LS⟩)(eb:jr [.scr ns,P LS,P ee]=U (V B))(iB:ay B=O)(iG:ay G=O)(iO:ay US=O):iJ [.scr ns]=U (V [V G,V S,V B,V US]):=by
 have rS:=aV (d:= V S) (by simp[iS]);have rB:=aV (d:= V B) (by simp[iB]);refine aD rfl ((aa (by simp[d1,h1,a9];rfl)).trans ((aa rfl).trans ((aa (by simp[dg,hg,sg,lg,a9];rfl)).trans ((aa (by simp[es];rfl)).trans ((aa (by simp;rfl)).trans ((aa (by simp[Ul,ho,so,lo,a9];rfl)).trans ?_))))));simp[-fW,Sj,eb,iS,iB,iG,iO,a9]
def tY(ns:List Int):∃ee:Int,1<=ee/\ee<=1000000/\atD [P 1,P 1,P 1,P 1,P 1,P 1000000] (draw ns 1 6)=U (P ee):=by
 have l:=aG ns 1 6 (by simp);obtain⟨v,hv,e⟩:=at6 (a:=1) (b:=1) (c:=1) (d:=1) (f:=1000000) l.1 l.2;exact⟨v,by lia,by lia,e⟩
def vg{ns:List Int}(c1:1<=ee)(c2:ee<=1000000)(hn:n<=6):∃(gs:List (Str×Int)) (y3:Os),gs.length=n/\UX (gN 3) c7 (aN 0 n) [U (Q (.scr ns)),U (Q (P ee)),U (Z (X [])),J,J,J,J,J,J,J,J,J,J]=U (.nx [U (Q (.scr ns)),U (Q (P ee)),U (Z (X (gs.map cj))),y3,J,J,J,J,J,J,J,J,J]):=by
 obtain⟨e,l1,gs,y3,g2,rfl⟩:=cU (g:=gN 3) (body:=c7) (λm env=>∃(gs:List _) (y3:Os),gs.length=m/\env=[U _,U _,U (Z (X (gs.map cj))),y3,J,J,J,J,J,J,J,J,J]) _ 0 [U _,U _,U _,J,J,J,J,J,J,J,J,J,J] ⟨[],J,rfl,rfl⟩ (by
  rintro i d e hd ⟨gs,y3,h2,rfl⟩;obtain⟨hi,rfl⟩:=br hd;obtain⟨g,h⟩:=A8 (ns:=ns) (ee:=ee) (i:=i) (gs:=gs) (x4:=J) (x5:=J) (x6:=J) (x7:=J) (x8:=J) (x9:=J) (eZ:=J) (xa:=J) (x12:=J) c1 c2 (Gcz hi hn) (by lia);rw[show(0:Int)+(i:Int)=(i:Int) by simp];exact⟨_,_,rfl,h,gs++[g],U (Q (P (i:Int))),by simp[h2],rfl⟩)
 rw[jB,Gcw] at g2;exact⟨gs,y3,g2,l1⟩
def vh{ns:List Int}{ng:Nat}{G:List D}{ss:List fD}(c1:1<=ee)(c2:ee<=1000000)(hn:n<=12)(g0:1<=G.length)(g6:G.length<=6)(t1:1<=ss.length)(t2:ss.length<=6)(t3:∀s∈ss,fB s):∃(os:List Va) (y6 y7 y8 y9 xm xl yf:Os),os.length=n/\(∀o∈os,lC G.length ss.length o)/\UX (gN 6) c9 (aN 0 n) [U (Q (.scr ns)),U (Q (P ee)),U (Z (X G)),y3,U (Q (V (ss.map aI))),U (Z (X [])),J,J,J,J,J,J,J]=U (.nx [U (Q (.scr ns)),U (Q (P ee)),U (Z (X G)),y3,U (Q (V (ss.map aI))),U (Z (X (os.map ah))),y6,y7,y8,y9,xm,xl,yf]):=by
 obtain⟨e,l2,os,y6,y7,y8,y9,xm,xl,yf,o2,o3,rfl⟩:=cU (g:=gN 6) (body:=c9) (λm env=>∃(os:List Va) (y6 y7 y8 y9 xm xl yf:Os),os.length=m/\(∀o∈os,lC G.length ss.length o)/\env=[U _,U _,U _,y3,U _,U (Z (X (os.map ah))),y6,y7,y8,y9,xm,xl,yf]) (aN 0 n) 0 [U _,U _,U _,y3,U _,U _,J,J,J,J,J,J,J] ⟨[],J,J,J,J,J,J,J,rfl,by simp,rfl⟩ (by
  rintro i d e hd ⟨os,y6,y7,y8,y9,xm,xl,yf,h2,h3,rfl⟩;obtain⟨hi,rfl⟩:=br hd;obtain⟨o,z7,z8,z9,zF,zE,T9,k1,k2⟩:=A7 (ns:=ns) (ee:=ee) (i:=i) (G:=G) (ss:=ss) (os:=os) (x3:=y3) (x7:=y7) (x8:=y8) (x9:=y9) (eZ:=xm) (xa:=xl) (x12:=yf) c1 c2 (by lia) (by lia) (by lia) t1 (by lia) t3 (by lia);rw[show _+_=(i:Int) by simp];refine⟨_,_,rfl,k2,os++[o],U _,z7,z8,z9,zF,zE,T9,by simp[h2],λx hx=> ?_,rfl⟩;rcases GaQ.mp hx with hx|hx
  .exact h3 x hx
  .rw[Gam.mp hx];exact k1)
 rw[jB,Gcw] at o2;exact⟨os,y6,y7,y8,y9,xm,xl,yf,o2,o3,l2⟩
theorem qG:∀l:List Va,(∀o∈l,lC a b o)->ay (l.map ah)=O
 |[],_=>rfl
 |o::l,h=>by
  rw[Gav];simp[(cw o (h o Gai).ti),(qG l λx hx=>h x (Gaf _ hx))]
def Il(ns:List Int):∃w,aB w/\iJ [.scr ns]=U (aj w):=by
 obtain⟨ee,c1,c2,h1⟩:=tY ns;have lg:=aG ns 20 6 (by simp);obtain⟨ng,TP,hg⟩:=at6 (a:=1) (b:=2) (c:=3) (d:=2) (e:=3) (f:=6) lg.1 lg.2;have lO:=aG ns 22 6 (by simp);obtain⟨no,RQ,hO⟩:=at6 (a:=1) (b:=2) (c:=3) (d:=4) (e:=4) (f:=12) lO.1 lO.2;have bg:1<=ng.toNat/\ng.toNat<=6:=by lia
 have bo:1<=no.toNat/\no.toNat<=12:=by lia
 have sg:aU ng=O:=bf (by lia) (by lia);have so:aU no=O:=bf (by lia) (by lia);clear TP RQ;obtain⟨gs,y3,g2,l1⟩:=vg (ns:=ns) c1 c2 bg.2;obtain⟨ss,t1,t2,t3,t4⟩:=Fj (ns:=ns) c1 c2;obtain⟨bs,b1,b2,b3⟩:=Mk (ns:=ns) (n:=_) c1 c2 t2;have Sk:(gs.map cj).length=_:=Gah _;obtain⟨os,y6,y7,y8,y9,xm,xl,yf,o2,o3,l2⟩:=vh (ns:=ns) (G:=gs.map cj) (y3:=y3) (ng:=0) c1 c2 bo.2 (by simp_all) (by simp_all) t1 t2 t3;rw[Sk] at o3;rw[<-g2] at bg;rw[<-o2] at bo;exact⟨⟨gs,ss,bs,os⟩,⟨bg.1,bg.2,t1,t2,t3,b2,b1,bo.1,bo.2,o3⟩,Cw (az (by simp) (by simp) (by simp)) h1 (az (by simp) (by simp) (by simp)) hg sg l1 t4 (dM gZ ss) (az (by decide) (by decide) (by decide)) hO so l2 (by simp[b5]) b3 (dM lB bs) (dM qF gs) (qG os o3)⟩
def vk{w:World}{o:Int}(h0:0<=o)(h1:o<w.UU.length):∃x∈w.UU,atD (w.UU.map ah) o=U (ah x):=by
 obtain⟨n,rfl⟩:=GaK h0;have hn:n<w.UU.length:=by simp_all
 exact⟨w.UU[n],Gap hn,by rw[bA,Gaj,Gaa hn];rfl⟩
def Fs{w:World}{o:Int}(h0:0<=o)(h1:o<w.ax.length):∃x∈w.ax,atD (w.ax.map aI) o=U (aI x):=by
 obtain⟨n,rfl⟩:=GaK h0;have hn:n<w.ax.length:=by simp_all
 exact⟨w.ax[n],Gap hn,by rw[bA,Gaj,Gaa hn];rfl⟩
open EV in
def Cy{ns:List Int}(d5:a7 [.scr ns,P (k+5000),P 12]=U (P q5))(d6:a7 [.scr ns,P (k+5500),P 25]=U (P q6)):∃h' :Int,
  ak (ifS (ao eqB (ai a7 (ae (vE 0) (ae (Ve aw (vE 3) (kE (P 5000))) (ae (kE (P 12)) aL)))) (kE (P 0))) (au 6 (Ve aw (vE 6) (kE (P 1)))) aC)
   (ak (ifS (ao eqB (ai a7 (ae (vE 0) (ae (Ve aw (vE 3) (kE (P 5500))) (ae (kE (P 25)) aL)))) (kE (P 0))) (au 6 (Ve mJ (kE (P 10)) (kE (P 9)))) aC) (UW (vE 6)))
   [U (Q (.scr ns)),x1,x2,U (Q (P k)),x4,x5,U (Q (P h)),x7,x8]=U (.ret (P h')):=by
 by_cases c5:q5=0
 .by_cases c6:q6=0
  .exact⟨1000000000,by simp[d5,d6,c5,c6]⟩
  .exact⟨h+1,by simp[d5,d6,c5,c6]⟩
 .by_cases c6:q6=0
  .exact⟨1000000000,by simp[d5,d6,c5,c6]⟩
  .exact⟨h,by simp[d5,d6,c5,c6]⟩
open EV in
def Io{ns:List Int}{o:Int}(d1:a7 [.scr ns,P 1,P 6]=U (P q1))(h1:atD [P 1,P 1,P 1,P 1,P 1,P 1000000] q1=U (P ee))(hs:1<=ee)(eQ:ee<=1000000)(hO:atD US o=U (V [nm,g,st,ru,bG u,tp]))(du:jE u)(d0:a7 [.scr ns,P k,P 70]=U (P q0))(d3:a7 [.scr ns,P (k+3000),P 4]=U (P q3))(d4:a7 [.scr ns,P (k+4000),P 6]=U (P q4))(l4:0<=q4)(Tu :q4<6)(hk:0<=k)(xM:k<10000):
  ∃h:Int,dQ [.scr ns,V [V A,V B,V C,V US],P o,P k]=U (P h):=by
 have ms:∀j,bw ee j=O:=λj=>bB (by lia) (by lia)
 suffices hmid:∃(x7 x8:Os) (h0:Int),ifS (cK (ao eqB (Vd (vE 5) (kE (P 0))) (kE (Y "due"))) (ao gtB (ai a7 (ae (vE 0) (ae (Ve aw (vE 3) (kE (P 3000))) (ae (kE (P 4)) aL)))) (kE (P 0))))
  (ak (au 7 (Ve aw (Vd (vE 5) (kE (P 1))) (Ve bX (ai a7 (ae (vE 0) (ae (vE 3) (ae (g9 j4 (ae (Vd (vE 5) (kE (P 3))) (ae (kE (P 6)) aL))) aL)))) (Vd (vE 5) (kE (P 2))))))
 (ak (au 8 (bQ (ae (vE 7) (ae (Ve ip (vE 7) (Vd (vE 5) (kE (P 4)))) (ae (Ve aw (vE 7) (Vd (vE 5) (kE (P 5)))) (ae (Ve ip (Ve ip (vE 7) (Vd (vE 5) (kE (P 4)))) (kE (P 1))) (ae (Ve aw (Ve aw (vE 7) (Vd (vE 5) (kE (P 5)))) (kE (P 1))) (ae (vE 7) aL))))))))
 (au 6 (g9 pL (ae (kE (P 0)) (ae (Vd (vE 8) (ai a7 (ae (vE 0) (ae (Ve aw (vE 3) (kE (P 4000))) (ae (kE (P 6)) aL))))) aL))))))
  aC [U (Q (.scr ns)),U (Q (V [V A,V B,V C,V US])),U (Q (P o)),U (Q (P k)),U (Q (P ee)),U (Q (bG u)),U (Q (P (ee*q0))),J,J]=U (.nx [U (Q (.scr ns)),U (Q (V [V A,V B,V C,V US])),U (Q (P o)),U (Q (P k)),U (Q (P ee)),U (Q (bG u)),U (Q (P h0)),x7,x8]) by
  obtain⟨x7,x8,h0,hm⟩:=hmid;obtain⟨h',ht⟩:=Cy (ns:=ns) (k:=k) (h:=h0) (x1:=U (Q (V [V A,V B,V C,V US]))) (x2:=U (Q (P o))) (x4:=U (Q (P ee))) (x5:=U (Q (bG u))) (x7:=x7) (x8:=x8) (az (ns:=ns) (k:=k+5000) (m:=12) (by exact GaE ‹_› (by decide)) (by exact GaA (GaM ‹_› _) (by decide)) (by simp)) (az (ns:=ns) (k:=k+5500) (m:=25) (by exact GaE ‹_› (by decide)) (by exact GaA (GaM ‹_› _) (by decide)) (by simp));refine⟨h',aD rfl ?_⟩;unfold mw;generalize bG u=UQ at*;exact(aa (by simp[bY,d1,h1,a9];rfl)).trans ((aa (by simp[hO,(oz u)];rfl)).trans ((aa (by simp[d0,ms])).trans ((aa hm).trans ht)))
 cases u with
 |asked b=>
  refine⟨J,J,ee*q0, ?_⟩;simp[bG,eqB]
 |due b e m ea la=>
  obtain⟨e1,e2,hm,_⟩:=du;by_cases c:q3>0
  .have mm:∃mn:Int,0<mn/\(if(6:Int)<m then 6 else m)=mn:=⟨_,by split<;>lia,rfl⟩
   obtain⟨mn,Ti,Uk⟩:=mm;have me:∀j,bw j e=O:=λj=>jA (by lia) (by lia);generalize hnear:b+draw ns k mn*e=near;obtain⟨v,hv,ev⟩:=at6 (a:=near) (b:=near -ea) (c:=near+la) (d:=near -ea -1) (e:=near+la+1) (f:=near) l4 Tu;refine⟨U (Q (P near)),U (Z (X [P near,P (near -ea),P (near+la),P (near -ea -1),P (near+la+1),P near])),(if v>0 then v else 0), ?_⟩;have mi:j4 [P m,P 6]=U ⟨.c,P mn⟩:=by rw[<-Uk];rfl
   have mx:pL [P 0,P v]=U ⟨.c,P (if v>0 then v else 0)⟩:=rfl;unfold bG;refine(pB (by simp[eqB,d3,c])).trans ((aa (by simp[mi,(az (ns:=ns) (k:=k) (m:=mn) (by simp[*]) (by exact GaA ‹_› (by decide)) Ti),me,hnear];rfl)).trans ((aa (by simp[a9];rfl)).trans ?_));simp[d4,ev,mx]
  .refine⟨J,J,ee*q0, ?_⟩;simp[bG,eqB,d3,c]
def Mp{ns:List Int}{w:World}{o:Int}(W:aB w)(h0:0<=o)(h1:o<w.UU.length)(hk:0<=k)(xM:k<10000):∃h:Int,dQ [.scr ns,aj w,P o,P k]=U (P h):=by
 obtain⟨x,hx,hO⟩:=vk h0 h1;obtain⟨ee,c1,c2,e1⟩:=tY ns;exact Io (az (ns:=ns) (k:=1) (m:=6) (by simp) (by simp) (by simp)) e1 c1 c2 hO (W.oo x hx).du (az (by simp[*]) (by exact GaA ‹_› (by simp)) (by simp)) (az (by exact GaE ‹_› (by simp)) (by exact GaA (GaM ‹_› _) (by simp)) (by simp)) (az (by exact GaE ‹_› (by simp)) (by exact GaA (GaM ‹_› _) (by simp)) (by simp)) (aG ns _ 6 (by simp)).1 (aG ns _ 6 (by simp)).2 hk xM
open EV in
def Cz{ns:List Int}{o:Int}(hO:atD US o=U (V [nm,g,P st,ru,dd,tp]))(hS:atD B st=U (V [n2,V (P part::UT),cp,yg]))(hp:1<=part)(xq:part<=100000)(d6:a7 [.scr ns,P (k+6000),P 8]=U (P q6))(d7:a7 [.scr ns,P (k+7000),P 14]=U (P q7))(d8:a7 [.scr ns,P (k+8000),P 6]=U (P q8))(l8:0<=q8)(Tt :q8<6):
  ∃a:Int,cT [.scr ns,V [V A,V B,V C,V US],P o,P k]=U (P a):=by
 have mp:∀j,bw part j=O:=λj=>bB (by lia) (by lia);generalize hmany:part*(1+q6)=xy;obtain⟨v,hv,ev⟩:=at6 (a:=0) (b:= -xy) (c:=xy+1) (d:=1000000000) (e:=part*2001) (f:= -1) l8 Tt;have pre:∀r,(∃a,r=U (Out.ret (P a)))->ak (ifS (ao eqB (ai a7 (ae (vE 0) (ae (Ve aw (vE 3) (kE (P 7000))) (ae (kE (P 14)) aL)))) (kE (P 0))) (UW (Vd (vE 6) (ai a7 (ae (vE 0) (ae (Ve aw (vE 3) (kE (P 8000))) (ae (kE (P 6)) aL)))))) aC) (UW (vE 5)) [U (Q (.scr ns)),U (Q (V [V A,V B,V C,V US])),U (Q (P o)),U (Q (P k)),U (Q (P part)),U (Q (P xy)),U (Z (X [P 0,P (-xy),P (xy+1),P 1000000000,P (part*2001),P (-1)]))]=r->∃a:Int,cT [.scr ns,V [V A,V B,V C,V US],P o,P k]=U (P a):=by
  rintro r ⟨a,rfl⟩ h;exact⟨a,aD rfl ((aa (by simp_all;rfl)).trans ((aa (by simp[d6,mp,hmany];rfl)).trans ((aa (by simp[mp,a9])).trans h)))⟩
 by_cases c:q7=0
 .exact pre _ ⟨v,rfl⟩ (by simp[d7,c,d8,ev])
 .exact pre _ ⟨xy,rfl⟩ (by simp[d7,c])
def Ft{ns:List Int}{w:World}{o:Int}(W:aB w)(h0:0<=o)(h1:o<w.UU.length)(hk:0<=k)(xM:k<10000):∃a:Int,cT [.scr ns,aj w,P o,P k]=U (P a):=by
 obtain⟨x,hx,hO⟩:=vk h0 h1;have ok:=W.oo x hx;obtain⟨s,hs,hS⟩:=Fs (w:=w) ok.s0 ok.s1;have so:=W.so s hs;exact Cz hO hS so.p1 so.p2 (az (by exact GaE ‹_› (by simp)) (by exact GaA (GaM ‹_› _) (by simp)) (by simp)) (az (by exact GaE ‹_› (by simp)) (by exact GaA (GaM ‹_› _) (by simp)) (by simp)) (az (by exact GaE ‹_› (by simp)) (by exact GaA (GaM ‹_› _) (by simp)) (by simp)) (aG ns _ 6 (by simp)).1 (aG ns _ 6 (by simp)).2
abbrev Tr:=Int×Int×Int
def kvT(ts:List Tr):List (List Key×D):=ts.map λt=>([Sum.inl t.1,Sum.inl t.2.1],P t.2.2)
def sf(ts:List Tr):cG (kvT ts)=ts.map λt=>V [V [P t.1,P t.2.1],P t.2.2]:=by
 unfold cG kvT;rw[GaL]
 rfl
def Ip(ts:List Tr):Vb (ts.map Vc)=O:=by
 have h1:(ts.map Vc).all (mO 1)=O:=by
  rw[Gcm,Gal];intro p _;simp[Vc,mO,tyD,jY]
 have h2:((ts.map Vc).all λx=>(ts.map Vc).all λy=>ur x y)=O:=by
  rw[Gcm,Gal];intro p _;simp only[GbW];rw[Gcm,Gal];intro q _;simp[Vc,ur,lJ,tyD,b6]
 unfold Vb;rw[h1,h2];simp
def Iq:D->Tr
 | V [P a,P b,P c]=>(a,b,c)
 |_=>(0,0,0)
def Ir(ts:List Tr)(hl:ts.length<64):∃rs:List Tr,UZ [X (ts.map Vc)]=U ⟨.tn,X (rs.map Vc)⟩/\rs.Perm ts:=by
 have hp:=dP (ts.map Vc);have all:∀x∈bT _,∃p,x=Vc p:=λx hx=>by
  obtain⟨p,_,e⟩:=GaP.mp (hp.mem_iff.mp hx);exact⟨p,e.symm⟩
 have e:bT (ts.map Vc)=((bT (ts.map Vc)).map Iq).map Vc:=by
  rw[GaL]
  conv=>lhs;rw[<-Gcv (bT _)]
  apply GaV;intro x hx;obtain⟨p,rfl⟩:=all x hx
  rfl
 refine⟨(bT (ts.map Vc)).map Iq, ?_, ?_⟩
 .rw[<-e];simp only[UZ,one,jR,Option.bind_some];rw[Ip,GaI (by simpa using hl)]
  rfl
 .have:=GdY Iq hp;rw[GaL] at this;have e2:ts.map (Iq∘Vc)=ts:=by
   conv=>rhs;rw[<-Gcv ts]
   exact GaV λp _=>rfl
  rwa[e2] at this
def bh(ts:List Tr):ay (ts.map Vc)=O:=dM lB ts
def cx(n:Nat)(gv:List Tr):Prop:=∀t∈gv,0<=t.1/\t.1<n
def cZ:Option Int->D
 |some k=> P k
 |none=> N
@[simp] theorem CA:cZ (U k)= P k:=rfl
@[simp] theorem si:cZ J= N:=rfl
def cR(o:Option Int):(cZ o).imm=O:=by cases o<;>rfl
def mD(b e m ea la h:Int):Option Int:=
 if(0<=(h -(b -ea))/e/\(h -(b -ea))/e<m)/\h -(b -ea)-(h -(b -ea))/e*e<=ea+la then U ((h -(b -ea))/e) else J
def oY:Cv->Int->Option Int
 | .asked _,_=>J
 | .due b e m ea la,h=>mD b e m ea la h
def oZ{o:Va}(ok:jE o.f9):jb [ah o,P h]=U (cZ (oY o.f9 h)):=by
 obtain⟨name,g,st,way,top,per,most,u,ts⟩:=o;unfold ah;cases u with
 |asked b=>
  unfold jb nj bG oY;simp
 |due b e m ea la=>
  obtain⟨e1,e2,hm,a0,l0,al,ab,b3⟩:=ok;have p1:∀i,bw i e=O:=λi=>jA (by lia) (by lia);have p2:0<e/\e<1073741824:=by lia
  simp[jb,nj,bG,oY,mD,p1,p2];generalize hk:_/e=k;by_cases c1:0<=k
  .by_cases c2:k<m
   .by_cases c3:h -(b -ea)-k*e<=ea+la
    .have c4:¬ea+la<h -(b -ea)-k*e:=by simp[*]
     simp[c1,c2,c3,c4]
    .have c4:ea+la<h -(b -ea)-k*e:=by simp_all
     simp[c1,c2,c3,c4]
   .simp[c1,c2]
  .simp[c1]
def bW:Cv->Int->Bool
 | .asked b,h=>decide (h<b)
 | .due b e m ea la,h=>(mD b e m ea la h).isNone
open EV in
def vo{o:Va}(ok:jE o.f9):nz [ah o,P h]=U (Vy (bW o.f9 h)):=by
 have d:=oZ (h:=h) ok;obtain⟨name,g,st,way,top,per,most,u,ts⟩:=o;unfold ah at d⊢;cases u with
 |asked b=>
  unfold nz nu bG bW;simp
 |due b e m ea la=>
  unfold oY at d;unfold nz nu bW;unfold bG at d⊢;have rv:=aV (cR (mD b e m ea la h));simp[d];cases mD b e m ea la h<;>simp
def wgt(g h:Int):List Tr->Option Int->Option Int
 |[],f=>f
 |t::ts,f=>wgt g h ts (if t.1=g/\t.2.1<=h then U t.2.2 else f)
open EV in
theorem kJ(st:∀(t:Tr) (f:Option Int),body [U (Q wd),U (Q (P g)),U (Q (P h)),U (Q (cZ f)),U (Q (Vc t))]=U (.nx [U (Q wd),U (Q (P g)),U (Q (P h)),U (Q (cZ (if t.1=g/\t.2.1<=h then U t.2.2 else f))),U (Q (Vc t))])):
  ∀(ts:List Tr) (f:Option Int) (x4:Os),∃y4,UX (gN 4) body (ts.map Vc) [U (Q wd),U (Q (P g)),U (Q (P h)),U (Q (cZ f)),x4]=U (.nx [U (Q wd),U (Q (P g)),U (Q (P h)),U (Q (cZ (wgt g h ts f))),y4])
 |[],f,x4=> ⟨x4,by simp[wgt]⟩
 |t::ts,f,x4=>by
  obtain⟨y4,e⟩:=kJ st ts _ _;refine⟨y4, ?_⟩;rw[Gav];simp only[UX,gN,GaT,GaU,Option.bind_some,(st t f)];exact e
open EV in
def kK{ws:List Tr}:iI [V (ws.map Vc),P g,P h]=U (cZ (wgt g h ws J)):=by
 obtain⟨y4,e⟩:=kJ (body:=gX) (wd:= V (ws.map Vc)) (g:=g) (h:=h) (λt f=>by
  unfold gX Vc;by_cases c1:t.1=g
  .by_cases c2:t.2.1<=h
   .simp[c1,c2]
   .simp[c1,c2]
  .simp[c1]) ws J J
 rw[si] at e;have im:=cR (wgt g h ws J);refine aD rfl ?_;generalize cZ _=r at*;generalize ws.map Vc=W at*;refine(aa (e:=[U (Q (V W)),U (Q (P g)),U (Q (P h)),U (Q N),J]) rfl).trans ((aa (by simp[e];rfl)).trans ?_);simp[im]
def bI:Cap->Option Int->Option Int
 | .ever t,_=>U t
 | .flat _ t,_=>U t
 | .kilo _ t p,w=>w.map λw=>w*t/p
open EV in
def A9(ok:jJ c):jn [aT c,cZ w]=U (cZ (bI c w)):=by
 cases c with
 |ever t=>unfold jn lA aT bI;simp
 |flat h t=>unfold jn lA aT bI;simp
 |kilo h t p=>
  obtain⟨h1,t1,t2,p1,p2⟩:=ok;cases w with
  |none=>unfold jn lA aT bI;simp
  |some w=>
   have mm:bw w t=O:=jA (by lia) (by lia);have pp:0<p/\p<1073741824:=by lia
   unfold jn lA aT bI;simp[mm,pp]
def b9:Cap->Bool
 | .kilo _ _ _=>O
 |_=>M
open EV in
def CB{s:fD}(hc:s.aq.length<=4):fO [aI s]=U (Vy (s.aq.any b9)):=by
 have c:=fQ (g:=gN 0) (f:=bE (ao eqB (Vd (vE 0) (kE (P 0))) (kE (Y "kilo")))) aT (λenv=>∃y,env=[y]) (λc=> Vy (b9 c)) s.aq [J] ⟨J,rfl⟩ (by
  rintro c hc env ⟨y,rfl⟩;refine⟨_,rfl,⟨_,rfl⟩,.c, ?_,rfl⟩;cases c<;>simp[aT,b9])
 have z:(s.aq.map aT).length<=16777216:=by rw[Gah];exact Gak ‹_› (by simp)
 have e2:s.aq.map (λc=>Vy (b9 c))=(s.aq.map b9).map Vy:=by rw[GaL];rfl
 rw[e2] at c;have an:((s.aq.map b9).any id)=s.aq.any b9:=by rw[List.any_map];rfl
 unfold fO fN aI;generalize s.aq.map aT=C at*;rw[<-an];generalize s.aq.map b9=bs at*;simp[a9,DL.UY,c,z]
open EV in
def jK{ws:List Tr}:gE [V (ws.map Vc),P g,P h]=U (cZ (wgt g h ws J)):=by
 obtain⟨y4,e⟩:=kJ (body:=gp) (wd:= V (ws.map Vc)) (g:=g) (h:=h) (λt f=>by
  unfold gp Vc;by_cases c1:t.1=g
  .by_cases c2:t.2.1<=h
   .simp[c1,c2]
   .simp[c1,c2]
  .simp[c1]) ws J J
 rw[si] at e;have im:=cR (wgt g h ws J);refine aD rfl ?_;generalize cZ _=r at*;generalize ws.map Vc=W at*;refine(aa (e:=[U (Q (V W)),U (Q (P g)),U (Q (P h)),U (Q N),J]) rfl).trans ((aa (by simp[e];rfl)).trans ?_);simp[im]
abbrev Flt:=Str×List Int
def aK(f:Flt):D:= V (Y f.1::f.2.map P)
def kk(b:Bool)(x:Str):List Str:=if b then[x] else[]
open EV in
def nK{L:List Str}(ht:t [e0,e1,e2,e3,e4,e5,e6,e7,U (Z (X (L.map Y)))]=U b)(hl:L.length<1000):
  ifS t (gw 8 (kE (Y x))) aC [e0,e1,e2,e3,e4,e5,e6,e7,U (Z (X (L.map Y)))]=U (.nx [e0,e1,e2,e3,e4,e5,e6,e7,U (Z (X ((L++kk b x).map Y)))]):=by
 have z:(L.map Y).length<16777216:=by rw[Gah];exact Gak ‹_› (by simp)
 have e:(L++kk b x).map Y=L.map Y++(kk b x).map Y:=by rw[Gbe]
 rw[e];cases b with
 |true=>
  generalize L.map _=UT at*;simp[ht,kk,a9,z]
 |false=>
  simp[ht,kk]
def lQ(o:Va)(s:fD)(Su:Int)(ws:List Tr)(t:Tr):List Str:=
 kk (bW o.f9 t.2.1) "astray"++kk (decide (o.most<t.2.2)) "most"++kk (decide (t.2.2<1)||decide (¬t.2.2%s.part=0)) "part"++kk (s.aq.any b9&&(wgt o.aA t.2.1 ws J).isNone) "weight"++kk (decide (t.2.1<Su+s.young)) "young"
def cq(b:Bool)(x:Str):(kk b x).length<=1:=by cases b<;>simp[kk]
open EV in
def CD{K:List Str}:bz (gN 0) dS (cX (ae (vE 0) (ae (vE 1) (ae (vE 2) aL)))) (K.map Y) [J,U (Q (P n)),U (Q (P h))]=U (K.map λk=>aK (k,[n,h])):=by
 refine fQ _ (λenv=>∃y,env=[y,U _,U _]) _ K _ ⟨J,rfl⟩ ?_;rintro k hk env ⟨y,rfl⟩;refine⟨_,rfl,⟨_,rfl⟩,.c, ?_,rfl⟩;simp[a9,aK]
def i6(fs:List Flt):ay (fs.map aK)=O:=dM (λf=>by
 have:=qD f.2;simp[aK,this]) fs
open EV in
def Mq{o:Va}{ws:List Tr}{t:Tr}(hO:atD US t.1=U (ah o))(du:jE o.f9)(hS:atD B o.aO=U (aI s))(so:fB s)(hG:atD A o.aA=U (cj gu))(im:(ah o).imm=O):
  fS [V [V A,V B,V C,V US],V (ws.map Vc),Vc t]=U (X ((lQ o s gu.2 ws t).map λk=>aK (k,[t.1,t.2.1]))):=by
 have ea:=vo (h:=t.2.1) du;have eg:=CB (s:=s) so.cl;have ew:=kK (ws:=ws) (g:=o.aA) (h:=t.2.1);have sp:=so.p1;obtain⟨n,h,a⟩:=t;dsimp only at*;generalize hW:ws.map Vc=W at*;have p1:ixD (ah o) (P 3)=U _:=rfl;have p2:ixD (ah o) (P 1)=U _:=rfl;have p3:ixD (ah o) (P 2)=U _:=rfl;have p4:ixD (aI s) (P 1)=U (V (P s.part::s.more.map P)):=rfl;have p5:ixD (aI s) (P 3)=U (P s.young):=rfl;have p6:ixD (cj gu) (P 1)=U (P gu.2):=rfl;generalize ah o=OD at*;generalize aI s=SD at*;generalize cj gu=GD at*;have QL :0<s.part:=by assumption
 refine aD rfl ?_;unfold iX Vc;refine(aa (by simp[bY];rfl)).trans ((aa (by simp;rfl)).trans ((aa (by simp;rfl)).trans ((aa (by simp[hO,im];rfl)).trans ((aa (by simp[p3,hS,(gZ s)];rfl)).trans ((aa (e:=[U (Q (V [V A,V B,V C,V US])),U (Q (V W)),U (Q (V [P n,P h,P a])),U (Q (P n)),U (Q (P h)),U (Q (P a)),U (Q OD),U (Q SD),U (Z (X (([]:List Str).map Y)))]) (by simp[a9])).trans ((aa (nK (b:=bW o.f9 h) (by simp[ea]) (by simp))).trans ((aa (nK (b:=decide (o.most<a)) (by simp[p1]) (by have:=cq (bW o.f9 h) "astray";simp;exact GaG ‹_› (by decide)))).trans ((aa (nK (b:=decide (a<1)||decide (¬a%s.part=0)) ?_ (by have:=cq (bW o.f9 h) "astray";have:=cq (decide (o.most<a)) "most";simp;lia))).trans ?_))))))))
 .by_cases c:a<1
  .simp[c]
  .by_cases c2:a%s.part=0
   .simp[c,p4,QL,neB,c2]
   .simp[c,p4,QL,neB,c2]
 refine(aa (nK (b:=s.aq.any b9&&(wgt o.aA h ws J).isNone) ?_ (by have:=cq (bW o.f9 h) "astray";have:=cq (decide (o.most<a)) "most";have:=cq (decide (a<1)||decide (¬a%s.part=0)) "part";simp only[GaF,GcY];lia))).trans ?_
 .generalize s.aq.any b9=bk at*;cases bk with
  |false=>simp[eg]
  |true=>
   simp[eg,p2,ew,(aV (cR (wgt o.aA h ws J)))];cases wgt o.aA h ws J<;>simp[g8,fV]
 refine(aa (nK (b:=decide (h<gu.2+s.young)) (by simp[p2,hG,p6,p5]) (by have:=cq (bW o.f9 h) "astray";have:=cq (decide (o.most<a)) "most";have:=cq (decide (a<1)||decide (¬a%s.part=0)) "part";have:=cq (s.aq.any b9&&(wgt o.aA h ws J).isNone) "weight";simp only[GaF,GcY];lia))).trans ?_;have cm:=CD (K:=[]++kk (bW o.f9 h) "astray"++kk (decide (o.most<a)) "most"++kk (decide (a<1)||decide (¬a%s.part=0)) "part"++kk (s.aq.any b9&&(wgt o.aA h ws J).isNone) "weight"++kk (decide (h<gu.2+s.young)) "young") (n:=n) (h:=h);have hK:[]++kk (bW o.f9 h) "astray"++kk (decide (o.most<a)) "most"++kk (decide (a<1)||decide (¬a%s.part=0)) "part"++kk (s.aq.any b9&&(wgt o.aA h ws J).isNone) "weight"++kk (decide (h<gu.2+s.young)) "young"=lQ o s gu.2 ws (n,h,a):=by
  unfold lQ;rw[Gep]
 have eP:([]++kk (bW o.f9 h) "astray"++kk (decide (o.most<a)) "most"++kk (decide (a<1)||decide (¬a%s.part=0)) "part"++kk (s.aq.any b9&&(wgt o.aA h ws J).isNone) "weight"++kk (decide (h<gu.2+s.young)) "young").length<=5:=by
  have:=cq (bW o.f9 h) "astray";have:=cq (decide (o.most<a)) "most";have:=cq (decide (a<1)||decide (¬a%s.part=0)) "part";have:=cq (s.aq.any b9&&(wgt o.aA h ws J).isNone) "weight";have:=cq (decide (h<gu.2+s.young)) "young";simp only[GaF,GcY];lia
 rw[hK] at cm eP⊢;have fi:=i6 ((lQ o s gu.2 ws (n,h,a)).map λk=>(k,[n,h]));rw[GaL] at fi;have fi' :ay ((lQ o s gu.2 ws (n,h,a)).map λk=>aK (k,[n,h]))=O:=fi;generalize lQ o s gu.2 ws (n,h,a)=KL at*;have z:(KL.map Y).length<=16777216:=by rw[Gah];exact Gak ‹_› (by decide)
 generalize KL.map Y=UT at*;simp[-bz,a9,DL.UY,dH,cm,z,fi']
def atT(o h:Int)(t:Tr):Bool:=decide (t.1=o/\t.2.1=h)
def oA(ts:List Tr)(o h v:Int):List Tr:=if ts.any (atT o h) then ts.map (λt=>if atT o h t then(o,h,v) else t) else ts++[(o,h,v)]
def jd(ts:List Tr)(o h:Int):Int:=((ts.find? (atT o h)).map (·.2.2)).getD 0
def tZ(o h:Int)(t:Tr):decide (([Sum.inl t.1,Sum.inl t.2.1]:List Key)=[Sum.inl o,Sum.inl h])=atT o h t:=by
 unfold atT;rw[Gei];simp
def mF(ts:List Tr)(o h v:Int):DL.put (kvT ts) [Sum.inl o,Sum.inl h] (P v)=kvT (oA ts o h v):=by
 unfold DL.put oA kvT;have e:((ts.map λt=>(([Sum.inl t.1,Sum.inl t.2.1]:List Key),P t.2.2)).any λkv=>decide (kv.1=[Sum.inl o,Sum.inl h]))=ts.any (atT o h):=by
  rw[List.any_map];congr 1
  funext t
  exact tZ o h t
 rw[e];cases ts.any _ with
 |true=>
  simp only[Gdm];rw[GaL,GaL];refine GaV λt _=> ?_;simp only[Function.comp];have k:=tZ o h t;by_cases c:t.1=o/\t.2.1=h
  .have e2:atT o h t=O:=GaI c;rw[Gar (by simp_all),Gar e2,c.1,c.2]
  .have e2:¬atT o h t=O:=λz=>c (Gay z);rw[Gaw (λz=>by simp at z;exact c z),Gaw e2]
 |false=>simp
def vt(ts:List Tr)(o h:Int):look (kvT ts) [Sum.inl o,Sum.inl h]=(ts.find? (atT o h)).map λt=>P t.2.2:=by
 unfold look kvT;rw[List.find?_map];have e:((λkv:List Key×D=>decide (kv.1=[Sum.inl o,Sum.inl h]))∘λt:Tr=>(([Sum.inl t.1,Sum.inl t.2.1]),P t.2.2))=atT o h:=by
  funext t
  exact tZ o h t
 rw[e];cases ts.find? _<;>rfl
def nM(ts:List Tr)(o h v:Int):(oA ts o h v).length<=ts.length+1:=by
 unfold oA;split<;>simp
def twU(ts:List Tr)(n:Int):Option Int->List Tr
 |some k=>oA ts n k (jd ts n k+1)
 |none=>ts
def bS(os:List Va)(ts:List Tr)(g:Tr):List Tr:=twU ts g.1 ((os[g.1.toNat]?).bind λo=>oY o.f9 g.2.1)
def Bf(ts:List Tr)(n:Int)(u:Option Int):(twU ts n u).length<=ts.length+1:=by
 cases u with
 |none=>exact Gdz _
 |some k=>exact nM _ _ _ _
open EV in
def Ms{e3:Os}{n:Int}:Ds (vE 2) (cX (ae (Vd (vE 3) (kE (P 0))) (ae (vE 4) aL))) (kE (P 0)) [e0,e1,U (Z (Vx (kvT ts))),U (Q (V [P o,P h,P a])),U (Q (P k))]=U ⟨.c,P (jd ts o k)⟩:=by
 have l:=vt ts o k;unfold jd;cases hf:ts.find? _ with
 |none=>
  rw[hf] at l;simp[l,a9]
 |some t=>
  rw[hf] at l;simp[l,a9]
open EV in
variable{OD:D}
def ON{k:Int}(hO:atD US n=U OD)(im:OD.imm=O)(ed:jb [OD,P h]=U (cZ u))(hz:(kvT ts).length<1000):
  bP [U (Q (V [V A,V B,V C,V US])),U (Q (V G)),U (Z (Vx (kvT ts))),U (Q (V [P n,P h,P a])),x4]=
   U (.nx [U (Q (V [V A,V B,V C,V US])),U (Q (V G)),U (Z (Vx (kvT (twU ts n u)))),U (Q (V [P n,P h,P a])),U (Q (cZ u))]):=by
 have z:(kvT ts).length<16777216:=by exact Gak ‹_› (by simp)
 refine(aa (by simp[hO,ed,(aV (cR u))];rfl)).trans ?_;cases u with
 |none=>simp[twU]
 |some k=>
  rw[CA];refine(pB rfl).trans ?_;unfold twU;rw[<-(mF ts n k _)];unfold BF Ve;rw[(Ms (ts:=ts) (o:=n) (k:=k) (e0:=U _) (e1:=U _) (e3:=J) (n:=0) (h:=h) (a:=a))];simp[putD,z,a9]
theorem Bg{w:World}(W:aB w):∀gv ts x3 x4,cx w.UU.length gv->ts.length+gv.length<1000->∃y3 y4,UX (gN 3) bP (gv.map Vc) [U (Q (V [V A,V B,V C,V (w.UU.map ah)])),U (Q (V G)),U (Z (Vx (kvT ts))),x3,x4]=
  U (.nx [U (Q (V [V A,V B,V C,V (w.UU.map ah)])),U (Q (V G)),U (Z (Vx (kvT (gv.foldl (bS w.UU) ts)))),y3,y4])
 |[],ts,x3,x4,_,_=> ⟨x3,x4,by simp⟩
 |g::gv,ts,x3,x4,hg,hl=>by
  have g0:=hg g Gai;obtain⟨n,hn⟩:=GaK g0.1;have xh :n<w.UU.length:=by simp_all
  have hO:atD (w.UU.map ah) g.1=U (ah w.UU[n]):=by
   rw[hn,bA,Gaj,Gaa xh]
   rfl
  have ok:=W.oo w.UU[n] (Gap xh);have ev:=ON (A:=A) (B:=B) (C:=C) (G:=G) (ts:=ts) (n:=_) (h:=_) (a:=g.2.2) (k:=0) (x4:=x4) hO (cw _ ok.ti) (oZ (h:=g.2.1) ok.du) (by unfold kvT;rw[Gah];simp at hl;lia);have es:twU ts g.1 (oY w.UU[n].f9 g.2.1)=bS w.UU ts g:=by
   unfold bS;rw[hn,Gbb,Gaa xh]
   rfl
  rw[es] at ev;have ln:(bS w.UU ts g).length<=ts.length+1:=by
   rw[<-es];exact Bf _ _ _
  obtain⟨y3,y4,e⟩:=Bg W (A:=A) (B:=B) (C:=C) (G:=G) gv (bS w.UU ts g) (U (Q (Vc g))) _ (λt ht=>hg t (Gaf _ ht)) (by simp at hl;lia);refine⟨y3,y4, ?_⟩;rw[Gav,Gcl];have ev' :bP [U _,U _,U _,U _,x4]=_:=ev;have td:V [P _,P _,P g.2.2]=Vc g:=rfl;rw[td] at ev';generalize Vc g=d at*;simp only[UX,gN,GaT,GaU,Option.bind_some,ev'];exact e
def twF(ts:List Tr):List Flt:=(ts.filter λt=>decide (1<t.2.2)).map λt=>("twice",[t.1,t.2.1])
open EV in
def Iu(ts:List Tr):bz (gT [0,1]) (ao gtB (vE 1) (kE (P 1))) (cX (ae (kE (Y "twice")) (ae (Vd (vE 0) (kE (P 0))) (ae (Vd (vE 0) (kE (P 1))) aL)))) (cG (kvT ts)) [J,J]=U ((twF ts).map aK):=by
 rw[sf];unfold twF;rw[GaL];refine cF _ (λenv=>∃y z,env=[y,z]) _ _ ts _ ⟨J,J,rfl⟩ ?_;rintro t ht env ⟨y,z,rfl⟩;refine⟨[U (Q (V [P t.1,P t.2.1])),U (Q (P t.2.2))],by simp,⟨_,_,rfl⟩,by simp,λ_=> ⟨.c, ?_,rfl⟩⟩;simp[a9,aK]
open EV in
def Mt(h1:UX (gN 3) bP G [U (Q wd),U (Q (V G)),U (Z (Vx [])),J,J]=U (.nx [U (Q wd),U (Q (V G)),U (Z (Vx kv)),y3,y4]))(hz:(cG kv).length<=16777216)
  (hc:bz (gT [0,1]) (ao gtB (vE 1) (kE (P 1))) (cX (ae (kE (Y "twice")) (ae (Vd (vE 0) (kE (P 0))) (ae (Vd (vE 0) (kE (P 1))) aL)))) (cG kv) [J,J]=U R)(im:ay R=O):fA [wd,V G]=U (X R):=by
 refine aD rfl ((aa (e:=[U (Q wd),U (Q (V G)),U (Z (Vx [])),J,J]) rfl).trans ((aa (by simp[h1];rfl)).trans ?_));simp[a9,DL.UY,hz,hc,im]
def Iv{w:World}{gv:List Tr}(W:aB w)(hg:cx w.UU.length gv)(hl:gv.length<64):fA [aj w,V (gv.map Vc)]=U (X ((twF (gv.foldl (bS w.UU) [])).map aK))/\(gv.foldl (bS w.UU) []).length<64:=by
 have ln:∀(gv ts:List Tr),(gv.foldl (bS w.UU) ts).length<=ts.length+gv.length:=by
  intro gv;induction gv with
  |nil=>intro ts;simp
  |cons g gv ih=>
   intro ts;rw[Gcl];have h1:=ih (bS w.UU ts g);have h2:(bS w.UU ts g).length<=ts.length+1:=by
    exact Bf _ _ _
   rw[GaC];lia
 have l2:=ln gv [];simp only[GcY,Gcw] at l2;obtain⟨y3,y4,e⟩:=Bg W (A:=w.bM.map cj) (B:=w.ax.map aI) (C:=w.df.map Vc) (G:=gv.map Vc) gv [] J J hg (by simp;exact Gak ‹_› (by simp));exact⟨Mt e (by rw[sf,Gah];lia) (Iu _) (i6 _),by exact GaG ‹_› ‹_›⟩
def aY(ts:List Tr)(b:Tr):List Tr:=oA (oA ts b.1 b.2.1 b.2.2) b.2.1 b.1 b.2.2
open EV in
def Mu{ts:List Tr}{b:Tr}(hz:ts.length<1000):bV [U (Q (V B)),U (Z (Vx (kvT ts))),U (Q (Vc b))]=U (.nx [U (Q (V B)),U (Z (Vx (kvT (aY ts b)))),U (Q (Vc b))]):=by
 obtain⟨x,y,v⟩:=b;have p1:=mF ts x y v;have l1:=nM ts x y v;have z1:(kvT ts).length<16777216:=by unfold kvT;rw[Gah];exact Gak ‹_› (by simp)
 have z2:(kvT (oA ts x y v)).length<16777216:=by unfold kvT;rw[Gah];lia
 unfold bV aY Vc;rw[<-(mF _ y x v)];generalize hk:kvT (oA ts x y v)=k1 at*;refine(aa (by simp[putD,z1,a9,p1];rfl)).trans ?_;simp[putD,z2,a9]
theorem vx:∀(bs ts:List Tr) (x2:Os),ts.length+2*bs.length<1000->∃y2,UX (gN 2) bV (bs.map Vc) [U (Q (V B)),U (Z (Vx (kvT ts))),x2]=U (.nx [U (Q (V B)),U (Z (Vx (kvT (bs.foldl aY ts)))),y2])
 |[],ts,x2,_=> ⟨x2,by simp⟩
 |b::bs,ts,x2,hl=>by
  rw[GaC] at hl;have ev:=Mu (ts:=ts) (b:=b) (B:=B) (by lia);have l1:(aY ts b).length<=ts.length+2:=by
   unfold aY;have:=nM ts b.1 b.2.1 b.2.2;have:=nM (oA ts b.1 b.2.1 b.2.2) b.2.1 b.1 b.2.2;lia
  obtain⟨y2,e⟩:=vx (B:=B) bs (aY ts b) (U (Q (Vc b))) (by lia);refine⟨y2, ?_⟩;rw[Gav,Gcl];generalize Vc b=d at*;simp only[UX,gN,GaT,GaU,Option.bind_some,ev];exact e
def Iw(ts:List Tr):ay ((kvT ts).map λx=>x.snd)=O:=by
 unfold kvT;rw[GaL];exact dM (λ_=>rfl) ts
open EV in
def Mv{bs:List Tr}(hl:bs.length<=12):fP [V (bs.map Vc)]=U (Vx (kvT (bs.foldl aY []))):=by
 obtain⟨y2,e⟩:=vx (B:=bs.map Vc) bs [] J (by simp;lia);refine aD rfl ((aa (e:=[U (Q (V (bs.map Vc))),U (Z (Vx (kvT []))),J]) rfl).trans ?_);have im:=Iw (bs.foldl aY []);generalize bs.map Vc=B at*;generalize kvT _=kv at*;refine(aa (by simp[e];rfl)).trans ?_;simp[im]
def rg(gs:List Tr)(a b:Va):Int:=if a.aA=b.aA then jd gs a.aO b.aO else 0
open EV in
def oB:iZ [Vx (kvT gs),ah a,ah b]=U (P (rg gs a b)):=by
 have l:=vt gs a.aO b.aO;refine aD rfl ?_;unfold iY rg jd;have a1:ixD (ah a) (P 1)=U _:=rfl;have a2:ixD (ah a) (P 2)=U _:=rfl;have b1:ixD (ah b) (P 1)=U _:=rfl;have b2:ixD (ah b) (P 2)=U _:=rfl;generalize ah a=A at*;generalize ah b=B at*;generalize kvT gs=kv at*;by_cases c:a.aA=b.aA
 .rw[Gar c];refine(aa (by simp_all;rfl)).trans ?_;cases hf:gs.find? _ with
  |none=>rw[hf] at l;simp at l;simp[a2,b2,l,a9]
  |some t=>rw[hf] at l;simp at l;simp[a2,b2,l,a9]
 .refine jC ?_;simp[a1,b1,c]
def mk2(p:Int×Int):D:= V [P p.1,P p.2]
def un2:D->Int×Int
 | V [P a,P b]=>(a,b)
 |_=>(0,0)
def OP(p:Int×Int):un2 (mk2 p)=p:=rfl
def Bh(l:List (Int×Int)):ay (l.map mk2)=O:=by
 induction l with
 |nil=>rfl
 |cons a l ih=>simp[mk2] at ih⊢;exact ih
def Fu(l:List (Int×Int)):Vb (l.map mk2)=O:=by
 have h1:(l.map mk2).all (mO 1)=O:=by
  rw[Gcm,Gal];intro p _;simp[mk2,mO,tyD,jY]
 have h2:((l.map mk2).all λx=>(l.map mk2).all λy=>ur x y)=O:=by
  rw[Gcm,Gal];intro p _;simp only[GbW];rw[Gcm,Gal];intro q _;simp[mk2,ur,lJ,tyD,b6]
 unfold Vb;rw[h1,h2];simp
def Mw(h:p.1<q.1):ltC (DL.code (mk2 p)) (DL.code (mk2 q))=O:=by
 have e:¬p.1=q.1:=by lia
 simp[mk2,DL.code,b6,ltC,dO,ltI,e,h]
def vy(ms:List (Int×Int)):∃rows:List (Int×Int),bT (ms.map mk2)=rows.map mk2/\rows.Perm ms/\rows.Pairwise λa b=>a.1<=b.1:=by
 have hp:=dP (ms.map mk2);have hs:=gz (ms.map mk2);have all:∀x∈bT _,∃p,x=mk2 p:=λx hx=>by
  obtain⟨p,_,e⟩:=GaP.mp (hp.mem_iff.mp hx);exact⟨p,e.symm⟩
 have e:bT (ms.map mk2)=((bT (ms.map mk2)).map un2).map mk2:=by
  rw[GaL]
  conv=>lhs;rw[<-Gcv (bT _)]
  apply GaV;intro x hx;obtain⟨p,rfl⟩:=all x hx
  rfl
 refine⟨(bT _).map un2,e, ?_, ?_⟩
 .have:=GdY un2 hp;rw[GaL] at this;have e2:ms.map (un2∘mk2)=ms:=by
   conv=>rhs;rw[<-Gcv ms]
   exact GaV λp _=>OP p
  rwa[e2] at this
 .rw[e] at hs;unfold iF at hs;rw[GdU] at hs;refine hs.imp λ{a b} h=> ?_;by_cases c:b.1<a.1
  .rw[Mw c] at h;cases h
  ·(exact GdI.mp ‹_›)
def sm(f:Nat->Int):Nat->Int
 |0=>0
 |n+1=>sm f n+f n
theorem Bi{α:Type}(w:α->Int)(d:α)(l:List α):∀k,k<=l.length->sm (λi=>w (l[i]?.getD d)) k=((l.take k).map w).sum
 |0,_=>by simp[sm]
 |k+1,h=>by
  rw[sm,Bi w d l k (by exact GaJ ‹_›),Gef (by assumption),Gbe,List.sum_append];simp[show k<_ by assumption]
theorem Fv(SR:g<=k+1)(h1:∀i,i<g->f i=0)(h2:∀i,g<=i->i<=k->f i=a i)(h3:∀i,k<i->f i=0):∀n,sm f n=if n<=g then 0 else if n<=k+1 then sm a n -sm a g else sm a (k+1)-sm a g
 |0=>by simp[sm]
 |n+1=>by
  rw[sm,Fv SR h1 h2 h3 n];by_cases c1:n+1<=g
  .rw[Gar (by exact GaJ ‹_›),Gar c1,h1 n (by assumption)];rfl
  .rw[Gaw c1];by_cases c2:n+1<=k+1
   .rw[Gar c2,h2 n (by exact Geh ‹_›) (by exact GdS ‹_›)];by_cases c3:n<=g
    .have e:n=g:=by lia
     subst e;rw[Gar c3,sm];lia
    .rw[Gaw c3,Gar (by exact GaJ ‹_›),sm];simp+arith
   .rw[Gaw c2,h3 n (by exact Geh ‹_›)];by_cases c3:n<=g
    .have e:n=k+1:=by lia
     have e2:g=k+1:=by lia
     rw[Gar c3,e2];simp
    .rw[Gaw c3];by_cases c4:n<=k+1
     .have e:n=k+1:=by lia
      rw[Gar c4,e];simp
     .rw[Gaw c4];simp
section
variable(rows:List (Int×Int))(H:Int)
def hr(i:Nat):Int:=(rows[i]?.getD (0,0)).1
def am(i:Nat):Int:=(rows[i]?.getD (0,0)).2
def wt(H h:Int)(p:Int×Int):Int:=if h -H<p.1/\p.1<=h then p.2 else 0
def W(h:Int):Int:=(rows.map (wt H h)).sum
end
variable{rows:List (Int×Int)}{H:Int}
def sj(hs:rows.Pairwise λa b=>a.1<=b.1)(h:i<=j)(hj:j<rows.length):hr rows i<=hr rows j:=by
 unfold hr;have hi:i<rows.length:=by exact GaG ‹_› ‹_›
 simp only[Gaa hi,Gaa hj];rcases Nat.eq_or_lt_of_le h with e|e
 .subst e;exact Gcu _
 .exact Gch.mp hs i j hi hj e
def OQ(hs:rows.Pairwise λa b=>a.1<=b.1)(hk:k<rows.length)(SR:g<=k)(h1:∀i,i<g->hr rows i<=hr rows k -H)(h2:hr rows k -H<hr rows g)(h3:k+1=rows.length\/hr rows k<hr rows (k+1)):
  W rows H (hr rows k)=sm (am rows) (k+1)-sm (am rows) g:=by
 have e:=Bi (wt H (hr rows k)) (0,0) rows _ (GaN _);rw[Ged] at e;unfold W;rw[<-e];have cut:=Fv (f:=λi=>if i<rows.length then wt H (hr rows k) (rows[i]?.getD (0,0)) else 0) (a:=am rows) (g:=g) (k:=k) (by lia)
  (λi hi=>by
   rw[Gar (by lia)];unfold wt;have:=h1 i hi;unfold hr at this⊢;rw[Gaw (by lia)])
  (λi i1 i2=>by
   rw[Gar (by exact GaG ‹_› ‹_›)];unfold wt;have a1:=sj hs i1 (by exact GaG ‹_› ‹_›);have a2:=sj hs i2 hk;unfold hr at a1 a2 h2⊢;rw[Gar ⟨by lia,a2⟩];rfl)
  (λi hi=>by
   split
   .rename_i hl;have a1:=sj hs (by assumption) hl;rcases h3 with h3|h3
    .lia
    .unfold wt;unfold hr at a1 h3⊢;rw[Gaw (by lia)]
   .rfl) rows.length
 rw[Gaw (by lia)] at cut;have same:∀n,n<=rows.length->sm (λi=>if i<rows.length then wt H (hr rows k) (rows[i]?.getD (0,0)) else 0) n=sm (λi=>wt H (hr rows k) (rows[i]?.getD (0,0))) n:=by
  intro n;induction n with
  |zero=>intro _;rfl
  |succ n ih=>intro hn;rw[sm,sm,ih (by exact GaJ ‹_›),Gar (by assumption)]
 rw[<-same _ (GaN _),cut];split
 .have e2:rows.length=k+1:=by lia
  rw[e2]
 .rfl
def oC(ms:D)(H:Int)(R:List D)(F:List D)(eB eH k:Int)(row:D):DL.Env:=[U (Q ms),U (Q (P H)),U (Vw (X R)),U (Z (X F)),U (Q (P eB)),U (Q (P eH)),U (Q (P k)),U (Q row)]
def qH(hg:g<rows.length):atD (rows.map mk2) (g:Int)=U (V [P (hr rows g),P (am rows g)]):=by
 rw[bA,Gaj,Gaa hg];simp[hr,am,mk2,hg]
def Bj(e:atD R eH=U (V [P h',P a'])):dX (oC ms H R F eB eH k (V [P h,P a]))=U (decide (h' <=h -H)):=by
 unfold dX oC;simp[e]
def Iy(e:atD R eH=U (V [P h',P a'])):gJ (oC ms H R F eB eH k (V [P h,P a]))=U (.nx (oC ms H R F (eB -a') (eH+1) k (V [P h,P a]))):=by
 simp[gJ,oC,e]
def Fw{kk a:Int}(hH:1<=H)(hk:k<rows.length):∀m eH fuel (eB:Int),k -eH=m->eH<=k->m<fuel->∃g,eH<=g/\g<=k/\(∀i,eH<=i->i<g->hr rows i<=hr rows k -H)/\hr rows k -H<hr rows g/\
  iN dX gJ fuel (oC ms H (rows.map mk2) F eB eH kk (V [P (hr rows k),P a]))=U (.nx (oC ms H (rows.map mk2) F (eB -(sm (am rows) g -sm (am rows) eH)) g kk (V [P (hr rows k),P a]))):=by
 intro m;induction m with
 |zero=>
  intro eH fuel eB hm hg hf;have e:eH=k:=by lia
  subst e;obtain⟨f,rfl⟩:∃f,fuel=f+1:=⟨fuel -1,by simp_all+arith⟩
  refine⟨eH,GaN _,GaN _,λi h1 h2=>by lia,by lia, ?_⟩;unfold iN;rw[Bj (qH hk)];have c:¬hr rows eH<=hr rows eH -H:=by lia
  simp[c]
 |succ m ih=>
  intro eH fuel eB hm hg hf;obtain⟨f,rfl⟩:∃f,fuel=f+1:=⟨fuel -1,by lia⟩
  have yM:eH<rows.length:=by exact GaG ‹_› ‹_›
  unfold iN;rw[Bj (qH yM)];by_cases c:hr rows eH<=hr rows k -H
  .obtain⟨g,q1,q2,q3,q4,q5⟩:=ih (eH+1) f _ (by lia) (by lia) (by simp_all);refine⟨g,by exact GaJ ‹_›,q2,λi h1 h2=> ?_,q4, ?_⟩
   .rcases Nat.eq_or_lt_of_le h1 with e|e
    .subst e;exact c
    .exact q3 i e h2
   .simp only[c,decide_true,Option.bind_some,Gdm];rw[Iy (qH yM)];simp only[Option.bind_some];have e1:((eH)+1)=((eH+1:Nat):Int):=by rfl
    rw[e1,q5,sm];have e2:eB -am rows eH -(sm (am rows) g -(sm (am rows) eH+am rows eH))=eB -(sm (am rows) g -sm (am rows) eH):=by simp+arith
    rw[e2]
  .refine⟨eH,GaN _,hg,λi h1 h2=>by lia,by simp_all, ?_⟩;simp[c]
def fE(rows:List (Int×Int))(j:Nat):Bool:=decide (j+1=rows.length)||decide (hr rows j<hr rows (j+1))
def fnd(rows:List (Int×Int))(H:Int)(m:Nat):List (Int×Int):=((List.range m).filter (fE rows)).map λj=>(hr rows j,W rows H (hr rows j))
def vz:fnd rows H (m+1)=fnd rows H m++(if fE rows m then[(hr rows m,W rows H (hr rows m))] else[]):=by
 unfold fnd;rw[List.range_succ];cases h:fE rows m<;>simp[h]
def Bk:(fnd rows H m).length<=m:=by
 unfold fnd;rw[Gah];exact Gak (Gbo _ _) (by simp)
def Iz{R F:List D}{kk a:Int}{last:Bool}(hw:iN dX gJ 100000 (oC ms H R F (eB+a) eH kk (V [P h,P a]))=U (.nx (oC ms H R F total' g' kk (V [P h,P a]))))(hz:F.length<1000)(hn:(R.length:Int)=n)
  (hc:(kk+1=n/\last=O)\/(kk+1≠n/\∃h2 a2,atD R (kk+1)=U (V [P h2,P a2])/\last=decide (h<h2))):
  cS (oC ms H R F eB eH kk (V [P h,P a]))=U (.nx (oC ms H R (if last then F++[V [P h,P total']] else F) total' g' kk (V [P h,P a]))):=by
 have z:F.length<16777216:=by exact Gak ‹_› (by simp)
 unfold oC at*;unfold cS pM;rcases hc with⟨c,rfl⟩| ⟨c,h2,a2,e,rfl⟩
 .simp[hw,hn,c,a9,z]
 .by_cases c2:h<h2
  .simp[hw,e,c2,a9,z]
  .simp[hw,hn,c,e,c2]
def Fx(hH:1<=H)(hs:rows.Pairwise λa b=>a.1<=b.1)(hl:rows.length<64):∃y4 y5 y6 y7,UX (gT [6,7]) cS (dU 0 (rows.map mk2)) [U (Q ms),U (Q (P H)),U (Vw (X (rows.map mk2))),U (Z (X [])),U (Q (P 0)),U (Q (P 0)),J,J]=
  U (.nx [U (Q ms),U (Q (P H)),U (Vw (X (rows.map mk2))),U (Z (X ((fnd rows H rows.length).map mk2))),y4,y5,y6,y7]):=by
 obtain⟨e,h1,eH,eB,y6,y7,h2,h3,h4,rfl⟩:=cU (g:=gT [6,7]) (λm env=>∃(eH:Nat) (eB:Int) (y6 y7:Os),eH<=m/\eB=sm (am rows) m -sm (am rows) eH/\(∀i,i<eH->∀j,m<=j+1->j<_->hr rows i<=hr rows j -H)/\
   env=[U _,U (Q _),U (Vw (X _)),U (Z (X ((fnd rows H m).map mk2))),U (Q (P eB)),U (Q (P eH)),y6,y7]) (dU 0 (rows.map mk2)) 0
  [U _,U (Q _),U (Vw (X _)),U _,U _,U _,J,J] ⟨0,0,J,J,GaN _,by simp,λi hi=>by simp_all,rfl⟩ (by
   rintro k d e hd ⟨eH,eB,y6,y7,h2,h3,h4,rfl⟩;rw[kX,Gaj] at hd;cases hk:rows[k]? with
   |none=>rw[hk] at hd;cases hd
   |some p=>
    rw[hk] at hd;have hkl:k<_:=(Gae.mp hk).1;simp only[Gcj,Gdh] at hd;subst hd;rw[Gcw] at h2 h3 h4⊢;have ep:mk2 p= V [P (hr rows k),P (am rows k)]:=by
     unfold mk2 hr am;rw[hk]
     rfl
    obtain⟨g,q1,q2,q3,q4,q5⟩:=Fw (rows:=rows) (ms:=ms) (F:=(fnd rows H k).map mk2) (kk:=(k)) (a:=am rows k) hH hkl _ eH 100000 _ rfl h2 (by lia);have allg:∀i,i<g->hr rows i<=hr rows k -H:=λi hi=>by
     by_cases c:i<eH
     .exact h4 i c k (by simp) hkl
     .exact q3 i (by simp_all) hi
    have tot:eB+am rows k -(sm (am rows) g -sm (am rows) eH)=sm (am rows) (k+1)-sm (am rows) g:=by
     rw[h3,sm];simp+arith
    rw[tot] at q5;have eP:((rows.map mk2).length:Int)=(rows.length:Int):=by simp
    have ev:=Iz (last:=fE rows k) q5 (GaG (by rw[Gah];exact Bk) (by lia)) eP (by
     by_cases c:k+1=rows.length
     .exact .inl ⟨by lia,by unfold fE;simp[c]⟩
     .refine .inr ⟨by lia,hr rows (k+1),am rows (k+1), ?_,by unfold fE;simp[c]⟩;have:=qH (rows:=rows) (g:=k+1) (by lia);exact this)
    refine⟨_,_, ?_,ev,g,_,U (Q (P (k:Int))),U (Q (V [P (hr rows k),P (am rows k)])),by lia,rfl,λi hi j hj zP=> ?_, ?_⟩
    .rw[ep]
     rfl
    .have:=allg i hi;have:=sj hs (i:=k) (j:=j) (by exact GdS ‹_›) zP;lia
    .rw[vz];unfold oC;cases hL:fE rows k with
     |false=>simp
     |true=>
      have hw:=OQ (H:=H) hs hkl q2 allg q4 (by
       unfold fE at hL;rw[Gbd] at hL;exact hL.imp Gay Gay)
      simp[mk2,hw])
 rw[kW,Gah,Gcw] at h1;exact⟨_,_,_,_,h1⟩
def mG{ms:List (Int×Int)}(hl:ms.length<64):UZ [X (ms.map mk2)]=U ⟨.tn,X (bT (ms.map mk2))⟩:=by
 simp only[UZ,one,jR,Option.bind_some];rw[Fu,GaI (by simp_all)]
 rfl
def Fy(es:UZ [X UT]=U ⟨.tn,X R⟩)(h1:UX (gT [6,7]) cS (dU 0 R) [U (Q (X UT)),U (Q (P H)),U (Vw (X R)),U (Z (X [])),U (Q (P 0)),U (Q (P 0)),J,J]=
  U (.nx [U (Q (X UT)),U (Q (P H)),U (Vw (X R)),U (Z (X F)),y4,y5,y6,y7]))(im:ay F=O):kB [X UT,P H]=U (X F):=by
 simp[kB,tW,es,h1,im]
theorem lS:∀(a b:List Int),a.Pairwise (λx y=>x<y)->b.Pairwise (λx y=>x<y)->(∀x,x∈a↔x∈b)->a=b
 |[],[],_,_,_=>rfl
 |[],y::b,_,_,h=>absurd ((h y).mpr Gai) (by simp)
 |x::a,[],_,_,h=>absurd ((h x).mp Gai) (by simp)
 |x::a,y::b,ha,hb,h=>by
  have zV :=GbG.mp ha;have yn :=GbG.mp hb;have exy:x=y:=by
   rcases Gaq.mp ((h x).mp Gai) with e|e
   .exact e
   .rcases Gaq.mp ((h y).mpr Gai) with e2|e2
    .exact e2.symm
    .have h3:=yn.1 x e;have h4:=zV.1 y e2;lia
  subst exy;congr 1;refine lS a b zV.2 yn.2 λz=> ⟨λhz=> ?_,λhz=> ?_⟩
  .rcases Gaq.mp ((h z).mp (Gaf _ hz)) with e|e
   .have:=zV.1 z hz;simp_all+arith
   .exact e
  .rcases Gaq.mp ((h z).mpr (Gaf _ hz)) with e|e
   .have:=yn.1 z hz;simp_all+arith
   .exact e
theorem Fz:∀(ns ks:List Int) (x:Int),x∈ns.foldl dd1 ks↔x∈ks\/x∈ns
 |[],ks,x=>by simp
 |n::ns,ks,x=>by
  rw[Gcl,Fz ns _ x];unfold dd1;split
  .rename_i c;constructor
   .rintro(h|h)
    .exact .inl h
    .simp_all
   .rintro(h|h)
    .exact .inl h
    .rcases Gaq.mp h with rfl|h
     .exact .inl c
     .exact .inr h
  .simp only[GaQ,Gaq,Gej,or_false];constructor
   .rintro((h|h)|h)
    .exact .inl h
    .exact .inr (.inl h)
    .exact .inr (.inr h)
   .rintro(h|h|h)
    .exact .inl (.inl h)
    .exact .inl (.inr h)
    .exact .inr h
theorem vA:∀(ns ks:List Int),ks.Nodup->(ns.foldl dd1 ks).Nodup
 |[],ks,h=>h
 |n::ns,ks,h=>by
  refine vA ns _ ?_;unfold dd1;split
  .exact h
  .rename_i c;rw[GdT];refine⟨h,by simp,λa ha b hb=> ?_⟩;rw[Gam] at hb;subst hb
   exactλe=>c (e▸ha)
theorem FA:∀(ns ks:List Int),(ns.foldl dd1 ks).length<=ks.length+ns.length
 |[],ks=>by simp
 |n::ns,ks=>by
  rw[Gcl];have h:=FA ns (dd1 ks n);have h2:(dd1 ks n).length<=ks.length+1:=by unfold dd1;split<;>simp
  grind
def vB(h:a<b):ltC (DL.code (P a)) (DL.code (P b))=O:=by
 have e:¬a=b:=by lia
 simp[DL.code,b6,ltC,dO,ltI,e,h]
def CE(l:List Int):∃s:List Int,s.Perm l/\s.Pairwise (λa b=>a<=b)/\bT (l.map P)=s.map P:=by
 have hp:=dP (l.map P);have hs:=gz (l.map P);have all:∀{ds:List D},(∀d∈ds,∃i:Int,d= P i)->∃s:List Int,ds=s.map P:=by
  intro ds;induction ds with
  |nil=>exactλ_=> ⟨[],rfl⟩
  |cons d ds ih=>
   intro h;obtain⟨i,rfl⟩:=h d Gai;obtain⟨s,rfl⟩:=ih λx hx=>h x (Gaf _ hx);exact⟨i::s,rfl⟩
 obtain⟨s,e⟩:=all λd hd=>by
  obtain⟨i,_,rfl⟩:=GaP.mp (hp.mem_iff.mp hd);exact⟨i,rfl⟩
 rw[e] at hp hs;refine⟨s, ?_, ?_,e⟩
 .have un:∀x:List Int,(x.map P).map (λd=>match d with| P i=>i|_=>0)=x:=by
   intro x;rw[GaL];exact(GaV λ_ _=>rfl).trans (Gcv x)
  have:=GdY (λd=>match d with|P i=>i|_=>0) hp
  rwa[un,un] at this
 .unfold iF at hs;rw[GdU] at hs;refine hs.imp λ{a b} h=> ?_;by_cases c:b<a
  .rw[vB c] at h;cases h
  .simp_all
def FC(ns:List Int):∃S:List Int,bT ((ddF ns).map P)=S.map P/\S.Pairwise (λa b=>a<b)/\(∀x,x∈S↔x∈ns)/\S.length<=ns.length:=by
 obtain⟨s,h1,h2,h3⟩:=CE _;refine⟨s,h3, ?_,(λx=>by rw[h1.mem_iff];unfold ddF;rw[Fz];simp), ?_⟩
 .have:=h2.and (h1.nodup_iff.mpr (vA ns [] GeB));exact this.imp λ{a b} h=>by
   lia
 .rw[h1.length_eq];have:=FA ns []
  simpa[ddF] using this
def IB(ms:List (Int×Int))(H:Int)(S:List Int):List (Int×Int):=S.map λh=>(h,W ms H h)
def FD{l l' :List Int}(h:l.Perm l'):l.sum=l'.sum:=by
 induction h with
 |nil=>rfl
 |cons x _ ih=>simp[ih]
 |swap x y l=>simp;simp+arith
 |trans _ _ h1 h2=>exact h1.trans h2
def Mx(hp:rows.Perm ms)(h:Int):W rows H h=W ms H h:=by
 exact FD (GdY _ hp)
theorem qI(hs:rows.Pairwise λa b=>a.1<=b.1):∀m i,rows.length -i=m->i<rows.length->∃j,j<rows.length/\hr rows j=hr rows i/\fE rows j=O
 |0,i,hm,hi=>by lia
 |m+1,i,hm,hi=>by
  by_cases c:i+1=rows.length
  .exact⟨i,hi,rfl,by unfold fE;simp[c]⟩
  .by_cases c2:hr rows i<hr rows (i+1)
   .exact⟨i,hi,rfl,by unfold fE;simp[c2]⟩
   .obtain⟨j,h1,h2,h3⟩:=qI hs m (i+1) (by lia) (by lia);have:=sj hs (i:=i) (j:=i+1) (by simp) (by lia);exact⟨j,h1,by rw[h2];lia,h3⟩
def IC{ms:List (Int×Int)}{S:List Int}(hs:rows.Pairwise λa b=>a.1<=b.1)(hp:rows.Perm ms)(hS:S.Pairwise λa b=>a<b)(hm:∀x,x∈S↔x∈ms.map (·.1)):fnd rows H rows.length=IB ms H S:=by
 have eT:((List.range rows.length).filter (fE rows)).map (hr rows)=S:=by
  refine lS _ _ ?_ hS λx=> ?_
  .rw[GdU];refine(List.Pairwise.and_mem.mp (List.Pairwise.filter _ List.pairwise_lt_range)).imp λ{i j} h=> ?_;obtain⟨hi,hj,zf⟩:=h;obtain⟨i1,i2⟩:=GbQ.mp hi;obtain⟨j1,_⟩:=GbQ.mp hj;have jl:=Gcc.mp j1;unfold fE at i2;rw[Gbd] at i2;rcases i2 with i2|i2
   .lia
   .have a2:=sj hs (by assumption) jl;lia
  .rw[hm,GaP,GaP];constructor
   .rintro⟨j,hj,rfl⟩;have jl:=Gcc.mp (GbQ.mp hj).1;exact⟨rows[j],hp.mem_iff.mp (Gap _),by unfold hr;simp[jl]⟩
   .rintro⟨p,RN,rfl⟩;obtain⟨i,hi,rfl⟩:=Gew (hp.mem_iff.mpr RN);obtain⟨j,h1,h2,h3⟩:=qI hs _ i rfl hi;refine⟨j,GbQ.mpr ⟨Gcc.mpr h1,h3⟩, ?_⟩;rw[h2];simp[hr,hi]
 unfold fnd IB;rw[<-eT,GaL];exact GaV λj _=>by simp only[Function.comp];rw[Mx hp]
open EV in
def FE{R F:List D}{kk a:Int}{last:Bool}(hz:F.length<1000)(hn:(R.length:Int)=n)
  (hc:(kk+1=n/\last=O)\/(kk+1≠n/\∃h2 a2,atD R (kk+1)=U (V [P h2,P a2])/\last=decide (h<h2))):
  cS [U (Q ms),U (Q N),U (Vw (X R)),U (Z (X F)),U (Q (P eB)),U (Q (P 0)),U (Q (P kk)),U (Q (V [P h,P a]))]=
   U (.nx [U (Q ms),U (Q N),U (Vw (X R)),U (Z (X (if last then F++[V [P h,P (eB+a)]] else F))),U (Q (P (eB+a))),U (Q (P 0)),U (Q (P kk)),U (Q (V [P h,P a]))]):=by
 have z:F.length<16777216:=by exact Gak ‹_› (by simp)
 have hw:iN dX gJ 100000 [U (Q ms),U (Q N),U (Vw (X R)),U (Z (X F)),U (Q (P (eB+a))),U (Q (P 0)),U (Q (P kk)),U (Q (V [P h,P a]))]=U (.nx [U (Q ms),U (Q N),U (Vw (X R)),U (Z (X F)),U (Q (P (eB+a))),U (Q (P 0)),U (Q (P kk)),U (Q (V [P h,P a]))]):=by
  have t:dX [U (Q ms),U (Q N),U (Vw (X R)),U (Z (X F)),U (Q (P (eB+a))),U (Q (P 0)),U (Q (P kk)),U (Q (V [P h,P a]))]=U M:=by
   simp[dX]
  unfold iN;rw[t];simp
 unfold cS pM;rcases hc with⟨c,rfl⟩| ⟨c,h2,a2,e,rfl⟩
 .simp[hw,hn,c,a9,z]
 .by_cases c2:h<h2
  .simp[hw,hn,c,e,c2,a9,z]
  .simp[hw,hn,c,e,c2]
open EV in
def CF(hH:∀p∈rows,∀q∈rows,q.1 -H<p.1)(hs:rows.Pairwise λa b=>a.1<=b.1)(hl:rows.length<64):∃y4 y5 y6 y7,UX (gT [6,7]) cS (dU 0 (rows.map mk2)) [U (Q ms),U (Q N),U (Vw (X (rows.map mk2))),U (Z (X [])),U (Q (P 0)),U (Q (P 0)),J,J]=
  U (.nx [U (Q ms),U (Q N),U (Vw (X (rows.map mk2))),U (Z (X ((fnd rows H rows.length).map mk2))),y4,y5,y6,y7]):=by
 obtain⟨e,h1,eB,y6,y7,h3,rfl⟩:=cU (g:=gT [6,7]) (λm env=>∃(eB:Int) (y6 y7:Os),eB=sm _ m/\
   env=[U _,U _,U (Vw (X _)),U (Z (X ((fnd rows H m).map mk2))),U (Q (P eB)),U (Q _),y6,y7]) (dU 0 (rows.map mk2)) 0
  [U _,U _,U (Vw (X _)),U _,U _,U (Q _),J,J] ⟨0,J,J,by simp[sm],rfl⟩ (by
   rintro k d e hd ⟨eB,y6,y7,h3,rfl⟩;rw[kX,Gaj] at hd;cases hk:rows[k]? with
   |none=>rw[hk] at hd;cases hd
   |some p=>
    rw[hk] at hd;have hkl:=(Gae.mp hk).1;simp only[Gcj,Gdh] at hd;subst hd;rw[Gcw] at h3⊢;have ep:mk2 p= V [P (hr rows k),P (am rows k)]:=by
     unfold mk2 hr am;rw[hk]
     rfl
    have eP:((rows.map mk2).length)=(rows.length:Int):=by simp
    have ev:=FE (ms:=ms) (F:=(fnd rows H k).map mk2) (eB:=eB) (kk:=(k)) (h:=hr rows k) (a:=am rows k) (last:=fE rows k) (GaG (by rw[Gah];exact Bk) (by lia)) eP (by
     by_cases c:k+1=rows.length
     .exact .inl ⟨by lia,by unfold fE;simp[c]⟩
     .refine .inr ⟨by lia,hr rows (k+1),am rows (k+1), ?_,by unfold fE;simp[c]⟩;have:=qH (rows:=rows) (g:=k+1) (by lia);exact this)
    refine⟨_,_, ?_,ev,eB+am rows k,U (Q (P (k))),U (Q (V [P (hr rows k),P (am rows k)])),by rw[h3];rfl, ?_⟩
    .rw[ep]
     rfl
    .rw[vz];cases hL:fE rows k with
     |false=>simp
     |true=>
      have hr_in:∀i,i<rows.length->∃p∈rows,p.1=hr rows i:=λi hi=> ⟨rows[i],Gap _,by unfold hr;simp[hi]⟩;have hw:=OQ (H:=H) hs hkl (Gbm k) (λi hi=>by simp_all) (by
       obtain⟨p,hp,e1⟩:=hr_in 0 (by exact GeH ‹_›);obtain⟨q,hq,e2⟩:=hr_in k hkl;have:=hH p hp q hq;simp_all) (by
       unfold fE at hL;rw[Gbd] at hL;exact hL.imp Gay Gay)
      have tot:eB+am rows k=W rows H (hr rows k):=by
       rw[hw,h3];simp[sm]
      simp[mk2,tot])
 rw[kW,Gah,Gcw] at h1;exact⟨_,_,_,_,h1⟩
open EV in
def CG(es:UZ [X UT]=U ⟨.tn,X R⟩)(h1:UX (gT [6,7]) cS (dU 0 R) [U (Q (X UT)),U (Q N),U (Vw (X R)),U (Z (X [])),U (Q (P 0)),U (Q (P 0)),J,J]=
  U (.nx [U (Q (X UT)),U (Q N),U (Vw (X R)),U (Z (X F)),y4,y5,y6,y7]))(im:ay F=O):kB [X UT,N]=U (X F):=by
 simp[kB,tW,es,h1,im]
def HD(hd:D)(H:Int)(ms:List (Int×Int)):Prop:=(hd= P H/\1<=H)\/(hd= N/\∀p∈ms,∀q∈ms,q.1 -H<p.1)
def HD.perm{ms:List (Int×Int)}(h:HD hd H ms)(hp:ms.Perm zu):HD hd H zu :=by
 rcases h with h| ⟨h1,h2⟩
 .exact .inl h
 .exact .inr ⟨h1,λp RN q hq=>h2 p (hp.mem_iff.mpr RN) q (hp.mem_iff.mpr hq)⟩
def qJ{ms zu :List (Int×Int)}{S:List Int}(h:HD hd H ms)(hp:zu.Perm ms)(hl:ms.length<64)(hS:S.Pairwise λa b=>a<b)(hm:∀x,x∈S↔x∈ms.map (·.1)):kB [X (zu.map mk2),hd]=U (X ((IB ms H S).map mk2)):=by
 obtain⟨rows,e,xq,hs⟩:=vy zu;have yD:rows.Perm ms:=xq.trans hp;have zb:rows.length<64:=by rw[yD.length_eq];exact hl
 have es:=mG (ms:=zu) (by rw[hp.length_eq];exact hl);rw[e] at es;rw[<-IC hs yD hS hm];rcases h.perm yD.symm with⟨rfl,hH⟩| ⟨rfl,hH⟩
 .obtain⟨y4,y5,y6,y7,h⟩:=Fx (rows:=rows) (ms:= X _) hH hs zb;exact Fy es h (Bh _)
 .obtain⟨y4,y5,y6,y7,h⟩:=CF (rows:=rows) (ms:= X _) hH hs zb;exact CG es h (Bh _)
def gpF(os:List Va)(gs:List Tr)(r l:Int×Int):List Flt:=match os[r.2.toNat]?,os[l.2.toNat]? with
 |some a,U b=>if l.1 -r.1<rg gs a b then[("gap",[r.2,r.1,l.2,l.1])] else[]
 |_,_=>[]
def jL(os:List Va)(gs:List Tr)(w:Int)(r:Int×Int):List (Int×Int)->List Flt
 |[]=>[]
 |l::ls=>if l.1 -r.1>=w then[] else gpF os gs r l++jL os gs w r ls
def de(os:List Va)(gs:List Tr)(w:Int):List (Int×Int)->List Flt
 |[]=>[]
 |r::rs=>jL os gs w r rs++de os gs w rs
def Bl(os:List Va)(gs:List Tr)(r l:Int×Int):(gpF os gs r l).length<=1:=by
 unfold gpF;split
 .split<;>simp
 .simp
theorem oE(os:List Va)(gs:List Tr)(w:Int)(r:Int×Int):∀ls,(jL os gs w r ls).length<=ls.length
 |[]=>by simp[jL]
 |l::ls=>by
  unfold jL;have h1:=oE os gs w r ls;have h2:=Bl os gs r l;split
  .simp
  .simp;lia
open EV in
def My(c:l1 -r1>=w):
  bC [U (Q wd),U (Q (V G)),U (Z (Vx kv)),U (Q (P w)),U (Vw (X R)),U (Z (X F)),U (Q (P k)),U (Q (V [P r1,P r2])),U (Q (V [P l1,P l2])),x9]=
   U (.bk [U (Q wd),U (Q (V G)),U (Z (Vx kv)),U (Q (P w)),U (Vw (X R)),U (Z (X F)),U (Q (P k)),U (Q (V [P r1,P r2])),U (Q (V [P l1,P l2])),U (Q (P (l1 -r1)))]):=by
 simp[bC,c]
open EV in
def Mz{F:List D}(c:¬l1 -r1>=w)(h1:atD US r2=U o1)(h2:atD US l2=U o2)(eb:iZ [Vx kv,o1,o2]=U (P gb))(hz:F.length<100000):
  bC [U (Q (V [V A,V B,V C,V US])),U (Q (V G)),U (Z (Vx kv)),U (Q (P w)),U (Vw (X R)),U (Z (X F)),U (Q (P k)),U (Q (V [P r1,P r2])),U (Q (V [P l1,P l2])),x9]=
   U (.nx [U (Q (V [V A,V B,V C,V US])),U (Q (V G)),U (Z (Vx kv)),U (Q (P w)),U (Vw (X R)),U (Z (X (F++(if l1 -r1<gb then[V [Y "gap",P r2,P r1,P l2,P l1]] else[])))),U (Q (P k)),U (Q (V [P r1,P r2])),U (Q (V [P l1,P l2])),U (Q (P (l1 -r1)))]):=by
 have z:F.length<16777216:=by exact Gak ‹_› (by simp)
 refine(aa (e:=[U (Q (V [V A,V B,V C,V US])),U (Q (V G)),U (Z (Vx kv)),U (Q (P w)),U (Vw (X R)),U (Z (X F)),U (Q (P k)),U (Q (V [P r1,P r2])),U (Q (V [P l1,P l2])),U (Q (P (l1 -r1)))]) rfl).trans ((aa (e:=[U (Q (V [V A,V B,V C,V US])),U (Q (V G)),U (Z (Vx kv)),U (Q (P w)),U (Vw (X R)),U (Z (X F)),U (Q (P k)),U (Q (V [P r1,P r2])),U (Q (V [P l1,P l2])),U (Q (P (l1 -r1)))]) (by simp_all)).trans ?_);by_cases q:l1 -r1<gb
 .simp[q,h1,h2,eb,z,a9]
 .simp[q,h1,h2,eb]
theorem qK{w:World}{r:Int×Int}(SI:0<=r.2)(RK:r.2<w.UU.length):∀(ls:List (Int×Int)) (fs:List Flt) (x8 x9:Os),(∀l∈ls,0<=l.2/\l.2<w.UU.length)->fs.length+ls.length<100000->∃y8 y9,
  UX (gN 8) bC (ls.map mk2) [U (Q (V [V A,V B,V C,V (w.UU.map ah)])),U (Q (V G)),U (Z (Vx (kvT gs))),U (Q (P wid)),U (Vw (X R)),U (Z (X (fs.map aK))),U (Q (P k)),U (Q (mk2 r)),x8,x9]=
   U (.nx [U (Q (V [V A,V B,V C,V (w.UU.map ah)])),U (Q (V G)),U (Z (Vx (kvT gs))),U (Q (P wid)),U (Vw (X R)),U (Z (X ((fs++jL w.UU gs wid r ls).map aK))),U (Q (P k)),U (Q (mk2 r)),y8,y9])
 |[],fs,x8,x9,_,_=> ⟨x8,x9,by simp[jL]⟩
 |l::ls,fs,x8,x9,hl,hz=>by
  rw[GaC] at hz;by_cases c:l.1 -r.1>=wid
  .have ev:=My (wd:= V [V A,V B,V C,V (w.UU.map ah)]) (G:=G) (R:=R) (F:=fs.map aK) (kv:=kvT gs) (w:=wid) (k:=k) (r1:=_) (r2:=r.2) (l1:=_) (l2:=l.2) (x9:=x9) c;refine⟨U (Q (mk2 l)),U (Q (P (l.1 -r.1))), ?_⟩;unfold jL;rw[Gar c,GbE,Gav];have e1:V [P _,P r.2]=mk2 r:=rfl;have e2:V [P _,P l.2]=mk2 l:=rfl;rw[e1,e2] at ev;generalize mk2 l=ld at*;simp only[UX,gN,GaT,GaU,Option.bind_some,ev]
  .obtain⟨n,hn⟩:=GaK SI;obtain⟨m,hm⟩:=GaK (hl l Gai).1;have xh :n<w.UU.length:=by simp_all
   have hm' :m<w.UU.length:=by simp_all
   have h1:atD (w.UU.map ah) r.2=U (ah w.UU[n]):=by rw[hn,bA,Gaj,Gaa xh];rfl
   have h2:atD (w.UU.map ah) l.2=U (ah w.UU[m]):=by rw[hm,bA,Gaj,Gaa hm'];rfl
   have ev:=Mz (A:=A) (B:=B) (C:=C) (G:=G) (R:=R) (F:=fs.map aK) (k:=k) (x9:=x9) c h1 h2 (oB (gs:=gs) (a:=w.UU[n]) (b:=w.UU[m])) (by rw[Gah];lia);have eg:(if l.1 -r.1<rg gs w.UU[n] w.UU[m] then[V [Y "gap",P r.2,P r.1,P l.2,P l.1]] else[])=(gpF w.UU gs r l).map aK:=by
    unfold gpF;rw[hn,hm,Gbb,Gbb,Gaa xh,Gaa hm'];dsimp only;split<;>rfl
   rw[eg,<-Gbe] at ev;have g1:=Bl w.UU gs r l;obtain⟨y8,y9,e⟩:=qK (A:=A) (B:=B) (C:=C) (G:=G) (R:=R) (gs:=gs) (wid:=wid) (k:=k) SI RK ls (fs++gpF w.UU gs r l) (U (Q (mk2 l))) (U (Q (P (l.1 -r.1)))) (λx hx=>hl x (Gaf _ hx)) (by rw[GaF];lia);refine⟨y8,y9, ?_⟩
   conv=>rhs;unfold jL
   rw[Gaw c,Gav,<-Gaz];have e1:V [P r.1,P r.2]=mk2 r:=rfl;have e2:V [P l.1,P l.2]=mk2 l:=rfl;rw[e1,e2] at ev;generalize mk2 l=ld at*;simp only[UX,gN,GaT,GaU,Option.bind_some,ev];exact e
open EV in
def ID(hs:slD (U (k+1)) J (X R)=U ⟨.tn,X L⟩)(h:UX (gN 8) bC L [e0,e1,e2,e3,U (Vw (X R)),e5,U (Q (P k)),e7,x8,x9]=U (.nx e')):
  bN [e0,e1,e2,e3,U (Vw (X R)),e5,U (Q (P k)),e7,x8,x9]=U (.nx e'):=by
 simp[bN,hs,h]
def FF(R:List D)(j:Nat):slD (U ((j:Int)+1)) J (X R)=U ⟨.tn,X (R.drop (j+1))⟩:=by
 show U _=_;have e:sIx R.length 0 (U ((j)+1))=min (j+1) R.length:=by
  show(if(j)+1<0 then((j)+1+(R.length:Int)).toNat else min ((j:Int)+1).toNat _)=_;rw[Gaw (by lia)];congr 1
 unfold cutD;have e2:sIx R.length _ J=R.length:=rfl;rw[e,e2];congr 3;rw[GbM (by simp)];by_cases c:j+1<=R.length
 .rw[Gda c]
 .rw[Nat.min_eq_right (by lia),GbS,List.drop_of_length_le (by lia)]
theorem pf{w:World}{rows:List (Int×Int)}(hr:∀l∈rows,0<=l.2/\l.2<w.UU.length)(hn:rows.length<64):∀m j fs x6 x7 x8 x9,rows.length -j=m->fs.length<=64*j->∃y6 y7 y8 y9,
  UX (gT [6,7]) bN (dU j ((rows.drop j).map mk2)) [U (Q (V [V A,V B,V C,V (w.UU.map ah)])),U (Q (V G)),U (Z (Vx (kvT gs))),U (Q (P wid)),U (Vw (X (rows.map mk2))),U (Z (X (fs.map aK))),x6,x7,x8,x9]=
   U (.nx [U (Q (V [V A,V B,V C,V (w.UU.map ah)])),U (Q (V G)),U (Z (Vx (kvT gs))),U (Q (P wid)),U (Vw (X (rows.map mk2))),U (Z (X ((fs++de w.UU gs wid (rows.drop j)).map aK))),y6,y7,y8,y9])
 |0,j,fs,x6,x7,x8,x9,hm,hf=>by
  rw[List.drop_of_length_le (by lia)];exact⟨x6,x7,x8,x9,by simp[de]⟩
 |m+1,j,fs,x6,x7,x8,x9,hm,hf=>by
  have hj:j<rows.length:=by lia
  have r0:=hr rows[j] (Gap hj);obtain⟨y8,y9,e⟩:=qK (w:=w) (gs:=gs) (wid:=wid) (k:=_) (A:=A) (B:=B) (C:=C) (G:=G) (R:=rows.map mk2) (r:=rows[j]) r0.1 r0.2 (rows.drop (j+1)) fs x8 x9 (λl hl=>hr l (GbH hl)) (by rw[Geb];lia);have lz:=oE w.UU gs wid rows[j] (rows.drop (j+1));rw[Geb] at lz;obtain⟨z6,z7,z8,z9,e2⟩:=pf (w:=w) (gs:=gs) (wid:=wid) (A:=A) (B:=B) (C:=C) (G:=G) (rows:=rows) hr hn m (j+1) (fs++jL w.UU gs wid rows[j] (rows.drop (j+1))) (U (Q (P (j)))) (U (Q (mk2 rows[j]))) y8 y9 (by lia) (by rw[GaF];lia);refine⟨z6,z7,z8,z9, ?_⟩;have ev:=ID (FF (rows.map mk2) j) ((by rw[<-List.map_drop];exact e):UX (gN 8) bC ((rows.map mk2).drop (j+1)) _=_);rw[(Gbz hj),Gav]
  conv=>rhs;unfold de
  rw[<-Gaz];show UX (gT [6,7]) bN (V [P (j:Int),mk2 rows[j]]::dU (j+1) ((rows.drop (j+1)).map mk2)) _=_;generalize rows[j]=rj at*;generalize (j:Int)=ji at*;generalize mk2 rj=rd at*;simp only[UX,gT,gNs,GaT,GaU,Option.bind_some,ev];exact e2
def wide(bs:List Tr):Int:=match bs.map (·.2.2) with
 |[]=>0
 |n::ns=>lU n ns
open EV in
def IE{C G:List D}(hg:fP [V C]=U (Vx kv))(zc:C.length<1000)(hw:bz (gN 0) dS (Vd (vE 0) (kE (P 2))) C [J]=U B')(hm:mmD lU (P 0) (X B')=U ⟨.c,P wid⟩)(zg:G.length<1000)(hc:bz (gN 0) dS (cX (ae (Vd (vE 0) (kE (P 1))) (ae (Vd (vE 0) (kE (P 0))) aL))) G [J]=U R)(hs:UZ [X R]=U ⟨.tn,X R'⟩)
  (hl:UX (gT [6,7]) bN (dU 0 R') [U (Q (V [V A,V B,V C,V US])),U (Q (V G)),U (Z (Vx kv)),U (Q (P wid)),U (Vw (X R')),U (Z (X [])),J,J,J,J]=U (.nx [U (Q (V [V A,V B,V C,V US])),U (Q (V G)),U (Z (Vx kv)),U (Q (P wid)),U (Vw (X R')),U (Z (X F)),y6,y7,y8,y9]))(im:ay F=O):
  gC [V [V A,V B,V C,V US],V G]=U (X F):=by
 have z1:C.length<=16777216:=by exact Gak (GaJ ‹_›) (by simp)
 have z2:G.length<=16777216:=by exact Gak (GaJ ‹_›) (by simp)
 have rk:dZ (Vx kv)=⟨.tn,Vx kv⟩:=rfl;refine aD rfl ((aa (by simp[hg];rfl)).trans ((aa (by simp[a9,DL.UY,hw,hm,z1];rfl)).trans ((aa (by simp[a9,DL.UY,hc,hs,z2];rfl)).trans ((aa (by simp;rfl)).trans ((aa (by simp[hl];rfl)).trans ?_)))));simp[im]
def gvR(gv:List Tr):List (Int×Int):=gv.map λt=>(t.2.1,t.1)
open EV in
def OR{w:World}{gv:List Tr}(W:aB w)(hg:cx w.UU.length gv)(hl:gv.length<64):∃rows,bT ((gvR gv).map mk2)=rows.map mk2/\rows.Perm (gvR gv)/\(rows.Pairwise λa b=>a.1<=b.1)/\gC [aj w,V (gv.map Vc)]=U (X ((de w.UU (w.df.foldl aY []) (wide w.df) rows).map aK)):=by
 obtain⟨rows,r1,r2,r3⟩:=vy _;refine⟨rows,r1,r2,r3, ?_⟩;have lr:rows.length=gv.length:=by rw[r2.length_eq];simp[gvR]
 have hr:∀l∈rows,0<=l.2/\l.2<_:=λl hl=>by
  obtain⟨t,ht,rfl⟩:=GaP.mp (r2.mem_iff.mp hl);exact hg t ht
 have b12:=W.b12;have hw:=fQ (g:=gN 0) (f:=Vd (vE 0) (kE (P 2))) Vc (λenv=>∃y,env=[y]) (λt=>P t.2.2) w.df [J] ⟨J,rfl⟩ (by
  rintro t ht env ⟨y,rfl⟩;exact⟨_,rfl,⟨_,rfl⟩,.c,by simp[Vc],rfl⟩)
 have hc:=fQ (g:=gN 0) (f:=cX (ae (Vd (vE 0) (kE (P 1))) (ae (Vd (vE 0) (kE (P 0))) aL))) Vc (λenv=>∃y,env=[y]) (λt=>mk2 (t.2.1,t.1)) gv [J] ⟨J,rfl⟩ (by
  rintro t ht env ⟨y,rfl⟩;exact⟨_,rfl,⟨_,rfl⟩,.c,by simp[Vc,mk2,a9],rfl⟩)
 have e1:gv.map (λt=>mk2 (t.2.1,t.1))=(gvR gv).map mk2:=by unfold gvR;rw[GaL];rfl
 have e2:w.df.map (λt=>P t.2.2)=(w.df.map (·.2.2)).map P:=by rw[GaL];rfl
 rw[e1] at hc;rw[e2] at hw;have hm:mmD lU (P 0) (X ((w.df.map (·.2.2)).map P))=U ⟨.c,P (wide w.df)⟩:=by
  simp only[mmD,jR,wide,Option.bind_some,oq];cases w.df.map _<;>rfl
 have hs:=mG (ms:=gvR gv) (by simp[gvR];exact hl);rw[r1] at hs;obtain⟨y6,y7,y8,y9,e⟩:=pf hr (by simp[*]) _ 0 [] J J J J rfl (by simp);exact IE (Mv b12) (by rw[Gah];exact GaG ‹_› (by simp)) hw hm (by rw[Gah];exact Gak ‹_› (by simp)) hc hs e (i6 _)
abbrev Tg:=(Int×Int)×List (Int×Int)
def lH(st:List Tg):Rws:=st.map λe=>([Sum.inl e.1.1,Sum.inl e.1.2],X (e.2.map mk2))
def tk(os:List Va)(t:Tr):Int×Int:=match os[t.1.toNat]? with
 |some o=>(o.aA,o.aO)
 |none=>(0,0)
def Bm(st:List Tg)(k m:Int×Int):List Tg:=match st.findIdx? (λe=>decide (e.1=k)) with
 |some j=>st.set j (k,((st[j]?.map (·.2)).getD [])++[m])
 |none=>st++[(k,[m])]
def FG(k:Int×Int)(e:Tg):decide (([Sum.inl e.1.1,Sum.inl e.1.2]:List Key)=[Sum.inl k.1,Sum.inl k.2])=decide (e.1=k):=by
 rw[Gei];obtain⟨⟨a,b⟩,l⟩:=e;obtain⟨c,d⟩:=k;simp
def FH{st:List Tg}(hz:st.length<1000)(hm:∀e∈st,e.2.length<1000):vY (lH st) [Sum.inl k.1,Sum.inl k.2] (mk2 m)=U (lH (Bm st k m)):=by
 unfold vY Bm;rw[Gar (by unfold lH a9;rw[Gah];exact Gak ‹_› (by simp))];have ef:(lH st).findIdx? (λp=>decide (p.1=[Sum.inl k.1,Sum.inl k.2]))=st.findIdx? (λe=>decide (e.1=k)):=by
  unfold lH;rw[List.findIdx?_map];congr 1
  funext e
  exact FG k e
 rw[ef];cases h:st.findIdx? _ with
 |none=>
  dsimp only;unfold lH;rw[Gbe]
  rfl
 |some j=>
  obtain⟨hj,_⟩:=GcM.mp h;have e1:(lH st)[j]? =U ([Sum.inl st[j].1.1,Sum.inl st[j].1.2],X (st[j].2.map mk2)):=by
   unfold lH;rw[Gaj,Gaa hj]
   rfl
  have z2:(st[j].2.map mk2).length<a9:=by
   have:=hm st[j] (Gap hj);rw[Gah];unfold a9
   (exact Gak ‹_› (by simp))
  simp only[e1];rw[Gar z2,Gaa hj];unfold lH;rw[List.map_set];simp
structure qL(os:List Va)(pre:List Tr)(st:List Tg):Prop where
 nd:(st.map (·.1)).Nodup
 ms:∀e∈st,e.2=(pre.filter λt=>decide (tk os t=e.1)).map λt=>(t.2.1,t.2.2)
 cov:∀t∈pre,tk os t∈st.map (·.1)
 back:∀e∈st,∃t∈pre,tk os t=e.1
 ln:st.length<=pre.length
def qL.step(I:qL os pre st)(t:Tr):qL os (pre++[t]) (Bm st (tk os t) (t.2.1,t.2.2)):=by
 obtain⟨nd,ms,cov,back,ln⟩:=I;generalize hk:tk os t=k;have QX:∀q:Int×Int,((pre++[t]).filter λt=>decide _)=(pre.filter λt=>decide (tk os t=q))++(if k=q then[t] else[]):=λq=>by
  rw[List.filter_append];congr 1;by_cases c:k=q
  .rw[Gar c];simp[hk,c]
  .rw[Gaw c];simp[hk,c]
 unfold Bm;cases h:st.findIdx? _ with
 |none=>
  have nk:k∉st.map (·.1):=λhm=>by
   obtain⟨e,he,ek⟩:=GaP.mp hm;have:=(List.findIdx?_eq_none_iff.mp h) e he;simp[ek] at this
  have pre0:(pre.filter λt=>decide (tk os t=k))=[]:=by
   rw[List.filter_eq_nil_iff];intro x hx;have:=cov x hx;simp;intro q;rw[q] at this;exact nk this
  dsimp only;refine⟨?_, ?_, ?_, ?_,by simp;simp[*]⟩
  .rw[Gbe,GdT];refine⟨nd,by simp, ?_⟩;intro a ha b hb;simp at hb;rw[hb]
   exactλq=>nk (q▸ha)
  .intro e he;rcases GaQ.mp he with he|he
   .rw[QX,Gaw (λq=>nk (GaP.mpr ⟨e,he,q.symm⟩)),GbE];exact ms e he
   .simp at he;rw[he,QX,pre0];simp
  .intro x hx;rw[Gbe];rcases GaQ.mp hx with hx|hx
   .exact Geu _ (cov x hx)
   .simp at hx;rw[hx,hk];simp
  .intro e he;rcases GaQ.mp he with he|he
   .obtain⟨x,hx,q⟩:=back e he;exact⟨x,Geu _ hx,q⟩
   .simp at he;rw[he];exact⟨t,by simp,hk⟩
 |some j=>
  obtain⟨hj,hp,_⟩:=GcM.mp h;have ek:st[j].1=k:=Gay hp;dsimp only;rw[Gaa hj];have keys:(st.set j (k,(((U st[j]).map (·.2)).getD [])++[(t.2.1,t.2.2)])).map (·.1)=st.map (·.1):=by
   rw[List.map_set];have:k=(st.map (·.1))[j]'(by simpa using hj):=by rw[Gcr,ek]
   simp only
   conv=>lhs;arg 3;rw[this]
   exact List.set_getElem_self _
  have mem:∀e∈st.set j (k,(((U st[j]).map (·.2)).getD [])++[(t.2.1,t.2.2)]),e=(k,st[j].2++[(t.2.1,t.2.2)])\/(e∈st/\e.1≠k):=by
   intro e he;obtain⟨i,hi,rfl⟩:=Gew he;have eV :i<st.length:=by simpa using hi
   by_cases c:j=i
   .subst c
    left
    simp
   .right
    rw[List.getElem_set_ne c];refine⟨Gap eV,λq=>c ?_⟩;have e1:(st.map (·.1))[j]'(by simpa using hj)=(st.map (·.1))[i]'(by simpa using eV):=by rw[Gcr,Gcr,ek,q]
    exact(List.getElem_inj nd).mp e1
  refine⟨by rw[keys];exact nd, ?_, ?_, ?_,by simp;lia⟩
  .intro e he;rcases mem e he with q| ⟨q1,q2⟩
   .rw[q];have:=ms st[j] (Gap hj);rw[ek] at this;rw[QX,Gar rfl,Gbe,<-this]
    rfl
   .rw[QX,Gaw (λz=>q2 z.symm),GbE];exact ms e q1
  .intro x hx;rw[keys];rcases GaQ.mp hx with hx|hx
   .exact cov x hx
   .simp at hx;rw[hx,hk,<-ek];exact GaP.mpr ⟨_,Gap hj,rfl⟩
  .intro e he;rcases mem e he with q| ⟨q1,q2⟩
   .rw[q];exact⟨t,by simp,hk⟩
   .obtain⟨x,hx,q⟩:=back e q1;exact⟨x,Geu _ hx,q⟩
def qL.OS{pre:List Tr}{st:List Tg}{e:Tg}(I:qL os pre st)(he:e∈st):e.2.length<=pre.length:=by
 rw[I.ms e he,Gah];exact Gbo _ _
open EV in
def IF{rows:Rws}(hO:atD US n=U OD)(im:OD.imm=O)(h1:ixD OD (P 1)=U (P g))(h2:ixD OD (P 2)=U (P s))(hs:vY rows [Sum.inl g,Sum.inl s] (V [P h,P a])=U eM):
  bx [U (Q (V [V A,V B,V C,V US])),U (Q (V G)),U (Vw .opq),U (Q (V [P n,P h,P a])),x4] rows=U ([U (Q (V [V A,V B,V C,V US])),U (Q (V G)),U (Vw .opq),U (Q (V [P n,P h,P a])),U (Q OD)],eM):=by
 simp[bx,hO,h1,h2,hs,a9]
theorem sk{w:World}(W:aB w):∀gv pre st x3 x4,cx w.UU.length gv->qL w.UU pre st->pre.length+gv.length<64->∃y3 y4 zq,qL w.UU (pre++gv) zq /\
  pV 3 bx (gv.map Vc) [U (Q (V [V A,V B,V C,V (w.UU.map ah)])),U (Q (V G)),U (Vw .opq),x3,x4] (lH st)=U ([U (Q (V [V A,V B,V C,V (w.UU.map ah)])),U (Q (V G)),U (Vw .opq),y3,y4],lH zq)
 |[],pre,st,x3,x4,_,I,_=> ⟨x3,x4,st,by rw[GbE];exact I,by simp⟩
 |t::gv,pre,st,x3,x4,hg,I,hl=>by
  rw[GaC] at hl;have g0:=hg t Gai;obtain⟨n,hn⟩:=GaK g0.1;have xh :n<w.UU.length:=by simp_all
  have hO:atD (w.UU.map ah) t.1=U (ah w.UU[n]):=by
   rw[hn,bA,Gaj,Gaa xh]
   rfl
  have ek:tk w.UU t=(w.UU[n].aA,w.UU[n].aO):=by
   unfold tk;rw[hn,Gbb,Gaa xh]
  have ln:=I.ln;have sd:=FH (st:=st) (k:=tk w.UU t) (m:=(t.2.1,t.2.2)) (by lia) (λe he=>by have:=I.OS he;lia);have ev:=IF (A:=A) (B:=B) (C:=C) (G:=G) (n:=t.1) (h:=t.2.1) (a:=t.2.2) (g:=w.UU[n].aA) (s:=w.UU[n].aO) (x4:=x4) hO (cw _ (W.oo w.UU[n] (Gap xh)).ti) rfl rfl (by rw[ek] at sd;exact sd);obtain⟨y3,y4,zq,I',e⟩:=sk W (A:=A) (B:=B) (C:=C) (G:=G) gv (pre++[t]) _ (U (Q (Vc t))) (U (Q (ah w.UU[n]))) (λx hx=>hg x (Gaf _ hx)) (I.step t) (by simp;simp_all+arith);refine⟨y3,y4,zq,by rw[Gaz] at I';exact I', ?_⟩;rw[Gav];have td:V [P t.1,P t.2.1,P t.2.2]=Vc t:=rfl;rw[td] at ev;rw[ek] at e;generalize Vc t=d at*;simp only[pV,GaT,GaU,ev,Option.bind_some];exact e
def CH(ig:ay G=O)(h:pV 3 bx G [U (Q (V [V A,V B,V C,V US])),U (Q (V G)),U (Vw .opq),J,J] []=U ([U (Q (V [V A,V B,V C,V US])),U (Q (V G)),U (Vw .opq),y3,y4],kv)):cJ [V [V A,V B,V C,V US],V G]=U (Vx kv):=by
 refine aD rfl ?_;simp[fy,-pV,bY,ig,h]
def IG{w:World}{gv:List Tr}(W:aB w)(hg:cx w.UU.length gv)(hl:gv.length<64):∃st,qL w.UU gv st/\cJ [aj w,V (gv.map Vc)]=U (Vx (lH st)):=by
 obtain⟨y3,y4,st,I,e⟩:=sk W (A:=w.bM.map cj) (B:=w.ax.map aI) (C:=w.df.map Vc) (G:=gv.map Vc) gv [] [] J J hg ⟨by simp,by simp,by simp,by simp,by simp⟩ (by simp_all);exact⟨st,by simpa using I,CH (bh gv) e⟩
def lT(ns:List Int):List Int:=(bT ((ddF ns).map P)).map unI
def kL(ns:List Int):(lT ns).Pairwise (λa b=>a<b)/\(∀x,x∈lT ns↔x∈ns)/\(lT ns).length<=ns.length:=by
 obtain⟨S,h1,h2,h3,h4⟩:=FC ns;have e:lT ns=S:=by
  unfold lT;rw[h1,GaL]
  conv=>rhs;rw[<-Gcv S]
  exact GaV λ_ _=>rfl
 rw[e];exact⟨h2,h3,h4⟩
def qM:Cap->Int->Int->Bool
 | .flat H _,h,a=>decide (h -H<a)&&decide (a<=h)
 | .kilo H _ _,h,a=>decide (h -H<a)&&decide (a<=h)
 | .ever _,h,a=>decide (a<=h)
def i7(c:Cap)(ms:List (Int×Int))(h:Int):Int:=(ms.map λp=>if qM c h p.1 then p.2 else 0).sum
def oF:Cap->D
 | .flat H _=> P H
 | .kilo H _ _=> P H
 | .ever _=> N
def OT(ms:List (Int×Int)):∃H:Int,∀p∈ms,∀q∈ms,q.1 -H<p.1:=by
 have:∃B:Int,∀p∈ms,-B<p.1/\p.1<B:=by
  induction ms with
  |nil=>exact⟨0,by simp⟩
  |cons p ms ih=>
   obtain⟨B,hB⟩:=ih;refine⟨(if B<0 then -B else B)+(if p.1<0 then -p.1 else p.1)+1, ?_⟩;intro q hq;rcases Gaq.mp hq with rfl|hq
   .split<;>split<;>lia
   .have:=hB q hq;split<;>split<;>lia
 obtain⟨B,hB⟩:=this;refine⟨2*B,λp hp q hq=> ?_⟩;have:=hB p hp;have:=hB q hq;lia
open EV in
def FI{ms:List (Int×Int)}(ok:jJ c)(hl:ms.length<64):kB [X (ms.map mk2),oF c]=U (X (((lT (ms.map (·.1))).map λh=>(h,i7 c ms h)).map mk2)):=by
 obtain⟨h1,h2,h3⟩:=kL _;have fin:∀(H),(∀h,h∈ms.map _->∀p∈ms,wt H h p=if qM c h _ then _ else 0)->IB ms H _=(lT (ms.map (·.1))).map λh=>(h,i7 c ms h):=λH e=>by
  refine GaV λh hh=> ?_;unfold W i7;rw[GaV λp hp=>e h ((h2 h).mp hh) p hp]
 have lim:∀(H h) (p),wt H h p=if(decide (h -H<p.1)&&decide (p.1<=h)) then p.2 else 0:=λH h p=>by
  simp_all[wt]
 cases c with
 |flat H t=>
  rw[<-fin H (λh _ p _=>lim H h p)];exact qJ (.inl ⟨rfl,ok.1⟩) (List.Perm.refl _) hl h1 h2
 |kilo H t p=>
  rw[<-fin H (λh _ p _=>lim H h p)];exact qJ (.inl ⟨rfl,ok.1⟩) (List.Perm.refl _) hl h1 h2
 |ever t=>
  obtain⟨H,hH⟩:=OT ms;rw[<-fin H (λh hh p hp=>by
   obtain⟨q,hq,rfl⟩:=GaP.mp hh;rw[lim];have:=hH p hp q hq;simp[qM,this])]
  exact qJ (.inr ⟨rfl,hH⟩) (List.Perm.refl _) hl h1 h2
def jF(ws:List Tr)(c:Cap)(g s k:Int)(r:Int×Int):List Flt:=match bI c (wgt g r.1 ws J) with
 |some top=>if r.2>top then[("cap",[g,s,k,r.1,r.2,top])] else[]
 |none=>[]
def kM(ws:List Tr)(g s k:Int)(c:Cap)(ms:List (Int×Int)):List Flt:=((lT (ms.map (·.1))).map λh=>(h,i7 c ms h)).flatMap (jF ws c g s k)
def jM(ws:List Tr)(g s:Int)(ms:List (Int×Int)):Nat->List Cap->List Flt
 |_,[]=>[]
 |k,c::cs=>kM ws g s (k:Int) c ms++jM ws g s ms (k+1) cs
def qN(ws:List Tr)(c:Cap)(g s k:Int)(r:Int×Int):(jF ws c g s k r).length<=1:=by
 unfold jF;split
 .split<;>simp
 .simp
theorem vC{α β:Type}(f:α->List β)(h:∀a,(f a).length<=1):∀l:List α,(l.flatMap f).length<=l.length
 |[]=>by simp
 |a::l=>by
  have h1:=h a;have h2:=vC f h l;simp;simp at h2;lia
def qO(ws:List Tr)(g s k:Int)(c:Cap)(ms:List (Int×Int)):(kM ws g s k c ms).length<=ms.length:=by
 unfold kM;have h1:=vC _ (qN ws c g s k) ((lT (ms.map (·.1))).map λh=>(h,i7 c ms h));have h2:=(kL (ms.map (·.1))).2.2;rw[Gah] at h1 h2
 (exact Gak ‹_› ‹_›)
theorem oG(ws:List Tr)(g s:Int)(ms:List (Int×Int)):∀k cs,(jM ws g s ms k cs).length<=cs.length*ms.length
 |_,[]=>by simp[jM]
 |k,c::cs=>by
  have h1:=qO ws g s (k) c ms;have h2:=oG ws g s ms (k+1) cs;unfold jM;rw[GaF,GaC,GeO];lia
def CI(to:Option Int)(g s k r1 r2:Int):List D:=match to with
 |some top=>if r2>top then[V [Y "cap",P g,P s,P k,P r1,P r2,P top]] else[]
 |none=>[]
open EV in
def MA{W F:List D}{T0:D}{r1:Int}{wo:Option Int}(ew:iI [V W,P g,P r1]=U (cZ wo))(eb:jn [cd,cZ wo]=U (cZ to))(hz:F.length<100000):
  dI [e0,U (Q (V W)),e2,U (Z (X F)),U (Q (V [P g,P s])),e5,U (Q (P g)),U (Q (P k)),U (Q cd),e9,U (Q (V [P r1,P r2])),xa]=
   U (.nx [e0,U (Q (V W)),e2,U (Z (X (F++CI to g s k r1 r2))),U (Q (V [P g,P s])),e5,U (Q (P g)),U (Q (P k)),U (Q cd),e9,U (Q (V [P r1,P r2])),U (Q (cZ to))]):=by
 have z:F.length<16777216:=by exact Gak ‹_› (by simp)
 refine(aa (by simp[ew,(aV (cR wo)),eb,(aV (cR to))];rfl)).trans ?_;cases to with
 |none=>simp[CI]
 |some top=>
  by_cases c:r2>top
  .have c' :=c;simp[c',z,a9,CI]
  .have c' :=c;simp[c',CI]
theorem vD{ws:List Tr}(ok:jJ c):∀(rs:List (Int×Int)) (fs:List Flt) (eZ xa:Os),fs.length+rs.length<100000->∃xm xl,
  UX (gN 10) dI (rs.map mk2) [e0,U (Q (V (ws.map Vc))),e2,U (Z (X (fs.map aK))),U (Q (V [P g,P s])),e5,U (Q (P g)),U (Q (P k)),U (Q (aT c)),e9,eZ,xa]=
   U (.nx [e0,U (Q (V (ws.map Vc))),e2,U (Z (X ((fs++rs.flatMap (jF ws c g s k)).map aK))),U (Q (V [P g,P s])),e5,U (Q (P g)),U (Q (P k)),U (Q (aT c)),e9,xm,xl])
 |[],fs,eZ,xa,_=> ⟨eZ,xa,by simp⟩
 |r::rs,fs,eZ,xa,hz=>by
  rw[GaC] at hz;have ev:=MA (e0:=e0) (e2:=e2) (e5:=e5) (e9:=e9) (xa:=xa) (F:=fs.map aK) (T0:= N) (s:=s) (k:=k) (r2:=r.2) (kK (ws:=ws) (g:=g) (h:=_)) (A9 (c:=c) (w:=wgt g r.1 ws J) ok) (by rw[Gah];lia);have eg:CI (bI c (wgt g r.1 ws J)) g s k r.1 r.2=(jF ws c g s k r).map aK:=by
   unfold jF CI;cases bI c _ with
   |none=>rfl
   |some top=>
    dsimp only;split<;>rfl
  rw[eg,<-Gbe] at ev;have l1:=qN ws c g s k r;obtain⟨xm,xl,e⟩:=vD (ws:=ws) (c:=c) (g:=g) (s:=s) (k:=k) (e0:=e0) (e2:=e2) (e5:=e5) (e9:=e9) ok rs (fs++jF ws c g s k r) (U (Q (mk2 r))) (U (Q (cZ (bI c (wgt g r.1 ws J))))) (by rw[GaF];lia);refine⟨xm,xl, ?_⟩;rw[Gav,GdV,<-Gaz];have e2:V [P _,P r.2]=mk2 r:=rfl;rw[e2] at ev;generalize mk2 r=rd at*;generalize aT c=cd at*;simp only[UX,gN,GaT,GaU,Option.bind_some,ev];exact e
open EV in
def MB(hs:kB [X UT,oF c]=U (X R))(h:UX (gN 10) dI R [e0,e1,e2,e3,e4,U (Q (X UT)),e6,e7,U (Q (aT c)),U (Q (oF c)),eZ,xa]=U (.nx e')):
  cC [e0,e1,e2,e3,e4,U (Q (X UT)),e6,e7,U (Q (aT c)),x9,eZ,xa]=U (.nx e'):=by
 refine(aa (e:=[e0,e1,e2,e3,e4,U (Q (X UT)),e6,e7,U (Q (aT c)),U (Q (oF c)),eZ,xa]) ?_).trans ?_
 .cases c<;>simp[aT,oF]
 .simp_all
theorem su{ws:List Tr}{ms:List (Int×Int)}(hm:ms.length<64):∀cs k fs x7 x8 x9 eZ xa,(∀c∈cs,jJ c)->fs.length+cs.length*ms.length<50000->∃y7 y8 y9 xm xl,
  UX (gT [7,8]) cC (dU k (cs.map aT)) [e0,U (Q (V (ws.map Vc))),e2,U (Z (X (fs.map aK))),U (Q (V [P g,P s])),U (Q (X (ms.map mk2))),U (Q (P g)),x7,x8,x9,eZ,xa]=
   U (.nx [e0,U (Q (V (ws.map Vc))),e2,U (Z (X ((fs++jM ws g s ms k cs).map aK))),U (Q (V [P g,P s])),U (Q (X (ms.map mk2))),U (Q (P g)),y7,y8,y9,xm,xl])
 |[],k,fs,x7,x8,x9,eZ,xa,_,_=> ⟨x7,x8,x9,eZ,xa,by simp[jM]⟩
 |c::cs,k,fs,x7,x8,x9,eZ,xa,ok,hz=>by
  have ok0:=ok c Gai;rw[GaC,GeO] at hz;have hl:=(kL (ms.map (·.1))).2.2;rw[Gah] at hl;obtain⟨xm,xl,e⟩:=vD (ws:=ws) (c:=c) (g:=g) (s:=s) (k:=(k)) (e0:=e0) (e2:=e2) (e5:=U _) (e9:=U _) ok0 ((lT (ms.map (·.1))).map λh=>_) fs eZ xa (by rw[Gah];lia);have ev:=MB (x9:=x9) (FI (ms:=ms) ok0 hm) e;have lz:=qO ws g s (k) c ms;obtain⟨z7,z8,z9,zF,zE,e'⟩:=su (ws:=ws) (g:=g) (s:=s) (ms:=ms) (e0:=e0) (e2:=e2) hm cs (k+1) (fs++kM ws g s (k) c ms) (U (Q (P (k)))) (U (Q (aT c))) (U (Q (oF c))) xm xl (λx hx=>ok x (Gaf _ hx)) (by rw[GaF];lia);refine⟨z7,z8,z9,zF,zE, ?_⟩;rw[Gav]
  conv=>rhs;unfold jM
  rw[<-Gaz];show UX _ cC (V [P _,aT c]::dU _ _) _=_;unfold kM at e' ⊢;generalize (k)=ki at*;generalize aT c=cd at*;simp only[UX,gT,gNs,GaT,GaU,Option.bind_some,ev];exact e'
def tgF(ss:List fD)(ws:List Tr)(e:Tg):List Flt:=jM ws e.1.1 e.1.2 e.2 0 ((ss[e.1.2.toNat]?.map (·.aq)).getD [])
open EV in
def OU{W:List D}{sz:D}(hS:atD B s=U (V [nm,sz,V Cs,yg]))
  (h:UX (gT [7,8]) cC (dU 0 Cs) [U (Q (V [V A,V B,V C,V US])),U (Q (V W)),e2,U (Z (X F)),U (Q (V [P g,P s])),U (Q (X UT)),U (Q (P g)),x7,x8,x9,eZ,xa]=U (.nx [U (Q (V [V A,V B,V C,V US])),U (Q (V W)),e2,U (Z (X F')),U (Q (V [P g,P s])),U (Q (X UT)),U (Q (P g)),y7,y8,y9,xm,xl])):
  dJ [U (Q (V [V A,V B,V C,V US])),U (Q (V W)),e2,U (Z (X F)),U (Q (V [P g,P s])),U (Q (X UT)),x6,x7,x8,x9,eZ,xa]=U (.nx [U (Q (V [V A,V B,V C,V US])),U (Q (V W)),e2,U (Z (X F')),U (Q (V [P g,P s])),U (Q (X UT)),U (Q (P g)),y7,y8,y9,xm,xl]):=by
 refine(aa rfl).trans ?_;simp[hS,h]
theorem Bo{w:World}{ws:List Tr}(W:aB w):∀(st:List Tg) (fs:List Flt) (x4 x5 x6 x7 x8 x9 eZ xa:Os),(∀e∈st,0<=e.1.2/\e.1.2<w.ax.length/\e.2.length<64)->fs.length+st.length*256<40000->∃y4 y5 y6 y7 y8 y9 xm xl,
  UX (gT [4,5]) dJ (cG (lH st)) [U (Q (V [V A,V (w.ax.map aI),V C,V US])),U (Q (V (ws.map Vc))),e2,U (Z (X (fs.map aK))),x4,x5,x6,x7,x8,x9,eZ,xa]=
   U (.nx [U (Q (V [V A,V (w.ax.map aI),V C,V US])),U (Q (V (ws.map Vc))),e2,U (Z (X ((fs++st.flatMap (tgF w.ax ws)).map aK))),y4,y5,y6,y7,y8,y9,xm,xl])
 |[],fs,x4,x5,x6,x7,x8,x9,eZ,xa,_,_=> ⟨x4,x5,x6,x7,x8,x9,eZ,xa,by simp[lH,cG]⟩
 |e::st,fs,x4,x5,x6,x7,x8,x9,eZ,xa,he,hz=>by
  rw[GaC,GeO] at hz;obtain⟨s0,s1,ml⟩:=he e Gai;obtain⟨n,hn⟩:=GaK s0;have xh :n<w.ax.length:=by simp_all
  have hS:atD (w.ax.map aI) e.1.2=U (V [Y w.ax[n].name,V ((w.ax[n].part::w.ax[n].more).map P),V (w.ax[n].aq.map aT),P w.ax[n].young]):=by
   rw[hn,bA,Gaj,Gaa xh]
   rfl
  have so:=W.so w.ax[n] (Gap xh);have et:tgF w.ax ws e=jM ws e.1.1 e.1.2 e.2 0 w.ax[n].aq:=by
   unfold tgF;rw[hn,Gbb,Gaa xh]
   rfl
  have lz:=oG ws e.1.1 e.1.2 e.2 0 w.ax[n].aq;have lz2:w.ax[n].aq.length*_<=4*64:=Nat.mul_le_mul so.cl (by exact GaJ ‹_›);obtain⟨y7,y8,y9,xm,xl,ec⟩:=su (ws:=ws) (g:=_) (s:=_) (ms:=_) (e0:=U (Q (V [V A,V _,V C,V US]))) (e2:=e2) ml w.ax[n].aq 0 fs x7 x8 x9 eZ xa so.ok (by lia);have ev:=OU (x6:=x6) hS ec;rw[<-et] at ev lz;obtain⟨z4,z5,z6,z7,z8,z9,zF,zE,e'⟩:=Bo W (ws:=ws) (A:=A) (C:=C) (US:=US) (e2:=e2) st (fs++tgF w.ax ws e) (U (Q (V [P e.1.1,P e.1.2]))) (U (Q (X (e.2.map mk2)))) (U (Q (P e.1.1))) y7 y8 y9 xm xl (λx hx=>he x (Gaf _ hx)) (by rw[GaF];lia);refine⟨z4,z5,z6,z7,z8,z9,zF,zE, ?_⟩;rw[GdV,<-Gaz];have ei:cG (lH (e::st))=V [V [P e.1.1,P e.1.2],X (e.2.map mk2)]::cG (lH st):=rfl;rw[ei];generalize e.2.map mk2=UT at*;generalize w.ax.map aI=SS at*;simp only[UX,gT,gNs,GaT,GaU,Option.bind_some,ev];exact e'
open EV in
def IH{W:List D}{kv:Rws}(hm:cJ [V [V A,V B,V C,V US],V G]=U (Vx kv))
  (h:UX (gT [4,5]) dJ (cG kv) [U (Q (V [V A,V B,V C,V US])),U (Q (V W)),U (Q (V G)),U (Z (X [])),J,J,J,J,J,J,J,J]=U (.nx [U (Q (V [V A,V B,V C,V US])),U (Q (V W)),U (Q (V G)),U (Z (X F)),y4,y5,y6,y7,y8,y9,xm,xl]))(im:ay F=O):
  gB [V [V A,V B,V C,V US],V W,V G]=U (X F):=by
 have rk:dZ (Vx kv)=⟨.tn,Vx kv⟩:=rfl;refine aD rfl ((aa (e:=[U (Q (V [V A,V B,V C,V US])),U (Q (V W)),U (Q (V G)),U (Z (X [])),J,J,J,J,J,J,J,J]) rfl).trans ((aa (by simp_all;rfl)).trans ?_));simp[im]
theorem oH{α β:Type}(f:α->List β)(Vv:Nat):∀l:List α,(∀a∈l,(f a).length<=Vv)->(l.flatMap f).length<=l.length*Vv
 |[],_=>by simp
 |a::l,h=>by
  have h1:=h a Gai;have h2:=oH f Vv l λx hx=>h x (Gaf _ hx);rw[GdV,GaF,GaC,GeO];lia
def OW{w:World}{ws gv:List Tr}(W:aB w)(hg:cx w.UU.length gv)(hl:gv.length<64):∃st,qL w.UU gv st/\gB [aj w,V (ws.map Vc),V (gv.map Vc)]=U (X ((st.flatMap (tgF w.ax ws)).map aK))/\(st.flatMap (tgF w.ax ws)).length<=20000:=by
 obtain⟨st,I,em⟩:=IG W hg hl;have ln:=I.ln;have he:∀e∈st,0<=e.1.2/\e.1.2<_/\_<64:=λe QV=>by
  obtain⟨t,ht,ek⟩:=I.back e QV;have g0:=hg t ht;obtain⟨n,hn⟩:=GaK g0.1;have xh :n<w.UU.length:=by simp_all
  have ok:=W.oo w.UU[n] (Gap xh);have:tk w.UU t=(w.UU[n].aA,w.UU[n].aO):=by
   unfold tk;rw[hn,Gbb,Gaa xh]
  rw[this] at ek;rw[<-ek];have:=I.OS QV;exact⟨ok.s0,ok.s1,by exact GaG ‹_› ‹_›⟩
 obtain⟨y4,y5,y6,y7,y8,y9,xm,xl,e⟩:=Bo W (ws:=ws) (A:=w.bM.map cj) (C:=w.df.map Vc) (US:=w.UU.map ah) (e2:=U _) st [] J J J J J J J J he (by simp;lia);refine⟨st,I,IH em e (i6 _), ?_⟩;have h1:=oH (tgF _ ws) 256 st (λe QV=>by
  have h2:=oG ws e.1.1 e.1.2 e.2 0 ((w.ax[e.1.2.toNat]?.map (·.aq)).getD []);have h3:((w.ax[e.1.2.toNat]?.map (·.aq)).getD []).length<=4:=by
   cases h:w.ax[e.1.2.toNat]? with
   |none=>simp
   |some s=>exact(W.so s (GaH h)).cl
  have h5:=Nat.mul_le_mul h3 (GaJ ((he e QV).2.2));unfold tgF
  (exact Gak ‹_› ‹_›))
 lia
def i8(w:World)(ws:List Tr)(t:Tr):List Flt:=match w.UU[t.1.toNat]? with
 |some o=>match w.ax[o.aO.toNat]?,w.bM[o.aA.toNat]? with
  |some s,U g=>(lQ o s g.2 ws t).map λk=>(k,[t.1,t.2.1])
  |_,_=>[]
 |none=>[]
def vF{w:World}(W:aB w){ws:List Tr}{t:Tr}(h0:0<=t.1)(h1:t.1<w.UU.length):fS [aj w,V (ws.map Vc),Vc t]=U (X ((i8 w ws t).map aK))/\(i8 w ws t).length<=5:=by
 obtain⟨n,hn⟩:=GaK h0;have xh :n<w.UU.length:=by simp_all
 have ok:=W.oo w.UU[n] (Gap xh);obtain⟨m,hm⟩:=GaK ok.s0;have sl:=ok.s1;have hm' :m<w.ax.length:=by simp_all
 obtain⟨g,hg⟩:=GaK ok.g0;have gl:=ok.g1;have zy :g<w.bM.length:=by simp_all
 have el:i8 w ws t=(lQ w.UU[n] w.ax[m] w.bM[g].2 ws t).map λk=>(k,[t.1,t.2.1]):=by
  unfold i8;rw[hn,Gbb,Gaa xh];dsimp only;rw[hm,hg,Gbb,Gbb,Gaa hm',Gaa zy]
 constructor
 .rw[el,GaL];exact(Mq (C:=w.df.map Vc) (ws:=ws) (t:=t) (by rw[hn,bA,Gaj,Gaa xh];rfl) ok.du (by rw[hm,bA,Gaj,Gaa hm'];rfl) (W.so _ (Gap hm')) (by rw[hg,bA,Gaj,Gaa zy];rfl) (cw _ ok.ti))
 .rw[el,Gah];unfold lQ;have h1:=cq (bW w.UU[n].f9 t.2.1) "astray";have h2:=cq (decide (w.UU[n].most<t.2.2)) "most";have h3:=cq (decide (t.2.2<1)||decide (¬t.2.2%w.ax[m].part=0)) "part";have h4:=cq (w.ax[m].aq.any b9&&(wgt w.UU[n].aA t.2.1 ws J).isNone) "weight";have h5:=cq (decide (t.2.1<w.bM[g].2+w.ax[m].young)) "young";simp only[GaF];lia
def MC{e0 e2:Os}{F R:List D}(h:fS [wd,Sw,gd]=U (X R))(hz:F.length+R.length<100000):
  fY [U (Q wd),e1,U (Q Sw),e3,U (Z (X F)),U (Q gd)]=U (.nx [U (Q wd),e1,U (Q Sw),e3,U (Z (X (F++R))),U (Q gd)]):=by
 have z:F.length+R.length<=16777216:=by exact Gak (GaJ ‹_›) (by simp)
 have rl:dZ (X R)=⟨.tn,X R⟩:=rfl;simp[fY,h,rl,z,a9]
theorem sv{w:World}{ws:List Tr}(W:aB w):∀gv fs x5,cx w.UU.length gv->fs.length+5*gv.length<100000->∃y5,
  UX (gN 5) fY (gv.map Vc) [U (Q (aj w)),e1,U (Q (V (ws.map Vc))),e3,U (Z (X (fs.map aK))),x5]=U (.nx [U (Q (aj w)),e1,U (Q (V (ws.map Vc))),e3,U (Z (X ((fs++gv.flatMap (i8 w ws)).map aK))),y5])
 |[],fs,x5,_,_=> ⟨x5,by simp⟩
 |t::gv,fs,x5,hg,hz=>by
  rw[GaC] at hz;have g0:=hg t Gai;obtain⟨e,l5⟩:=vF W (ws:=ws) g0.1 g0.2;have ev:=MC (e0:=J) (e1:=e1) (e2:=J) (e3:=e3) (F:=fs.map aK) e (by rw[Gah,Gah];lia);rw[<-Gbe] at ev;obtain⟨y5,e'⟩:=sv W (ws:=ws) (e1:=e1) (e3:=e3) gv (fs++i8 w ws t) (U (Q (Vc t))) (λx hx=>hg x (Gaf _ hx)) (by rw[GaF];lia);refine⟨y5, ?_⟩;rw[Gav,GdV,<-Gaz];generalize Vc t=td at*;generalize aj w=wd at*;simp only[UX,gN,GaT,GaU,Option.bind_some,ev];exact e'
theorem vG:∀(a b:List Int),lJ (a.map P) (b.map P)=O
 |[],b=>by cases b<;>rfl
 |x::a,[]=>rfl
 |x::a,y::b=>by
  rw[Gav,Gav];unfold lJ;split
  .exact vG a b
  .rfl
def FJ(fs:List Flt):Vb (fs.map aK)=O:=by
 have h1:(fs.map aK).all (mO 2)=O:=by
  rw[Gcm,Gal];intro p _;show((tyD (Y p.1)==2)&&(p.2.map _).all jY)=O;rw[Gcm,Gac];exact⟨rfl,Gal.mpr λ_ _=>rfl⟩
 have h2:((fs.map aK).all λx=>(fs.map aK).all λy=>ur x y)=O:=by
  rw[Gcm,Gal];intro p _;simp only[GbW];rw[Gcm,Gal];intro q _;show lJ _ _=O;unfold lJ;split
  .exact vG _ _
  .rfl
 unfold Vb;rw[h1,h2];simp
def unF:D->Flt
 | V (Y k::ds)=>(k,ds.map unI)
 |_=>("",[])
def FK(f:Flt):unF (aK f)=f:=by
 show(_,(f.2.map _).map unI)=f;rw[GaL];have:f.2.map (unI∘P)=f.2:=by
  conv=>rhs;rw[<-Gcv f.2]
  exact GaV λ_ _=>rfl
 rw[this]
def vH(fs:List Flt):List Flt:=(bT (fs.map aK)).map unF
def Aa(fs:List Flt):(fs.map aK).map unF=fs:=by
 rw[GaL]
 conv=>rhs;rw[<-Gcv fs]
 exact GaV λf _=>FK f
def FL(fs:List Flt):bT (fs.map aK)=(vH fs).map aK:=by
 unfold vH;rw[GaL]
 conv=>lhs;rw[<-Gcv (bT _)]
 refine GaV λx hx=> ?_;obtain⟨f,_,rfl⟩:=GaP.mp ((dP _).mem_iff.mp hx);simp only[GbW,FK,id]
def qP(fs:List Flt):(vH fs).Perm fs:=by
 have:=(dP (fs.map aK)).map unF
 rwa[Aa] at this
def Ab(fs:List Flt)(hz:fs.length<1000000):gP [X (fs.map aK)]=U ⟨.tn,X ((vH fs).map aK)⟩:=by
 simp only[gP,one,jR,Option.bind_some];rw[FJ,GaI (by simp_all),FL]
 rfl
def Ac{W F1 F2 F3:List D}(h0:F1++F2++F3=F0)(h1:gB [wd,V W,V G]=U (X F1))(h2:gC [wd,V G]=U (X F2))(h3:fA [wd,V G]=U (X F3))(z:F1.length+F2.length+F3.length<100000)
  (hl:UX (gN 5) fY G [U (Q wd),U (Q (V [V W,V G])),U (Q (V W)),U (Q (V G)),U (Z (X F0)),J]=U (.nx [U (Q wd),U (Q (V [V W,V G])),U (Q (V W)),U (Q (V G)),U (Z (X F)),y5]))(hs:gP [X F]=U ⟨.tn,X R⟩)(iw:ay W=O)(ig:ay G=O)(ir:ay R=O):
  nD [wd,V [V W,V G]]=U (X R):=by
 have z1:F1.length+F2.length<=16777216:=by lia
 have z2:F1.length+F2.length+F3.length<=16777216:=by exact Gak (GaJ ‹_›) (by simp)
 refine aD rfl ?_;unfold qw;refine(aa rfl).trans ((aa (e:=[U (Q wd),U (Q (V [V W,V G])),U (Q (V W)),U (Q (V G)),J,J]) rfl).trans ((aa (e:=[U (Q wd),U (Q (V [V W,V G])),U (Q (V W)),U (Q (V G)),U (Z (X F0)),J]) (by rw[<-h0];simp[h1,h2,h3,(λ_=>rfl),z1,z2,a9])).trans ((aa (by simp_all;rfl)).trans ?_)));simp[hs,ir]
theorem qQ(os:List Va)(gs:List Tr)(w:Int):∀rows,rows.length<64->(de os gs w rows).length<=64*rows.length
 |[],_=>by simp[de]
 |r::rs,h=>by
  rw[GaC] at h;have h1:=oE os gs w r rs;have h2:=qQ os gs w rs (by exact GaJ ‹_›);unfold de;rw[GaF,GaC];lia
def vI{w:World}{ws gv:List Tr}(W:aB w)(hg:cx w.UU.length gv)(hl:gv.length<64):∃st rows,qL w.UU gv st/\rows.Perm (gvR gv)/\bT ((gvR gv).map mk2)=rows.map mk2/\(rows.Pairwise λa b=>a.1<=b.1)/\
  nD [aj w,V [V (ws.map Vc),V (gv.map Vc)]]=U (X ((vH (st.flatMap (tgF w.ax ws)++de w.UU (w.df.foldl aY []) (wide w.df) rows++twF (gv.foldl (bS w.UU) [])++gv.flatMap (i8 w ws))).map aK))/\
  (st.flatMap (tgF w.ax ws)++de w.UU (w.df.foldl aY []) (wide w.df) rows++twF (gv.foldl (bS w.UU) [])++gv.flatMap (i8 w ws)).length<100000:=by
 obtain⟨st,I,h1,z1⟩:=OW (ws:=ws) W hg hl;obtain⟨rows,r1,r2,r3,h2⟩:=OR W hg hl;obtain⟨h3,z3⟩:=Iv W hg hl;have lr:rows.length=gv.length:=by rw[r2.length_eq];simp[gvR]
 have z2:=qQ w.UU (w.df.foldl aY []) (wide w.df) rows (by simp[*]);have z3' :(twF (gv.foldl (bS w.UU) [])).length<=64:=by
  unfold twF;rw[Gah];have:=Gbo (λt:Tr=>decide (1<t.2.2)) (gv.foldl (bS w.UU) []);lia
 have z4:(gv.flatMap _).length<=_*5:=oH _ 5 gv λt ht=>(vF W (ws:=ws) (hg t ht).1 (hg t ht).2).2;obtain⟨y5,e⟩:=sv W (ws:=ws) (e1:=U (Q (V [V (ws.map Vc),V (gv.map Vc)]))) (e3:=U (Q (V (gv.map Vc)))) gv (st.flatMap (tgF w.ax ws)++de w.UU (w.df.foldl aY []) (wide w.df) rows++twF (gv.foldl (bS w.UU) [])) J hg (by simp only[GaF];lia);have zz:(st.flatMap (tgF w.ax ws)++de w.UU (w.df.foldl aY []) (wide w.df) rows++twF (gv.foldl (bS w.UU) [])++gv.flatMap (i8 w ws)).length<100000:=by
  simp only[GaF];lia
 refine⟨st,rows,I,r2,r1,r3, ?_,zz⟩;generalize st.flatMap _=F1 at*;generalize de _ _ _ rows=F2 at*;generalize twF _=F3 at*;rw[Gbe,Gbe] at e;exact Ac rfl h1 h2 h3 (by simp only[Gah];lia) e (Ab _ (by exact Gak ‹_› (by decide))) (bh ws) (bh gv) (i6 _)
def Bp{b e ea la h k:Int}(e1:1<=e)(a0:0<=ea)(l0:0<=la)(al:ea+la<e):(b+k*e -ea<=h/\h<=b+k*e+la)↔((h -(b -ea))/e=k/\h -(b -ea)-k*e<=ea+la):=by
 constructor
 .rintro⟨h1,h2⟩;refine⟨?_,by lia⟩;have h3:k<=(h -(b -ea))/e:=(Int.le_ediv_iff_mul_le (by assumption)).mpr (by lia);have h4:(h -(b -ea))/e<k+1:=(Int.ediv_lt_iff_lt_mul (by assumption)).mpr (by lia);lia
 .rintro⟨h1,h2⟩;have h3:_/e*e<=h -(b -ea):=Int.ediv_mul_le _ (by lia);rw[h1] at h3;lia
def II(b e ea la h:Int):D->Option D
 | P k=>if b+k*e -ea<=h/\h<=b+k*e+la then U (P k) else J
 |_=>J
def nO:II b e ea la h (P k)=if b+k*e -ea<=h/\h<=b+k*e+la then U (P k) else J:=rfl
def FN{m:Int}(e1:1<=e)(m0:0<=m)(a0:0<=ea)(l0:0<=la)(al:ea+la<e):(aN 0 m.toNat).findSome? (II b e ea la h)=(mD b e m ea la h).map P:=by
 have iff:=λk=>Bp (b:=b) (ea:=ea) (la:=la) (h:=h) (k:=k) e1 a0 l0 al;unfold mD;generalize hq:_/e=q at*;by_cases c:(0<=q/\q<m)/\h -(b -ea)-q*e<=ea+la
 .rw[Gar c];obtain⟨n,hn⟩:=GaK c.1.1;have hm:P q∈aN 0 m.toNat:=by
   unfold aN;exact GaP.mpr ⟨n,Gcc.mpr (by simp_all),by rw[hn];simp⟩
  have hr:II b e ea la h (P q)=U (P q):=by
   rw[nO,Gar ((iff q).mpr ⟨rfl,c.2⟩)]
  cases hf:(aN 0 _).findSome? _ with
  |none=>rw[List.findSome?_eq_none_iff.mp hf _ hm] at hr;cases hr
  |some v=>
   obtain⟨d,hd,hv⟩:=List.exists_of_findSome?_eq_some hf;obtain⟨i,hi⟩:=Gbs hd;obtain⟨eV,rfl⟩:=br hi;rw[nO] at hv;split at hv
   .rename_i cc;rw[<-((iff _).mp cc).1] at hv;injection hv with hv
    rw[<-hv]
    rfl
   .cases hv
 .rw[Gaw c,Option.map_none,List.findSome?_eq_none_iff];intro d hd;obtain⟨i,hi⟩:=Gbs hd;obtain⟨eV,rfl⟩:=br hi;rw[nO,Gaw];intro cc;have:=(iff _).mp cc;exact c ⟨by simp_all,by rw[this.1];exact this.2⟩
open EV in
def u0(ok:jE (.due b e m ea la)):rX [bG (.due b e m ea la),P h]=U (cZ (mD b e m ea la h)):=by
 obtain⟨e1,e2,hm,a0,l0,al,ab,b3⟩:=ok;have me:∀j,bw j e=O:=λj=>jA (by lia) (by lia);have sm:aU m=O:=bf (by lia) (by lia);unfold bG;obtain⟨y,hf⟩:=se (g:=gN 2) (body:=ju) (λx=>[U (Q (V [Y "due",P b,P e,P m,P ea,P la])),U (Q (P h)),x]) (II b e ea la h) (λd x=>rfl) (aN 0 m.toNat) J (by
  intro d hd;obtain⟨i,hi⟩:=Gbs hd;obtain⟨eV,rfl⟩:=br hi;generalize _+(i:Int)=k;rw[nO];unfold ju;by_cases c1:b+k*e -ea<=h
  .by_cases c2:h<=b+k*e+la
   .simp[c1,c2,me]
   .simp[c2,me]
  .simp[c1,me])
 rw[FN e1 (by lia) a0 l0 al] at hf;cases hk:mD b e m ea la h with
 |none=>
  rw[hk] at hf;refine aD rfl ((aa (by simp_all;rfl)).trans ?_);simp
 |some k=>
  rw[hk] at hf;refine aD rfl (jC ?_);simp[sm,hf]
open EV in
def CJ(cs:List Cap):bz (gN 0) (ao eqB (Vd (vE 0) (kE (P 0))) (kE (Y "kilo"))) (vE 0) (cs.map aT) [J]=U ((cs.filter b9).map aT):=by
 refine cF aT (λenv=>∃y,env=[y]) b9 aT cs [J] ⟨J,rfl⟩ ?_;rintro c hc env ⟨y,rfl⟩;have im:=vf c;refine⟨[U _],rfl,⟨_,rfl⟩, ?_,λ_=> ⟨.c, ?_, ?_⟩⟩
 .cases c<;>simp[aT,b9]
 .simp
 .simp
open EV in
def IJ(cs:List Cap):decide (((cs.filter b9).length:Int)>0)=cs.any b9:=by
 induction cs with
 |nil=>rfl
 |cons c cs ih=>
  cases h:b9 c with
  |true=>
   simp[h]
  |false=>
   simp only[Gbx,h,List.any_cons];exact ih
open EV in
def CK{W:List D}{o:Va}{s:fD}{ws:List Tr}{a:Int}(hW:ws.map Vc=W)(hO:atD US n=U (ah o))(du:jE o.f9)(hS:atD B o.aO=U (aI s))(so:fB s)(hG:atD A o.aA=U (cj gu))(im:(ah o).imm=O)(iw:ay W=O)(hk:b5 [X ((s.aq.filter b9).map aT)]=U ⟨.c,P kn⟩)(RZ:decide (kn>0)=s.aq.any b9)
  (c1:bW o.f9 h=M)(c2:a<=o.most)(c3:1<=a)(c4:a%s.part=0)(c5:(s.aq.any b9&&(wgt o.aA h ws J).isNone)=M)(c6:¬h<gu.2+s.young):
  dK [U (Q (V [V A,V B,V C,V US])),U (Q (V [V W,V G])),e2,U (Q (P n)),U (Q (P h)),U (Q (P a)),x6,x7,x8]=
   U (.nx [U (Q (V [V A,V B,V C,V US])),U (Q (V [V W,V G])),e2,U (Q (P n)),U (Q (P h)),U (Q (P a)),U (Q (ah o)),U (Q (aI s)),U (Z (X ((s.aq.filter b9).map aT)))]):=by
 have ew:=jK (ws:=ws) (g:=o.aA) (h:=h);rw[hW] at ew;have sp:=so.p1;have QL :0<s.part:=by assumption
 have cl:=so.cl;have kc:=CJ s.aq;have zc:(s.aq.map aT).length<=16777216:=by rw[Gah];exact Gak ‹_› (by simp)
 have p1:ixD (ah o) (P 3)=U _:=rfl;have p2:ixD (ah o) (P 1)=U _:=rfl;have p3:ixD (ah o) (P 2)=U _:=rfl;have p3' :ixD (ah o) (P 4)=U _:=rfl;have p4:ixD (aI s) (P 1)=U _:=rfl;have p5:ixD (aI s) (P 3)=U _:=rfl;have p7:ixD (aI s) (P 2)=U _:=rfl;have p6:ixD (cj gu) (P 1)=U _:=rfl;generalize ah o=OD at*;generalize aI s=SD at*;refine(aa (by simp[hO,im];rfl)).trans ((aa (by simp[p3,hS,(gZ s)];rfl)).trans ((aa ((jD ?_).trans rfl)).trans ?_))
 .cases hu:o.f9 with
  |asked b=>
   rw[hu] at p3' c1;unfold bG at p3';simp[p3',eqB,(GeC c1)]
  |due b e m ea la=>
   rw[hu] at p3' du c1;have ed:=u0 (h:=h) du;unfold bG at p3' ed;have c1:(mD b e m ea la h).isNone=M:=c1;generalize mD b e m ea la h=dk at*;simp[p3',eqB,ed,(aV (cR (mD b e m ea la h)))];cases dk<;>simp[g8,fV] at c1⊢
 refine(aa ((jD (by simp[p1,c2])).trans rfl)).trans ((aa ((jD (by simp[GdI.mpr c3,p4,QL,neB,c4])).trans rfl)).trans ?_);generalize hK:(s.aq.filter b9).map aT=K at*;generalize s.aq.map aT=CC at*;refine(aa (by simp[-bz,p7,a9,DL.UY,dH,kc,zc];rfl)).trans ((aa ((jD ?_).trans rfl)).trans ?_)
 .rw[<-RZ] at c5;generalize wgt o.aA h ws J=wg at*;by_cases c:kn>0
  .simp[-gL,hk,c,p2,ew,(aV (cR (wgt o.aA h ws J))),iw];cases wg with
   |none=>simp[c] at c5
   |some k=>simp[g8,fV]
  .simp[-gL,hk,c]
 exact(jD (by simp[p2,hG,p6,p5,c6])).trans rfl
open EV in
def qR(ok:jJ c):cP [aT c,cZ w]=U (cZ (bI c w)):=by
 cases c with
 |ever t=>unfold cP dY aT bI;simp
 |flat h t=>unfold cP dY aT bI;simp
 |kilo h t p=>
  obtain⟨h1,t1,t2,p1,p2⟩:=ok;cases w with
  |none=>unfold cP dY aT bI;simp
  |some w=>
   have mm:bw w t=O:=jA (by lia) (by lia);have pp:0<p/\p<1073741824:=by lia
   unfold cP dY aT bI;simp[mm,pp]
def Ad{ms:List (Int×Int)}:f∈kM ws g s k c ms↔∃h∈ms.map (·.1),f∈jF ws c g s k (h,i7 c ms h):=by
 unfold kM;rw[List.mem_flatMap];constructor
 .rintro⟨r,hr,hf⟩;obtain⟨h,hh,rfl⟩:=GaP.mp hr;exact⟨h,((kL _).2.1 h).mp hh,hf⟩
 .rintro⟨h,hh,hf⟩;exact⟨_,GaP.mpr ⟨h,((kL _).2.1 h).mpr hh,rfl⟩,hf⟩
theorem sD:∀cs k,f∈jM ws g s ms k cs↔∃j c,cs[j]? =U c/\f∈kM ws g s ((k+j:Nat):Int) c ms
 |[],k=>by simp[jM]
 |c::cs,k=>by
  unfold jM;rw[GaQ,sD cs _];constructor
  .rintro(h| ⟨j,c',h1,h2⟩)
   .exact⟨0,c,rfl,h⟩
   .exact⟨j+1,c',by simpa using h1,by rw[show k+_=k+1+j by simp+arith];exact h2⟩
  .rintro⟨j,c',h1,h2⟩;cases j with
   |zero=>simp at h1;subst h1;exact .inl h2
   |succ j=>exact .inr ⟨j,c',by simpa using h1,by rw[show k+1+j=k+(j+1) by simp+arith];exact h2⟩
def qS(os:List Va)(gv:List Tr)(k:Int×Int):List (Int×Int):=(gv.filter λt=>decide (tk os t=k)).map λt=>(t.2.1,t.2.2)
def FP{w:World}{st:List Tg}{o:Va}{s:fD}(I:qL w.UU gv st)(h:st.flatMap (tgF w.ax ws)=[])(ht:t∈gv)(ho:w.UU[t.1.toNat]? =U o)(hs:w.ax[o.aO.toNat]? =U s)(hc:c∈s.aq)(hb:bI c (wgt o.aA t.2.1 ws J)=U top):
  i7 c (qS w.UU gv (o.aA,o.aO)) t.2.1<=top:=by
 have hk:tk w.UU t=(o.aA,o.aO):=by unfold tk;rw[ho]
 obtain⟨e,he,ek⟩:=GaP.mp (I.cov t ht);have e1:_=_:=ek.trans hk;have h1:=List.flatMap_eq_nil_iff.mp h e he;obtain⟨j,hj⟩:=GbC.mp hc;have ms:e.2=qS w.UU gv (o.aA,o.aO):=by rw[I.ms e he,e1];rfl
 by_cases q:i7 c (qS w.UU gv (o.aA,o.aO)) t.2.1<=top
 .exact q
 .have hf:(("cap",[o.aA,o.aO,((0+j)),t.2.1,i7 c (qS w.UU gv (o.aA,o.aO)) t.2.1,top]):Flt)∈tgF w.ax ws e:=by
   unfold tgF;rw[e1,hs];refine(sD _ 0).mpr ⟨j,c,hj,Ad.mpr ⟨t.2.1, ?_, ?_⟩⟩
   .rw[ms];unfold qS;rw[GaL];exact GaP.mpr ⟨t,GbQ.mpr ⟨ht,GaI hk⟩,rfl⟩
   .unfold jF;rw[hb,ms];dsimp only;rw[Gar (by exact Int.lt_of_not_ge ‹_›)];exact GcU _
  rw[h1] at hf;cases hf
def i9{w:World}{n:Int}(W:aB w)(h0:0<=n)(h1:n<w.UU.length):∃o s g,w.UU[n.toNat]? =U o/\w.ax[o.aO.toNat]? =U s/\w.bM[o.aA.toNat]? =U g/\fB s/\atD (w.UU.map ah) n=U (ah o)/\atD (w.ax.map aI) o.aO=U (aI s)/\atD (w.bM.map cj) o.aA=U (cj g):=by
 obtain⟨i,hi⟩:=GaK h0;have eV :i<w.UU.length:=by simp_all
 have ok:=W.oo w.UU[i] (Gap eV);obtain⟨j,hj⟩:=GaK ok.s0;obtain⟨k,hk⟩:=GaK ok.g0;have sl:=ok.s1;have gl:=ok.g1;have hj' :j<w.ax.length:=by simp_all
 have xO :k<w.bM.length:=by simp_all
 refine⟨w.UU[i],w.ax[j],w.bM[k], ?_, ?_, ?_,W.so _ (Gap hj'), ?_, ?_, ?_⟩
 .rw[hi,Gbb,Gaa eV]
 .rw[hj,Gbb,Gaa hj']
 .rw[hk,Gbb,Gaa xO]
 .rw[hi,bA,Gaj,Gaa eV];rfl
 .rw[hj,bA,Gaj,Gaa hj'];rfl
 .rw[hk,bA,Gaj,Gaa xO];rfl
def MD:kk b x=[]↔b=M:=by cases b<;>simp[kk]
def oJ{w:World}{n:Int}{o:Va}{s:fD}(e1:w.UU[n.toNat]? =U o)(e2:w.ax[o.aO.toNat]? =U s)(e3:w.bM[o.aA.toNat]? =U g):i8 w ws (n,h,a)=[]↔(((bW o.f9 h=M/\a<=o.most)/\(1<=a/\a%s.part=0))/\(s.aq.any b9&&(wgt o.aA h ws J).isNone)=M)/\¬h<g.2+s.young:=by
 unfold i8;dsimp only;rw[e1];dsimp only;rw[e2,e3];dsimp only;rw[Gey];simp only[lQ,Gde,MD,GcL,decide_eq_false_iff_not,GdI,Decidable.not_not]
theorem ph{w:World}{ws:List Tr}(W:aB w):∀gv x3 x4 x5 x6 x7 x8,cx w.UU.length gv->(∀t∈gv,i8 w ws t=[])->∃y3 y4 y5 y6 y7 y8,
  UX (gT [3,4,5]) dK (gv.map Vc) [U (Q (aj w)),U (Q (V [V (ws.map Vc),V G])),e2,x3,x4,x5,x6,x7,x8]=
   U (.nx [U (Q (aj w)),U (Q (V [V (ws.map Vc),V G])),e2,y3,y4,y5,y6,y7,y8])
 |[],x3,x4,x5,x6,x7,x8,_,_=> ⟨x3,x4,x5,x6,x7,x8,rfl⟩
 |t::gv,x3,x4,x5,x6,x7,x8,hg,hz=>by
  have g0:=hg t Gai;obtain⟨o,s,g,ho,hs,S9,so,hO,hS,hG⟩:=i9 W g0.1 g0.2;have ok:=W.oo o (GaH ho);obtain⟨⟨⟨⟨c1,c2⟩,c3,c4⟩,c5⟩,c6⟩:=(oJ ho hs S9).mp (hz t Gai);obtain⟨y3,y4,y5,y6,y7,y8,e⟩:=ph W (ws:=ws) (G:=G) (e2:=e2) gv (U (Q (P t.1))) (U (Q (P t.2.1))) (U (Q (P t.2.2))) (U (Q (ah o))) (U (Q (aI s))) (U (Z (X ((s.aq.filter b9).map aT)))) (λx hx=>hg x (Gaf _ hx)) λx hx=>hz x (Gaf _ hx);refine⟨y3,y4,y5,y6,y7,y8, ?_⟩;rw[Gav];unfold aj at e⊢;generalize w.UU.map ah=OO at*;generalize w.ax.map aI=SS at*;generalize w.bM.map cj=GG at*;show UX _ dK (V [P _,P _,P t.2.2]::gv.map Vc) _=_;simp only[UX,gT,gNs,GaT,GaU,Option.bind_some,(CK (C:=w.df.map Vc) (G:=G) (n:=_) (e2:=e2) (x6:=x6) (x7:=x7) (x8:=x8) rfl hO ok.du hS so hG (cw _ ok.ti) (bh ws) (by simp) (IJ _) c1 c2 c3 c4 c5 c6)];exact e
open EV in
def FQ{w:World}{ws gv:List Tr}(W:aB w)(hg:cx w.UU.length gv)(hz:∀t∈gv,i8 w ws t=[]):jv [aj w,V [V (ws.map Vc),V (gv.map Vc)]]=U (X []):=by
 obtain⟨y3,y4,y5,y6,y7,y8,h⟩:=ph W (G:=gv.map Vc) (e2:=U (Z (X []))) gv J J J J J J hg hz;generalize aj w=wd at*;refine aD rfl ((aa (e:=[U (Q wd),U (Q (V [V (ws.map Vc),V (gv.map Vc)])),U (Z (X [])),J,J,J,J,J,J]) rfl).trans ((aa (by simp[h];rfl)).trans ?_));simp
def oK(ts:List Tr)(o h v x y:Int):jd (oA ts o h v) x y=if o=x/\h=y then v else jd ts x y:=by
 unfold oA;cases ha:ts.any _ with
 |true=>
  rw[Gar rfl];unfold jd;rw[List.find?_map];by_cases c:o=x/\h=y
  .rw[Gar c];obtain⟨rfl,rfl⟩:=c;have e:(atT o h∘λt:Tr=>if atT o h t=O then(o,h,v) else t)=atT o h:=by
    funext t
    simp only[GbW];split
    .rename_i c;rw[c];exact GaI ⟨rfl,rfl⟩
    .rfl
   rw[e];cases hf:ts.find? _ with
   |none=>
    obtain⟨t,ht,q⟩:=Gdt.mp ha;exact absurd q (List.find?_eq_none.mp hf t ht)
   |some t=>
    have:=GcF hf;simp[this]
  .rw[Gaw c];have e:(atT x y∘λt:Tr=>if atT o h t=O then(o,h,v) else t)=atT x y:=by
    funext t
    simp only[GbW];split
    .rename_i q;have q' :=Gay q;have n1:atT x y (o,h,v)=M:=GaR c;have n2:atT x y t=M:=GaR (by rw[q'.1,q'.2];exact c);rw[n1,n2]
    .rfl
   rw[e];cases hf:ts.find? _ with
   |none=>rfl
   |some t=>
    have q0:atT x y t=O:=GcF hf;have q:=Gay q0;have n2:¬atT o h t=O:=λz=>by
     have z' :=Gay z;exact c ⟨by simp_all,by simp_all⟩
    simp[n2]
 |false=>
  rw[Gaw (by simp)];unfold jd;rw[List.find?_append];by_cases c:o=x/\h=y
  .obtain⟨rfl,rfl⟩:=c;have hf:ts.find? (atT o h)=J:=by
    rw[List.find?_eq_none];intro t ht q;rw[GeK] at ha;exact ha t ht q
   rw[hf];have:atT o h (o,h,v)=O:=GaI ⟨rfl,rfl⟩;simp[this]
  .rw[Gaw c];have:atT x y (o,h,v)=M:=GaR c;cases hf:ts.find? _<;>simp[this]
def mt(x y:Int)(b:Tr):Bool:=decide ((b.1=x/\b.2.1=y)\/(b.1=y/\b.2.1=x))
def oL(ts:List Tr)(b:Tr)(x y:Int):jd (aY ts b) x y=if mt x y b then b.2.2 else jd ts x y:=by
 unfold aY;rw[oK,oK];unfold mt;by_cases c1:b.2.1=x/\b.1=y
 .rw[Gar c1,Gar (GaI (.inr ⟨c1.2,c1.1⟩))]
 .rw[Gaw c1];by_cases c2:b.1=x/\b.2.1=y
  .rw[Gar c2,Gar (GaI (.inl c2))]
  .rw[Gaw c2,Gaw];intro z;rcases Gay z with z|z
   .exact c2 z
   .exact c1 ⟨z.2,z.1⟩
theorem Bq{W:Int}(x y:Int):∀(bs ts:List Tr),jd ts x y<=W->(∀b∈bs,b.2.2<=W)->jd (bs.foldl aY ts) x y<=W
 |[],_,h,_=>h
 |b::bs,ts,h,l=>Bq x y bs _ (by rw[oL];split<;>first|exact h|exact l b Gai) λc hc=>l c (Gaf _ hc)
theorem vJ(x y:Int):∀(bs ts:List Tr),(∀b∈bs,¬mt x y b=O)->jd (bs.foldl aY ts) x y=jd ts x y
 |[],_,_=>rfl
 |b::bs,ts,h=>by rw[Gcl,vJ x y bs _ λc hc=>h c (Gaf _ hc),oL,Gaw (h b Gai)]
theorem Br(m:mt x y c=O):∀(bs ts:List Tr),(∀b∈bs,b.1<=b.2.1)->(bs.map Fl).Nodup->c∈bs->jd (bs.foldl aY ts) x y=c.2.2
 |b::bs,ts,le,nd,hc=>by
  rw[Gav,GbO] at nd;rw[Gcl];rcases Gaq.mp hc with rfl|hc
  .rw[vJ x y bs _ λd hd q=> ?_,oL,Gar m];refine nd.1 (GaP.mpr ⟨d,hd, ?_⟩);have c' :=Gay m;have q' :=Gay q;have l1:=le c Gai;have l2:=le d (Gaf _ hd);exact Prod.ext (by show d.1=c.1;lia) (by show d.2.1=c.2.1;lia)
  .exact Br m bs _ (λd hd=>le d (Gaf _ hd)) nd.2 hc
theorem Ae:∀ns (n:Int),n<=lU n ns/\∀m∈ns,m<=lU n ns
 |[],n=> ⟨Gcu _,by simp⟩
 |k::ns,n=>by
  have h:=Ae ns (if k>n then k else n);have e:lU n (k::ns)=lU (if k>n then k else n) ns:=rfl;rw[e];refine⟨?_,λm hm=> ?_⟩
  .have:=h.1;split at this<;>split<;>lia
  .rcases Gaq.mp hm with rfl|hm
   .have:=h.1;split at this<;>split<;>lia
   .exact h.2 m hm
def IK(pos:∀b∈bs,1<=b.2.2):0<=wide bs/\∀b∈bs,b.2.2<=wide bs:=by
 cases bs with
 |nil=>exact⟨by decide,by simp⟩
 |cons b bs=>
  have e:wide (b::bs)=lU _ _:=rfl;have h:=Ae (bs.map (·.2.2)) b.2.2;rw[e];have:=pos b Gai;refine⟨by lia,λc hc=> ?_⟩;rcases Gaq.mp hc with rfl|hc
  .exact h.1
  .exact h.2 _ (GaP.mpr ⟨c,hc,rfl⟩)
def ME{bs:List Tr}(pos:∀b∈bs,1<=b.2.2)(a b:Va):rg (bs.foldl aY []) a b<=wide bs:=by
 have w:=IK pos;unfold rg;split
 .exact Bq _ _ bs [] w.1 w.2
 .exact w.1
def FT{w:Int}{r l:Int×Int}(le:∀a b,rg gs a b<=w)(h:l.1 -r.1>=w):gpF os gs r l=[]:=by
 unfold gpF;split
 .rename_i a b _ _;exact Gaw (GdI.mpr (Gdo (le a b) h))
 .rfl
theorem sE{os:List Va}{w:Int}{r:Int×Int}(le:∀a b,rg gs a b<=w):∀ls,(ls.Pairwise λa b=>a.1<=b.1)->jL os gs w r ls=[]->∀l∈ls,gpF os gs r l=[]
 |l::ls,h,e,x,hx=>by
  rw[GbG] at h;unfold jL at e;by_cases c:l.1 -r.1>=w
  .refine FT le ?_;rcases Gaq.mp hx with rfl|hx
   .exact c
   .have:=h.1 x hx;lia
  .rw[Gaw c,Gde] at e;rcases Gaq.mp hx with rfl|hx
   .exact e.1
   .exact sE le ls h.2 e.2 x hx
theorem qT{os:List Va}{w:Int}(le:∀a b,rg gs a b<=w):∀ls,(ls.Pairwise λa b=>a.1<=b.1)->de os gs w ls=[]->ls.Pairwise λr l=>gpF os gs r l=[]
 |[],_,_=> .nil
 |l::ls,h,e=>by
  rw[GbG] at h⊢;unfold de at e;rw[Gde] at e;exact⟨sE le ls h.2 e.1,qT le ls h.2 e.2⟩
def MF{bs:List Tr}{r l:Int×Int}{a b:Va}(le:∀b∈bs,b.1<=b.2.1)(nd:(bs.map Fl).Nodup)(h:gpF os (bs.foldl aY []) r l=[])(ha:os[r.2.toNat]? =U a)(hb:os[l.2.toNat]? =U b)(g:a.aA=b.aA)(hc:c∈bs)(m:mt a.aO b.aO c=O):¬l.1 -r.1<c.2.2:=λq=>by
 unfold gpF rg at h;rw[ha,hb] at h;dsimp only at h;rw[Gar g,Br m bs [] le nd hc,Gar q] at h;cases h
def FU(a b:Int):UZ [X [P a,P b]]=U ⟨.tn,X (if a<b then[P a,P b] else[P b,P a])⟩:=by
 have k:Vb [P a,P b]=O:=rfl;have e:bT [P a,P b]=if a<b then[P a,P b] else[P b,P a]:=by
  show(if ltC _ _ then[P a,P b] else[P b,P a])=_;have l:ltC (DL.code (P a)) (DL.code (P b))=decide (a<b):=by
   show dO _ [[1,a]] [[1,b]]=_;by_cases c:a=b
   .subst c;simp[dO]
   .by_cases c2:a<b<;>simp[dO,ltI,c,c2]
  rw[l];by_cases c:a<b
  .rw[GaI c,Gar rfl,Gar c]
  .rw[GaR c,Gaw (by simp),Gaw c]
 simp only[UZ,one,jR,Option.bind_some];rw[k,e]
 rfl
def FV(u v x y:Int):eqB (X [P u,P v]) (X [P x,P y])=U (decide (u=x/\v=y)):=by
 unfold eqB;by_cases c1:u=x<;>by_cases c2:v=y<;>simp[c1,c2]
def IL(le:x<=y)(h:(if a<b then[P a,P b] else[P b,P a])=L):eqB (X L) (X [P x,P y])=U (mt a b (x,y,0)):=by
 subst h;unfold mt;split
 .rename_i c;rw[FV];congr 1;rw[Gei];show _↔_\/_;lia
 .rename_i c;rw[FV];congr 1;rw[Gei];show _↔(x=a/\y=b)\/(x=b/\y=a);lia
section
open EV in
def IM(hi:atD R i=U (V [P r1,P r2]))(hj:atD R j=U (V [P l1,P l2]))(a1:ixD OA (P 1)=U (P g1))(a2:ixD OA (P 2)=U (P s1))(b1:ixD OB (P 1)=U (P g2))(b2:ixD OB (P 2)=U (P s2))(hs:UZ [X [P s1,P s2]]=U ⟨.tn,X L⟩)(he:eqB (X L) (X [P c1,P c2])=U m)(hq:g1=g2->m=O->¬l1 -r1<c3):
  dB [e0,e1,U (Z (X R)),U (Q OA),e4,U (Q (P j)),U (Q (P i)),U (Q OB),U (Q (V [P c1,P c2,P c3]))]=
   U (.nx [e0,e1,U (Z (X R)),U (Q OA),e4,U (Q (P j)),U (Q (P i)),U (Q OB),U (Q (V [P c1,P c2,P c3]))]):=by
 unfold dB;by_cases g:g1=g2
 .have ge:eqB (P g1) (P g2)=U O:=by unfold eqB;simp[g]
  cases m with
  |false=>simp[a1,b1,a2,b2,hs,he,a9]
  |true=>simp[a1,b1,ge,a2,b2,hs,he,hi,hj,hq g rfl,a9]
 .have ge:eqB (P g1) (P g2)=U M:=by unfold eqB;simp[g]
  simp[a1,b1,ge]
theorem sF{a b:Va}(hi:atD R i=U (mk2 r))(hj:atD R j=U (mk2 l)):∀(bs:List Tr) (x8:Os),(∀c∈bs,c.1<=c.2.1/\(a.aA=b.aA->mt a.aO b.aO c=O->¬l.1 -r.1<c.2.2))->∃y8,
  UX (gN 8) dB (bs.map Vc) [e0,e1,U (Z (X R)),U (Q (ah a)),e4,U (Q (P j)),U (Q (P i)),U (Q (ah b)),x8]=
   U (.nx [e0,e1,U (Z (X R)),U (Q (ah a)),e4,U (Q (P j)),U (Q (P i)),U (Q (ah b)),y8])
 |[],x8,_=> ⟨x8,rfl⟩
 |c::bs,x8,h=>by
  have hc:=h c Gai;have ev:=IM (e0:=e0) (e1:=e1) (e4:=e4) (OA:=ah a) (OB:=ah b) (c3:=_) hi hj rfl rfl rfl rfl (FU _ _) (IL (a:=_) (b:=_) hc.1 rfl) hc.2;obtain⟨y8,e⟩:=sF hi hj bs (U (Q (Vc c))) λd hd=>h d (Gaf _ hd);refine⟨y8, ?_⟩;rw[Gav];have td:V [P _,P _,P c.2.2]=Vc c:=rfl;rw[td] at ev;generalize Vc c=cd at*;simp only[UX,gN,GaT,GaU,Option.bind_some,ev];exact e
end
open EV in
def IP{OA OB:D}(hi:atD R i=U (V [P r1,P r2]))(hj:atD R j=U (V [P l1,P l2]))(ha:atD US r2=U OA)(hb:atD US l2=U OB)(ia:OA.imm=O)(ib:OB.imm=O)
  (h:UX (gN 8) dB C [U (Q (V [V A,V B,V C,V US])),e1,U (Z (X R)),U (Q OA),e4,U (Q (P j)),U (Q (P i)),U (Q OB),x8]=U (.nx e')):
  dC [U (Q (V [V A,V B,V C,V US])),e1,U (Z (X R)),x3,e4,U (Q (P j)),U (Q (P i)),x7,x8]=U (.nx e'):=by
 refine(aa (by simp_all;rfl)).trans ((aa (by simp_all;rfl)).trans ?_);simp[h]
def u3{rows:List (Int×Int)}(hi:i<rows.length):atD (rows.map mk2) (i:Int)=U (mk2 rows[i]):=by
 rw[bA,Gaj,Gaa hi];rfl
section
def IQ{w:World}(W:aB w)(hr:∀l∈rows,0<=l.2/\l.2<w.UU.length)(hp:rows.Pairwise λr l=>gpF w.UU (w.df.foldl aY []) r l=[])(hj:j<rows.length)(x3 x6 x7 x8:Os):∃y3 y6 y7 y8,
  UX (gN 6) dC (aN 0 j) [U (Q (aj w)),e1,U (Z (X (rows.map mk2))),x3,e4,U (Q (P (j:Int))),x6,x7,x8]=
   U (.nx [U (Q (aj w)),e1,U (Z (X (rows.map mk2))),y3,e4,U (Q (P (j:Int))),y6,y7,y8]):=by
 obtain⟨en,h1,y3,y6,y7,y8,rfl⟩:=cU (g:=gN 6) (body:=dC) (λi env=>∃y3 y6 y7 y8,env=[U (Q (aj w)),e1,U (Z (X (rows.map mk2))),y3,e4,U (Q (P (j))),y6,y7,y8]) _ 0 _ ⟨x3,x6,x7,x8,rfl⟩ (by
  rintro i d en hd ⟨y3,y6,y7,y8,rfl⟩;obtain⟨hi,rfl⟩:=br hd;have e0' :(0)+(i)=(i:Int):=by simp
  rw[e0'];have eV :i<_:=Nat.lt_trans hi hj;have hri:=hr rows[i] (Gap eV);have hrj:=hr rows[j] (Gap hj);obtain⟨a,_,_,ha,_,_,_,oa,_⟩:=i9 W hri.1 hri.2;obtain⟨b,_,_,hb,_,_,_,ob,_⟩:=i9 W hrj.1 hrj.2;obtain⟨z8,eb⟩:=sF (e0:=U (Q (aj w))) (e1:=e1) (e4:=e4) (a:=a) (b:=b) (u3 eV) (u3 hj) _ y8 λc hc=> ⟨(W.bo.1 c hc).2.1,λg m=>MF (λb hb=>(W.bo.1 b hb).2.1) W.bo.2 (Gch.mp hp i j eV hj hi) ha hb g hc m⟩;exact⟨_,_,rfl,IP (x3:=y3) (x7:=y7) (A:=w.bM.map cj) (B:=w.ax.map aI) (u3 eV) (u3 hj) oa ob (cw _ (W.oo a (GaH ha)).ti) (cw _ (W.oo b (GaH hb)).ti) eb,_,U (Q (P _)),_,_,rfl⟩)
 exact⟨y3,y6,y7,y8,h1⟩
open EV in
def IS{j:Int}(sm:aU j=O)(h:UX (gN 6) dC (aN 0 j.toNat) [e0,e1,e2,x3,e4,U (Q (P j)),x6,x7,x8]=U (.nx e')):cD [e0,e1,e2,x3,e4,U (Q (P j)),x6,x7,x8]=U (.nx e'):=by
 simp[cD,sm,h]
def CL{w:World}(W:aB w)(hr:∀l∈rows,0<=l.2/\l.2<w.UU.length)(hp:rows.Pairwise λr l=>gpF w.UU (w.df.foldl aY []) r l=[])(hn:rows.length<64):∃y3 y5 y6 y7 y8,
  UX (gN 5) cD (aN 0 rows.length) [U (Q (aj w)),e1,U (Z (X (rows.map mk2))),J,e4,J,J,J,J]=
   U (.nx [U (Q (aj w)),e1,U (Z (X (rows.map mk2))),y3,e4,y5,y6,y7,y8]):=by
 obtain⟨en,h1,y3,y5,y6,y7,y8,rfl⟩:=cU (g:=gN 5) (body:=cD) (λj env=>∃y3 y5 y6 y7 y8,env=[U (Q (aj w)),e1,U (Z (X (rows.map mk2))),y3,e4,y5,y6,y7,y8]) _ 0 _ ⟨J,J,J,J,J,rfl⟩ (by
  rintro j d en hd ⟨y3,y5,y6,y7,y8,rfl⟩;obtain⟨hj,rfl⟩:=br hd;have e0' :(0)+(j)=(j:Int):=by simp
  rw[e0'];obtain⟨z3,z6,z7,z8,e⟩:=IQ W (e1:=e1) (e4:=e4) hr hp hj y3 y6 y7 y8;exact⟨_,_,rfl,IS (j:=_) (bf (by simp) (by lia)) (by rw[Gbb];exact e),_,U (Q (P _)),_,_,_,rfl⟩)
 exact⟨y3,y5,y6,y7,y8,h1⟩
open EV in
def FW{W G:List D}{n:Int}(zg:G.length<1000)(hc:bz (gN 0) dS (cX (ae (Vd (vE 0) (kE (P 1))) (ae (Vd (vE 0) (kE (P 0))) aL))) G [J]=U R)(hs:UZ [X R]=U ⟨.tn,X R'⟩)(hn:b5 [X R']=U ⟨.c,P n⟩)(sm:aU n=O)
  (h:UX (gN 5) cD (aN 0 n.toNat) [U (Q wd),U (Q (V [V W,V G])),U (Z (X R')),J,U (Z (X [])),J,J,J,J]=U (.nx [U (Q wd),U (Q (V [V W,V G])),U (Z (X R')),y3,U (Z (X [])),y5,y6,y7,y8])):jw [wd,V [V W,V G]]=U (X []):=by
 have z:G.length<=16777216:=by exact Gak (GaJ ‹_›) (by simp)
 refine aD rfl ?_;unfold mz;refine(aa (by simp[-bz,bY,a9,DL.UY,dH,z,hc,hs];rfl)).trans ((aa rfl).trans ((aa (by simp[-UX,-gL,hn,sm,h,freed];rfl)).trans ?_));simp
open EV in
def MG{w:World}{gv:List Tr}{rows:List (Int×Int)}{ws:List Tr}(W:aB w)(hg:cx w.UU.length gv)(hl:gv.length<64)(r1:bT ((gvR gv).map mk2)=rows.map mk2)(r2:rows.Perm (gvR gv))(hp:rows.Pairwise λr l=>gpF w.UU (w.df.foldl aY []) r l=[]):jw [aj w,V [V (ws.map Vc),V (gv.map Vc)]]=U (X []):=by
 have lr:rows.length=gv.length:=by rw[r2.length_eq];simp[gvR]
 have hr:∀l∈rows,0<=l.2/\l.2<_:=λl hl=>by
  obtain⟨t,ht,rfl⟩:=GaP.mp (r2.mem_iff.mp hl);exact hg t ht
 have hc:=fQ (g:=gN 0) (f:=cX (ae (Vd (vE 0) (kE (P 1))) (ae (Vd (vE 0) (kE (P 0))) aL))) Vc (λenv=>∃y,env=[y]) (λt=>mk2 (t.2.1,t.1)) gv [J] ⟨J,rfl⟩ (by
  rintro t ht env ⟨y,rfl⟩;exact⟨_,rfl,⟨_,rfl⟩,.c,by simp[Vc,mk2,a9],rfl⟩)
 have e1:gv.map (λt=>mk2 (t.2.1,t.1))=(gvR gv).map mk2:=by unfold gvR;rw[GaL];rfl
 rw[e1] at hc;have hs:=mG (ms:=gvR gv) (by simp[gvR];exact hl);rw[r1] at hs;obtain⟨y3,y5,y6,y7,y8,e⟩:=CL W hr hp (by simp[*]);exact FW (n:=(rows.length)) (by rw[Gah];exact Gak ‹_› (by simp)) hc hs (by simp) (bf (by simp) (by lia)) (by rw[Gbb];exact e)
end
def FY(os:List Va)(g:Tr):Option Int:=(os[g.1.toNat]?).bind λo=>oY o.f9 g.2.1
def FZ(os:List Va)(o k:Int)(g:Tr):Bool:=decide (g.1=o)&&decide (FY os g=U k)
def oM(os:List Va)(pre:List Tr)(o k:Int):Nat:=(pre.filter (FZ os o k)).length
def G0(os:List Va)(pre:List Tr)(g:Tr)(o k:Int):oM os (pre++[g]) o k=oM os pre o k+(if FZ os o k g then 1 else 0):=by
 unfold oM;rw[List.filter_append,GaF];congr 1;cases h:FZ os o k g<;>simp[h]
theorem G1{os:List Va}:∀gv pre ts,(∀x y,jd ts x y=(oM os pre x y:Int))->∀x y,jd (gv.foldl (bS os) ts) x y=(oM os (pre++gv) x y:Int)
 |[],pre,ts,h=>by rw[GbE];exact h
 |g::gv,pre,ts,h=>by
  have:=G1 gv _ (bS os ts g) λx y=>by
   rw[G0];have e:bS os ts g=twU ts _ (FY os g):=rfl;rw[e];unfold FZ;cases FY os g with
   |none=>simpa[twU] using h x y
   |some k=>
    show jd (oA ts _ k _) x y=_;rw[oK];by_cases c:g.1=x/\k=y
    .obtain⟨rfl,rfl⟩:=c;simp[h]
    .rw[Gaw c,h];by_cases c1:g.1=x
     .have c2:¬k=y:=λz=>c ⟨c1,z⟩;simp[c1,c2]
     .simp[c1]
  rwa[Gaz] at this
def OY{gv:List Tr}(h:twF (gv.foldl (bS os) [])=[])(o k:Int):oM os gv o k<=1:=by
 have e:=G1 (os:=os) gv [] [] (λ_ _=>rfl) o k;rw[Gep] at e;unfold twF at h;rw[Gey,List.filter_eq_nil_iff] at h;unfold jd at e;generalize gv.foldl _ []=T at*;cases q:T.find? _ with
 |none=>
  rw[q] at e;have e:(0)=(oM os gv o k:Int):=e;lia
 |some t=>
  rw[q] at e;have e:t.2.2=_:=e;have:=h t (GbP q);simp at this;lia
def wIn(f l h:Int):Bool:=decide (f<=h)&&decide (h<=l)
open EV in
def G2(hs:List Int)(f l:Int):bz (gN 0) (cK (ao leB (vE 1) (vE 0)) (ao leB (vE 0) (vE 2))) (vE 0) (hs.map P) [J,U (Q (P f)),U (Q (P l))]=U ((hs.filter (wIn f l)).map P):=by
 refine cF _ (λenv=>∃y,env=[y,U _,U _]) _ _ hs _ ⟨J,rfl⟩ ?_;rintro h hh env ⟨y,rfl⟩;refine⟨[U _,U _,U _],rfl,⟨_,rfl⟩, ?_,λ_=> ⟨.c,by simp,rfl⟩⟩;unfold wIn;by_cases c1:f<=h<;>by_cases c2:h<=l<;>simp[c1]
def fC(gv:List Tr)(o:Int):List Int:=(gv.filter λt=>decide (t.1=o)).map (·.2.1)
def G3(e1:1<=e)(a0:0<=ea)(l0:0<=la)(al:ea+la<e):mD b e m ea la h=U k↔(0<=k/\k<m)/\(b+k*e -ea<=h/\h<=b+k*e+la):=by
 rw[Bp e1 a0 l0 al];unfold mD;constructor
 .intro q;split at q
  .rename_i c;injection q with q
   rw[q] at c;exact⟨c.1,q,c.2⟩
  .cases q
 .rintro⟨h1,h2,h3⟩;rw[h2,Gar ⟨h1,h3⟩]
def IT{k:Nat}(hi:i<os.length)(hd:os[i].f9= .due b e m ea la)(ok:jE os[i].f9)(hk:(k:Int)<m):((fC gv (i:Int)).filter (wIn (b+(k:Int)*e -ea) (b+(k:Int)*e+la))).length=oM os gv (i:Int) (k:Int):=by
 rw[hd] at ok;obtain⟨e1,e2,hm,a0,l0,al,ab,b3⟩:=ok;unfold fC oM;rw[List.filter_map,Gah,List.filter_filter];congr 1;apply List.filter_congr;intro t _;simp only[FZ,wIn,GbW];by_cases c:t.1=(i)
 .have dg:FY os t=mD b e m ea la t.2.1:=by
   unfold FY;rw[c,Gbb,Gaa hi];show oY os[i].f9 _=_;rw[hd]
   rfl
  rw[dg,GaI c,GeD,GdZ];have iff:=G3 (b:=b) (m:=m) (h:=t.2.1) (k:=(k)) e1 a0 l0 al;by_cases c1:b+(k)*e -ea<=t.2.1
  .by_cases c2:t.2.1<=b+(k)*e+la
   .rw[GaI c1,GaI c2,GaI (iff.mpr ⟨⟨by simp,hk⟩,c1,c2⟩)]
    rfl
   .rw[GaR c2,GaR (λz=>c2 (iff.mp z).2.2),Gez]
  .rw[GaR c1,GaR (λz=>c1 (iff.mp z).2.1),Bool.false_and]
 .rw[GaR c,Gez,Bool.false_and]
open EV in
def OZ{Hs:List D}(me:bw k e=O)(zh:Hs.length<100000)(hc:bz (gN 0) (cK (ao leB (vE 1) (vE 0)) (ao leB (vE 0) (vE 2))) (vE 0) Hs [J,U (Q (P (b+k*e -ea))),U (Q (P (b+k*e+la)))]=U R)(hn:b5 [X R]=U ⟨.c,P n⟩)(c:¬1<n):
  cg [e0,e1,e2,U (Q (P o)),U (Q (V [Y "due",P b,P e,P m,P ea,P la])),U (Z (X Hs)),U (Q (P k)),x7,x8]=
   U (.nx [e0,e1,e2,U (Q (P o)),U (Q (V [Y "due",P b,P e,P m,P ea,P la])),U (Z (X Hs)),U (Q (P k)),U (Q (P (b+k*e -ea))),U (Q (P (b+k*e+la)))]):=by
 have z2:Hs.length<=16777216:=by exact Gak (GaJ ‹_›) (by simp)
 refine(aa (by simp[me];rfl)).trans ((aa (by simp[me];rfl)).trans ?_);simp[a9,DL.UY,dH,z2,hc,hn,c]
def P0{gv:List Tr}{m:Int}(he:1<=e)(UE:e<=12000000)(hm:m<=60)(hg:gv.length<64)(hc:∀k:Nat,(k:Int)<m->((fC gv o).filter (wIn (b+(k:Int)*e -ea) (b+(k:Int)*e+la))).length<=1):∃y6 y7 y8,
  UX (gN 6) cg (aN 0 m.toNat) [e0,e1,e2,U (Q (P o)),U (Q (V [Y "due",P b,P e,P m,P ea,P la])),U (Z (X ((fC gv o).map P))),x6,x7,x8]=
   U (.nx [e0,e1,e2,U (Q (P o)),U (Q (V [Y "due",P b,P e,P m,P ea,P la])),U (Z (X ((fC gv o).map P))),y6,y7,y8]):=by
 have hh:(fC gv o).length<64:=by
  unfold fC;rw[Gah];exact GaG (Gbo ..) hg
 obtain⟨en,h1,y6,y7,y8,rfl⟩:=cU (g:=gN 6) (body:=cg) (λj env=>∃y6 y7 y8,env=[e0,e1,e2,U (Q (P o)),U (Q (V [Y "due",P b,P e,P m,P ea,P la])),U (Z (X ((fC gv o).map P))),y6,y7,y8]) (aN 0 m.toNat) 0 _ ⟨x6,x7,x8,rfl⟩ (by
  rintro i d en hd ⟨y6,y7,y8,rfl⟩;obtain⟨hi,rfl⟩:=br hd;have e0' :(0)+(i)=(i:Int):=by simp
  rw[e0'];exact⟨_,_,rfl,(OZ (n:=(((fC gv o).filter (wIn (b+(i)*e -ea) (b+(i)*e+la))).length:Int)) (e0:=e0) (e1:=e1) (e2:=e2) (x7:=y7) (x8:=y8) (o:=o) (k:=_) (b:=b) (m:=m) (ea:=ea) (la:=la) (jA (by lia) (by lia)) (by rw[Gah];exact Gak ‹_› (by simp)) (G2 _ _ _) (by simp) (by have:=hc i (by lia);exact GdI.mpr (Int.ofNat_le.mpr this))),U (Q (P _)),_,_,rfl⟩)
 exact⟨y6,y7,y8,h1⟩
open EV in
def Af(gv:List Tr)(o:Int):bz (gN 0) (ao eqB (Vd (vE 0) (kE (P 0))) (vE 1)) (Vd (vE 0) (kE (P 1))) (gv.map Vc) [J,U (Q (P o))]=U ((fC gv o).map P):=by
 unfold fC;rw[GaL];refine cF Vc (λenv=>∃y,env=[y,U _]) _ _ gv _ ⟨J,rfl⟩ ?_;rintro t ht env ⟨y,rfl⟩;refine⟨[U _,U _],rfl,⟨_,rfl⟩, ?_,λ_=> ⟨.c, ?_,rfl⟩⟩
 .by_cases c:t.1=o<;>simp[Vc,c]
 .simp[Vc]
open EV in
def MH{W G:List D}{o b e m:Int}(hO:atD US o=U (V [nm,g,st,ru,V [Y "due",P b,P e,P m,P ea,P la],tp]))(zg:G.length<1000)(hc:bz (gN 0) (ao eqB (Vd (vE 0) (kE (P 0))) (vE 1)) (Vd (vE 0) (kE (P 1))) G [J,U (Q (P o))]=U Hs)(sm:aU m=O)
  (h:UX (gN 6) cg (aN 0 m.toNat) [U (Q (V [V A,V B,V C,V US])),U (Q (V [V W,V G])),e2,U (Q (P o)),U (Q (V [Y "due",P b,P e,P m,P ea,P la])),U (Z (X Hs)),x6,x7,x8]=U (.nx [U (Q (V [V A,V B,V C,V US])),U (Q (V [V W,V G])),e2,U (Q (P o)),U (Q (V [Y "due",P b,P e,P m,P ea,P la])),U (Z (X Hs)),y6,y7,y8])):
  bq [U (Q (V [V A,V B,V C,V US])),U (Q (V [V W,V G])),e2,U (Q (P o)),x4,x5,x6,x7,x8]=U (.nx [U (Q (V [V A,V B,V C,V US])),U (Q (V [V W,V G])),e2,U (Q (P o)),U (Q (V [Y "due",P b,P e,P m,P ea,P la])),U (Z (X Hs)),y6,y7,y8]):=by
 have z:G.length<=16777216:=by exact Gak (GaJ ‹_›) (by simp)
 refine(aa (e:=[U (Q (V [V A,V B,V C,V US])),U (Q (V [V W,V G])),e2,U (Q (P o)),U (Q (V [Y "due",P b,P e,P m,P ea,P la])),x5,x6,x7,x8]) (by simp[hO])).trans ((aa (by simp[a9,DL.UY,dH,z,hc];rfl)).trans ?_);simp[sm,h]
open EV in
def G4{W:List D}{o b:Int}(hO:atD US o=U (V [nm,g,st,ru,V [Y "asked",P b],tp])):
  bq [U (Q (V [V A,V B,V C,V US])),U (Q (V [V W,V G])),e2,U (Q (P o)),x4,x5,x6,x7,x8]=U (.nx [U (Q (V [V A,V B,V C,V US])),U (Q (V [V W,V G])),e2,U (Q (P o)),U (Q (V [Y "asked",P b])),x5,x6,x7,x8]):=by
 refine(aa (by simp[hO];rfl)).trans ?_
 rfl
def IU{w:World}{gv:List Tr}(W:aB w)(hg:gv.length<64)(S:∀o k,oM w.UU gv o k<=1)(hi:i<w.UU.length):∃y4 y5 y6 y7 y8,bq [U (Q (aj w)),U (Q (V [V Ws,V (gv.map Vc)])),e2,U (Q (P (i:Int))),x4,x5,x6,x7,x8]=U (.nx [U (Q (aj w)),U (Q (V [V Ws,V (gv.map Vc)])),e2,U (Q (P (i:Int))),y4,y5,y6,y7,y8]):=by
 have hO:atD (w.UU.map ah) (i)=U (ah w.UU[i]):=by rw[bA,Gaj,(Gaa hi)];rfl
 have du:=(W.oo w.UU[i] (Gap hi)).du;have cd:=λb e m ea la k hd hk=>IT (gv:=gv) (b:=b) (e:=e) (m:=m) (ea:=ea) (la:=la) (k:=k) hi hd du hk;unfold ah at hO;cases hu:w.UU[i].f9 with
 |asked b=>
  rw[hu] at hO;exact⟨_,_,_,_,_,G4 hO⟩
 |due b e m ea la=>
  rw[hu] at hO du;obtain⟨e1,R4,hm,_⟩:=du;obtain⟨z6,z7,z8,h⟩:=P0 (e0:=U (Q (aj w))) (e1:=U _) (e2:=e2) (x6:=x6) (x7:=x7) (x8:=x8) (gv:=gv) (o:=_) (b:=b) (m:=m) (ea:=ea) (la:=la) e1 R4 (by lia) hg λk hk=>by rw[cd _ _ _ _ _ _ hu hk];exact S _ _
  exact⟨_,_,_,_,_,MH hO (by rw[Gah];exact Gak ‹_› (by simp)) (Af gv _) (bf (by lia) (by lia)) h⟩
def IV{w:World}{gv:List Tr}(W:aB w)(hg:gv.length<64)(S:∀o k,oM w.UU gv o k<=1):∃y3 y4 y5 y6 y7 y8,UX (gN 3) bq (aN 0 w.UU.length) [U (Q (aj w)),U (Q (V [V Ws,V (gv.map Vc)])),e2,J,J,J,J,J,J]=
  U (.nx [U (Q (aj w)),U (Q (V [V Ws,V (gv.map Vc)])),e2,y3,y4,y5,y6,y7,y8]):=by
 obtain⟨en,h1,y3,y4,y5,y6,y7,y8,rfl⟩:=cU (g:=gN 3) (body:=bq) (λj env=>∃y3 y4 y5 y6 y7 y8,env=[U (Q (aj w)),U (Q (V [V Ws,V (gv.map Vc)])),e2,y3,y4,y5,y6,y7,y8]) _ 0 _ ⟨J,J,J,J,J,J,rfl⟩ (by
  rintro i d en hd ⟨y3,y4,y5,y6,y7,y8,rfl⟩;obtain⟨hi,rfl⟩:=br hd;have e0' :(0)+(i)=(i:Int):=by simp
  rw[e0'];obtain⟨y4,y5,y6,y7,y8,ev⟩:=IU W (e2:=e2) (x4:=y4) (x5:=y5) (x6:=y6) (x7:=y7) (x8:=y8) hg S hi;exact⟨_,_,rfl,ev,U (Q (P _)),_,_,_,_,_,rfl⟩)
 exact⟨y3,y4,y5,y6,y7,y8,h1⟩
open EV in
def MI{W:List D}{n:Int}(hn:b5 [V US]=U ⟨.c,P n⟩)(sm:aU n=O)(h:UX (gN 3) bq (aN 0 n.toNat) [U (Q (V [V A,V B,V C,V US])),U (Q (V [V W,V G])),U (Z (X [])),J,J,J,J,J,J]=U (.nx [U (Q (V [V A,V B,V C,V US])),U (Q (V [V W,V G])),U (Z (X [])),y3,y4,y5,y6,y7,y8])):
  fU [V [V A,V B,V C,V US],V [V W,V G]]=U (X []):=by
 refine aD rfl ?_;unfold j2;refine(aa (e:=[U (Q (V [V A,V B,V C,V US])),U (Q (V [V W,V G])),U (Z (X [])),J,J,J,J,J,J]) rfl).trans ((aa (by simp[-UX,-fW,hn,sm,h,freed];rfl)).trans ?_);simp
open EV in
def CM{w:World}{ws gv:List Tr}(W:aB w)(hl:gv.length<64)(S:∀o k,oM w.UU gv o k<=1):fU [aj w,V [V (ws.map Vc),V (gv.map Vc)]]=U (X []):=by
 have o12:=W.o12;obtain⟨y3,y4,y5,y6,y7,y8,e⟩:=IV W hl S;exact MI (n:=(w.UU.length)) (by simp) (bf (by simp) (by lia)) (by rw[Gbb];exact e)
def Ah(W:aB w):(aj w).imm=O:=by
 have h1:=dM qF w.bM;have h2:=dM gZ w.ax;have h4:ay (w.UU.map ah)=O:=by
  have:∀l:List Va,(∀o∈l,lC w.bM.length w.ax.length o)->ay (l.map ah)=O:=by
   intro l;induction l with
   |nil=>intro _;rfl
   |cons o l ih=>
    intro h;rw[Gav];simp[(cw o (h o Gai).ti),(ih λx hx=>h x (Gaf _ hx))]
  exact this _ W.oo
 simp[aj,h1,h2,(bh _),h4]
def bkD(ws gv:List Tr):D:= V [V (ws.map Vc),V (gv.map Vc)]
def gq(ws gv:List Tr):(bkD ws gv).imm=O:=by
 simp[bkD,(bh ws),(bh gv)]
open EV in
def G5{rs:List Tr}{r:Tr}(h:rs.length<63):∃R:List Tr,lu [V (rs.map Vc),Vc r]=U (V (R.map Vc))/\R.Perm (rs++[r]):=by
 obtain⟨R,hs,p⟩:=Ir (rs++[r]) (by simp;exact GbI ‹_› _);refine⟨R, ?_,p⟩;have e:UZ [V _]=UZ [X ((rs++[r]).map Vc)]:=rfl;rw[<-e,Gbe,Gav,List.map_nil] at hs;have z:rs.length<=16777215:=by exact Gak (GaJ ‹_›) (by simp)
 have im:=bh rs;have ir:=lB r;have zz:(rs.map Vc).length=_:=Gah _;refine aD rfl ?_;simp[oj,hs,(bh R),a9,z]
def nk(n h:Int)(t:Tr):Bool:= !decide (t.1=n)|| !decide (t.2.1=h)
open EV in
def G6(rs:List Tr)(n h:Int):bz (gN 0) (orT (ao neB (Vd (vE 0) (kE (P 0))) (vE 1)) (ao neB (Vd (vE 0) (kE (P 1))) (vE 2))) (vE 0) (rs.map Vc) [J,U (Q (P n)),U (Q (P h))]=U ((rs.filter (nk n h)).map Vc):=by
 refine cF Vc (λenv=>∃y,env=[y,U _,U _]) _ Vc rs _ ⟨J,rfl⟩ ?_;rintro t ht env ⟨y,rfl⟩;have im:=lB t;refine⟨[U _,U _,U _],rfl,⟨_,rfl⟩, ?_,λ_=> ⟨.c, ?_, ?_⟩⟩
 .unfold nk;by_cases c1:t.1=n<;>by_cases c2:t.2.1=h<;>simp[Vc,c1,c2]
 .simp
 .rfl
open EV in
def JN{rs:List Tr}(hl:rs.length<1000):iH [V (rs.map Vc),P n,P h]=U (V ((rs.filter (nk n h)).map Vc)):=by
 have hc:=G6 rs n h;have im:=bh rs;have z:(rs.map Vc).length<=16777216:=by rw[Gah];exact Gak (GaJ ‹_›) (by simp)
 generalize rs.map Vc=R at*;refine aD rfl ?_;simp[kA,a9,DL.UY,dH,z,hc,(bh _)]
open EV in
def JO(ia:ay A=O)(ir:ay R=O)(is:ay S=O)(hl:lu [V R,V [P o,P h,P a]]=U (V S)):di [V [V A,V R],P o,P h,P a]=U (V [V A,V S])/\iW [V [V R,V A],P o,P h,P a]=U (V [V S,V A]):=by
 have rs:=aV (d:= V S) (by simp[is]);constructor
 .refine aD rfl ?_;simp[iU,ia,hl,is,a9]
 .refine aD rfl ?_;simp[iV,ia,hl,is,a9]
open EV in
def JP(ia:ay A=O)(ir:ay R=O)(is:ay S=O)(hl:iH [V R,P o,P h]=U (V S)):bZ [V [V A,V R],P o,P h]=U (V [V A,V S])/\fM [V [V R,V A],P o,P h]=U (V [V S,V A]):=by
 have rs:=aV (d:= V S) (by simp[is]);constructor
 .refine aD rfl ?_;simp[fK,ia,hl,is,a9]
 .refine aD rfl ?_;simp[fL,ia,hl,is,a9]
def MJ{gv:List Tr}(hl:gv.length<63):∃R,di [bkD ws gv,P o,P h,P a]=U (bkD ws R)/\R.Perm (gv++[(o,h,a)]):=
 let⟨R,hR,p⟩:=G5 (r:=(o,h,a)) hl;⟨R,(JO (bh _) (bh _) (bh _) hR).1,p⟩
def Qo{ws:List Tr}(hl:ws.length<63):∃R,iW [bkD ws gv,P o,P h,P a]=U (bkD R gv)/\R.Perm (ws++[(o,h,a)]):=
 let⟨R,hR,p⟩:=G5 (r:=(o,h,a)) hl;⟨R,(JO (bh _) (bh _) (bh _) hR).2,p⟩
def MK{gv:List Tr}(hl:gv.length<63):bZ [bkD ws gv,P o,P h]=U (bkD ws (gv.filter (nk o h))):=(JP (bh _) (bh _) (bh _) (JN (by exact Gak ‹_› (by simp)))).1
def Qp{ws:List Tr}(hl:ws.length<63):fM [bkD ws gv,P o,P h]=U (bkD (ws.filter (nk o h)) gv):=(JP (bh _) (bh _) (bh _) (JN (by exact Gak ‹_› (by simp)))).2
def nP(h:f env=U (.nx e)):aF f g env=g e:=by simp[aF,h]
def Bs(h:f env=U (.nx e)):cB f env=U (.nx e):=by simp[cB,h]
def Pa(h:t env=U M):ifX t f g env=g env:=by simp[ifX,h]
open EV in
def G7(a b:List Tr):eqB (bkD a b) (bkD a b)=U O:=by
 have p:∀(rs:List Tr),(rs.map Vc).all (bK 18)=O:=λrs=>by
  simp[Vc]
 have q:∀(rs:List Tr),lE (rs.map Vc) (rs.map Vc)=O:=λrs=>by
  induction rs with
  |nil=>rfl
  |cons t rs ih=>
   show(eqD _ _&&lE _ _)=O;rw[show lE _ _=O from ih];simp[Vc]
 have p1:=p a;have p2:=p b;have q1:=q a;have q2:=q b;unfold bkD;generalize a.map Vc=A at*;generalize b.map Vc=B at*;have h1:D.plain (V [V A,V B])=O:=by
  show([V A,V B].all _)=O;have e1:bK 19 (V A)=O:=p1;have e2:bK 19 (V B)=O:=p2;simp only[GbK,List.all_nil,e1,e2,GeD]
 have h2:eqD (V [V A,V B]) (V [V A,V B])=O:=by
  simp_all
 unfold eqB;rw[h1,h2]
 rfl
abbrev hs (w:World) (ws gv:List Tr):List (Option D):=[U (aj w),U (bkD ws gv)]
open EV in
def sG{ws:List Tr}(hl:ws.length<64):∃b,gF [U wd,U (bkD ws gv)] [P g,P h]=U (Vy b):=by
 have ix:ixD (bkD ws gv) (P 0)=U _:=rfl;have sp:bz (gN 0) dS (cX (ae (Vd (vE 0) (kE (P 0))) (ae (Vd (vE 0) (kE (P 1))) aL))) (ws.map Vc) [J]=U (ws.map λt=>V [P t.1,P t.2.1]):=by
  refine fQ Vc (λenv=>∃y,env=[y]) _ ws _ ⟨J,rfl⟩ ?_;rintro t ht env ⟨y,rfl⟩;exact⟨_,rfl,⟨_,rfl⟩,.c,by simp[Vc,a9],rfl⟩
 have i:∃b,inB (V [P g,P h]) (X (ws.map λt=>V [P t.1,P t.2.1]))=U b:=by
  show∃b,rF _ _=U b;simp_all[rF]
 obtain⟨b,i⟩:=i;have z:(ws.map Vc).length<=16777216:=by rw[Gah];exact Gak (GaJ ‹_›) (by simp)
 generalize bkD ws gv=bk at*;generalize ws.map Vc=R at*;have c0:DL.UY 1 [] [U (Q (.ins aQ)),U (Q (P g)),U (Q (P h)),U (Q wd),U (Q bk)]=[J]:=rfl;simp[gF,o9,jy,ix,a9,c0,z,sp,i,jW,D.top]
open EV in
def IW(gs:List Tr)(n:Int):bz (gN 0) (ao eqB (Vd (vE 0) (kE (P 0))) (vE 1)) (cX (ae (Vd (vE 0) (kE (P 1))) (ae (Vd (vE 0) (kE (P 2))) aL))) (gs.map Vc) [J,U (Q (P n))]=U ((gs.filter λt=>decide (t.1=n)).map λt=>V [P t.2.1,P t.2.2]):=by
 refine cF Vc (λenv=>∃y,env=[y,U _]) _ _ gs _ ⟨J,rfl⟩ ?_;rintro t ht env ⟨y,rfl⟩;refine⟨[U _,U _],rfl,⟨_,rfl⟩, ?_,λ_=> ⟨.c, ?_,rfl⟩⟩
 .by_cases c:t.1=n<;>simp[Vc,c]
 .simp[Vc,a9]
open EV in
def CN{gs:List Tr}(hl:gs.length<64):n8 [bkD ws gs,P n]=U (X ((gs.filter λt=>decide (t.1=n)).map λt=>V [P t.2.1,P t.2.2])):=by
 have hc:=IW gs n;have ix:ixD (bkD ws gs) (P 1)=U _:=rfl;have io:ay ((gs.filter λt=>decide (t.1=n)).map λt=>V [P t.2.1,P t.2.2])=O:=dM (λt=>by simp) _;have z:(gs.map Vc).length<=16777216:=by rw[Gah];exact Gak (GaJ ‹_›) (by simp)
 generalize bkD ws gs=bk at*;generalize gs.map Vc=R at*;have c0:DL.UY 1 [1] [U (Q bk),U (Q _)]=[J,U (Q (P n))]:=rfl;refine aD rfl ?_;simp[jm,ix,a9,c0,z,hc,io]
abbrev ML:DS:=ifS (ao eqB (Vd (vE 3) (kE (P 0))) (vE 2)) (jW (Vd (vE 3) (kE (P 1)))) aC
open EV in
theorem Bt:∀(l:List Tr) (x:Os),(∃y,UX (gN 3) ML (l.map λt=>V [P t.2.1,P t.2.2]) [e0,e1,U (Q (P h)),x,e4,e5]=U (.nx [e0,e1,U (Q (P h)),y,e4,e5]))\/
  ∃v,UX (gN 3) ML (l.map λt=>V [P t.2.1,P t.2.2]) [e0,e1,U (Q (P h)),x,e4,e5]=U (.ret (P v))
 |[],x=> .inl ⟨x,rfl⟩
 |t::l,x=>by
  rw[Gav];by_cases c:t.2.1=h
  .refine .inr ⟨t.2.2, ?_⟩;simp[c,jW,D.top]
  .have ev:ML [e0,e1,U (Q (P h)),U (Q (V [P t.2.1,P t.2.2])),e4,e5]=U (.nx [e0,e1,U (Q (P h)),U (Q (V [P t.2.1,P t.2.2])),e4,e5]):=by simp[c]
   simp only[UX,gN,GaT,GaU,Option.bind_some,ev];exact Bt l _
open EV in
def kO{gv:List Tr}(hl:gv.length<64):∃x,fZ [U wd,U (bkD ws gv)] [P o,P h]=U (cZ x):=by
 have sg:=CN (ws:=ws) (n:=o) hl;have rv:∀R:List D,dZ (X R)=⟨.tn,X R⟩:=λ_=>rfl;rcases(Bt (e0:=U (Q (.ins aQ))) (e1:=U (Q (P o))) (e4:=U (Q wd)) (e5:=U (Q (bkD ws gv))) (h:=h) (gv.filter λt=>decide (t.1=o)) J) with⟨y,e⟩| ⟨v,e⟩
 .refine⟨J, ?_⟩;simp[fZ,o9,iK,sg,e,jW,kN,D.top]
 .refine⟨U v, ?_⟩;simp[fZ,o9,iK,sg,e]
structure Snd(w:World)(ws gv:List Tr):Prop where
 MZ:∀t∈gv,i8 w ws t=[]
 aq:∀t∈gv,∀(o:Va) (s:fD),w.UU[t.1.toNat]? =U o->w.ax[o.aO.toNat]? =U s->∀c∈s.aq,∀top,bI c (wgt o.aA t.2.1 ws J)=U top->i7 c (qS w.UU gv (o.aA,o.aO)) t.2.1<=top
 gap:∃rows:List (Int×Int),bT ((gvR gv).map mk2)=rows.map mk2/\rows.Perm (gvR gv)/\rows.Pairwise λr l=>gpF w.UU (w.df.foldl aY []) r l=[]
 cnt:∀o k,oM w.UU gv o k<=1
def CO{w:World}{gv:List Tr}(W:aB w)(hg:cx w.UU.length gv)(hl:gv.length<64):∃L,nD [aj w,bkD ws gv]=U (X L)/\L.length<100000/\(L=[]->Snd w ws gv):=by
 obtain⟨st,rows,I,r2,r1,r3,e,z⟩:=vI (ws:=ws) W hg hl;refine⟨_,e,by rw[Gah,(qP _).length_eq];exact z,λq=> ?_⟩;have p:=qP (st.flatMap (tgF w.ax ws)++de w.UU (w.df.foldl aY []) (wide w.df) rows++twF (gv.foldl (bS w.UU) [])++gv.flatMap (i8 w ws));rw[Gey.mp q] at p;have q:=p.symm.eq_nil;simp only[Gde] at q;obtain⟨⟨⟨h1,h2⟩,h3⟩,h4⟩:=q;exact⟨List.flatMap_eq_nil_iff.mp h4,λt ht o s ho hs c hc top hb=>FP I h1 ht ho hs hc hb,⟨rows,r1,r2,qT (ME λb hb=>(W.bo.1 b hb).2.2.2) rows r3 h2⟩,OY h3⟩
structure Good(w:World)(m:Nat)(ws gv:List Tr):Prop where
 lw:ws.length<=m
 lg:gv.length<=m
 ok:cx w.UU.length gv
 snd:Snd w ws gv
inductive Exc:Nat->Str->D->Prop
 |twice (x y:Int):Exc 127 "entry" (V [P x,P y])
 |noent (x y:Int):Exc 146 "entry" (V [P x,P y])
 |bad (L:List D):Exc 165 "faults" (X L)
inductive iL (w:World) (m:Nat) (ws gv:List Tr):RM×List (Option D)->Prop
 |done {ws' gv' :List Tr} (g:Good w m ws' gv'):iL w m ws gv (.ret N,hs w ws' gv')
 |rz {C:Nat} {n:Str} {d:D} (e:Exc C n d):iL w m ws gv (.rz C n d,hs w ws gv)
section
open EV in
def oN{w:World}{ws' gv' :List Tr}(W:aB w)(hm:m<64)(hg:cx w.UU.length gv')(lw:ws'.length<=m)(lg:gv'.length<=m):∃r,om (hs w ws gv) [bkD ws' gv']=U r/\iL w m ws gv r:=by
 obtain⟨L,e,zl,S⟩:=CO W hg (by exact GaG ‹_› ‹_›);have rv:∀R:List D,dZ (X R)=⟨.tn,X R⟩:=λ_=>rfl;cases L with
 |nil=>
  refine⟨_, ?_,.done ⟨lw,lg,hg,S rfl⟩⟩;simp[om,tX,j8,aF,cB,ifX,wH,aE,j6,e,fJ,j7]
 |cons d L=>
  refine⟨_, ?_,.rz (.bad (d::L))⟩;have c:(0)<(L.length)+1:=by simp
  simp[om,tX,j8,bY,aF,cB,ifX,rzX,aE,A1,e,fJ,j7]
end
abbrev InW (w:World) (x:Int):Prop:=0<=x/\x<w.UU.length
def pH{R rs:List Tr}(p:R.Perm (rs++[t])):R.length=rs.length+1:=by rw[p.length_eq];simp
def u4{R:List Tr}{t:Tr}(p:R.Perm (rs++[t]))(h:cx n rs)(ht:0<=t.1/\t.1<n):cx n R:=λu hu=>by
 rcases GaQ.mp (p.mem_iff.mp hu) with q|q
 .exact h u q
 .rwa[Gam.mp q]
def Ai{rs:List Tr}(h:cx n rs):cx n (rs.filter (nk x y)):=λu hu=>h u (GbQ.mp hu).1
def oO(h:t env=U M):aF (ifX t s aE) g env=g env:=by simp[aF,ifX,aE,h]
def G8(h:t env=U O):aF (ifX t (aF (rzX C n b a) aE) aE) g env=aF (rzX C n b a) aE env:=by
 rw[aF,ifX,h];show((aF _ aE env).bind _)=_;unfold aF rzX;cases h:a env with
 |none=>rfl
 |some r=>simp only[Option.bind_some];split<;>(try split)<;>rfl
section
variable{E:DL.Env}
def nQ(hE:E[0]? =U (U (Q (.ins aQ)))):objs (E++[U (Q wd),U (Q bk)]) aQ 0 [E.length,E.length+1]=U [U wd,U bk]:=by
 have z:0<E.length:=by
  cases E with
  |nil=>cases hE
  |cons=>simp
 rw[Gaa z] at hE;simp[objs,j6,z,Option.some.inj hE]
open EV in
def Bu{c d:Option D}:gW (E++[U a,U b]) [E.length,E.length+1] [c,d]=E++[c.map Q,d.map Q]:=by
 simp[gW]
open EV in
def Ga(hn:E.length=n)(hE:E[0]? =U (U (Q (.ins aQ))))(hf:f (E++[U (Q wd),U (Q bk)])=U ⟨.c,xP⟩)(hk:om [U wd,U bk] [xP]=U r)(sr:(∃c,r=(.ret N,[U wd,U c]))\/∃C n d,r=(.rz C n d,[U wd,U bk])):(aF (nJ [n,n+1] f) aE (E++[U (Q wd),U (Q bk)])).bind (fJ n)=U r:=by
 subst hn;rcases sr with⟨c,rfl⟩| ⟨C,n,d,rfl⟩<;>simp[aF,nJ,AW,cY,A1,hf,(nQ (wd:=wd) (bk:=bk) hE),hk,RM.flat,wI,aE,D.top,Bu,fJ,j7]
def iL.sh(h:iL w m ws gv r):(∃c,r=(.ret N,[U (aj w),U c]))\/∃C n d,r=(.rz C n d,[U (aj w),U (bkD ws gv)]):=by
 cases h
 .exact .inl ⟨_,rfl⟩
 .exact .inr ⟨_,_,_,rfl⟩
open EV in
def Pb(ha:a (E++[U (Q wd),U (Q bk)])=U ⟨.c,P x⟩)(hb:b (E++[U (Q wd),U (Q bk)])=U ⟨.c,P y⟩)(hn:E.length=n):(aF (rzX C "entry" M (T2 a b)) aE (E++[U (Q wd),U (Q bk)])).bind (fJ n)=U (.rz C "entry" (V [P x,P y]),[U wd,U bk]):=by
 subst hn;simp[aF,rzX,ha,hb,a9,fJ,j7]
open EV in
def qU(ha:a (E++[U (Q wd),U (Q bk)])=U ⟨.c,P x⟩)(hb:b (E++[U (Q wd),U (Q bk)])=U ⟨.c,P y⟩)(hn:js=[E.length,E.length+1])(hE:E[0]? =U (U (Q (.ins aQ))))(hr:fZ [U wd,U bk] [P x,P y]=U (cZ v)):pA js a b (E++[U (Q wd),U (Q bk)])=U ⟨.c,cZ v⟩:=by
 subst hn;simp[pA,rdE,A2,A1,ha,hb,(nQ (wd:=wd) (bk:=bk) hE),hr,(aV (cR v))]
open EV in
def Gb(ha:a (E++[U (Q wd),U (Q bk)])=U ⟨.c,P x⟩)(hb:b (E++[U (Q wd),U (Q bk)])=U ⟨.c,P y⟩)(hn:js=[E.length,E.length+1])(hE:E[0]? =U (U (Q (.ins aQ))))(hr:gF [U wd,U bk] [P x,P y]=U (Vy v)):wgX js a b (E++[U (Q wd),U (Q bk)])=U ⟨.c,Vy v⟩:=by
 subst hn;simp[wgX,rdE,A2,A1,ha,hb,(nQ (wd:=wd) (bk:=bk) hE),hr,D.top]
open EV in
def u5{v:Option Int}(h:f e=U ⟨.c,cZ v⟩):ao g8 f kN e=U v.isNone/\ao gK f kN e=U v.isSome:=by
 cases v<;>simp[h,kN]
open EV in
def iM{rs:List RV}{d:D}(ha:a e=U rs)(hs:sp (rs.map (·.d))=U d)(im:d.imm=O):ai sp a e=U ⟨.c,d⟩:=by
 simp[ha,hs,aV im]
abbrev inE (ds:List D):DL.Env:=U (Q (.ins aQ))::ds.map λd=>U (Q d)
variable{ds:List D}
def Aj(hn:ds.length+1=n)(ht:t (inE ds++[U (Q wd),U (Q bk)])=U O)(ha:a (inE ds++[U (Q wd),U (Q bk)])=U ⟨.c,P x⟩)(hb:b (inE ds++[U (Q wd),U (Q bk)])=U ⟨.c,P y⟩):(aF (ifX t (aF (rzX C "entry" M (T2 a b)) aE) aE) g (inE ds++[U (Q wd),U (Q bk)])).bind (fJ n)=U (.rz C "entry" (V [P x,P y]),[U wd,U bk]):=by
 rw[G8 ht];exact Pb ha hb (by simp_all)
def CP(hn:ds.length+1=n)(ht:t (inE ds++[U (Q wd),U (Q bk)])=U M)(hf:f (inE ds++[U (Q wd),U (Q bk)])=U ⟨.c,xP⟩)(hk:om [U wd,U bk] [xP]=U r)(sr:(∃c,r=(.ret N,[U wd,U c]))\/∃C n d,r=(.rz C n d,[U wd,U bk])):(aF (ifX t s aE) (aF (nJ [n,n+1] f) aE) (inE ds++[U (Q wd),U (Q bk)])).bind (fJ n)=U r:=by
 rw[oO ht];exact Ga (by simp_all) rfl hf hk sr
def IX(h:t e=U b):pK t e=U !b:=by simp[h]
def Bv(h:f e=U ⟨.c,Vy b⟩):iq f e=U b:=by simp[h]
open EV in
def JQ(h1:a e=U p)(h2:b e=U q)(h3:c e=U r)(h4:d e=U s):A4 a b c d e=U [p,q,r,s]:=by
 simp[A4,A3,h1,h2,h3,h4]
def MM(W:aB w)(hm:m<63)(G:Good w m ws gv)(hx:InW w x):∃r,Fc (hs w ws gv) [P x,P y,P z]=U r/\iL w (m+1) ws gv r:=by
 obtain⟨v,ha⟩:=kO (wd:=aj w) (ws:=ws) (gv:=gv) (o:=x) (h:=y) (by have:=G.lg;lia);obtain⟨R,hR,p⟩:=MJ (ws:=ws) (gv:=gv) (o:=x) (h:=y) (a:=z) (by have:=G.lg;exact GaG ‹_› ‹_›);obtain⟨r,hk,sr⟩:=oN (ws:=ws) (gv:=gv) (ws' :=ws) (gv' :=R) (m:=m+1) W (by exact GbI ‹_› _) (u4 p G.ok hx) (by have:=G.lw;lia) (by have:=G.lg;rw[pH p];exact Gec ‹_›);have hi:=(u5 (qU (E:=inE [P x,P y,P z]) (js:=[4,5]) (a:=vE 1) (b:=vE 2) rfl rfl rfl rfl ha)).2;cases v with
 |some v=>exact⟨_,Aj rfl hi rfl rfl,.rz (.twice x y)⟩
 |none=>exact⟨r,CP rfl hi (iM rfl hR (gq _ _)) hk sr.sh,sr⟩
def Gd(W:aB w)(hm:m<63)(G:Good w m ws gv):∃r,vd (hs w ws gv) [P x,P y]=U r/\iL w (m+1) ws gv r:=by
 obtain⟨v,ha⟩:=kO (wd:=aj w) (ws:=ws) (gv:=gv) (o:=x) (h:=y) (by have:=G.lg;lia);have hR:=MK (ws:=ws) (gv:=gv) (o:=x) (h:=y) (by have:=G.lg;exact GaG ‹_› ‹_›);obtain⟨r,hk,sr⟩:=oN (ws:=ws) (gv:=gv) (ws' :=ws) (gv' :=gv.filter (nk x y)) (m:=m+1) W (by exact GbI ‹_› _) (Ai G.ok) (by have:=G.lw;lia) (by have:=G.lg;have:=Gbo (nk x y) gv;lia);have hi:=(u5 (qU (E:=inE [P x,P y]) (js:=[3,4]) (a:=vE 1) (b:=vE 2) rfl rfl rfl rfl ha)).1;cases v with
 |none=>exact⟨_,Aj rfl hi rfl rfl,.rz (.noent x y)⟩
 |some v=>exact⟨r,CP rfl hi (iM rfl hR (gq _ _)) hk sr.sh,sr⟩
def IY(W:aB w)(hm:m<63)(G:Good w m ws gv)(hx:InW w x):∃r,Bd (hs w ws gv) [P x,P y,P z]=U r/\iL w (m+1) ws gv r:=by
 obtain⟨v,ha⟩:=kO (wd:=aj w) (ws:=ws) (gv:=gv) (o:=x) (h:=y) (by have:=G.lg;lia);have fl:=Gbo (nk x y) gv;have hQ:=MK (ws:=ws) (gv:=gv) (o:=x) (h:=y) (by have:=G.lg;exact GaG ‹_› ‹_›);obtain⟨R,hR,p⟩:=MJ (ws:=ws) (gv:=gv.filter (nk x y)) (o:=x) (h:=y) (a:=z) (by have:=G.lg;lia);obtain⟨r,hk,sr⟩:=oN (ws:=ws) (gv:=gv) (ws' :=ws) (gv' :=R) (m:=m+1) W (by exact GbI ‹_› _) (u4 p (Ai G.ok) hx) (by have:=G.lw;lia) (by have:=G.lg;rw[pH p];lia);have hi:=(u5 (qU (E:=inE [P x,P y,P z]) (js:=[4,5]) (a:=vE 1) (b:=vE 2) rfl rfl rfl rfl ha)).1;cases v with
 |none=>exact⟨_,Aj rfl hi rfl rfl,.rz (.noent x y)⟩
 |some v=>exact⟨r,CP rfl hi (iM (JQ (iM rfl hQ (gq _ _)) rfl rfl rfl) hR (gq _ _)) hk sr.sh,sr⟩
def IZ(W:aB w)(hm:m<63)(G:Good w m ws gv):∃r,Bb (hs w ws gv) [P x,P y,P z]=U r/\iL w (m+1) ws gv r:=by
 obtain⟨v,ha⟩:=sG (wd:=aj w) (ws:=ws) (gv:=gv) (g:=x) (h:=y) (by have:=G.lw;lia);obtain⟨R,hR,p⟩:=Qo (ws:=ws) (gv:=gv) (o:=x) (h:=y) (a:=z) (by have:=G.lw;exact GaG ‹_› ‹_›);obtain⟨r,hk,sr⟩:=oN (ws:=ws) (gv:=gv) (ws' :=R) (gv' :=gv) (m:=m+1) W (by exact GbI ‹_› _) G.ok (by have:=G.lw;rw[pH p];exact Gec ‹_›) (by have:=G.lg;lia);have hi:=Bv (Gb (E:=inE [P x,P y,P z]) (js:=[4,5]) (a:=vE 1) (b:=vE 2) rfl rfl rfl rfl ha);cases v with
 |true=>exact⟨_,Aj rfl hi rfl rfl,.rz (.twice x y)⟩
 |false=>exact⟨r,CP rfl hi (iM rfl hR (gq _ _)) hk sr.sh,sr⟩
def CQ(W:aB w)(hm:m<63)(G:Good w m ws gv):∃r,rZ (hs w ws gv) [P x,P y]=U r/\iL w (m+1) ws gv r:=by
 obtain⟨v,ha⟩:=sG (wd:=aj w) (ws:=ws) (gv:=gv) (g:=x) (h:=y) (by have:=G.lw;lia);have hR:=Qp (ws:=ws) (gv:=gv) (o:=x) (h:=y) (by have:=G.lw;exact GaG ‹_› ‹_›);obtain⟨r,hk,sr⟩:=oN (ws:=ws) (gv:=gv) (ws' :=ws.filter (nk x y)) (gv' :=gv) (m:=m+1) W (by exact GbI ‹_› _) G.ok (by have:=G.lw;have:=Gbo (nk x y) ws;lia) (by have:=G.lg;lia);have hi:=IX (Bv (Gb (E:=inE [P x,P y]) (js:=[3,4]) (a:=vE 1) (b:=vE 2) rfl rfl rfl rfl ha));cases v with
 |false=>exact⟨_,Aj rfl hi rfl rfl,.rz (.noent x y)⟩
 |true=>exact⟨r,CP rfl hi (iM rfl hR (gq _ _)) hk sr.sh,sr⟩
open EV in
def J0{e:DL.Env}(h:pA js a b e=U ⟨.c,cZ v⟩):aF (cB (au i (pA js a b))) g e=g (e.set i (U (Q (cZ v)))):=by
 simp[aF,cB,h]
open EV in
def MN(W:aB w)(hm:m<63)(G:Good w m ws gv)(hx:InW w x):∃r,Fe (hs w ws gv) [P x,P y,P z]=U r/\iL w (m+1) ws gv r:=by
 have lw:=G.lw;have lg:=G.lg;obtain⟨v,ha⟩:=kO (wd:=aj w) (ws:=ws) (gv:=gv) (o:=x) (h:=y) (by lia);obtain⟨u,hu⟩:=kO (wd:=aj w) (ws:=ws) (gv:=gv) (o:=x) (h:=z) (by lia);have on:∀{g:DSM} {r},(g (inE [P x,P y,P z,cZ v]++[U (Q (aj w)),U (Q (bkD ws gv))])).bind (fJ 5)=U r->((aF (cB (au 4 (pA [5,6] (vE 1) (vE 2)))) g) ([U (Q (.ins aQ)),U (Q (P x)),U (Q (P y)),U (Q (P z)),J]++[U (Q (aj w)),U (Q (bkD ws gv))])).bind (fJ 5)=U r:=λh=>(congrArg (Option.bind · (fJ 5)) ((λg=>J0 (qU (E:=[U (Q (.ins aQ)),U (Q (P x)),U (Q (P y)),U (Q (P z)),J]) (js:=[5,6]) (a:=vE 1) (b:=vE 2) rfl rfl rfl rfl ha)) _)).trans h;cases v with
 |none=>exact⟨_,on (Aj (t:=ao g8 (vE 4) kN) rfl rfl rfl rfl),.rz (.noent x y)⟩
 |some v=>
  have fl:=Gbo (nk x y) gv;have hQ:=MK (ws:=ws) (gv:=gv) (o:=x) (h:=y) (by exact GaG ‹_› ‹_›);obtain⟨R,hR,p⟩:=MJ (ws:=ws) (gv:=gv.filter (nk x y)) (o:=x) (h:=z) (a:=v) (by lia);obtain⟨r,hk,sr⟩:=oN (ws:=ws) (gv:=gv) (ws' :=ws) (gv' :=R) (m:=m+1) W (by exact GbI ‹_› _) (u4 p (Ai G.ok) hx) (by lia) (by rw[pH p];lia);have h1:∃b,cK (ao neB (vE 3) (vE 2)) (ao gK (pA [5,6] (vE 1) (vE 3)) kN) (inE [P x,P y,P z,P v]++[U (Q (aj w)),U (Q (bkD ws gv))])=U b:=by
   have hj:=(u5 (qU (E:=inE [P x,P y,P z,P v]) (js:=[5,6]) (a:=vE 1) (b:=vE 3) rfl rfl rfl rfl hu)).2;generalize ao gK (pA [5,6] (vE 1) (vE 3)) kN=T at*;by_cases c:z=y
   .exact⟨M,by simp[neB,c]⟩
   .exact⟨u.isSome,by simp[neB,c];exact hj⟩
  obtain⟨b,h1⟩:=h1;have skip:∀{s g:DSM} {r},(g (inE [P x,P y,P z,P v]++[U (Q (aj w)),U (Q (bkD ws gv))])).bind (fJ 5)=U r->((aF (ifX (ao g8 (vE 4) kN) s aE) g) (inE [P x,P y,P z,P v]++[U (Q (aj w)),U (Q (bkD ws gv))])).bind (fJ 5)=U r:=λh=>(congrArg (Option.bind · (fJ 5)) (oO rfl)).trans h;cases b with
  |true=>exact⟨_,on (skip (Aj rfl h1 rfl rfl)),.rz (.twice x z)⟩
  |false=>exact⟨r,on (skip (CP rfl h1 (iM (JQ (iM rfl hQ (gq _ _)) rfl rfl rfl) hR (gq _ _)) hk sr.sh)),sr⟩
end
inductive Wo where
 |weigh|unweigh|give|strike|amend|move
def wdS:Wo->Str
 | .weigh=>"weigh"
 | .unweigh=>"unweigh"
 | .give=>"give"
 | .strike=>"strike"
 | .amend=>"amend"
 | .move=>"move"
def cW(k:Wo)(x y z:Int):D:= V [Y (wdS k),P x,P y,P z]
def J8{rs:List RV}(ha:a (inE [dd]++[U (Q wd),U (Q bk)])=U rs)(hf:rs.all (·.free)=O)(hs:sp [U wd,U bk] (rs.map (·.d))=U r)(sr:(∃c,r=(.ret N,[U wd,U c]))\/∃C n d,r=(.rz C n d,[U wd,U bk])):((aF (mX sp a) aE) (inE [dd]++[U (Q wd),U (Q bk)])).bind (fJ 2)=U r:=by
 have ho:objs (inE [dd]++[U _,U _]) aQ 0 [2,3]=U [U wd,U bk]:=nQ rfl;have st:∀c,gW (inE [dd]++[U (Q wd),U (Q bk)]) [2,3] [U wd,U c]=inE [dd]++[U _,U _]:=λc=>Bu;rcases sr with⟨c,rfl⟩| ⟨C,n,d,rfl⟩<;>simp only[aF,mX,rR,cY,ha,hf,ho,hs,Option.bind_some]<;>rfl
def Ge(h:ao eqB (ixk 0) (kE (Y s)) (inE [dd]++[U (Q wd),U (Q bk)])=U O)(e:((aF f aE) (inE [dd]++[U (Q wd),U (Q bk)])).bind (fJ 2)=U r)(hn:∀e',f (inE [dd]++[U (Q wd),U (Q bk)])≠U (.nx e')):(onW s f g (inE [dd]++[U (Q wd),U (Q bk)])).bind (fJ 2)=U r:=by
 have q:onW s f g (inE [dd]++[U (Q wd),U (Q bk)])=aF f aE (inE [dd]++[U (Q wd),U (Q bk)]):=by
  unfold onW;rw[aF,ifX,h];show((aF f aE _).bind _)=_;unfold aF;cases hf:f (inE [dd]++[U (Q wd),U (Q bk)]) with
  |none=>rfl
  |some o=>
   cases o with
   |nx e' =>exact absurd hf (hn e')
   |ret d e=>rfl
   |rz C n d e=>rfl
   |fin d=>rfl
 rwa[q]
def mH(h:ao eqB (ixk 0) (kE (Y s)) e=U M):onW s f g e=g e:=oO h
def nR:rR f e≠U (.nx e'):=by
 unfold rR;cases f e with
 |none=>exact nofun
 |some o=>cases o<;>exact nofun
def MO(W:aB w)(hm:m<63)(G:Good w m ws gv)(hx:k= .give\/k= .amend\/k= .move->InW w x):∃r,cQ (hs w ws gv) [cW k x y z]=U r/\iL w (m+1) ws gv r:=by
 have key:∀{sp:SpM} {ds:List D},(∃r,sp (hs w ws gv) ds=U r/\iL w (m+1) ws gv r)->∀{f:DSM} {a:DA},(∀r,((aF (mX sp a) aE) (inE [cW k x y z]++[U (Q (aj w)),U (Q (bkD ws gv))])).bind (fJ 2)=U r->(f (inE [cW k x y z]++[U (Q (aj w)),U (Q (bkD ws gv))])).bind (fJ 2)=U r)->a (inE [cW k x y z]++[U (Q (aj w)),U (Q (bkD ws gv))])=U (ds.map λd=> ⟨.c,d⟩)->f=wX->∃r,cQ (hs w ws gv) [cW k x y z]=U r/\iL w (m+1) ws gv r:=by
  rintro sp ds ⟨r,h1,h2⟩ f a hf ha rfl;exact⟨r,hf r (J8 ha (by simp) (by rw[GaL];show sp _ (ds.map id)=_;rw[Gcv];exact h1) h2.sh),h2⟩
 cases k
 .exact key (IZ W hm G) (λr h=>Ge rfl h λ_=>nR) rfl rfl
 .exact key (CQ W hm G) (λr h=>(congrArg (Option.bind · (fJ 2)) (mH rfl)).trans (Ge rfl h λ_=>nR)) rfl rfl
 .exact key (MM W hm G (hx (.inl rfl))) (λr h=>(congrArg (Option.bind · (fJ 2)) ((mH rfl).trans (mH rfl))).trans (Ge rfl h λ_=>nR)) rfl rfl
 .exact key (Gd W hm G) (λr h=>(congrArg (Option.bind · (fJ 2)) ((mH rfl).trans ((mH rfl).trans (mH rfl)))).trans (Ge rfl h λ_=>nR)) rfl rfl
 .exact key (ds:=[P x,P y,P z]) (IY W hm G (hx (.inr (.inl rfl)))) (λr h=>(congrArg (Option.bind · (fJ 2)) ((mH rfl).trans ((mH rfl).trans ((mH rfl).trans (mH rfl))))).trans (Ge rfl h λ_=>nR)) rfl rfl
 .exact key (ds:=[P x,P y,P z]) (MN W hm G (hx (.inr (.inr rfl)))) (λr h=>(congrArg (Option.bind · (fJ 2)) ((mH rfl).trans ((mH rfl).trans ((mH rfl).trans ((mH rfl).trans (mH rfl)))))).trans h) rfl rfl
inductive Told (w:World) (m:Nat) (ws gv:List Tr):RM×List (Option D)->Prop
 |done {ws' gv' :List Tr} (g:Good w m ws' gv'):Told w m ws gv (.ret (V [Y "done",N]),hs w ws' gv')
 |no {s:Str} {d:D} (h:eqB (Y s) (Y "done")=U M):Told w m ws gv (.ret (V [Y s,d]),hs w ws gv)
section
variable{wd bk dd:D}
def nS(dd:D)(a b c e f:Os)(wd bk:D):DL.Env:=[U (Q (.ins aQ)),U (Q dd),a,b,c,e,f,U (Q wd),U (Q bk)]
def Gf(hk:cQ [U wd,U bk] [dd]=U (.ret N,[U wd,U xP])):uU [127,146,165] 2 4 (aF (rf 3 (cY aQ 0 [7,8] cQ (A1 (vE 1)))) aE) (nS dd (U (Q N)) (U (Q N)) J J J wd bk)=U (.nx (nS dd (U (Q N)) (U (Q N)) J J J wd xP)):=by
 simp[uU,aF,rf,cY,nS,objs,j6,hk,RM.flat,wI,gW,aE,D.top]
open EV in
def MP(x:Exc C n d)(hk:cQ [U wd,U bk] [dd]=U (.rz C n d,[U wd,U bk])):uU [127,146,165] 2 4 (aF (rf 3 (cY aQ 0 [7,8] cQ (A1 (vE 1)))) aE) (nS dd (U (Q N)) (U (Q N)) J J J wd bk)=U (.nx (nS dd (U (Q (.exc C n d))) (U (Q N)) J J J wd bk)):=by
 cases x<;>simp[uU,aF,rf,cY,nS,objs,j6,hk,RM.flat,wI,gW]
def Bw:DSM:=aF (ifX (cK (ao g8 (vE 2) kN) (ao g8 (vE 3) kN)) (told "done" kN) aE) (aF (ifX (ao g8 (vE 2) kN) (told "other" kN) aE)
 (aF (cB (au 5 (bQ (A3 (og (cE [127]) (vE 2)) (og (cE [146]) (vE 2)) (og (cE [165]) (vE 2)))))) (aF (cB (au 6 (og (cE []) (vE 2))))
 (aF (ifX (orT (iq (vE 6)) (orT (pK (iq (og (cE [127,146,165]) (vE 2)))) (ao neB (HO (vE 5)) (kE (P 1))))) (told "other" kN) aE)
 (aF (ifX (iq (Vd (vE 5) (kE (P 0)))) (told "twice" (uV [127,146] "entry" (vE 2))) aE) (aF (ifX (iq (Vd (vE 5) (kE (P 1)))) (told "noentry" (uV [127,146] "entry" (vE 2))) aE) (told "unsafe" (uV [165] "faults" (vE 2)))))))))
open EV in
def CR:Bw (nS dd (U (Q N)) (U (Q N)) J J J wd bk)=U (.ret (V [Y "done",N]) (nS dd (U (Q N)) (U (Q N)) J J J wd bk)):=by
 unfold Bw nS;simp[aF,ifX,told,Ci,A1,kN,a9,D.top]
open EV in
def J9(x:Exc C n d):∃s f g,Bw (nS dd (U (Q (.exc C n d))) (U (Q N)) J J J wd bk)=U (.ret (V [Y s,d]) (nS dd (U (Q (.exc C n d))) (U (Q N)) J f g wd bk))/\eqB (Y s) (Y "done")=U M:=by
 cases x
 .exact⟨"twice",U (Z (X [Vy O,Vy M,Vy M])),U _,rfl,rfl⟩
 .exact⟨"noentry",U (Z (X [Vy M,Vy O,Vy M])),U _,rfl,rfl⟩
 .exact⟨"unsafe",U (Z (X [Vy M,Vy M,Vy O])),U _,rfl,rfl⟩
open EV in
def Bx(h1:uU [127,146,165] 2 4 (aF (rf 3 (cY aQ 0 [7,8] cQ (A1 (vE 1)))) aE) (nS dd (U (Q N)) (U (Q N)) J J J wd bk)=U (.nx e'))(h2:Bw e' =U o)(h3:fJ 7 o=U r):jz [U wd,U bk] [dd]=U r:=by
 have e0:wY (nS dd J J J J J wd bk)=U o:=by
  have p:∀g:DSM,aF (cB (au 2 (kE N))) (aF (cB (au 3 (kE N))) g) (nS dd J J J J J wd bk)=g _:=λg=>rfl;exact(p _).trans ((nP h1).trans h2)
 exact(congrArg (Option.bind · _) e0).trans h3
def MQ(W:aB w)(hm:m<63)(G:Good w m ws gv)(hx:k= .give\/k= .amend\/k= .move->InW w x):∃r,jz (hs w ws gv) [cW k x y z]=U r/\Told w (m+1) ws gv r:=by
 obtain⟨r,hk,sr⟩:=MO (y:=y) (z:=z) W hm G hx;cases sr with
 |done g=>exact⟨_,Bx (Gf hk) CR rfl,.done g⟩
 |rz q=>
  obtain⟨s,f,g,h1,h2⟩:=J9 (dd:=cW k x y z) (wd:=aj w) (bk:=bkD ws gv) q;exact⟨_,Bx (MP q hk) h1 rfl,.no h2⟩
end
def vK{rs:List Tr}{q:Int}(h:0<=q)(h2:q<rs.length):∃t∈rs,atD (rs.map Vc) q=U (Vc t):=by
 obtain⟨n,rfl⟩:=GaK h;have hn:n<rs.length:=by simp_all
 exact⟨rs[n],Gap hn,by rw[bA,Gaj,Gaa hn];rfl⟩
def Ja(h:0<=q)(h2:q<11):∃k,atD [Y "give",Y "give",Y "give",Y "give",Y "strike",Y "amend",Y "amend",Y "move",Y "move",Y "weigh",Y "unweigh"] q=U (Y (wdS k)):=by
 have:q=0\/q=1\/q=2\/q=3\/q=4\/q=5\/q=6\/q=7\/q=8\/q=9\/q=10:=by lia
 rcases this with rfl|rfl|rfl|rfl|rfl|rfl|rfl|rfl|rfl|rfl|rfl
 .exact⟨.give,rfl⟩
 .exact⟨.give,rfl⟩
 .exact⟨.give,rfl⟩
 .exact⟨.give,rfl⟩
 .exact⟨.strike,rfl⟩
 .exact⟨.amend,rfl⟩
 .exact⟨.amend,rfl⟩
 .exact⟨.move,rfl⟩
 .exact⟨.move,rfl⟩
 .exact⟨.weigh,rfl⟩
 .exact⟨.unweigh,rfl⟩
abbrev dE (ns:List Int) (wd bk:D) (k:Int) (x4 x5 x6 x7 x8 x9 eZ:Os):DL.Env:=[U (Q (.scr ns)),U (Q wd),U (Q bk),U (Q (P k)),x4,x5,x6,x7,x8,x9,eZ]
section
def Gg(h:0<=q)(h2:q<6):∃v,atD [P 0,P 1] (q/5)=U (P v):=by
 have:q/5=0\/q/5=1:=by lia
 rcases this with e|e<;>rw[e]
 .exact⟨0,rfl⟩
 .exact⟨1,rfl⟩
open EV in
def MR{ns:List Int}{W:List D}{z a:Int}(hW:b5 [V W]=U ⟨.c,P lw⟩)(d7:a7 [.scr ns,P (2600+k),P lw]=U (P q7))(hq:atD W q7=U (V [P x,P y,P z]))(d8:a7 [.scr ns,P (2700+k),P 6]=U (P q8))(hv:atD [P 0,P 1] (q8/5)=U (P v)):∃x8,nI (dE ns wd (V [V W,V G]) k (U (Q (Y s))) x5 x6 (U (Q (V [Y s,g,P p,P a]))) x8' x9 eZ)=U (.nx (dE ns wd (V [V W,V G]) k (U (Q (Y s))) x5 x6 (U (Q (V [Y s,P x,P (y+v),P a]))) x8 x9 eZ)):=by
 refine⟨U (Q (V [P x,P y,P z])), ?_⟩;simp[nI,dE,hW,d7,hq,d8,hv,a9]
open EV in
def MS{ns:List Int}{wo:Wo}{ws:List Tr}(hk:0<=k)(xM:k<1000)(hA:b5 [V A]=U ⟨.c,P lg⟩)
  (d7:a7 [.scr ns,P (2200+k),P lg]=U (P q7))(d8:a7 [.scr ns,P (2300+k),P 50]=U (P q8))(d9:a7 [.scr ns,P (2400+k),P 200]=U (P q9))(R8:a7 [.scr ns,P (2500+k),P 4]=U (P q10))(ms:∀j,bw sc j=O):∃x y z,kD (dE ns (V (V A::B)) (V [V (ws.map Vc),V G]) k (U (Q (Y (wdS wo)))) (U (Q (P sc))) J J J J J)=U (.ret (cW wo x y z)):=by
 have q12:=aG ns (2700+k) 6 (by simp);have QG:=az (ns:=ns) (k:=2700+k) (m:=6) (by exact GaE (by simp) ‹_›) (by exact GaA (GaY ‹_› _) (by decide)) (by simp);obtain⟨v,hv⟩:=Gg q12.1 q12.2;have hW:b5 [V (ws.map Vc)]=U ⟨.c,P ws.length⟩:=by simp[b5]
 have fin:∀{x y z:Int} {x8:Os},UW (vE 7) (dE ns (V (V A::B)) (V [V (ws.map Vc),V G]) k (U (Q (Y (wdS wo)))) (U (Q (P sc))) (U (Q (P q7))) (U (Q (cW wo x y z))) x8 J J)=U (.ret (cW wo x y z)):=λ{x y z x8}=>by simp[cW]
 have pre:∀{r},ak (ifS (cK (ao gtB (g9 b5 (ae (Vd (vE 2) (kE (P 0))) aL)) (kE (P 0))) (ao ltB (ai a7 (ae (vE 0) (ae (Ve aw (kE (P 2500)) (vE 3)) (ae (kE (P 4)) aL)))) (Ve aw (kE (P 2)) (g9 qZ (ae (bE (ao eqB (vE 4) (kE (Y "unweigh")))) aL))))) nI aC) (UW (vE 7)) (dE ns (V (V A::B)) (V [V (ws.map Vc),V G]) k (U (Q (Y (wdS wo)))) (U (Q (P sc))) (U (Q (P q7))) (U (Q (cW wo q7 (sc*q8) (1+q9)))) J J J)=r->kD (dE ns (V (V A::B)) (V [V (ws.map Vc),V G]) k (U (Q (Y (wdS wo)))) (U (Q (P sc))) J J J J J)=r:=by
  rintro r rfl;generalize ws.map Vc=W at*;exact(aa (by simp[-fW,hA,d7];rfl)).trans (aa (by simp[d8,d9,ms,a9,cW]))
 have hT:∃b,cK (ao gtB (g9 b5 (ae (Vd (vE 2) (kE (P 0))) aL)) (kE (P 0))) (ao ltB (ai a7 (ae (vE 0) (ae (Ve aw (kE (P 2500)) (vE 3)) (ae (kE (P 4)) aL)))) (Ve aw (kE (P 2)) (g9 qZ (ae (bE (ao eqB (vE 4) (kE (Y "unweigh")))) aL)))) (dE ns (V (V A::B)) (V [V (ws.map Vc),V G]) k (U (Q (Y (wdS wo)))) (U (Q (P sc))) (U (Q (P q7))) (U (Q (cW wo q7 (sc*q8) (1+q9)))) J J J)=U b/\(b=O->0<ws.length):=by
  have hi:∃i:Int,g9 qZ (ae (bE (ao eqB (vE 4) (kE (Y "unweigh")))) aL) (dE ns (V (V A::B)) (V [V (ws.map Vc),V G]) k (U (Q (Y (wdS wo)))) (U (Q (P sc))) (U (Q (P q7))) (U (Q (cW wo q7 (sc*q8) (1+q9)))) J J J)=U ⟨.c,P i⟩:=by cases wo<;>exact⟨_,rfl⟩
  obtain⟨i,hi⟩:=hi;generalize g9 qZ (ae (bE (ao eqB (vE 4) (kE (Y "unweigh")))) aL)=F at*;by_cases c:ws.length=0
  .exact⟨M,by simp[b5,gtB,c],nofun⟩
  .have c:0<ws.length:=by exact Gcg ‹_›
   exact⟨decide (q10<2+i),by simp[-fW,hW,R8,hi,c],λ_=>c⟩
 obtain⟨b,hb,hp⟩:=hT;cases b with
 |false=>exact⟨_,_,_,pre ((aa (jD hb)).trans fin)⟩
 |true=>
  have q11:=aG ns (2600+k) ws.length (by simp_all);obtain⟨t,_,ht⟩:=vK q11.1 q11.2;obtain⟨x8,e⟩:=MR (x5:=U (Q (P sc))) (x6:=U (Q (P q7))) (x8' :=J) (x9:=J) (eZ:=J) (wd:= V (V A::B)) (G:=G) (s:=wdS wo) (g:= P q7) (p:=sc*q8) (a:=1+q9) hW (az (ns:=ns) (k:=2600+k) (m:=ws.length) (by exact GaE (by decide) ‹_›) (by exact GaA (GaY ‹_› _) (by decide)) (by simp_all)) ht QG hv;exact⟨_,_,_,pre ((aa ((pB hb).trans e)).trans fin)⟩
end
def MT{ns:List Int}{W:List D}{z:Int}(hG:b5 [V G]=U ⟨.c,P lg⟩)(d7:a7 [.scr ns,P (2600+k),P lg]=U (P q7))(hq:atD G q7=U (V [P x,P y,P z]))(d8:a7 [.scr ns,P (2700+k),P 6]=U (P q8))(hv:atD [P 0,P 1] (q8/5)=U (P v)):∃h,qz (dE ns wd (V [V W,V G]) k x4 x5 x6 x7 x8 x9 eZ)=U (.nx (dE ns wd (V [V W,V G]) k x4 x5 x6 x7 (U (Q (V [P x,P y,P z]))) (U (Q (P x))) (U (Q (P h))))):=by
 have m2:∀a b:Int,∃h,j4 [P a,P b]=U ⟨.c,P h⟩:=λa b=> ⟨_,rfl⟩;obtain⟨h,hm⟩:=m2 1000000000 (y+v);refine⟨h, ?_⟩;simp[qz,dE,-fW,hG,d7,hq,d8,hv,a9,hm]
def Gh{ns:List Int}{bk:D}{wo:Wo}{o:Int}(hh:∃r:Int,dQ [.scr ns,wd,P o,P (2900+k)]=U (P r))(ha:∃r:Int,cT [.scr ns,wd,P o,P (2800+k)]=U (P r)):∃x y z,x=o/\ak (ifS (ao eqB (vE 4) (kE (Y "move")))
  (UW (cX (ae (vE 4) (ae (vE 9) (ae (vE 10) (ae (ai dQ (ae (vE 0) (ae (vE 1) (ae (vE 9) (ae (Ve aw (kE (P 2900)) (vE 3)) aL))))) aL))))))
  aC) (UW (cX (ae (vE 4) (ae (vE 9) (ae (vE 10) (ae (ai cT (ae (vE 0) (ae (vE 1) (ae (vE 9) (ae (Ve aw (kE (P 2800)) (vE 3)) aL))))) aL)))))) (dE ns wd bk k (U (Q (Y (wdS wo)))) x5 x6 x7 x8 (U (Q (P o))) (U (Q (P h))))=U (.ret (cW wo x y z)):=by
 obtain⟨r,hr⟩:=hh;obtain⟨a,ha⟩:=ha;have hc:∃b,ao eqB (vE 4) (kE (Y "move")) (dE ns wd bk k (U (Q (Y (wdS wo)))) x5 x6 x7 x8 (U (Q (P o))) (U (Q (P h))))=U b:=by cases wo<;>exact⟨_,rfl⟩
 obtain⟨b,hc⟩:=hc;cases b
 .refine⟨o,h,a,rfl,(aa ((jD hc).trans rfl)).trans ?_⟩;simp[ha,a9,cW,dZ,D.top]
 .refine⟨o,h,r,rfl,(jC ((pB hc).trans ?_))⟩;simp[hr,a9,cW,dZ,D.top]
def MU{ns:List Int}{wo:Wo}{w:World}(W:aB w)(hk:0<=k)(xM:k<1000)(hg:cx w.UU.length gv):∃x y z,InW w x/\qA (dE ns (aj w) (bkD ws gv) k (U (Q (Y (wdS wo)))) x5 J J J J J)=U (.ret (cW wo x y z)):=by
 have o1:=W.o1;have o12:=W.o12;have q7:=aG ns (2200+k) w.UU.length (by exact GcQ.mpr ‹_›);have d7:=az (ns:=ns) (k:=2200+k) (m:=w.UU.length) (by exact GaE (by decide) ‹_›) (by exact GaA (GaY ‹_› _) (by decide)) (by exact GcQ.mpr ‹_›);have R8:=az (ns:=ns) (k:=2500+k) (m:=8) (by exact GaE (by decide) ‹_›) (by exact GaA (GaY ‹_› _) (by decide)) (by simp);have q12:=aG ns (2700+k) 6 (by simp);have QG:=az (ns:=ns) (k:=2700+k) (m:=6) (by exact GaE (by decide) ‹_›) (by exact GaA (GaY ‹_› _) (by decide)) (by simp);obtain⟨v,hv⟩:=Gg q12.1 q12.2;have hO:b5 [V (w.UU.map ah)]=U ⟨.c,P w.UU.length⟩:=by simp[b5]
 have hG:b5 [V (gv.map Vc)]=U ⟨.c,P gv.length⟩:=by simp[b5]
 have hh:=λ(o:Int) (h:InW w o) (j:Int) (h0:0<=j) (h1:j<10000)=>Mp (ns:=ns) W h.1 h.2 h0 h1;have ha:=λ(o:Int) (h:InW w o)=>Ft (ns:=ns) (k:=2800+k) W h.1 h.2 (by exact GaE (by decide) ‹_›) (by exact GaA (GaY ‹_› _) (by decide));generalize draw ns (2200+k) w.UU.length=o at*;obtain⟨h,e1⟩:=hh o q7 (2800+k) (by exact GaE (by decide) ‹_›) (by exact GaA (GaY ‹_› _) (by decide));have i3:ixD (aj w) (P 3)=U (V (w.UU.map ah)):=rfl;have hT:∃b,cK (ao gtB (g9 b5 (ae (Vd (vE 2) (kE (P 1))) aL)) (kE (P 0))) (orT (ao neB (vE 4) (kE (Y "give"))) (ao eqB (ai a7 (ae (vE 0) (ae (Ve aw (kE (P 2500)) (vE 3)) (ae (kE (P 8)) aL)))) (kE (P 0)))) (dE ns (aj w) (bkD ws gv) k (U (Q (Y (wdS wo)))) x5 J J J (U (Q (P o))) (U (Q (P h))))=U b/\(b=O->0<gv.length):=by
  have hi:∃b,ao neB (vE 4) (kE (Y "give")) (dE ns (aj w) (bkD ws gv) k (U (Q (Y (wdS wo)))) x5 J J J (U (Q (P o))) (U (Q (P h))))=U b:=by cases wo<;>exact⟨_,rfl⟩
  obtain⟨b,hi⟩:=hi;generalize ao neB (vE 4) (kE (Y "give"))=F at*;have ib:ixD (bkD ws gv) (P 1)=U (V (gv.map Vc)):=rfl;by_cases c:gv.length=0
  .exact⟨M,by simp[ib,b5,gtB,c],nofun⟩
  .have c:0<gv.length:=by exact Gcg ‹_›
   cases b
   .exact⟨draw ns (2500+k) 8==0,by simp[-fW,ib,hG,R8,hi,c,dZ,D.top,eqB],λ_=>c⟩
   .exact⟨O,by simp[-fW,ib,hG,R8,hi,c],λ_=>c⟩
 have pre:∀{g:DS},ak (au 9 (ai a7 (ae (vE 0) (ae (Ve aw (kE (P 2200)) (vE 3)) (ae (g9 b5 (ae (Vd (vE 1) (kE (P 3))) aL)) aL))))) (ak (au 10 (ai dQ (ae (vE 0) (ae (vE 1) (ae (vE 9) (ae (Ve aw (kE (P 2800)) (vE 3)) aL)))))) g) (dE ns (aj w) (bkD ws gv) k (U (Q (Y (wdS wo)))) x5 J J J J J)=g (dE ns (aj w) (bkD ws gv) k (U (Q (Y (wdS wo)))) x5 J J J (U (Q (P o))) (U (Q (P h)))):=by
  intro g;generalize bkD ws gv=bk at*;generalize w.UU.map ah=US at*;generalize aj w=wd at*;exact(aa (by simp[-fW,i3,hO,d7,dZ,D.top];rfl)).trans (aa (by simp[e1,dZ,D.top]))
 obtain⟨b,hb,hp⟩:=hT;cases b with
 |false=>
  obtain⟨x,y,z,rfl,e⟩:=Gh (wo:=wo) (bk:=bkD ws gv) (x5:=x5) (x6:=J) (x7:=J) (x8:=J) (h:=h) (hh o q7 (2900+k) (by exact GaE (by decide) ‹_›) (by exact GaA (GaY ‹_› _) (by decide))) (ha o q7);exact⟨x,y,z,q7,pre.trans ((aa (jD hb)).trans e)⟩
 |true=>
  have c:=hp rfl;have q11:=aG ns (2600+k) gv.length (by simp_all);obtain⟨t,RG,ht⟩:=vK q11.1 q11.2;obtain⟨h',e⟩:=MT (wd:=aj w) (W:=ws.map Vc) (x4:=U (Q (Y (wdS wo)))) (x5:=x5) (x6:=J) (x7:=J) (x8:=J) (x9:=U (Q (P o))) (eZ:=U (Q (P h))) hG (az (ns:=ns) (k:=2600+k) (m:=gv.length) (by exact GaE (by decide) ‹_›) (by exact GaA (GaY ‹_› _) (by decide)) (by simp_all)) ht QG hv;obtain⟨x,y,z,rfl,e'⟩:=Gh (wo:=wo) (bk:=bkD ws gv) (x5:=x5) (x6:=J) (x7:=J) (x8:=U (Q (Vc t))) (h:=h') (hh t.1 (hg t RG) (2900+k) (by exact GaE (by decide) ‹_›) (by exact GaA (GaY ‹_› _) (by decide))) (ha t.1 (hg t RG));exact⟨t.1,y,z,hg t RG,pre.trans ((aa ((pB hb).trans e)).trans e')⟩
def MV{ns:List Int}{w:World}(W:aB w)(hk:0<=k)(xM:k<1000)(hg:cx w.UU.length gv):∃wo x y z,gY [.scr ns,aj w,bkD ws gv,P k]=U (cW wo x y z)/\(wo= .give\/wo= .amend\/wo= .move->InW w x):=by
 have g1:=W.g1;have g6:=W.g6;have q1:=aG ns (2100+k) 11 (by simp);obtain⟨wo,hw⟩:=Ja q1.1 q1.2;obtain⟨sc,c1,c2,e1⟩:=tY ns;have hA:b5 [V (w.bM.map cj)]=U ⟨.c,P w.bM.length⟩:=by simp[b5]
 have pre:∀{g:DS} {d},g (dE ns (aj w) (bkD ws gv) k (U (Q (Y (wdS wo)))) (U (Q (P sc))) J J J J J)=U (.ret d)->(∀e,mC e=ak (au 4 (bQ (ae (kE (Y "give")) (ae (kE (Y "give")) (ae (kE (Y "give")) (ae (kE (Y "give")) (ae (kE (Y "strike")) (ae (kE (Y "amend")) (ae (kE (Y "amend")) (ae (kE (Y "move")) (ae (kE (Y "move")) (ae (kE (Y "weigh")) (ae (kE (Y "unweigh")) aL))))))))))))) (ak (au 4 (Vd (vE 4) (ai a7 (ae (vE 0) (ae (Ve aw (kE (P 2100)) (vE 3)) (ae (kE (P 11)) aL)))))) (ak (au 5 (Vd (bQ (ae (kE (P 1)) (ae (kE (P 1)) (ae (kE (P 1)) (ae (kE (P 1)) (ae (kE (P 1)) (ae (Ve mJ (kE (P 10)) (kE (P 6))) aL))))))) (ai a7 (ae (vE 0) (ae (kE (P 1)) (ae (kE (P 6)) aL)))))) g)) e)->gY [.scr ns,aj w,bkD ws gv,P k]=U d:=by
  intro g d hg hb;refine aD rfl ((hb _).trans ?_);have pw:mJ (P 10) (P 6)=U ⟨.c,P 1000000⟩:=rfl;generalize bkD ws gv=bk at*;generalize aj w=wd at*;exact(aa (by simp[bY,a9];rfl)).trans ((aa (by simp[(az (ns:=ns) (k:=2100+k) (m:=11) (by exact GaE (by decide) ‹_›) (by exact GaA (GaY ‹_› _) (by decide)) (by simp)),hw];rfl)).trans ((aa (by simp[(az (ns:=ns) (k:=1) (m:=6) (by simp) (by simp) (by simp)),e1,pw,a9])).trans hg))
 have fin:∀{d f},(ifS (orT (ao eqB (vE 4) (kE (Y "weigh"))) (ao eqB (vE 4) (kE (Y "unweigh")))) kD aC) (dE ns (aj w) (bkD ws gv) k (U (Q (Y (wdS wo)))) (U (Q (P sc))) J J J J J)=U f->ak (ifS (orT (ao eqB (vE 4) (kE (Y "weigh"))) (ao eqB (vE 4) (kE (Y "unweigh")))) kD aC) qA (dE ns (aj w) (bkD ws gv) k (U (Q (Y (wdS wo)))) (U (Q (P sc))) J J J J J)=U (.ret d)->gY [.scr ns,aj w,bkD ws gv,P k]=U d:=λ_ h=>pre h λ_=>rfl;have dw:=MS (ns:=ns) (k:=k) (sc:=sc) (wo:=wo) (ws:=ws) (G:=gv.map Vc) (B:=[V (w.ax.map aI),V (w.df.map Vc),V (w.UU.map ah)]) hk xM hA (az (by exact GaE (by decide) ‹_›) (by exact GaA (GaY ‹_› _) (by decide)) (by exact GcQ.mpr ‹_›)) (az (by exact GaE (by decide) ‹_›) (by exact GaA (GaY ‹_› _) (by decide)) (by simp)) (az (by exact GaE (by decide) ‹_›) (by exact GaA (GaY ‹_› _) (by decide)) (by simp)) (az (by exact GaE (by decide) ‹_›) (by exact GaA (GaY ‹_› _) (by decide)) (by simp)) (λj=>bB (by lia) (by lia));obtain⟨x',y',z',dw⟩:=dw;obtain⟨x,y,z,hx,dg⟩:=MU (ns:=ns) (k:=k) (x5:=U (Q (P sc))) (wo:=wo) (ws:=ws) W hk xM hg;cases wo
 .exact⟨.weigh,x',y',z',fin ((pB rfl).trans dw) (jC ((pB rfl).trans dw)),by simp⟩
 .exact⟨.unweigh,x',y',z',fin ((pB rfl).trans dw) (jC ((pB rfl).trans dw)),by simp⟩
 .exact⟨.give,x,y,z,fin (jD rfl) ((aa (jD rfl)).trans dg),λ_=>hx⟩
 .exact⟨.strike,x,y,z,fin (jD rfl) ((aa (jD rfl)).trans dg),λ_=>hx⟩
 .exact⟨.amend,x,y,z,fin (jD rfl) ((aa (jD rfl)).trans dg),λ_=>hx⟩
 .exact⟨.move,x,y,z,fin (jD rfl) ((aa (jD rfl)).trans dg),λ_=>hx⟩
def vL(o:Va):slD (U 1) (U 3) (ah o)=U ⟨.c,V [P o.aA,P o.aO]⟩:=rfl
def By(a b c d:Int):eqB (V [P a,P b]) (V [P c,P d])=U (decide (a=c/\b=d)):=by
 by_cases h:a=c<;>by_cases k:b=d<;>simp[eqB,h,k]
def ij(os:List Va)(key:Int×Int)(b:Int)(t:Tr):Bool:=decide (tk os t=key)&&decide (b<=t.2.1)
def Jb{w:World}{gv:List Tr}{o:Va}(W:aB w)(hg:cx w.UU.length gv):bz (gN 0) (cK (ao eqB (slE (Vd (Vd (vE 1) (kE (P 3))) (Vd (vE 0) (kE (P 0)))) (jS (kE (P 1))) (jS (kE (P 3)))) (slE (vE 2) (jS (kE (P 1))) (jS (kE (P 3))))) (ao geB (Vd (vE 0) (kE (P 1))) (vE 3))) (vE 0) (gv.map Vc) [J,U (Q (aj w)),U (Q (ah o)),U (Q (P b))]=U ((gv.filter (ij w.UU (o.aA,o.aO) b)).map Vc):=by
 refine cF (g:=gN 0) Vc (λenv=>∃y,env=[y,U _,U _,U _]) _ Vc gv _ ⟨J,rfl⟩ ?_;rintro t ht env ⟨y,rfl⟩;obtain⟨a,_,_,ha,_,_,_,hO,_⟩:=i9 W (hg t ht).1 (hg t ht).2;have hk:tk w.UU t=(a.aA,a.aO):=by unfold tk;rw[ha]
 have im:=lB t;refine⟨[U _,U _,U _,U _],rfl,⟨_,rfl⟩, ?_,λ_=> ⟨.c,rfl,rfl⟩⟩;have i3:ixD (aj w) (P 3)=U _:=rfl;have s1:=vL o;have s2:=vL a;unfold ij;rw[hk];generalize w.UU.map ah=US at*;generalize aj w=wd at*;generalize ah o=od at*;generalize ah a=ad at*;by_cases c:a.aA=o.aA/\a.aO=o.aO
 .simp[Vc,i3,hO,s1,s2,By,c,geB]
 .simp[Vc,i3,hO,s1,s2,By,c]
def Gi:Cap->Option Int
 | .flat h _=>U h
 | .kilo h _ _=>U h
 | .ever _=>J
def CT(c:Cap)(b:Int)(t:Tr):Bool:=match Gi c with
 |some h=>decide (t.2.1<b+h)
 |none=>O
def Jc{gs:List Tr}(hc:ixD cd (P 1)=U (P h)):bz (gN 0) (ao ltB (Vd (vE 0) (kE (P 1))) (Ve aw (vE 2) (Vd (vE 1) (kE (P 1))))) (vE 0) (gs.map Vc) [J,U (Q cd),U (Q (P b))]=U ((gs.filter λt=>decide (t.2.1<b+h)).map Vc):=by
 refine cF (g:=gN 0) Vc (λenv=>∃y,env=[y,U _,U _]) _ Vc gs _ ⟨J,rfl⟩ ?_;rintro t ht env ⟨y,rfl⟩;refine⟨[U _,U _,U _],rfl,⟨_,rfl⟩, ?_,λ_=> ⟨.c,rfl,rfl⟩⟩;simp[Vc,hc]
def sH{f:Tr->Int}(k:Int)(gs:List Tr)(h:∀t∈gs,ixD (Vc t) (P k)=U (P (f t))):bz (gN 0) dS (Vd (vE 0) (kE (P k))) (gs.map Vc) [J]=U (gs.map λt=> P (f t)):=by
 refine fQ (g:=gN 0) Vc (λenv=>∃y,env=[y]) _ gs _ ⟨J,rfl⟩ ?_;rintro t ht env ⟨y,rfl⟩;exact⟨_,rfl,⟨_,rfl⟩,.c,by simp[h t ht],rfl⟩
theorem max_mem:∀ns (n:Int),lU n ns∈n::ns
 |[],n=>Gai
 |m::ns,n=>by
  show lU (if m>n then m else n) ns∈_;split
  .exact Gaf _ (max_mem ns m)
  .exact(Gaq.mp (max_mem ns n)).elim (λq=>Gaq.mpr (.inl q)) λq=>Gaf _ (Gaf _ q)
theorem Gj(p:Tr->Bool)(f:Int->Bool):∀gs:List Tr,(∀t∈gs,0<=t.2.2/\(p t=O->f t.2.1=O))->((gs.filter p).map λt=>t.2.2).sum<=(gs.map λt=>if f t.2.1 then t.2.2 else 0).sum
 |[],_=>by simp
 |t::gs,h=>by
  have ih:=Gj p f gs λu hu=>h u (Gaf _ hu);obtain⟨h0,h1⟩:=h t Gai;rw[Gav,List.sum_cons];by_cases c:p t=O
  .rw[List.filter_cons_of_pos c,Gav,List.sum_cons,h1 c,Gar rfl];simp[*]
  .rw[List.filter_cons_of_neg c];split<;>lia
def Pc{w:World}{gv:List Tr}{o:Va}{s:fD}(W:aB w)(hg:cx w.UU.length gv)(S:Snd w ws gv)(hs:w.ax[o.aO.toNat]? =U s)(hc:c∈s.aq)(hp:∀t,p t=O->ij w.UU (o.aA,o.aO) b t=O/\CT c b t=O)(hl:l∈gv.filter p)(mx:∀t∈gv.filter p,t.2.1<=l.2.1):∃top,bI c (wgt o.aA l.2.1 ws J)=U top/\((gv.filter p).map λt=>t.2.2).sum<=top:=by
 obtain⟨QT,TV⟩:=GbQ.mp hl;obtain⟨hf,hi⟩:=hp l TV;simp only[ij,Gac,Gbl] at hf;obtain⟨a,s',g,ha,xQ,S9,_⟩:=i9 W (hg l QT).1 (hg l QT).2;have hk:tk w.UU l=(a.aA,a.aO):=by unfold tk;rw[ha]
 have e:a.aA=o.aA/\a.aO=o.aO:=Prod.ext_iff.mp (hk.symm.trans hf.1);obtain⟨e1,e2⟩:=e;rw[e2,hs] at xQ;cases xQ;have hw:=((oJ ha (e2▸hs) S9).mp (S.MZ l QT)).1.2;have bo:∃top,bI c (wgt o.aA l.2.1 ws J)=U top:=by
  cases c with
  |ever t=>exact⟨t,rfl⟩
  |flat h t=>exact⟨t,rfl⟩
  |kilo h t q=>
   rw[(Gdt.mpr ⟨_,hc,rfl⟩),e1] at hw;cases hx:wgt _ _ ws J with
   |none=>rw[hx] at hw;cases hw
   |some v=>exact⟨_,rfl⟩
 obtain⟨top,hb⟩:=bo;refine⟨top,hb, ?_⟩;have cs:=S.aq l QT a s ha (e2▸hs) c hc top (e1▸hb);rw[e1,e2] at cs;refine Gdo ?_ cs;have sl:=Gj p (qM c _) (gv.filter λt=>decide (tk w.UU t=(o.aA,o.aO))) λt ht=>by
  obtain⟨h0,h1⟩:=GbQ.mp ht;obtain⟨a',s',g',zV,xQ,zy,_⟩:=i9 W (hg t h0).1 (hg t h0).2;have l1:1<=t.2.2:=((oJ zV xQ zy).mp (S.MZ t h0)).1.1.2.1;refine⟨by exact Gbk ‹_›,λh=> ?_⟩;have m:=mx t (GbQ.mpr ⟨h0,h⟩);obtain⟨f1,f2⟩:=hp t h;simp only[ij,Gac,Gbl] at f1;cases c with
  |ever t=>simpa[qM] using m
  |flat h t=>simp[CT,Gi] at hi;simp[qM,m];lia
  |kilo h t q=>simp[CT,Gi] at hi;simp[qM,m];lia
 have ff:(gv.filter λt=>decide (tk w.UU t=(o.aA,o.aO))).filter p=gv.filter p:=by
  rw[List.filter_filter];apply List.filter_congr;intro t _;by_cases h:p t=O
  .have f1:=(hp t h).1;simp only[ij,Gac,Gbl] at f1;simp[h,f1.1]
  .simp[h]
 rw[ff] at sl;unfold i7 qS
 rwa[GaL]
section
variable{s:fD}{gv:List Tr}
def Bz{w:World}{o:Va}(W:aB w)(hg:cx w.UU.length gv)(lg:gv.length<64)(S:Snd w ws gv)(hs:w.ax[o.aO.toNat]? =U s)(so:fB s)(hc:c∈s.aq)(hp:∀t,p t=O->ij w.UU (o.aA,o.aO) b t=O/\CT c b t=O):ak (ifS (ao eqB (g9 b5 (ae (vE 5) aL)) (kE (P 0)))
  (UW (kE (Vy O)))
  aC)
 (ak (au 6 (g9 u7 (ae (dR (U 5) 1 [] (cy (vE 5)) (gN 0) dS (Vd (vE 0) (kE (P 1)))) aL)))
 (ak (au 7 (ai cP (ae (vE 3) (ae (ai gE (ae (Vd (vE 1) (kE (P 0))) (ae (Vd (vE 2) (kE (P 1))) (ae (vE 6) aL)))) aL))))
 (UW (bE (cK (ao gK (vE 7) (kE N)) (ao leB (g9 BE (ae (dR (U 5) 1 [] (cy (vE 5)) (gN 0) dS (Vd (vE 0) (kE (P 2)))) aL)) (vE 7))))))) [U (Q (aj w)),U (Q (bkD ws gv)),U (Q (ah o)),U (Q (aT c)),U (Q (P b)),U (Z (X ((gv.filter p).map Vc))),J,J]=U (.ret (Vy O)):=by
 have z:=Gbo p gv;by_cases c0:gv.filter p=[]
 .rw[c0];refine jC ((pB ?_).trans rfl);simp[b5,eqB]
 obtain⟨r,rs,e⟩:=List.exists_cons_of_ne_nil c0;have mm:lU r.2.1 (rs.map λt=>t.2.1)∈(gv.filter p).map λt=>t.2.1:=by rw[e];exact max_mem _ _
 obtain⟨l,hl,zb⟩:=GaP.mp mm;have mx:∀t∈gv.filter p,t.2.1<=l.2.1:=λt ht=>by
  rw[zb];rw[e] at ht;have g:=Ae (rs.map λt=>t.2.1) r.2.1;rcases Gaq.mp ht with rfl|q
  .exact g.1
  .exact g.2 _ (GaP.mpr ⟨t,q,rfl⟩)
 obtain⟨top,hb,yZ⟩:=Pc W hg S hs hc hp hl mx;have c1:=sH 1 (f:=λt=>_) (gv.filter p) λt _=>rfl;have c2:=sH 2 (f:=λt=>_) (gv.filter p) λt _=>rfl;have m1:u7 [X ((gv.filter p).map λt=> P t.2.1)]=U ⟨.c,P l.2.1⟩:=by
  rw[zb,e];have i:=oq (r.2.1::rs.map λt=>t.2.1);rw[Gav,GaL] at i;show(jQ (P r.2.1::rs.map λt=> P t.2.1)).bind _=_;rw[show jQ (P r.2.1::rs.map λt=> P t.2.1)=_ from i]
  rfl
 have m2:BE [X ((gv.filter p).map λt=> P t.2.2)]=U ⟨.c,P ((gv.filter p).map λt=>t.2.2).sum⟩:=by
  unfold BE one;have i:=oq ((gv.filter p).map λt=>t.2.2);rw[GaL] at i;simp only[jR,Option.bind_some];rw[show jQ ((gv.filter p).map λt=> P t.2.2)=_ from i]
  rfl
 have wg:=jK (ws:=ws) (g:=o.aA) (h:=l.2.1);have bd:=qR (w:=wgt o.aA l.2.1 ws J) (so.ok c hc);rw[hb] at bd;have ib:ixD (bkD ws gv) (P 0)=U (V (ws.map Vc)):=rfl;have io:ixD (ah o) (P 1)=U (P o.aA):=rfl;have z1:((gv.filter p).map Vc).length<=16777216:=by rw[Gah];lia
 have z2:¬((gv.filter p).map Vc).length=0:=by rw[Gah];exactλh=>c0 (List.length_eq_zero_iff.mp h)
 generalize (gv.filter p).map Vc=R at*;generalize aj w=wd at*;generalize bkD ws gv=bk at*;generalize ah o=od at*;generalize aT c=cd at*;generalize cZ (wgt o.aA l.2.1 ws J)=ow at*;refine(aa ((jD ?_).trans rfl)).trans ?_
 .simp[b5,eqB,z2]
 refine(aa (e:=[U (Q wd),U (Q bk),U (Q od),U (Q cd),U (Q (P b)),U (Z (X R)),U (Q (P l.2.1)),J]) ?_).trans ?_
 .simp[-bz,a9,DL.UY,dH,z1,c1,m1]
 refine(aa (e:=[U (Q wd),U (Q bk),U (Q od),U (Q cd),U (Q (P b)),U (Z (X R)),U (Q (P l.2.1)),U (Q (P top))]) ?_).trans ?_
 .simp[ib,io,wg,(aV (cR (wgt o.aA l.2.1 ws J))),bd,cZ,dZ,D.top]
 simp[-bz,a9,DL.UY,dH,z1,c2,m2,gK,fV,yZ]
def CU{w:World}{o:Va}(W:aB w)(hg:cx w.UU.length gv)(lg:gv.length<64)(S:Snd w ws gv)(hs:w.ax[o.aO.toNat]? =U s)(so:fB s)(hc:c∈s.aq):dD [aj w,bkD ws gv,ah o,aT c,P b]=U (Vy O):=by
 have cm:=Jb (o:=o) (b:=b) W hg;have ib:ixD (bkD ws gv) (P 1)=U _:=rfl;have z:=Gbo (ij w.UU (o.aA,o.aO) b) gv;have z1:(gv.map Vc).length<=16777216:=by rw[Gah];exact Gak (GaJ ‹_›) (by simp)
 have z2:((gv.filter (ij w.UU (o.aA,o.aO) b)).map Vc).length<=16777216:=by rw[Gah];lia
 refine aD rfl ((aa (e:=[U (Q (aj w)),U (Q (bkD ws gv)),U (Q (ah o)),U (Q (aT c)),U (Q (P b)),U (Z (X ((gv.filter (ij w.UU (o.aA,o.aO) b)).map Vc))),J,J]) ?_).trans ?_)
 .generalize gv.map Vc=G at*;simp[a9,DL.UY,dH,ib,z1,cm]
 cases e:Gi c with
 |none=>
  have he:ao neB (Vd (vE 3) (kE (P 0))) (kE (Y "ever")) [U (Q (aj w)),U (Q (bkD ws gv)),U (Q (ah o)),U (Q (aT c)),U (Q (P b)),U (Z (X ((gv.filter (ij w.UU (o.aA,o.aO) b)).map Vc))),J,J]=U M:=by
   cases c<;>first|rfl|cases e
  exact(aa ((jD he).trans rfl)).trans (Bz W hg lg S hs so hc λt ht=> ⟨ht,by unfold CT;rw[e]⟩)
 |some h=>
  have he:ao neB (Vd (vE 3) (kE (P 0))) (kE (Y "ever")) [U (Q (aj w)),U (Q (bkD ws gv)),U (Q (ah o)),U (Q (aT c)),U (Q (P b)),U (Z (X ((gv.filter (ij w.UU (o.aA,o.aO) b)).map Vc))),J,J]=U O:=by
   cases c<;>first|rfl|cases e
  have h1:ixD (aT c) (P 1)=U (P h):=by cases c<;>cases e<;>rfl
  have lc:=Jc (gs:=gv.filter (ij w.UU (o.aA,o.aO) b)) (b:=b) h1;have tl:=Bz (p:=λt=>decide (t.2.1<b+h)&&ij w.UU (o.aA,o.aO) b t) W hg lg S hs so hc λt ht=>by
   rw[Gac] at ht;exact⟨ht.2,by unfold CT;rw[e];exact ht.1⟩
  refine(aa ((pB he).trans ?_)).trans tl;generalize (gv.filter (ij w.UU (o.aA,o.aO) b)).map Vc=R at*;simp[a9,DL.UY,dH,z2,lc]
end
abbrev kE5 (ns:List Int) (wd bk:D) (x3 x4 x5 x6 x7 x8 x9:Os):DL.Env:=[U (Q (.scr ns)),U (Q wd),U (Q bk),x3,x4,x5,x6,x7,x8,x9]
section
open EV in
theorem BA{ns:List Int}{bk:D}(st:∀b,dD [wd,bk,od,cd,P b]=U (Vy O)):∀(bs:List Int) (x9:Os),∃y9,UX (gN 9) dF (bs.map P) (kE5 ns wd bk x3 x4 x5 (U (Q od)) (U (Q cd)) x8 x9)=U (.nx (kE5 ns wd bk x3 x4 x5 (U (Q od)) (U (Q cd)) x8 y9))
 |[],x9=> ⟨x9,rfl⟩
 |b::bs,x9=>by
  obtain⟨y9,e⟩:=BA (ns:=ns) (x3:=x3) (x4:=x4) (x5:=x5) (x8:=x8) st bs (U (Q (P b)));refine⟨y9, ?_⟩;have ev:dF (kE5 ns wd bk x3 x4 x5 (U (Q od)) (U (Q cd)) x8 (U (Q (P b))))=U (.nx (kE5 ns wd bk x3 x4 x5 (U (Q od)) (U (Q cd)) x8 (U (Q (P b))))):=by
   simp[dF,kE5,st]
  simp_all
open EV in
def Jd{ns:List Int}{bk:D}(ok:jJ c)(st:∀b,dD [wd,bk,od,aT c,P b]=U (Vy O)):∃y8 y9,j3 (kE5 ns wd bk x3 (U (Q (P h))) x5 (U (Q od)) (U (Q (aT c))) x8 x9)=U (.nx (kE5 ns wd bk x3 (U (Q (P h))) x5 (U (Q od)) (U (Q (aT c))) y8 y9)):=by
 have fin:∀bs:List Int,∃y9,dN (U 8) (cy (vE 8)) (gN 9) dF (kE5 ns wd bk x3 (U (Q (P h))) x5 (U (Q od)) (U (Q (aT c))) (U (Z (X (bs.map P)))) x9)=U (.nx (kE5 ns wd bk x3 (U (Q (P h))) x5 (U (Q od)) (U (Q (aT c))) (U (Z (X (bs.map P)))) y9)):=λbs=>by
  obtain⟨y9,e⟩:=BA (ns:=ns) (x3:=x3) (x4:=U (Q (P h))) (x5:=x5) (x8:=U (Vw (X (bs.map P)))) st bs x9;refine⟨y9, ?_⟩;simp[e]
 have s0:au 8 (bQ (ae (kE (P 0)) aL)) (kE5 ns wd bk x3 (U (Q (P h))) x5 (U (Q od)) (U (Q (aT c))) x8 x9)=U (.nx (kE5 ns wd bk x3 (U (Q (P h))) x5 (U (Q od)) (U (Q (aT c))) (U (Z (X [P 0]))) x9)):=by simp[a9]
 cases e:Gi c with
 |none=>
  obtain⟨y9,f⟩:=fin [0];exact⟨_,y9,(aa s0).trans ((aa ((jD (by cases c<;>first|rfl|cases e)).trans rfl)).trans f)⟩
 |some H=>
  have he:ao neB (Vd (vE 7) (kE (P 0))) (kE (Y "ever")) (kE5 ns wd bk x3 (U (Q (P h))) x5 (U (Q od)) (U (Q (aT c))) (U (Z (X [P 0]))) x9)=U O:=by cases c<;>first|rfl|cases e
  have h1:ixD (aT c) (P 1)=U (P H)/\1<=H:=by cases c<;>cases e<;>exact⟨rfl,ok.1⟩
  have m:=Get h (show(1000:Int)≠0 by lia);have m' :=GdH h (show(0:Int)<1000 by simp);obtain⟨y9,f⟩:=fin [h,h -H+1,h -draw ns (h%1000) H];refine⟨_,y9,(aa s0).trans ((aa ((pB he).trans ?_)).trans f)⟩;simp[a9,h1,(az (ns:=ns) (k:=h%1000) (m:=H) (by simp[*]) (by exact GaA ‹_› (by decide)) (by lia))]
theorem sI{ns:List Int}{bk:D}{cs:List Cap}(st:∀c b,jJ c->c∈cs->dD [wd,bk,od,aT c,P b]=U (Vy O)):∀(l:List Cap) (x7 x8 x9:Os),(∀c∈l,jJ c/\c∈cs)->∃y7 y8 y9,UX (gN 7) j3 (l.map aT) (kE5 ns wd bk x3 (U (Q (P h))) x5 (U (Q od)) x7 x8 x9)=U (.nx (kE5 ns wd bk x3 (U (Q (P h))) x5 (U (Q od)) y7 y8 y9))
 |[],x7,x8,x9,_=> ⟨x7,x8,x9,rfl⟩
 |c::l,x7,x8,x9,hl=>by
  obtain⟨ok,hc⟩:=hl c Gai;obtain⟨y8,y9,ev⟩:=Jd (ns:=ns) (x3:=x3) (x5:=x5) (x8:=x8) (x9:=x9) (h:=h) ok λb=>st c b ok hc;obtain⟨z7,z8,z9,e⟩:=sI st l _ y8 y9 λd hd=>hl d (Gaf _ hd);refine⟨z7,z8,z9, ?_⟩;rw[Gav];unfold kE5 at*;simp only[UX,gN,GaT,GaU,Option.bind_some,ev];exact e
open EV in
theorem sJ{w:World}{gv:List Tr}{ns:List Int}(W:aB w)(hg:cx w.UU.length gv)(lg:gv.length<64)(S:Snd w ws gv):∀(l:List Tr) (x3 x4 x5 x6 x7 x8 x9:Os),(∀t∈l,t∈gv)->∃y3 y4 y5 y6 y7 y8 y9,UX (gT [3,4,5]) dG (l.map Vc) (kE5 ns (aj w) (bkD ws gv) x3 x4 x5 x6 x7 x8 x9)=U (.nx (kE5 ns (aj w) (bkD ws gv) y3 y4 y5 y6 y7 y8 y9))
 |[],x3,x4,x5,x6,x7,x8,x9,_=> ⟨x3,x4,x5,x6,x7,x8,x9,rfl⟩
 |t::l,x3,x4,x5,x6,x7,x8,x9,hl=>by
  have ht:=hl t Gai;obtain⟨o,s,g,ho,hs,_,so,hO,hS,_⟩:=i9 W (hg t ht).1 (hg t ht).2;obtain⟨y7,y8,y9,e⟩:=sI (ns:=ns) (x3:=U (Q (P t.1))) (x5:=U (Q (P t.2.2))) (h:=t.2.1) (λc b _ hc=>CU W hg lg S hs so hc) _ x7 x8 x9 λc hc=> ⟨so.ok c hc,hc⟩;obtain⟨z3,z4,z5,z6,z7,z8,z9,e'⟩:=sJ (ns:=ns) W hg lg S l (U (Q (P t.1))) (U (Q (P t.2.1))) (U (Q (P t.2.2))) (U (Q (ah o))) y7 y8 y9 λu hu=>hl u (Gaf _ hu);refine⟨z3,z4,z5,z6,z7,z8,z9, ?_⟩;have ev:dG (kE5 ns (aj w) (bkD ws gv) (U (Q (P t.1))) (U (Q (P t.2.1))) (U (Q (P t.2.2))) x6 x7 x8 x9)=U (.nx (kE5 ns (aj w) (bkD ws gv) (U (Q (P t.1))) (U (Q (P t.2.1))) (U (Q (P t.2.2))) (U (Q (ah o))) y7 y8 y9)):=by
   have i3:ixD (aj w) (P 3)=U _:=rfl;have i1:ixD (aj w) (P 1)=U _:=rfl;have o2:ixD (ah o) (P 2)=U _:=rfl;have s2:ixD (aI s) (P 2)=U _:=rfl;generalize aj w=wd at*;generalize bkD ws gv=bk at*;generalize ah o=od at*;refine(aa (by simp_all;rfl)).trans ?_;simp[i1,o2,hS,s2,e]
  show UX _ dG (V [P _,P _,P t.2.2]::l.map Vc) _=_;simp only[UX,gT,gNs,GaT,GaU,Option.bind_some,ev];exact e'
open EV in
def Gk{ns:List Int}{W:List D}(wd:D)(h1:jv [wd,V [V W,V G]]=U (X []))(h2:jw [wd,V [V W,V G]]=U (X []))(h3:fU [wd,V [V W,V G]]=U (X []))(e:UX (gT [3,4,5]) dG G (kE5 ns wd (V [V W,V G]) J J J J J J J)=U (.nx (kE5 ns wd (V [V W,V G]) y3 y4 y5 y6 y7 y8 y9))):jx [.scr ns,wd,V [V W,V G]]=U (Vy O):=by
 have rl:dZ (X [])=⟨.tn,X []⟩:=rfl;have ib:ixD (V [V W,V G]) (P 1)=U _:=rfl;generalize V [V W,V G]=bk at*;refine aD rfl ((aa (e:=kE5 ns wd bk y3 y4 y5 y6 y7 y8 y9) ?_).trans ?_)
 .simp[ib,e]
 .simp[h1,h2,h3,eqB]
def Gn{w:World}{gv:List Tr}{ns:List Int}(W:aB w)(hg:cx w.UU.length gv)(lg:gv.length<64)(S:Snd w ws gv):jx [.scr ns,aj w,bkD ws gv]=U (Vy O):=by
 obtain⟨y3,y4,y5,y6,y7,y8,y9,e⟩:=sJ (ns:=ns) W hg lg S gv J J J J J J J λ_ h=>h;obtain⟨rows,r1,r2,hp⟩:=S.gap;exact Gk _ (FQ W hg S.MZ) (MG W hg lg r1 r2 hp) (CM W lg S.cnt) e
end
abbrev lE5 (ns:List Int) (wd bk:D) (x3 x4 x5 x6:Os):DL.Env:=[U (Q (.scr ns)),U (Q wd),U (Q (.ins aQ)),x3,x4,x5,x6,U (Q wd),U (Q bk)]
section
def Snd.none(w:World)(ws:List Tr):Snd w ws []:=⟨λ_ h=>absurd h Gej,λ_ h=>absurd h Gej,⟨[],rfl,.refl _,.nil⟩,λ_ _=>Gbm _⟩
def BB{ns:List Int}{bk:D}(ib:bk.imm=O):Be (lE5 ns wd bk x3 x4 x5 x6)=U ⟨.c,bk⟩:=by
 have hr:wW [U wd,U bk] []=U bk:=by
  have tp:bk.top=M:=by cases bk<;>first|rfl|cases ib
  simp[wW,o9,wU,bY,hid,jW,tp]
 simp[Be,rdE,objs,j6,hr,(aV ib)]
open EV in
def BC{ns:List Int}{bk xP dd:D}{b:Bool}(ib:bk.imm=O)(TA :xP.imm=O)(im:dd.imm=O)(hd:gY [.scr ns,wd,bk,P k]=U dd)(ht:jz [U wd,U bk] [dd]=U (.ret (V [Y s,d]),[U wd,U xP]))(hn:neB (Y s) (Y "done")=U b)(hb:b=O->neB xP bk=U M)(hk:jx [.scr ns,wd,xP]=U (Vy O)):∃y4 y5 y6,kF (lE5 ns wd bk (U (Q (P k))) x4 x5 x6)=U (.nx (lE5 ns wd xP (U (Q (P k))) y4 y5 y6)):=by
 refine⟨U (Q bk),U (Q (V [Y s,d])),U (Q xP),((nP (e:=lE5 ns wd bk (U (Q (P k))) (U (Q bk)) x5 x6) (Bs ?_)).trans ?_)⟩
 .simp[(BB (ns:=ns) (wd:=wd) (x3:=U _) (x4:=x4) (x5:=x5) (x6:=x6) ib)]
 refine(nP (e:=lE5 ns wd xP (U (Q (P k))) (U (Q bk)) (U (Q (V [Y s,d]))) x6) ?_).trans ?_
 .simp[rf,cY,A4,A3,A2,hd,(aV im),objs,j6,ht,RM.flat,wI,gW,D.top]
 refine(nP (e:=lE5 ns wd xP (U (Q (P k))) (U (Q bk)) (U (Q (V [Y s,d]))) (U (Q xP))) (Bs ?_)).trans ?_
 .simp[(BB (ns:=ns) (wd:=wd) (x3:=U _) (x4:=U _) (x5:=U _) (x6:=x6) TA)]
 refine(nP ((Pa ?_).trans rfl)).trans rfl;cases b
 .simp[hn,A3,A2,A1,hk,dZ,D.top]
 .simp[hn,hb,A3,A2,A1,hk,dZ,D.top]
def JR(h:eqB a b=U c):neB a b=U !c:=by
 unfold eqB at h;unfold neB;split at h
 .cases h;rename_i q;rw[Gar q]
 .cases h
open EV in
def Gp{w:World}{ns:List Int}(W:aB w)(hm:m<63)(hk:0<=k)(xM:k<1000)(G:Good w m ws gv):∃ws' gv' y4 y5 y6,Good w (m+1) ws' gv' /\kF (lE5 ns (aj w) (bkD ws gv) (U (Q (P k))) x4 x5 x6)=U (.nx (lE5 ns (aj w) (bkD ws' gv') (U (Q (P k))) y4 y5 y6)):=by
 obtain⟨wo,x,y,z,hd,hx⟩:=MV W hk xM G.ok;obtain⟨r,ht,T⟩:=MQ W hm G hx;have im:(cW wo x y z).imm=O:=by simp[cW]
 cases T with
 | @done ws' gv' g=>
  obtain⟨y4,y5,y6,e⟩:=BC (gq _ _) (gq _ _) im hd ht rfl nofun (Gn W g.ok (by have:=g.lg;lia) g.snd);exact⟨_,_,y4,y5,y6,g,e⟩
 | @no s d h=>
  have g:Good w (m+1) ws gv:=⟨by have:=G.lw;lia,by have:=G.lg;lia,G.ok,G.snd⟩
  obtain⟨y4,y5,y6,e⟩:=BC (gq _ _) (gq _ _) im hd ht (JR h) (λ_=>JR (G7 _ _)) (Gn W g.ok (by have:=g.lg;lia) g.snd);exact⟨_,_,y4,y5,y6,g,e⟩
theorem vM{w:World}{ns:List Int}(W:aB w):∀(n lo m:Nat) (ws gv:List Tr) (x3 x4 x5 x6:Os),lo+n<1000->m+n<63->Good w m ws gv->∃bk y3 y4 y5 y6,qu (gN 3) kF (aN lo n) (lE5 ns (aj w) (bkD ws gv) x3 x4 x5 x6)=U (.nx (lE5 ns (aj w) bk y3 y4 y5 y6))
 |0,lo,m,ws,gv,x3,x4,x5,x6,_,_,_=> ⟨_,x3,x4,x5,x6,rfl⟩
 |n+1,lo,m,ws,gv,x3,x4,x5,x6,h1,h2,G=>by
  obtain⟨ws',gv',y4,y5,y6,G',e⟩:=Gp (ns:=ns) (k:=(lo)) (x4:=x4) (x5:=x5) (x6:=x6) W (by lia) (by simp) (by lia) G;obtain⟨bk,z3,z4,z5,z6,e'⟩:=vM (ns:=ns) W n (lo+1) _ ws' gv' (U (Q (P lo))) y4 y5 y6 (by simp_all+arith) (by simp_all+arith) G';refine⟨bk,z3,z4,z5,z6, ?_⟩;have er:aN (lo) (n+1)= P lo::aN ((lo+1)) n:=by
   unfold aN;rw[List.range_succ_eq_map,Gav,GaL];congr 1;refine GaV λi _=>congrArg P ?_;show _+_=_+_
   (simp+arith)
  rw[er];unfold lE5 at*;generalize aj w=wd at*;generalize bkD ws gv=b0 at*;generalize bkD ws' gv' =b1 at*;simp only[qu,gN,GaT,GaU,Option.bind_some,e];exact e'
def Je{ns:List Int}(hl:ns.length<=63):∃(n:Nat) (len mn:Int),n<60/\b5 [.scr ns]=U ⟨.c,P len⟩/\j4 [P len,P 40]=U ⟨.c,P mn⟩/\mn+1+draw ns 12 3=(n:Int):=by
 have l:=aG ns 12 3 (by simp);refine⟨((if(40:Int)<ns.length then 40 else ns.length)+1+draw ns 12 3).toNat,_,if(40:Int)<_ then 40 else ns.length, ?_,by simp[b5],rfl, ?_⟩
 .split<;>lia
 .split<;>lia
open EV in
def Jf{ns:List Int}{wd bk:D}{len:Int}(e1:iJ [.scr ns]=U wd)(iw:wd.imm=O)(eP:b5 [.scr ns]=U ⟨.c,P len⟩)(RW:j4 [P len,P 40]=U ⟨.c,P mn⟩)(QG:a7 [.scr ns,P 12,P 3]=U (P q))(hR:aN 0 (mn+1+q).toNat=R)(sm:aU (mn+1+q)=O)(e2:qC [J,J] [wd]=U (.ret N,[U wd,U B]))
  (e:qu (gN 3) kF R (lE5 ns wd B J J J J)=U (.nx (lE5 ns wd bk y3 y4 y5 y6))):ve [.scr ns]=U (Vy O):=by
 refine aD rfl ((aa (by simp[e1,(aV iw)];rfl)).trans ?_);have src:cz (Ve aw (Ve aw (g9 j4 (A2 (g9 b5 (A1 (vE 0))) (kE (P 40)))) (kE (P 1))) (ai a7 (A3 (vE 0) (kE (P 12)) (kE (P 3))))) [U (Q (.scr ns)),U (Q wd),U (Q (.ins aQ)),J,J,J,J,U (Q wd),U (Q B)]=U R:=by
  simp[A2,eP,RW,QG,sm,hR]
 simp only[mkS,ae,aL,vE,List.getElem?_cons_succ,List.getElem?_cons_zero,Option.bind_some,Gav,List.map_nil,List.replicate,e2,GaT,GaU,List.cons_append,Gep,Gcj,aF,HS,src,e]
 rfl
open EV in
def Jg:qC [J,J] [wd]=U (.ret N,[U wd,U (bkD [] [])]):=by
 simp[qC,wR,j8,aF,wH,aE,j6,a9,fJ,j7,bkD]
def Gq(ns:List Int)(hl:ns.length<=63):ve [.scr ns]=U (Vy O):=by
 obtain⟨w,W,e1⟩:=Il ns;obtain⟨n,len,mn,hn,eP,RW,yZ⟩:=Je hl;obtain⟨bk,y3,y4,y5,y6,e⟩:=vM (ns:=ns) W n 0 0 [] [] J J J J (by lia) (by lia) ⟨Gbm _,Gbm _,λ_ h=>absurd h Gej,.none w []⟩;exact Jf e1 (Ah W) eP RW (az (by simp) (by simp) (by simp)) (by simp_all) (by rw[yZ];exact bf (by simp) (by lia)) Jg e
end
end
end Maths
namespace Der
open PySem PySem.Spec PyProof.Rows NL DL Den
def MW{N P:List Str}{sc:Vp}(a:autoParam (sc.kind= .function) Za1._auto_1)(b:autoParam (sc.isCoroutine=M) Za1._auto_1)(c:autoParam (sc.isGenerator=M) Za1._auto_1)(d:N.Nodup:=by decide+kernel)(e:autoParam (N.take P.length=P) Za1._auto_1)(f:∀x∈P,sc.names.lookup x=U .local\/sc.names.lookup x=U .cell:=by decide+kernel)(g:∀y∈sc.names,y.2≠ .free:=by decide+kernel):bH N P sc:=⟨a,b,c,d,e,f,g⟩
section
variable [Wd]
def JS{us:List Vf}(h:us.length=n+1):∃a t,us=a::t/\t.length=n:=by
 cases us with
 |nil=>cases h
 |cons a t=>exact⟨a,t,rfl,Nat.succ.inj h⟩
def all2{K:FrW}{p0:Str}(h:∀v0 v1,bindArgs fd ⟨[v0,v1],[]⟩=pure ([p0,p1].zip [v0,v1])):Binds K fd [p0,p1]:= .all λus hl=>by
 obtain⟨v0,t0,rfl,h0⟩:=JS hl;obtain⟨v1,t1,rfl,hZ⟩:=JS h0;cases List.length_eq_zero_iff.mp hZ;exact h v0 v1
end
section
variable{Pm:Vs}{mg:Str->Option Vf}
def Txt(Pm:Vs)(mg:Str->Option Vf):Prop:=∃h:Vj,(Hd.K Pm).In h/\h.Ns mainGlobals mg
def Txt.at(T:Txt Pm mg)(e:PySem.W.nsIn (Hd.K Pm) mainGlobals n=U (U v):=by kernel_rfl):mg n=U v:=let⟨_,X,G⟩:=T;PySem.W.mg_of X G e
def Txt.no{n:Str}(T:Txt Pm mg)(e:PySem.W.nsIn (Hd.K Pm) mainGlobals n=U J:=by kernel_rfl):mg n=J:=let⟨_,X,G⟩:=T;PySem.W.mg_none_of X G e
def bl:List Str:=["any","enumerate","int","isinstance","len","list","max","min","range","sorted","sum","tuple"]
theorem Txt.bl(T:Txt Pm mg):∀x∈bl,mg x=J:=λx hx=>T.no (List.map_inj_left.mp (by kernel_rfl:Der.bl.map (PySem.W.nsIn (Hd.K Pm) mainGlobals)=Der.bl.map λ_=>U J) x hx)
variable [Wd]
abbrev Jh:Vo:=Hd.ocl "Twice" [.ref 69] (.type "ValueError"::Hd.xs0) 127 317 325 111 []
abbrev qV:Vr:=PySem.W.fnOf "__init__" "Twice.__init__" (gr (Hd.inn 12 0)) (bD (Hd.inn 12 0)) (af (Hd.inn 12 0)) .none .none .none (.str "dosehouse.errors" 247) J (.ref 123) .none
abbrev CV:Vo:=Hd.ocl "NoEntry" [.ref 69] (.type "ValueError"::Hd.xs0) 146 342 350 130 []
abbrev mI:Vr:=PySem.W.fnOf "__init__" "NoEntry.__init__" (gr (Hd.inn 13 0)) (bD (Hd.inn 13 0)) (af (Hd.inn 13 0)) .none .none .none (.str "dosehouse.errors" 247) J (.ref 142) .none
abbrev Gr:Vo:=Hd.ocl "Unsafe" [.ref 69] (.type "ValueError"::Hd.xs0) 165 367 375 149 []
abbrev oP:Vr:=PySem.W.fnOf "__init__" "Unsafe.__init__" (gr (Hd.inn 14 0)) (bD (Hd.inn 14 0)) (af (Hd.inn 14 0)) .none .none .none (.str "dosehouse.errors" 247) J (.ref 161) .none
def XB:XBs (Hd.K Pm) 69:=⟨by kernel_rfl,by kernel_rfl,by kernel_rfl⟩
def pI:XCl (Hd.K Pm) 69 127 124 "entry":=wD (by kernel_rfl:(Hd.K Pm).lookup 127=U Jh) (by kernel_rfl) (by kernel_rfl) (by kernel_rfl) (by kernel_rfl:(Hd.K Pm).lookup 124=U (⟨.type "function",J,.func qV,#[]⟩)) rfl (by kernel_rfl) (by kernel_rfl) (by kernel_rfl) (by kernel_rfl) (by kernel_rfl)
def Gs:XIs (Hd.K Pm) 127:=wF pI (by kernel_rfl) (by kernel_rfl) (by kernel_rfl)
def Ji(T:Txt Pm mg):ku (Hd.K Pm) mg base 124 qV "entry" 127 "entry" M:=B6 (by kernel_rfl:(Hd.K Pm).lookup 124=U (⟨.type "function",J,.func qV,#[]⟩)) (by kernel_rfl) MW XB pI rfl T.at rfl rfl rfl (by decide) rfl rfl (λenv=> ⟨_,rfl⟩) (λ_=>rfl) (λ_=>rfl)
def lD:XCl (Hd.K Pm) 69 146 143 "entry":=wD (by kernel_rfl:(Hd.K Pm).lookup 146=U CV) (by kernel_rfl) (by kernel_rfl) (by kernel_rfl) (by kernel_rfl:(Hd.K Pm).lookup 143=U (⟨.type "function",J,.func mI,#[]⟩)) rfl (by kernel_rfl) (by kernel_rfl) (by kernel_rfl) (by kernel_rfl) (by kernel_rfl)
def Ak:XIs (Hd.K Pm) 146:=wF lD (by kernel_rfl) (by kernel_rfl) (by kernel_rfl)
def CW(T:Txt Pm mg):ku (Hd.K Pm) mg base 143 mI "entry" 146 "entry" M:=B6 (by kernel_rfl:(Hd.K Pm).lookup 143=U (⟨.type "function",J,.func mI,#[]⟩)) (by kernel_rfl) MW XB lD rfl T.at rfl rfl rfl (by decide) rfl rfl (λenv=> ⟨_,rfl⟩) (λ_=>rfl) (λ_=>rfl)
def nU:XCl (Hd.K Pm) 69 165 162 "faults":=wD (by kernel_rfl:(Hd.K Pm).lookup 165=U Gr) (by kernel_rfl) (by kernel_rfl) (by kernel_rfl) (by kernel_rfl:(Hd.K Pm).lookup 162=U (⟨.type "function",J,.func oP,#[]⟩)) rfl (by kernel_rfl) (by kernel_rfl) (by kernel_rfl) (by kernel_rfl) (by kernel_rfl)
def CX:XIs (Hd.K Pm) 165:=wF nU (by kernel_rfl) (by kernel_rfl) (by kernel_rfl)
def Gu(T:Txt Pm mg):ku (Hd.K Pm) mg base 162 oP "faults" 165 "faults" O:=EL (by kernel_rfl:(Hd.K Pm).lookup 162=U (⟨.type "function",J,.func oP,#[]⟩)) (by kernel_rfl) MW XB nU rfl T.at T.no rfl rfl rfl rfl rfl (by decide) (by decide) rfl rfl rfl (λenv=> ⟨_,rfl⟩) (λ_=>rfl) (λ_=>rfl) (λ_=>rfl)
def Pe:gn:=⟨[127,146,165],[(127,"entry"),(146,"entry"),(165,"faults")],[⟨"HouseError",.ref 69,[127,146,165]⟩,⟨"Twice",.ref 127,[127]⟩,⟨"NoEntry",.ref 146,[146]⟩,⟨"Unsafe",.ref 165,[165]⟩,⟨"NoText",.ref 89,[]⟩,⟨"NoPieces",.ref 108,[]⟩,⟨"Torn",.ref 184,[]⟩,⟨"NoLine",.ref 203,[]⟩,⟨"ValueError",.type "ValueError",[127,146,165]⟩],[("Twice",127,"entry",M),("NoEntry",146,"entry",M),("Unsafe",165,"faults",O)]⟩
def BD(T:Txt Pm mg):ky (Hd.K Pm) mg Pe:=Ig (λ_ _ e=>T.at e) (λ_ e=>T.no e) (by kernel_rfl) (Gbt.mpr ⟨⟨_,_,pI⟩,Gbt.mpr ⟨⟨_,_,lD⟩,Gbt.mpr ⟨⟨_,_,nU⟩,(λ_ z=>nomatch z)⟩⟩⟩) (Gbt.mpr ⟨Gs,Gbt.mpr ⟨Ak,Gbt.mpr ⟨CX,(λ_ z=>nomatch z)⟩⟩⟩) (Gbt.mpr ⟨⟨λbase _=> ⟨_,_,_,_,pI,Ji T,all2 λ_ _=>rfl⟩,T.at,rfl⟩,Gbt.mpr ⟨⟨λbase _=> ⟨_,_,_,_,lD,CW T,all2 λ_ _=>rfl⟩,T.at,rfl⟩,Gbt.mpr ⟨⟨λbase _=> ⟨_,_,_,_,nU,Gu T,all2 λ_ _=>rfl⟩,T.at,rfl⟩,(λ_ z=>nomatch z)⟩⟩⟩) T.no
def rows:List jO:=[row (Hd.top 1) oj,
 row (Hd.top 2) kA,
 row (Hd.top 3) iU,
 row (Hd.top 4) fK,
 row (Hd.top 5) iV,
 row (Hd.top 6) fL,
 row (Hd.top 7) jm,
 row (Hd.top 18) lA,
 row (Hd.top 20) nj,
 row (Hd.top 21) nu,
 row (Hd.top 23) oW,
 row (Hd.top 25) tW,
 row (Hd.top 27) fN,
 row (Hd.top 28) iX,
 {row (Hd.top 29) fy with ni:=O},
 row (Hd.top 30) nA,
 row (Hd.top 31) jc,
 row (Hd.top 32) iY,
 row (Hd.top 33) nB,
 row (Hd.top 34) kC,
 {row (Hd.top 35) qw with sx:=1,sy:=1},
 row (Hd.top 39) mq,
 row (Hd.top 40) qx,
 row (Hd.top 41) jq,
 row (Hd.top 42) qy,
 row (Hd.top 43) mv,
 row (Hd.top 44) oX,
 row (Hd.top 45) mw,
 row (Hd.top 46) nE,
 row (Hd.top 47) nG,
 row (Hd.top 48) rW,
 row (Hd.top 49) nH,
 row (Hd.top 50) dY,
 {row (Hd.top 51) mz with N:=["_law_world_here","_law_book","_law_rising","_law_one","_law_listed","_law_j","_law_i","_law_other","_law_bar"]},
 row (Hd.top 52) j2,
 row (Hd.top 55) mC,
 row (Hd.top 56) lP,
 row (Hd.top 57) qB]
abbrev tb:List En:=jO.go [] rows
def JT(T:Txt Pm mg):∀e∈tb,mZ (Hd.K Pm) mg base e:=B9 (λ_ _ e=>T.at e) T.bl rows [] (λ_ z=>nomatch z) (by kernel_rfl)
def JU:List fu:=[oh (Hd.inn 37 0) "House.__init__" (.mt wR),
 oh (Hd.inn 37 1) "House.book" (.rd wU),
 oh (Hd.inn 37 9) "House.amount_at" (.rd iK),
 oh (Hd.inn 37 8) "House.is_weighed" (.rd jy),
 oh (Hd.inn 37 10) "House.keep" (.mt tX),
 oh (Hd.inn 37 2) "House.weigh" (.mt Ba),
 oh (Hd.inn 37 3) "House.unweigh" (.mt rY),
 oh (Hd.inn 37 4) "House.give" (.mt Fb),
 oh (Hd.inn 37 5) "House.strike" (.mt va),
 oh (Hd.inn 37 6) "House.amend" (.mt Bc),
 oh (Hd.inn 37 7) "House.move" (.mt Fd),
 oh (Hd.top 53) "_law_call" (.fm wX),
 oh (Hd.top 54) "_law_told" (.fm wY)]
abbrev cla:Cla:=fu.go ⟨380,["world","kept"],[],[],[]⟩ 41 JU
def MX(T:Txt Pm mg):cV (Hd.K Pm) mg base cla:=uZ (PN:=["self.world","self.kept"]) (λ_ _ e=>T.at e) T.bl (JT T) (BD T) T.no JU _ _ (by decide) rfl (.mk0 ⟨by kernel_rfl,by kernel_rfl,by kernel_rfl,by kernel_rfl⟩ (by decide) (λx h=>(List.map_inj_left.mp (by kernel_rfl:(["world","kept"]:List Str).map (PySem.W.findIn (Hd.K Pm) (.ref 380))=(["world","kept"]:List Str).map λ_=>U J)) x h) (by decide)) (by kernel_rfl)
end
def all_mk{l:PySem.W.OpenLaw}{w:World}{h:Vj}(X:(Hd.K w.params).In h)(G:h.Ns mainGlobals mg)(U3:mg "law"=U (.ref fa)):
  ∃fd,(∀s v,BindsTo s fd ⟨[v],[]⟩ [("_law_script",v)])/\∀base,(Hd.K w.params).In base->base.Ns mainGlobals mg-> @nY ⟨l.prog,w⟩ (Hd.K w.params) mg base O 55 fa fd ["_law_script"] ve:=by
 have T:Txt w.params mg:=⟨h,X,G⟩
 have e:=U3.symm.trans (T.at (n:="law") (v:= .ref 516));cases e;obtain⟨oc,od,sl,yb,l1,c,k,S,B⟩:=F8 (by kernel_rfl:lk1 (Hd.K w.params) (nmS (Hd.top 58)) (Hd.top 58) (pJ (Hd.top 58)) 516=lk2 (Hd.K w.params) (nmS (Hd.top 58)) (Hd.top 58) 516);exact⟨_,λs v=> .of_eq (B [v] rfl),λbase _ _=>letI:Wd:=⟨l.prog,w⟩;Mg (bl:=bl) (PN:=["self.world","self.kept"]) (T:=tb) (t:=Pe) (c:=cla) (k:=54) (kk:=42) (st:=(Hd.top 58)) (b:=JM) (cn:="House") (x:="_law_script") (np' :=1) (spi:=qC) (sp:=ve) (by decide) (by decide) rfl (λ_ _ e=>T.at e) T.bl (JT T) (MX T) (BD T) T.no (by kernel_rfl) l1 c k S (by kernel_rfl) (by kernel_rfl)⟩
end Der
open PySem PySem.W PyProof.Rows
set_option maxRecDepth 100000 in
set_option maxHeartbeats 0 in
theorem PySem.Challenge.cw_dosehouse_k54_whole_every_stretch_is_kep_holds : PySem.Challenge.rw_dosehouse_k54_whole_every_stretch_is_kep.Holds := by
 refine holds_law Zz.b λRw=> ?_;refine holds_open (q:=Hd.view) (loose:=[]) (Xt:=Hd.xt) (XP:=XL Hd.view []) (Yf:=Hook.obs Hd.hook) (Ya:=Hook.val Hd.hook) (YP:=Hook.says Hd.hook) (N:=7814) Hd.left (Hook.of Hd.hook) (Hook.keeps Hd.hook) (λs e=>xl_of s (Bool.and_eq_true_iff.mp e).1) XL.keeps (by rfl) (by rfl) (by rfl) (λs e=>recFacts_of (Bool.and_eq_true_iff.mp e).2) (by rfl) Rw (by decide+kernel) ⟨rfl,rfl,rfl,rfl,rfl,by decide+kernel⟩ ?hw ?hc
 case hw=>w_witness2
 case hc=>exact NL.F6 (ni:=O) (l:=Zz.L) (n:=63) (k:=55) (K:=Hd.K) (sp:=Den.ve) (x:="_law_script") rfl (by decide) rfl ⟨rfl,by decide,by decide⟩ (λw h Y=>PySem.W.kIn_of Y) (λw mg fa h KX G yl=>Der.all_mk KX G yl) Maths.Gq
